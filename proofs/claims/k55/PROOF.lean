import PyProof.Rows.All
import Wide.All
import OpenK.AllK
import Wide.FinOn
import Lean
import PyProof.EqAt
import PyProof.EqKinds
import PyProof.TupleCall
import PyProof.NeKinds
import PyProof.EnumMake
import PyProof.Draws
import PyProof.ListNew
import PyProof.Rows.IntBool
import KE.LcSums
import PyProof.ListMulRoad
import PyProof.WalksT
import PyProof.ZipIter
import PyProof.Rows.ZipGen
import PyProof.SumWalk
import PyProof.Rows.CallKwBuiltin
import PyProof.AutoListH
import PyProof.WalkInts
import KE.KRevIter
import PyProof.ListStr
import PyProof.ListRange
import KE.KSortTup
import KE.KLam
import KE.KNestM
import KE.KFind
import KE.KTryDeep
import KE.KIsAll
import PyProof.ExcArgsOwn
import PyProof.Rows.SetFrom
import PyProof.StrWalks
import PyProof.CollectIter
import PyProof.FactsAll.set
import PyProof.StrCalls2
import PyProof.StrLawsIn
import PyProof.SliceStr2
import PyProof.StrOps2
import PyProof.StrBlockH
import PyProof.Rows.StrItems
import PyProof.Rows.StrSplitAre
import PyProof.StrLawsTight
import KE.KIntText
import KE.IntTextText
import PyProof.CompFree
import PyProof.Rows.StrSplitJoin
import PyProof.Rows.FStr
import PyProof.FactsAll.bool_1
import PyProof.ReprLen
import PyProof.FactsAll.NoneType_1
import PyProof.FitsInt
import PyProof.StrBlock
import PyProof.JoinWalk
import KE.KUnpack
import PyProof.Rows.StrFit
import PyProof.StrLawsFirst
import PyProof.Rows.StrLawsPart
import PyProof.FactsAll.str_6
import PyProof.FactsAll.str_8
import PyProof.Rows.StrCase
import PySem.Challenge.RW_pagewalks_k55_desk_answers
set_option maxHeartbeats 0
set_option Elab.async false
set_option bootstrap.genMatcherCode false
set_option genSizeOfSpec false
set_option genSizeOf false
set_option linter.all false
set_option maxRecDepth 100000
set_option hygiene false
local macro_rules|`(00)=>`(by lia)
local macro_rules|`(01)=>`(by decide)
local macro_rules|`(02)=>`(by rfl)
local macro_rules|`(03)=>`(by decide +kernel)
local macro_rules|`(04)=>`(envOfC qual scope s.heap.objs.size f cd)
local macro_rules|`(05)=>`(by simp)
local macro_rules|`(06)=>`(model X.prog X.w)
local macro_rules|`(07)=>`(λcdv A' outer s H vs Q E hr h=>?_)
local macro_rules|`(08)=>`(λz=>by cases z)
local macro_rules|`(09)=>`(model prog w)
local macro_rules|`(010)=>`(Zp X N' scope cl C s H fp)
local macro_rules|`(011)=>`(.ListComp elt [⟨tg,iter,ifs,0⟩] scope pos)
local macro_rules|`(012)=>`(upd (upd Gd st (.dK (ZS wa la ol))) LS (.lst (ys ++ [.ref st])))
local macro_rules|`(013)=>`(⟨Zl (Zv hr) (pv 0) zK (λ_ _=>rfl)⟩)
local macro_rules|`(014)=>`(Addr×Obj)
local macro_rules|`(015)=>`(q1 ⟨ZP XT 02 (@ze _ _ _ _ _ 02 zK zF) 02 02 01⟩)
local macro_rules|`(016)=>`(⟨rfl,rfl,.inl rfl⟩)
local macro_rules|`(017)=>`(λ_ z=>by cases z)
local macro_rules|`(018)=>`(Or.inl rfl)
local macro_rules|`(019)=>`((false,eval e X.env))
local macro_rules|`(020)=>`(λvs H Q E h=>?_)
local macro_rules|`(021)=>`(s.heap.objs.size+1)
local macro_rules|`(022)=>`(ZJ (CXA P w Cs) P w K mg base N qual scope f cd A outer s H E)
local macro_rules|`(023)=>`(.ref s.heap.objs.size)
local macro_rules|`(024)=>`(λ_ _=>rfl)
local macro_rules|`(025)=>`(Bs.getD t (0,1))
local macro_rules|`(026)=>`(qx zJ (qv 0) qi)
local macro_rules|`(027)=>`(.ref a)
local macro_rules|`(028)=>`(⟨_,rfl,rfl,_,rfl,?_⟩)
local macro_rules|`(029)=>`(hr.mono 01)
local macro_rules|`(030)=>`(Zp X N' scope cl s3.heap.objs.size s3 H3 fp)
local macro_rules|`(031)=>`(.dK (ZS wa la ol))
local macro_rules|`(032)=>`(ZJ (Yo P w C) P w K mg base N qual scope f cd A outer s H E)
local macro_rules|`(033)=>`(qa (qv 1) (qa (qv 2) qn))
local macro_rules|`(034)=>`(.ref f)
local macro_rules|`(035)=>`(by show 1<=10;decide)
abbrev SV:=PySem.Str->Option PySem.Value
abbrev LI:=List (Int×Int)
abbrev FR:=PySem.W.Frag
def ZB:=@List.length_map
def Z00:=@PySem.Heap.get?_push_of_some
def Z01:=@List.mem_singleton
def Z02:=@Nat.le_refl
def Z03:=@List.getElem?_eq_getElem
def Z04:=@List.size_toArray
def Z05:=@List.getD_eq_getElem?_getD
def Z06:=@List.mem_cons_of_mem
def Z07:=@List.length_cons
def Z08:=@List.mem_cons
def Z09:=@List.mem_cons_self
def Z0d:=@Bool.false_ne_true
def Z0k:=@PySem.Heap.lt_size
def Z0r:=@PySem.Heap.get?_push_size
def Z0X:=@Nat.lt_of_lt_of_le
def Z0Y:=@Nat.le_trans
def Z10:=@List.length_append
def Z11:=@Array.length_toList
def Z12:=@List.take_of_length_le
def Z13:=@List.map_append
def Z14:=@Nat.ne_of_lt
def Z15:=@Nat.zero_le
def Z16:=@List.getElem?_eq_some_iff
def Z17:=@List.getElem?_map
def Z18:=@List.mem_map
def Z19:=@Option.some.inj
def Z1d:=@List.map_cons
def Z1f:=@Rat.intCast_mul
def Z1q:=@List.mem_of_getElem?
def Z1r:=@List.length_take
def Z1v:=@PySem.F.plainAttrs_str
def Z1z:=@List.getElem_mem
def Z20:=@List.mem_append
def Z21:=@Array.toList_append
def Z22:=@PySem.W.mg_none_of
def Z23:=@Rat.intCast_le_intCast
def Z24:=@Nat.lt_of_le_of_lt
def Z25:=@List.mem_range
def Z26:=@PySem.Str.cps_append
def Z27:=@PyProof.Rows.callWith_type1
def Z28:=@List.take_add_one
def Z29:=@List.length_range
def Z2N:=@List.append_assoc
def Z2W:=@PySem.F.plainAttrs_list
def Z30:=@Array.toList_inj
def Z31:=@Int.toNat_natCast
def Z32:=@Ne.symm
def Z33:=@List.mem_append_right
def Z34:=@Nat.lt_irrefl
def Z35:=@List.length_eq_zero_iff
def Z36:=@Int.fdiv_eq_ediv_of_nonneg
def Z37:=@Nat.pow_le_pow_right
def Z38:=@PySem.boot_len
def Z39:=@List.getElem?_append_left
def Z3a:=@List.not_mem_nil
def Z3K:=@List.length_drop
def Z3L:=@PySem.mem_of_lookup
def Z3M:=@PySem.W.kia_one
def Z3N:=@List.map_nil
def Z3O:=@Bool.and_eq_true
def Z3P:=@PyProof.Rows.slot_tuple_getitem
def Z3Q:=@List.replicate_succ
def Z3R:=@PySem.F.slot_str_join
def Z40:=@Nat.ne_of_gt
def Z41:=@List.length_singleton
def Z42:=@Array.getElem?_toList
def Z43:=@PySem.F.type_list_append
def Z44:=@PySem.F.slot_list_append
def Z45:=@PySem.W.mg_of
def Z46:=@Int.eq_ofNat_of_zero_le
def Z47:=@PySem.F.slot_str_startswith
def Z48:=@PySem.F.excBase_ValueError
def Z49:=@PySem.F.type_str_join
def Z4f:=@List.pairwise_cons
def Z4j:=@Int.mul_nonneg
def Z4o:=@Rat.intCast_sub
def Z4q:=@Nat.not_lt_zero
def Z4K:=@List.length_nil
def Z4N:=@List.length_pos_iff
def Z4P:=@List.getElem_of_mem
def Z4S:=@Nat.log2_le_self
def Z50:=@PySem.F.slot_str_split
def Z51:=@Int.le_of_lt
def Z52:=@List.flatten_cons
def Z53:=@List.getElem?_append_right
def Z54:=@List.mem_append_left
def Z55:=@Array.getElem?_eq_getElem
def Z56:=@List.all_eq_true
def Z57:=@List.filterMap_cons
def Z58:=@List.append_nil
def Z59:=@List.map_map
def Z5a:=@List.length_replicate
def Z5h:=@PySem.Heap.size_push
def Z5t:=@Nat.mul_le_mul_right
def Z5u:=@List.cons.inj
def Z5v:=@PySem.F.type_str_startswith
def Z5w:=@List.range_succ
def Z5x:=@List.forIn_cons
def Z5y:=@List.find?_cons
def Z5z:=@Int.emod_nonneg
open PySem PySem.Spec PyProof PyProof.Rows PySem.W
variable{K:FR}{s:Shared}{n:Nat}
def zl0:0<=PySem.sizeLine:=01
def zl1:1<=PySem.sizeLine:=01
def zl2:2<=PySem.sizeLine:=01
namespace L2
noncomputable abbrev Key:=Sum Int Str
noncomputable def jf:Key->Value->Bool
 | .inl k,v=>Value.isInt k v
 | .inr x,v=>Value.isStrOf x v
noncomputable def Z6a(w:World):Key->Int
 | .inl k=>hashInt k
 | .inr x=>hashStr w x
def Zq:∀ {k:Key}{v:Value},jf k v=true->(∃ i t,k=Sum.inl i/\v=Value.int i t)\/(∃ x t,k=Sum.inr x/\v=Value.str x t)
 | .inl i,v,h=>by
   obtain⟨t,e⟩:=Value.isInt_shape (k:=i) (v:=v) h;exact .inl ⟨i,t,rfl,e⟩
 | .inr x,v,h=>by
   obtain⟨t,e⟩:=Value.isStrOf_shape (x:=x) (v:=v) h;exact .inr ⟨x,t,rfl,e⟩
def z5q(i:Int)(t:Tok):jf (.inl i) (.int i t)=true:=by simp[jf,Value.isInt]
def z4S(x:Str)(t:Tok):jf (.inr x) (.str x t)=true:=by simp[jf,Value.isStrOf]
def Z3b(a b:Int):decide ((Sum.inl a:Key)=Sum.inl b)=(a == b):=by
 by_cases e:a=b;subst e;simp;have h:¬ (Sum.inl a:Key)=Sum.inl b:=λq=>e (Sum.inl.inj q);rw[decide_eq_false h];exact (beq_eq_false_iff_ne.mpr e).symm
def Z1O(a b:Str):decide ((Sum.inr a:Key)=Sum.inr b)=decide (a=b):=by
 by_cases e:a=b;subst e;simp;have h:¬ (Sum.inr a:Key)=Sum.inr b:=λq=>e (Sum.inr.inj q);rw[decide_eq_false h,decide_eq_false e]
def Z3w(a:Int)(b:Str):decide ((Sum.inl a:Key)=Sum.inr b)=false:=decide_eq_false (λq=>nomatch q)
def Z1N(a:Str)(b:Int):decide ((Sum.inr a:Key)=Sum.inl b)=false:=decide_eq_false (λq=>nomatch q)
noncomputable def Zz(prog:Program)(w:World):PySem.KeyKind prog w Key where
 is:=jf
 hash:=Z6a w
 inj:=λv a b ha d=>by
  rcases Zq ha with⟨i,t,rfl,rfl⟩|⟨x,t,rfl,rfl⟩;rcases Zq d with⟨j,u,rfl,e⟩|⟨y,u,rfl,e⟩;injection e with e1 _;rw[e1];exact nomatch e;rcases Zq d with⟨j,u,rfl,e⟩|⟨y,u,rfl,e⟩;exact nomatch e;injection e with e1 _;rw[e1]
 byValue:=λk v h=>by
  rcases Zq h with⟨i,t,rfl,rfl⟩|⟨x,t,rfl,rfl⟩ <;> rfl
 pyHash:=λc h=>by
  rcases Zq c with⟨i,t,rfl,rfl⟩|⟨x,t,rfl,rfl⟩;exact wpAny_pyHash_int h;exact wpAny_pyHash_str h
 eqBool:=λf c h=>by
  rcases Zq f with⟨i,t,rfl,rfl⟩|⟨x,t,rfl,rfl⟩;rcases Zq c with⟨j,u,rfl,rfl⟩|⟨y,u,rfl,rfl⟩;rw[Z3b] at h;exact wpAny_eqBool_int h;rw[Z3w] at h;exact SeqAt.EqAt.int_str i t y u _ _ _ _ h;rcases Zq c with⟨j,u,rfl,rfl⟩|⟨y,u,rfl,rfl⟩;rw[Z1N] at h;exact SeqAt.EqAt.str_int x t j u _ _ _ _ h;rw[Z1O] at h;exact wpAny_eqBool_str h
 «strs»:=λk x t v h=>by
  rcases Zq h with⟨i,u,rfl,e⟩|⟨y,u,rfl,e⟩;exact nomatch e;injection e with e1 _;subst e1;cases v <;> rfl
def z0X(prog:Program)(w:World)(i:Int)(t:Tok):(Zz prog w).is (.inl i) (.int i t)=true:=z5q i t
def z0I(prog:Program)(w:World)(x:Str)(t:Tok):(Zz prog w).is (.inr x) (.str x t)=true:=z4S x t
inductive V where
 | Zn | bl (b:Bool) | int (i:Int) | str (x:Str) | byt (b:Array UInt8) | flt (b:UInt64) | ref (a:Addr) | ty (n:String)
 deriving DecidableEq
noncomputable def RelV:V->Value->Prop
 | .Zn,u=>u=Value.none
 | .bl b,u=>u=Value.bool b
 | .int i,u=>∃ t,u=Value.int i t
 | .str x,u=>∃ t,u=Value.str x t
 | .byt b,u=>∃ t,u=Value.bytes b t
 | .flt b,u=>∃ t,u=Value.float b t
 | .ref a,u=>u=Value.ref a
 | .ty n,u=>u=Value.type n
noncomputable abbrev Vals:List V->List Value->Prop:=Paired RelV
def Vals.length(r:Vals xs us):xs.length=us.length:=Paired.length r
theorem Vals.get:∀ {xs:List V}{us:List Value}{i:Nat}{x:V},Vals xs us->xs[i]?=some x->∃ u,us[i]?=some u/\RelV x u
 | _,_,_,_,.nil,e=>by simp at e
 | _,_,0,_,.cons r _,e=>by simp at e;subst e;exact⟨_,rfl,r⟩
 | _,_,i+1,x,.cons _ t,e=>by
   obtain⟨u,a,b⟩:=Vals.get (i:=i) (x:=x) t (by simpa using e);exact⟨u,by simpa using a,b⟩
theorem Vals.set{x:V}(r:RelV x u):∀ {xs:List V}{us:List Value}(i:Nat),Vals xs us->Vals (xs.set i x) (us.set i u)
 | _,_,_,.nil=>.nil
 | _,_,0,.cons _ t=>.cons r t
 | _,_,i+1,.cons q t=>.cons q (Vals.set r i t)
theorem Vals.append:∀ {xs a:List V}{us ws:List Value},Vals xs us->Vals a ws->Vals (xs ++ a) (us ++ ws)
 | _,_,_,_,.nil,s=>s
 | _,_,_,_,.cons r t,s=>.cons r (Vals.append t s)
theorem Vals.take:∀ {xs:List V}{us:List Value}(n:Nat),Vals xs us->Vals (xs.take n) (us.take n)
 | _,_,0,_=>.nil
 | _,_,_+1,.nil=>.nil
 | _,_,n+1,.cons r t=>.cons r (Vals.take n t)
def Vals.drop:∀ {xs:List V}{us:List Value}(n:Nat),Vals xs us->Vals (xs.drop n) (us.drop n)
 | _,_,0,r=>r
 | _,_,_+1,.nil=>.nil
 | _,_,n+1,.cons _ t=>Vals.drop n t
noncomputable def Xo:Option V->Option Value->Prop
 | some v,some u=>RelV v u
 | none,none=>True
 | _,_=>False
noncomputable def KV{κ:Type}:List (κ×V)->List (κ×Value)->Prop:=Paired λ(p:κ×V) (q:κ×Value)=>p.1=q.1/\RelV p.2 q.2
noncomputable def kV:Key->V
 | .inl i=>.int i
 | .inr x=>.str x
inductive HO where
 | lst (xs:List V)
 | tup (xs:List V)
 | dK (kvs:List (Key×V)) | dT (kvs:List (List Key×V))
 | set (S:Int->Bool) (n:Nat)
 | ins (C dx:Addr) (fs:List (Str×V))
 | own (x:Addr)
 | xd (fs:List (Str×V))
 | met (f x:Addr)
 | rng (lo hi:Int)
 | frz (o:Obj) (u:HO)
 | XH (ps:Array Value)
 | ext (φ:Heap->Prop)
noncomputable abbrev Hp:=Addr->Option HO
noncomputable def upd(H:Hp)(a:Addr)(o:HO):Hp:=λb=>if b=a then some o else H b
def zB:upd H a o a=some o:=by unfold upd;rw[if_pos rfl]
def zD(h:b≠a):upd H a o b=H b:=by unfold upd;rw[if_neg h]
def zX{H:Hp}{a b:Addr}{o u:HO}(h:H a=some o)(h':H b=some u)(d:o≠u):a≠b:=by
 intro e;subst e;rw[h] at h';exact d (Z19 h')
def zh{H:Hp}{a b:Addr}{o:HO}(h:H a=some o)(h':H b=none):a≠b:=by
 intro e;subst e;rw[h] at h';cases h'
noncomputable def yw(h:Heap)(a:Addr)(items:Array Value):Prop:=∃ o,h.get? a=some o/\(o.cls,o.dict)=(Value.type "tuple",(none:Option Addr))/\∃ n,o.data=.seq items n
def yw.tup{h:Heap}{a:Addr}{items:Array Value}(p:yw h a items):PyProof.Rows.IsTup h a items:=by
 obtain⟨o,e,c,n,d⟩:=p;exact⟨o,e,congrArg Prod.fst c,n,d⟩
def yw.new(h:Heap)(items:Array Value):yw (h.push { cls:=.type "tuple",data:=.seq items }) h.objs.size items:=⟨_,Z0r _ rfl,rfl,_,rfl⟩
section
variable(P:Program)(w:World)
noncomputable def Zg(H:Hp)(h:Heap)(a:Addr):HO->Prop
 | .lst xs=>xs.length<=sizeLine/\∃ (its:List Value) (n:Nat),Vals xs its/\h.get? a=some { cls:=.type "list",data:=.seq its.toArray n }
 | .tup xs=>xs.length<=sizeLine/\∃ its:List Value,Vals xs its/\yw h a its.toArray
 | .dK kvs=>kvs.length<=sizeLine/\(a == sysModules)=false/\∃ vs,KV kvs vs/\h.DictOf (Zz P w) a vs
 | .dT kvs=>kvs.length<=sizeLine/\(a == sysModules)=false/\∃ xs:List (List Key×Addr×Value),
  Paired (λ(p:List Key×V) (q:List Key×Addr×Value)=>p.1=q.1/\H q.2.1=some (.tup (p.1.map kV))/\RelV p.2 q.2.2) kvs xs/\
  ∃ o b i,h.get? a=some o/\o.ExactDict/\o.data=.dict b i/\b.toList=xs.map (entryOfKey (tupleKind (Zz P w)))/\(xs.map (·.1)).Nodup
 | .set S n=>h.SetOf (intKind P w) a S n
 | .ins C dx fs=>H dx=some (.own a)/\fs.length<=1000/\dx≠a/\h.get? a=some (PySem.W.instObj C dx)/\
  ∃ mA,h.Ns1 dx mA/\(∀ f,Xo (fs.lookup f) (mA f))/\PySem.Within mA (fs.map (·.1))
 | .own _=>∃ o,h.get? a=some o
 | .xd fs=>∃ mA,h.Ns1 a mA/\∀ f,Xo (fs.lookup f) (mA f)
 | .rng lo hi=>∃ t u v,h.get? a=some { cls:=.type "range",data:=.fields #[.int lo t,.int hi u,.int 1 v] }
 | .frz o u=>h.get? a=some o/\Zg H h a u
 | .XH ps=>h.get? a=some { cls:=.none,data:=.fields ps }
 | .met f x=>h.get? a=some (PySem.W.methodObj 034 (.ref x))
 | .ext φ=>φ h/\(∃ o,h.get? a=some o)/\∀ d c:Heap,φ d->(∀ o,d.get? a=some o->c.get? a=some o)->φ c
noncomputable def xZ(H:Hp)(h:Heap):Prop:=∀ a o,H a=some o->Zg P w H h a o
end
def Zg.lt(x:Zg P w H h a o):a<h.objs.size:=by
 cases o with
 | lst xs=>obtain⟨_,_,_,_,e⟩:=x;exact Z0k e
 | tup xs=>obtain⟨_,_,_,p⟩:=x;exact p.tup.lt
 | dK kvs=>obtain⟨_,_,_,_,o,_,_,e,_⟩:=x;exact Z0k e
 | dT kvs=>obtain⟨_,_,_,_,o,_,_,e,_⟩:=x;exact Z0k e
 | set S n=>obtain⟨o,_,_,_,e,_⟩:=x;exact Z0k e
 | ins C dx fs=>obtain⟨_,_,_,e,_⟩:=x;exact Z0k e
 | own y=>obtain⟨_,e⟩:=x;exact Z0k e
 | xd fs=>obtain⟨_,⟨_,_,_,e,_⟩,_⟩:=x;exact Z0k e
 | rng lo hi=>obtain⟨_,_,_,e⟩:=x;exact Z0k e
 | frz ob u=>obtain⟨e,_⟩:=x;exact Z0k e
 | XH ps=>exact Z0k (show h.get? a=some _ from x)
 | met f y=>exact Z0k (show h.get? a=some _ from x)
 | ext φ=>obtain⟨_,⟨_,e⟩,_⟩:=x;exact Z0k e
theorem Paired.z9D{α β:Type}{F G:α->β->Prop}:∀ {c:List α}{d:List β},Paired F c d->(∀ a b,F a b->G a b)->Paired G c d
 | _,_,.nil,_=>.nil
 | _,_,.cons r t,f=>.cons (f _ _ r) (Paired.z9D t f)
def Zg.stay(x:Zg P w H h a o)(k:∀ b u,(b=a\/H b=some (.own a))->h.get? b=some u->h'.get? b=some u)(s:∀ b,H b=some (.own a)->H' b=some (.own a))(m:∀ b xs,H b=some (.tup xs)->H' b=some (.tup xs)):Zg P w H' h' a o:=by
 induction o with
 | lst xs=>obtain⟨z,its,n,r,e⟩:=x;exact⟨z,its,n,r,k _ _ (.inl rfl) e⟩
 | tup xs=>obtain⟨z,its,r,ob,e,c⟩:=x;exact⟨z,its,r,ob,k _ _ (.inl rfl) e,c⟩
 | dK kvs=>obtain⟨z,y,vs,r,ob,i,j,e,c⟩:=x;exact⟨z,y,vs,r,ob,i,j,k _ _ (.inl rfl) e,c⟩
 | dT kvs =>
   obtain⟨z,y,xs,r,ob,i,j,e,c⟩:=x;exact⟨z,y,xs,Paired.z9D r λp q z=>⟨z.1,m _ _ z.2.1,z.2.2⟩,ob,i,j,k _ _ (.inl rfl) e,c⟩
 | set S n=>obtain⟨ob,i,j,t,e,c⟩:=x;exact⟨ob,i,j,t,k _ _ (.inl rfl) e,c⟩
 | ins C dx fs =>
   obtain⟨d,z,ne,e,mA,⟨od,i,j,l,c⟩,r⟩:=x;exact⟨s _ d,z,ne,k _ _ (.inl rfl) e,mA,⟨od,i,j,k _ _ (.inr d) l,c⟩,r⟩
 | own y=>obtain⟨ob,e⟩:=x;exact⟨ob,k _ _ (.inl rfl) e⟩
 | xd fs=>obtain⟨mA,⟨od,i,j,e,c⟩,r⟩:=x;exact⟨mA,⟨od,i,j,k _ _ (.inl rfl) e,c⟩,r⟩
 | rng lo hi=>obtain⟨t,u,v,e⟩:=x;exact⟨t,u,v,k _ _ (.inl rfl) e⟩
 | frz ob u ih=>obtain⟨e,q⟩:=x;exact⟨k _ _ (.inl rfl) e,ih q⟩
 | XH ps =>
   have e:h.get? a=some { cls:=.none,data:=.fields ps }:=x;show h'.get? a=some { cls:=.none,data:=.fields ps };exact k a _ (.inl rfl) e
 | met f y =>
   have e:h.get? a=some (PySem.W.methodObj 034 (.ref y)):=x;show h'.get? a=some (PySem.W.methodObj 034 (.ref y));exact k a _ (.inl rfl) e
 | ext φ=>obtain⟨p,⟨o,e⟩,st⟩:=x;exact⟨st _ _ p λo q=>k _ _ (.inl rfl) q,⟨o,k _ _ (.inl rfl) e⟩,st⟩
def xZ.lt(x:xZ P w H h)(e:H a=some o):a<h.objs.size:=(x a o e).lt
def xZ.fresh{h:Heap}{a:Addr}(x:xZ P w H h)(e:h.objs.size<=a):H a=none:=by
 cases q:H a with
 | none=>rfl
 | some u=>exact absurd (Z0X (x.lt q) e) (Z34 _)
def xZ.kept(x:xZ P w H h)(k:∀ b u,h.get? b=some u->h'.get? b=some u):xZ P w H h':=λa o e =>
 (x a o e).stay (λb u _ q=>k b u q) (λ_ q=>q) λ_ _ q=>q
def xZ.laid{h h':Heap}{a:Addr}(x:xZ P w H h)(k:∀ b u,h.get? b=some u->h'.get? b=some u)(d:h.objs.size<=a)(new:Zg P w (upd H a o) h' a o):xZ P w (upd H a o) h':=λb u e=>by
 have hn:=x.fresh d;by_cases hb:b=a;subst hb;rw[zB] at e;cases e;exact new;rw[zD hb] at e;exact (x b u e).stay (λc v _ q=>k c v q) (λc q=>by rw[zD (zh q hn)];exact q) λc xs q=>by rw[zD (zh q hn)];exact q
noncomputable def Rd(H:Hp)(a:Addr)(u:HO):Prop:=H a=some u\/∃ o,H a=some (.frz o u)
def Rd.ok(r:Rd H a u)(x:xZ P w H h):Zg P w H h a u:=by
 rcases r with r |⟨o,r⟩;exact x a u r;obtain⟨_,q⟩:=x a _ r;exact q
noncomputable def Mut:Option HO->Prop
 | some (.lst _)=>True
 | some (.dK _)=>True
 | some (.dT _)=>True
 | some (.set _ _)=>True
 | some (.ins _ _ _)=>True
 | some (.ext _)=>True
 | _=>False
def xZ.write{x e:Addr}(ok:xZ P w H h)(f:Mut (H x))(he:e=x\/H e=some (.own x))(k:∀ b u,b≠e->h.get? b=some u->h'.get? b=some u)(j:∃ u,h'.get? e=some u)(new:Zg P w (upd H x o') h' x o'):xZ P w (upd H x o') h':=λb u q=>by
 have a:∀ c y,H c=some (.own y)->c≠x:=λc y r z=>by subst z;rw[r] at f;exact f
 have d:∀ c xs,H c=some (.tup xs)->c≠x:=λc xs r z=>by subst z;rw[r] at f;exact f
 by_cases hb:b=x;subst hb;rw[zB] at q;cases q;exact new;rw[zD hb] at q;by_cases hbe:b=e;have l:H b=some (.own x):=by
  rcases he with z | z;exact absurd (hbe.trans z) hb;rw[hbe];exact z
 rw[q] at l;cases l;obtain⟨v,m⟩:=j;exact⟨v,by rw[hbe];exact m⟩;refine (ok b u q).stay (λc v i r=>k c v ?_ r) (λc r=>by rw[zD (a c b r)];exact r) λc xs r=>by rw[zD (d c xs r)];exact r
 rcases i with rfl | i;exact hbe;rintro rfl;rcases he with z | z;exact a c b i z;rw[i] at z;cases z;exact hb rfl
structure Un(fs ex:List Addr)(H H':Hp)(h h':Heap):Prop where
 keep:∀ b o,h.get? b=some o->H b=none->b∉fs->b∉ex->h'.get? b=some o
 slot:∀ b o,h.get? b=some o->H b=none->b∈fs->b∉ex->∃ sl,h'.get? b=some { o with slots:=sl }
 free:∀ b o,h.get? b=some o->H b=none->b∉ex->H' b=none
 there:∀ b o,h.get? b=some o->b∉ex->∃ o',h'.get? b=some o'
 tups:∀ b xs,H b=some (.tup xs)->H' b=some (.tup xs)
 frzs:∀ b o u,H b=some (.frz o u)->H' b=some (.frz o u)
 tbls:∀ b ps,H b=some (.XH ps)->∃ more,H' b=some (.XH (ps ++ more))
def Un.any{fs:List Addr}(u:Un fs ex H H1 h h1)(q:h.get? b=some ob)(n:H b=none)(a:b∉ex):∃ sl,h1.get? b=some { ob with slots:=sl }:=by
 by_cases hb:b∈fs;exact u.slot b ob q n hb a;exact⟨ob.slots,u.keep b ob q n hb a⟩
def Un.kept{fs:List Addr}(k:∀ b u,h.get? b=some u->h'.get? b=some u):Un fs ex H H h h' :=
 ⟨λb ob q _ _ _=>k b ob q,λb ob q _ _ _=>⟨ob.slots,k b ob q⟩,λ_ _ _ n _=>n,λb ob q _=>⟨ob,k b ob q⟩,λ_ _ q=>q,λ_ _ _ q=>q,λ_ ps q=>⟨#[],by rw[q];simp⟩⟩
def Un.refl{fs:List Addr}:Un fs ex H H h h:=Un.kept λ_ _ q=>q
def Un.laid{fs:List Addr}(k:∀ b u,h.get? b=some u->h'.get? b=some u)(c:h.objs.size<=a)(hn:H a=none):Un fs ex H (upd H a o) h h' where
 keep:=λb u q _ _ _=>k b u q
 slot:=λb u q _ _ _=>⟨u.slots,k b u q⟩
 free:=λb u q n _=>by rw[zD (Z14 (Z0X (Z0k q) c))];exact n
 there:=λb u q _=>⟨u,k b u q⟩
 tups:=λb xs q=>by rw[zD (zh q hn)];exact q
 frzs:=λb u xs q=>by rw[zD (zh q hn)];exact q
 tbls:=λb ps q=>⟨#[],by rw[zD (zh q hn),q];simp⟩
def Un.write{fs:List Addr}{x e:Addr}(a:Mut (H x))(he:e=x\/H e=some (.own x))(k:∀ b u,b≠e->h.get? b=some u->h'.get? b=some u)(c:∃ u,h'.get? e=some u):Un fs ex H (upd H x o) h h':=by
 have d:∀ b,H b=none->b≠x:=λb n z=>by subst z;rw[n] at a;exact a
 have f:∀ b,H b=none->b≠e:=λb n z=>by
  subst z;rcases he with r | r;exact d b n r;rw[n] at r;cases r
 have hm:∀ b u,H b=some u->¬ Mut (some u)->b≠x:=λb u q nm z=>by subst z;rw[q] at a;exact nm a
 refine⟨λb u q n _ _=>k b u (f b n) q,λb u q n _ _=>⟨u.slots,k b u (f b n) q⟩,λb u q n _=>by rw[zD (d b n)];exact n,λb u q _=>?_,
  λb xs q=>by rw[zD (hm b _ q λz=>z)];exact q,λb u xs q=>by rw[zD (hm b _ q λz=>z)];exact q,λb ps q=>⟨#[],by rw[zD (hm b _ q λz=>z),q];simp⟩⟩
 by_cases hbe:b=e;subst hbe;exact c;exact⟨u,k b u hbe q⟩
noncomputable def trk(h:Heap)(H:Hp):List Addr:=(List.range h.objs.size).filter λa=>(H a).isSome
noncomputable def UW(h:Heap)(H:Hp):Heap:=PySem.W.hideAll h (trk h H)
def z5R(h:Heap)(H:Hp):(UW h H).objs.size=h.objs.size:=PySem.W.hideAll_size _ _
def z6O(e:h.get? b=some o)(n:H b=none):(UW h H).get? b=some o :=
 PySem.W.hideAll_get _ e λhm=>by
  have q:(H b).isSome=true:=(List.mem_filter.mp hm).2;rw[n] at q;simp at q
def JU(e:(UW h H).get? b=some o):h.get? b=some o/\H b=none:=by
 have a:h.get? b=some o:=PySem.W.of_hideAll (trk h H) e;refine⟨a,?_⟩;cases q:H b with
 | none=>rfl
 | some x =>
   have hm:b∈trk h H:=List.mem_filter.mpr ⟨Z25.mpr (Z0k a),by simp[q]⟩;have z:(UW h H).get? b=none:=PySem.W.hideAll_none (trk h H) hm;rw[z] at e;cases e
noncomputable def yE(g h:Heap)(L:Addr):List 014:=(List.range h.objs.size).filterMap λa=>if a=L\/(g.get? a).isSome=true then none else (h.get? a).map λo=>(a,o)
def Vn{g:Heap}(d:a≠L)(c:g.get? a=none)(b:h.get? a=some o):(a,o)∈yE g h L :=
 List.mem_filterMap.mpr ⟨a,Z25.mpr (Z0k b),by simp[d,c,b]⟩
def xH{g:Heap}(a:p∈yE g h L):p.1≠L/\g.get? p.1=none/\h.get? p.1=some p.2:=by
 obtain⟨b,_,e⟩:=List.mem_filterMap.mp a;split at e;cases e;rename_i hn;cases q:h.get? b with
 | none=>rw[q] at e;simp at e
 | some u =>
   rw[q] at e;simp only[Option.map_some,Option.some.injEq] at e;subst e;refine⟨λz=>hn (.inl z),?_,q⟩;show g.get? b=none;cases r:g.get? b with
   | none=>rfl
   | some v=>exact (hn (.inr (by simp[r]))).elim
def z0f{g:Heap}:News g L h (yE g h L):=λp d=>let ⟨a,b,c⟩:=xH d;⟨c,a,b⟩
structure Mod(K:FR)(mg:SV)(base:Heap):Prop where
 kin:K.In base
 glob:base.Ns mainGlobals mg
 blt:∃ mb,base.Ns builtinsNs mb/\∀ x:Str,x≠"__name__"->mb x=bootBuiltins x
 nolimit:base.NoLimit
set_option genInjectivity false in
set_option genInjectivity false in
structure Cx where
 prog:Program
 w:World
 K:FR
 mg:SV
 base:Heap
 A:Around
 N:List Str
 s₀:Shared
 H₀:Hp
 env:Env
 outer:List Env
 stack:List Env
 ex:List Addr
 fn:Str->Bool
 calm:Bool
 pn:List 014
 xe:Value->Shared->Prop
noncomputable def frs(l:List Env):List Addr:=l.filterMap (·.frame)
noncomputable abbrev Cx.fs(X:Cx):List Addr:=frs X.outer
noncomputable def Vis(sc:Scope)(x:Str):Prop:=sc.names.lookup x=some .local\/sc.names.lookup x=some .cell\/sc.names.lookup x=some .free
noncomputable def Loc(sc:Scope)(x:Str):Prop:=sc.names.lookup x=some .local\/sc.names.lookup x=some .cell
noncomputable def Look(env:Env)(h:Heap)(m:SV)(x:Str)(u:Value):Prop :=
 (env.kindOf x=some .local/\m x=some u)\/((env.kindOf x=some .cell\/env.kindOf x=some .free)/\∃ c,env.cells.lookup x=some c/\h.IsCell c (some u))
set_option genInjectivity false in
structure Cx.Ok(X:Cx):Prop where
 mod:Mod X.K X.mg X.base
 kind:X.env.scope.kind=.function
 glob:X.env.globals=mainGlobals
 blt:X.env.builtins=builtinsNs
 above:X.s₀.heap.objs.size<=X.env.locals
 inj:∀ x y c,X.env.cells.lookup x=some c->X.env.cells.lookup y=some c->x=y
 has:∀ x,(X.env.kindOf x=some .cell\/X.env.kindOf x=some .free)->∃ c,X.env.cells.lookup x=some c
 cab:∀ x c,X.fn x=true->X.env.cells.lookup x=some c->X.s₀.heap.objs.size<=c
 hd:X.calm=true->X.A.handled=none
 frames:X.A.frames=some X.stack
 stk:X.stack=X.outer\/(X.stack=X.env :: X.outer/\X.env.frame=some X.env.locals)
 exf:∀ b∈X.ex,b≠X.env.locals/\∀ x c,X.env.cells.lookup x=some c->c≠b
 bs:∀ b o,X.base.get? b=some o->X.s₀.heap.get? b=some o/\X.H₀ b=none
 bsz:X.base.objs.size<=X.s₀.heap.objs.size
 noex:∀ b o,X.base.get? b=some o->b∉X.ex
 exfs:∀ b∈X.ex,b∉X.fs
 XN:X.s₀.heap.FunFrames X.base X.outer
 frf:∀ b∈X.fs,X.H₀ b=none
set_option genInjectivity false in
structure Inv(X:Cx)(pins:List 014)(σ:List (Option V))(H:Hp)(s:Shared):Prop where
 ok:X.Ok
 os:s.os=X.s₀.os
 bare:AllBare s.gens
 base:Un X.fs X.ex X.H₀ H X.s₀.heap s.heap
 loc:∃ m,s.heap.Ns X.env.locals m/\∀ (i:Nat) (x:Str) (v:V),X.N[i]?=some x->σ[i]?=some (some v)->Vis X.env.scope x->∃ u,RelV v u/\Look X.env s.heap m x u
 cell:∀ x c,X.env.cells.lookup x=some c->∃ v,s.heap.IsCell c v
 free:H X.env.locals=none
 freeC:∀ x c,X.env.cells.lookup x=some c->H c=none
 pin:∀ p∈X.pn ++ pins,s.heap.get? p.1=some p.2/\H p.1=none/\p.1≠X.env.locals/\p.1∉X.fs/\∀ v,p.2.data≠.cell v
 hok:xZ X.prog X.w H s.heap
 len:σ.length=X.N.length
def Cx.Ok.Z6y{X:Cx}(ok:X.Ok)(e:X.base.get? b=some o):b∉X.fs:=λa=>by
 have:=(ok.XN.mem a).1;rw[e] at this;cases this
def Inv.bs(I:Inv X pins σ H s):∀ b o,X.base.get? b=some o->s.heap.get? b=some o/\H b=none:=λb o e =>
 ⟨I.base.keep b o (I.ok.bs b o e).1 (I.ok.bs b o e).2 (I.ok.Z6y e) (I.ok.noex b o e),I.base.free b o (I.ok.bs b o e).1 (I.ok.bs b o e).2 (I.ok.noex b o e)⟩
def Inv.bk(I:Inv X pins σ H s):∀ b o,X.base.get? b=some o->s.heap.get? b=some o:=λb o e=>(I.bs b o e).1
def Inv.mod(I:Inv X pins σ H s):Mod X.K X.mg X.base:=I.ok.mod
def Inv.XG(I:Inv X pins σ H s):X.K.In s.heap:=I.ok.mod.kin.keeps I.bk
def Inv.lt(I:Inv X pins σ H s):X.env.locals<s.heap.objs.size:=let ⟨_,hn,_⟩:=I.loc;hn.lt
def Inv.sz(I:Inv X pins σ H s):X.s₀.heap.objs.size<=s.heap.objs.size:=Z0Y I.ok.above (Nat.le_of_lt I.lt)
def Inv.Z5G{X:Cx}{a:Addr}(I:Inv X pins σ H s)(h:s.heap.objs.size<=a):a∉X.fs:=λc=>by
 obtain⟨_,o,b,_⟩:=I.ok.XN.mem c;exact absurd (Z0X (Z0k b) (Z0Y I.sz h)) (Z34 _)
def Inv.cne(I:Inv X pins σ H s):∀ x c,X.env.cells.lookup x=some c->c≠X.env.locals:=λx c e z=>by
 obtain⟨v,o,d,hd⟩:=I.cell x c e;obtain⟨m,⟨o',f,h,b,a,_⟩,_⟩:=I.loc;rw[z,b] at d;cases d;rw[a] at hd;cases hd
def Inv.XN(I:Inv X pins σ H s):s.heap.FunFrames X.base X.outer:=by
 have all:∀ (l:List Env),(∀ b∈frs l,b∈X.fs)->X.s₀.heap.FunFrames X.base l->s.heap.FunFrames X.base l:=by
  intro l
  induction l with
  | nil=>intro _ _;trivial
  | cons env r ih =>
    intro d f;obtain⟨i,⟨L,o,hf,hn,h,hd⟩,hr⟩:=f;have a:L∈X.fs:=d L (by unfold frs;rw[Z57,hf];exact Z09);obtain⟨sl,e⟩:=I.base.slot L o h (I.ok.frf L a) a λz=>I.ok.exfs L z a;exact⟨i,⟨L,_,hf,hn,e,hd⟩,ih (λb c=>d b (by unfold frs;rw[Z57,hf];exact Z06 _ c)) hr⟩
 exact all X.outer (λ_ c=>c) I.ok.XN
def Inv.stack(I:Inv X pins σ H s):s.heap.FunFrames X.base X.stack:=by
 rcases I.ok.stk with e |⟨e,hf⟩;rw[e];exact I.XN;rw[e];obtain⟨m,hn,_⟩:=I.loc;refine .cons (by rw[I.ok.kind];decide) hf hn ?_ I.XN;exact Heap.get?_none_of_le (Z0Y I.ok.bsz I.ok.above)
def Inv.z3m(I:Inv X pins σ H s):∀ b∈frs X.stack,b∈X.env.locals :: X.fs:=λb a=>by
 rcases I.ok.stk with e |⟨e,hf⟩;rw[e] at a;exact Z06 _ a;rw[e] at a;unfold frs at a;rw[Z57,hf] at a;exact a
def Inv.VR(I:Inv X pins σ H s):∀ b∈frs X.stack,H b=none:=λb a=>by
 rcases Z08.mp (I.z3m b a) with e | a;rw[e];exact I.free;obtain⟨_,o,c,_⟩:=I.ok.XN.mem a;exact I.base.free b o c (I.ok.frf b a) λz=>I.ok.exfs b z a
def Inv.step{X:Cx}{pins:List 014}{σ:List (Option V)}{H H':Hp}{s:Shared}{h':Heap}{g':Array GenState}{t':Nat}{d':Drawn}{ch:List Addr}(I:Inv X pins σ H s)
 (f:∀ b∈ch,(b∈X.ex\/X.s₀.heap.objs.size<=b)/\b≠X.env.locals/\(∀ x c,X.env.cells.lookup x=some c->c≠b)/\∀ p∈X.pn ++ pins,p.1≠b)
 (keep:∀ b o,b≠X.env.locals->b∉X.fs->b∉ch->s.heap.get? b=some o->H b=none->h'.get? b=some o)
 (slot:∀ b o,b≠X.env.locals->b∈X.fs->b∉ch->s.heap.get? b=some o->H b=none->∃ sl,h'.get? b=some { o with slots:=sl }) (free:∀ b o,b∉ch->s.heap.get? b=some o->H b=none->H' b=none)
 (there:∀ b o,b∉ch->s.heap.get? b=some o->∃ o',h'.get? b=some o')
 (tups:∀ b xs,H b=some (.tup xs)->H' b=some (.tup xs)) (frzs:∀ b o u,H b=some (.frz o u)->H' b=some (.frz o u)) (tbls:∀ b ps,H b=some (.XH ps)->∃ more,H' b=some (.XH (ps ++ more)))
 (ns:∀ m,s.heap.Ns X.env.locals m->h'.Ns X.env.locals m) (hok:xZ X.prog X.w H' h') (K:AllBare g') :
 Inv X pins σ H' { s with heap:=h',gens:=g',drawn:=d',toks:=t' }:=by
 have B:∀ b o,X.s₀.heap.get? b=some o->b≠X.env.locals:=λb o e=>Z14 (Z0X (Z0k e) I.ok.above);have j:∀ b o,X.s₀.heap.get? b=some o->b∉X.ex->b∉ch:=λb o e a y=>by
  rcases (f b y).1 with z | z;exact a z;exact absurd (Z0X (Z0k e) z) (Z34 _)
 have cellK:∀ x c,X.env.cells.lookup x=some c->∀ v,s.heap.IsCell c v->h'.IsCell c v:=λx c e v ⟨o,A,hd⟩=>by
  have h:c∉ch:=λz=>(f c z).2.2.1 x c e rfl;by_cases hc:c∈X.fs;obtain⟨sl,q⟩:=slot c o (I.cne x c e) hc h A (I.freeC x c e);exact⟨_,q,hd⟩;exact⟨o,keep c o (I.cne x c e) hc h A (I.freeC x c e),hd⟩
 refine⟨I.ok,I.os,K,⟨λb o e n y a=>?_,λb o e n y a=>?_,λb o e n a=>?_,λb o e a=>?_,λb xs e=>tups b xs (I.base.tups b xs e),λb o xs e=>frzs b o xs (I.base.frzs b o xs e),λb ps e=>?_⟩,?_,λx c e=>?_,?_,λx c e=>?_,λp E=>?_,hok,I.len⟩;exact keep b o (B b o e) y (j b o e a) (I.base.keep b o e n y a) (I.base.free b o e n a);obtain⟨sl,t⟩:=I.base.slot b o e n y a;obtain⟨D,C⟩:=slot b _ (B b o e) y (j b o e a) t (I.base.free b o e n a);exact⟨D,C⟩;obtain⟨o',t⟩:=I.base.there b o e a;exact free b o' (j b o e a) t (I.base.free b o e n a);obtain⟨o',t⟩:=I.base.there b o e a;exact there b o' (j b o e a) t;obtain⟨G,t⟩:=I.base.tbls b ps e;obtain⟨M,C⟩:=tbls b _ t;exact⟨G ++ M,by rw[C,Array.append_assoc]⟩;obtain⟨m,hn,L⟩:=I.loc;refine⟨m,ns m hn,λi x v t C J=>?_⟩;obtain⟨u,r,l⟩:=L i x v t C J;refine⟨u,r,?_⟩;rcases l with l |⟨k,c,e,z⟩;exact .inl l;exact .inr ⟨k,c,e,cellK x c e _ z⟩;obtain⟨v,z⟩:=I.cell x c e;exact⟨v,cellK x c e v z⟩;obtain⟨m,⟨o,_,_,A,_⟩,_⟩:=I.loc;exact free _ o (λz=>(f _ z).2.1 rfl) A I.free
 obtain⟨v,o,A,hd⟩:=I.cell x c e;exact free c o (λz=>(f c z).2.2.1 x c e rfl) A (I.freeC x c e);obtain⟨e,n,ne,F,d⟩:=I.pin p E;have h:p.1∉ch:=λz=>(f p.1 z).2.2.2 p E rfl;exact⟨keep p.1 p.2 ne F h e n,free p.1 p.2 h e n,ne,F,d⟩
def Inv.un(I:Inv X pins σ H s)(u:Un X.fs [] H H' s.heap h')(hok:xZ X.prog X.w H' h'):Inv X pins σ H' { s with heap:=h',toks:=t' }:=by
 obtain⟨m,⟨o,l,q,h,r⟩,_⟩:=id I.loc;obtain⟨sl,j⟩:=u.any h I.free 05;exact I.step (g':=s.gens) (d':=s.drawn) (ch:=[]) (λ_ z=>nomatch z) (λb o _ f _ e n=>u.keep b o e n f 05) (λb o _ f _ e n=>u.slot b o e n f 05) (λb o _ e n=>u.free b o e n 05) (λb o _ e=>u.there b o e 05) u.tups u.frzs u.tbls (λp hm=>by
  obtain⟨o',d,c,a,i⟩:=hm;rw[h] at a;cases a;exact⟨_,d,c,j,i⟩) hok I.bare
def Inv.call(I:Inv X pins σ H s)(u:Un (frs X.stack) ch H H' s.heap h')(hok:xZ X.prog X.w H' h')(t:AllBare g')(d:∀ b∈ch,(b∈X.ex\/X.s₀.heap.objs.size<=b)/\b≠X.env.locals/\(∀ x c,X.env.cells.lookup x=some c->c≠b)/\∀ p∈X.pn ++ pins,p.1≠b) :
 Inv X pins σ H' { s with heap:=h',gens:=g',drawn:=d',toks:=t' }:=by
 obtain⟨m,⟨o,y,B,l,r⟩,_⟩:=id I.loc;obtain⟨sl,i⟩:=u.any l I.free λz=>(d _ z).2.1 rfl;exact I.step (ch:=ch) d (λb o i v a e n=>u.keep b o e n (λz=>(Z08.mp (I.z3m b z)).elim i v) a) (λb o _ _ a e n=>u.any e n a) (λb o a e n=>u.free b o e n a) (λb o a e=>u.there b o e a) u.tups u.frzs u.tbls (λA hm=>by
  obtain⟨o',j,h,f,q⟩:=hm;rw[l] at f;cases f;exact⟨_,j,h,i,q⟩) hok t
def Inv.turned(I:Inv X pins σ H s)(k:∀ b o,b≠it->s.heap.get? b=some o->h'.get? b=some o)(hn:H it=none)(f:it≠X.env.locals)(l:it∈X.ex\/X.s₀.heap.objs.size<=it)(j:∀ x c,X.env.cells.lookup x=some c->c≠it)(y:∀ p∈X.pn ++ pins,p.1≠it):Inv X pins σ H { s with heap:=h',toks:=t' }:=by
 have d:∀ b u,H b=some u->b≠it:=λb u e z=>by rw[z,hn] at e;cases e
 refine I.step (g':=s.gens) (d':=s.drawn) (ch:=[it]) (λb w=>?_) (λb o _ _ a e _=>k b o (λz=>a (by simp[z])) e) (λb o _ _ a e _=>⟨o.slots,k b o (λz=>a (by simp[z])) e⟩) (λ_ _ _ _ n=>n)
  (λb o a e=>⟨o,k b o (λz=>a (by simp[z])) e⟩) (λ_ _ e=>e) (λ_ _ _ e=>e) (λb ps e=>⟨#[],by rw[e];simp⟩) (λm hm=>?_) (λb u e=>?_) I.bare
 have e:b=it:=by simpa using w
 subst e;exact⟨l,f,j,y⟩;obtain⟨o,h,i,t,r⟩:=hm;exact⟨o,h,i,k _ o (Z32 f) t,r⟩;refine (I.hok b u e).stay (λc v a q=>k c v ?_ q) (λ_ q=>q) λ_ _ q=>q;rcases a with z | z;rw[z];exact d b u e;exact d c _ z
def Inv.tok(I:Inv X pins σ H s)(t:Nat):Inv X pins σ H { s with toks:=t }:=I.un (h':=s.heap) (t':=t) Un.refl I.hok
def Inv.kept(I:Inv X pins σ H s)(k:∀ b u,s.heap.get? b=some u->h'.get? b=some u):Inv X pins σ H { s with heap:=h',toks:=t' }:=I.un (Un.kept k) (I.hok.kept k)
def Inv.laid{X:Cx}{h':Heap}{a:Addr}(I:Inv X pins σ H s)(k:∀ b u,s.heap.get? b=some u->h'.get? b=some u)(c:s.heap.objs.size<=a)(new:Zg X.prog X.w (upd H a o) h' a o) :
 Inv X pins σ (upd H a o) { s with heap:=h',toks:=t' }:=I.un (Un.laid k c (I.hok.fresh c)) (I.hok.laid k c new)
def Inv.write{x e:Addr}(I:Inv X pins σ H s)(c:Mut (H x))(he:e=x\/H e=some (.own x))(k:∀ b u,b≠e->s.heap.get? b=some u->h'.get? b=some u)(a:∃ u,h'.get? e=some u)(new:Zg X.prog X.w (upd H x o) h' x o):Inv X pins σ (upd H x o) { s with heap:=h',toks:=t' }:=I.un (Un.write c he k a) (I.hok.write c he k a new)
def Inv.weak(I:Inv X pins σ H s)(d:σ'.length=σ.length)(w:∀ (i:Nat) v,σ'[i]?=some (some v)->σ[i]?=some (some v)):Inv X pins σ' H s :=
 ⟨I.ok,I.os,I.bare,I.base,let ⟨m,hn,hl'⟩:=I.loc;⟨m,hn,λi x v a b c=>hl' i x v a (w i v b) c⟩,I.cell,I.free,I.freeC,I.pin,I.hok,d.trans I.len⟩
def Inv.z4E(I:Inv X pins σ H s)(h:∀ p∈a,s.heap.get? p.1=some p.2/\H p.1=none/\p.1≠X.env.locals/\p.1∉X.fs/\∀ v,p.2.data≠.cell v):Inv X a σ H s :=
 ⟨I.ok,I.os,I.bare,I.base,I.loc,I.cell,I.free,I.freeC,λp b=>(Z20.mp b).elim (λz=>I.pin p (Z54 _ z)) (h p),I.hok,I.len⟩
def z1t{N:List Str}(f:N.Nodup){i j:Nat}{x:Str}(a:N[i]?=some x)(b:N[j]?=some x):i=j:=by
 obtain⟨h,c⟩:=Z16.mp a;obtain⟨l,d⟩:=Z16.mp b;exact (List.getElem_inj f).mp (c.trans d.symm)
def U8{x:Str}(I:Inv X pins σ H s)(hN:X.N.Nodup)(hi:X.N[i]?=some x)(B:Loc X.env.scope x)(r:RelV v u)(h:∀ s',Inv X pins (σ.set i (some v)) H s'->(∃ a,Heap.SameBut a s.heap s'.heap/\(a=X.env.locals\/X.env.cells.lookup x=some a))->Q () s')(hf:X.fn x=true\/X.env.scope.names.lookup x=some .local:=by first | exact .inl rfl | exact .inr rfl | assumption):wpAny M A (storeName X.env x u) Q E s:=by
 obtain⟨m,hn,hl⟩:=id I.loc;have P:(X.env.scope.kind == .class || (X.env.scope.kind == .module && X.env.locals != X.env.globals))=false:=by rw[I.ok.kind];rfl
 have F:i<σ.length:=by rw[I.len];exact (Z16.mp hi).1
 have cne:=I.cne;have tracked:∀ {a:Addr}{h':Heap},(∃ o,s.heap.get? a=some o/\H a=none)->Heap.SameBut a s.heap h'->xZ X.prog X.w H h':=λ{a h'} ha f b ob e=>by
  obtain⟨_,_,C⟩:=ha;refine (I.hok b ob e).stay (λc S t q=>(f.2 c ?_).trans q) (λ_ q=>q) λ_ _ q=>q;rintro rfl;rcases t with rfl | t;rw[C] at e;cases e;rw[C] at t;cases t
 rcases B with G | G;refine wpAny_storeName_local G hn (λh' hn' f=>?_) P
 obtain⟨oL,_,_,hoL,_⟩:=id hn;refine h _ ⟨I.ok,I.os,I.bare,⟨λb o e n J B=>?_,λb o e n J B=>?_,I.base.free,λb o e B=>?_,I.base.tups,I.base.frzs,I.base.tbls⟩,⟨_,hn',λj y v' l D Y=>?_⟩,λy c e=>?_,I.free,I.freeC,λp Z=>?_,tracked ⟨oL,hoL,I.free⟩ f,by simpa using I.len⟩ ⟨_,f,.inl rfl⟩;exact (f.2 b (Z14 (Z0X (Z0k e) I.ok.above))).trans (I.base.keep b o e n J B);obtain⟨sl,l⟩:=I.base.slot b o e n J B;exact⟨sl,(f.2 b (Z14 (Z0X (Z0k e) I.ok.above))).trans l⟩;obtain⟨o',l⟩:=I.base.there b o e B;exact⟨o',(f.2 b (Z14 (Z0X (Z0k e) I.ok.above))).trans l⟩;by_cases hj:j=i;subst hj;rw[hi] at l;cases l;rw[List.getElem?_set_self F] at D;cases D;exact⟨u,r,.inl ⟨G,05⟩⟩;rw[List.getElem?_set_ne (Z32 hj)] at D;obtain⟨u',U,q⟩:=hl j y v' l D Y;refine⟨u',U,?_⟩;rcases q with⟨k,e⟩|⟨k,c,e,z⟩;refine .inl ⟨k,?_⟩;have:y≠x:=λe=>hj (z1t hN l (e ▸ hi))
 simp[this,e];exact .inr ⟨k,c,e,z.sameBut f (cne y c e)⟩;obtain⟨S,z⟩:=I.cell y c e;exact⟨S,z.sameBut f (cne y c e)⟩;obtain⟨e,n,ne,nf,d⟩:=I.pin p Z;exact⟨(f.2 p.1 ne).trans e,n,ne,nf,d⟩;have K:X.fn x=true:=by
  rcases hf with z | z;exact z;rw[z] at G;cases G
 obtain⟨c,t⟩:=I.ok.has x (.inl G);obtain⟨S,z⟩:=I.cell x c t;refine wpAny_storeName_cell I.ok.kind G t z (λh' R f=>?_);obtain⟨oc,O,L⟩:=id z;refine h { s with heap:=h' } ⟨I.ok,I.os,I.bare,⟨λb o e n J B=>?_,λb o e n J B=>?_,I.base.free,λb o e B=>?_,I.base.tups,I.base.frzs,I.base.tbls⟩,⟨m,hn.sameBut f (Z32 (cne x c t)),λj y v' l D Y=>?_⟩,λy T e=>?_,I.free,I.freeC,λp Z=>?_,tracked ⟨oc,O,I.freeC x c t⟩ f,by simpa using I.len⟩ ⟨c,f,.inr t⟩;exact (f.2 b (Z14 (Z0X (Z0k e) (I.ok.cab x c K t)))).trans (I.base.keep b o e n J B);obtain⟨sl,l⟩:=I.base.slot b o e n J B;exact⟨sl,(f.2 b (Z14 (Z0X (Z0k e) (I.ok.cab x c K t)))).trans l⟩;obtain⟨o',l⟩:=I.base.there b o e B;exact⟨o',(f.2 b (Z14 (Z0X (Z0k e) (I.ok.cab x c K t)))).trans l⟩;by_cases hj:j=i;subst hj;rw[hi] at l;cases l;rw[List.getElem?_set_self F] at D;cases D;exact⟨u,r,.inr ⟨.inl G,c,t,R⟩⟩;rw[List.getElem?_set_ne (Z32 hj)] at D;obtain⟨u',U,q⟩:=hl j y v' l D Y;refine⟨u',U,?_⟩;rcases q with q |⟨k,T,e,z'⟩;exact .inl q;refine .inr ⟨k,T,e,z'.sameBut f ?_⟩;rintro rfl;exact hj (z1t hN l (I.ok.inj _ _ _ e t ▸ hi));by_cases hcc:T=c;subst hcc;exact⟨_,R⟩;obtain⟨w2,z2⟩:=I.cell y T e;exact⟨w2,z2.sameBut f hcc⟩;obtain⟨e,n,ne,nf,d⟩:=I.pin p Z;refine⟨(f.2 p.1 ?_).trans e,n,ne,nf,d⟩;intro q;rw[q,O] at e;have q':oc=p.2:=Z19 e;exact d S (by rw[← q'];exact L)
def QF{x:Str}(I:Inv X pins σ H s)(b:X.N.Nodup)(hi:X.N[i]?=some x)(a:Loc X.env.scope x)(r:RelV v u)(h:∀ s',Inv X pins (σ.set i (some v)) H s'->Q () s')(hf:X.fn x=true\/X.env.scope.names.lookup x=some .local:=by first | exact .inl rfl | exact .inr rfl | assumption):wpAny M A (storeName X.env x u) Q E s :=
 U8 I b hi a r (λs' I' _=>h s' I') hf
def Inv.Z1c(I:Inv X pins σ H s)(f:s'.os=s.os)(u:Un (frs X.stack) ch H H' s.heap s'.heap)(hok:xZ X.prog X.w H' s'.heap)(d:AllBare s'.gens)(a:∀ b∈ch,(b∈X.ex\/X.s₀.heap.objs.size<=b)/\b≠X.env.locals/\(∀ x c,X.env.cells.lookup x=some c->c≠b)/\∀ p∈X.pn ++ pins,p.1≠b):Inv X pins σ H' s':=by
 obtain⟨h',g',d',t',o'⟩:=s';have e:o'=s.os:=f;subst e;exact I.call (g':=g') (t':=t') (d':=d') u hok d a
noncomputable abbrev XK:=Value->Option Addr->Hp->Prop
noncomputable abbrev St:=List (Option V)
noncomputable abbrev VK:=V->Hp->Prop
noncomputable abbrev TE:=St->Hp->VK->Prop
noncomputable abbrev TT:=St->Hp->(Bool->Hp->Prop)->Prop
noncomputable abbrev TA:=St->Hp->(List V->Hp->Prop)->Prop
set_option genInjectivity false in
structure Ends where
 nx:St->Hp->Prop
 rt:VK
 bk:St->Hp->Prop:=λ_ _=>False
 ct:St->Hp->Prop:=λ_ _=>False
noncomputable abbrev TS:=Ends->St->Hp->Prop
noncomputable def EP(X:Cx)(pins:List 014)(σ:St)(Q:VK)(u:Value)(s':Shared):Prop:=∃ v H',Inv X pins σ H' s'/\RelV v u/\Q v H'
noncomputable def TP(X:Cx)(pins:List 014)(σ:St)(Q:Bool->Hp->Prop)(b:Bool)(s':Shared):Prop:=∃ H',Inv X pins σ H' s'/\Q b H'
noncomputable def AP(X:Cx)(pins:List 014)(σ:St)(Q:List V->Hp->Prop)(us:List Value)(s':Shared):Prop:=∃ vs H',Inv X pins σ H' s'/\Vals vs us/\Q vs H'
noncomputable def SP(X:Cx)(pins:List 014)(D:Ends)(f:Flow)(s':Shared):Prop :=
 match f with
 | .next=>∃ a H',Inv X pins a H' s'/\D.nx a H'
 | .brk=>∃ a H',Inv X pins a H' s'/\D.bk a H'
 | .cont=>∃ a H',Inv X pins a H' s'/\D.ct a H'
 | .ret u=>∃ v a H',Inv X pins a H' s'/\RelV v u/\D.rt v H'
noncomputable def PE(X:Cx)(e:Expr)(t:TE):Prop :=
 ∀ (pins:List 014) (s:Shared) (σ:St) (H:Hp) (Q:VK),Inv X pins σ H s->t σ H Q->wpAny 06 X.A (eval e X.env) (EP X pins σ Q) X.xe s
noncomputable def PT(X:Cx)(e:Expr)(t:TT):Prop :=
 ∀ (pins:List 014) (s:Shared) (σ:St) (H:Hp) (Q:Bool->Hp->Prop),Inv X pins σ H s->t σ H Q->wpAny 06 X.A (isTrue e X.env (eval e X.env)) (TP X pins σ Q) X.xe s
noncomputable def PW(X:Cx)(e:Expr)(t:TT):Prop :=
 ∀ (whole:Sem Value) (pins:List 014) (s:Shared) (σ:St) (H:Hp) (Q:Bool->Hp->Prop),Inv X pins σ H s->t σ H Q->wpAny 06 X.A (isTrue e X.env whole) (TP X pins σ Q) X.xe s
def PW.pt{e:Expr}(h:PW X e t):PT X e t:=h _
noncomputable def PA(X:Cx)(a:List Expr)(t:TA):Prop :=
 ∀ (pos:Pos) (pins:List 014) (s:Shared) (σ:St) (H:Hp) (Q:List V->Hp->Prop),Inv X pins σ H s->t σ H Q->wpAny 06 X.A (spliced (backTo pos (starEach a X.env))) (AP X pins σ Q) X.xe s
noncomputable def PS(X:Cx)(st:Stmt)(t:TS):Prop :=
 ∀ (pins:List 014) (s:Shared) (σ:St) (H:Hp) (D:Ends),Inv X pins σ H s->t D σ H->wpAny 06 X.A (exec st X.env) (SP X pins D) X.xe s
noncomputable def Qg(X:Cx)(st:List Stmt)(t:TS):Prop :=
 ∀ (pins:List 014) (s:Shared) (σ:St) (H:Hp) (D:Ends),Inv X pins σ H s->t D σ H->wpAny 06 X.A (execs st X.env) (SP X pins D) X.xe s
def Zj{α:Type}{t:Sem α}{Q Q':α->Shared->Prop}(h:wpAny M A t Q E s)(b:∀ a s,Q a s->Q' a s):wpAny M A t Q' E s:=wpAny_mono h b λ_ _ x=>x
noncomputable def uD(i:Nat):TE:=λσ H Q=>∃ v,σ[i]?=some (some v)/\Q v H
noncomputable def tC(v:V):TE:=λ_ H Q=>Q v H
def Z2D{X:Cx}{x:Str}{pos:Pos}(d:X.N[i]?=some x)(j:Vis X.env.scope x)(hd:(x == ("__debug__":Str))=false:=by decide)(b:(x == ("__classdict__":Str))=false:=by decide):PE X (.Name x pos) (uD i):=by
 intro pins s σ H Q I h;obtain⟨v,e,h⟩:=h;obtain⟨m,hn,f⟩:=I.loc;obtain⟨u,r,l⟩:=f i x v d e j;have fin:EP X pins σ Q u s:=⟨v,H,I,r,h⟩;rcases l with⟨a,hm⟩|⟨a,c,hc,hcell⟩;exact wpAny_Name (wpAny_loadName_local I.ok.kind a hn hm fin) hd;rcases a with a | a;exact wpAny_Name (wpAny_loadName_cell I.ok.kind a hc hcell fin) hd;exact wpAny_Name (wpAny_loadName_free I.ok.kind a hc hcell fin b) hd
def zI{i j pos}:PE X (.Constant (.int i) j pos) (tC (.int i)):=λ_ _ _ H _ I h=>wpAny_Constant_int ⟨.int i,H,I.tok _,⟨_,rfl⟩,h⟩
def Z4Y{b j pos}:PE X (.Constant (.bool b) j pos) (tC (.bl b)):=λ_ _ _ H _ I h=>Constant_bool ⟨.bl b,H,I,rfl,h⟩
def V9{j pos}:PE X (.Constant .none j pos) (tC .Zn):=λ_ _ _ H _ I h=>Constant_none ⟨.Zn,H,I,rfl,h⟩
def zK{x j pos}:PE X (.Constant (.str x) j pos) (tC (.str x)):=λ_ _ _ H _ I h=>Calls.Constant_str ⟨.str x,H,I.tok _,⟨_,rfl⟩,h⟩
noncomputable def Gl(X:Cx)(x:Str):Prop:=X.env.kindOf x=some .globalImplicit
def xn{X:Cx}{σ:St}{x:Str}{pos:Pos}(I:Inv X pins σ H s)(a:Gl X x)(hm:X.mg x=some u)(h:Q u s)(hd:(x == ("__debug__":Str))=false:=by decide):wpAny 06 X.A (eval (.Name x pos) X.env) Q E s :=
 Calls.Name_function_global I.ok.kind a (Calls.loadGlobal_global (by rw[I.ok.glob];exact I.mod.glob.keeps I.bk) hm h) hd
def yP{X:Cx}{E:Value->Shared->Prop}{pins:List 014}{s:Shared}{σ:St}{H:Hp}{x:Str}{u:Value}{pos:Pos}{Q:Value->Shared->Prop}(I:Inv X pins σ H s)(b:Gl X x)(hm:X.mg x=none)(d:bootBuiltins x=some u)(h:Q u s)
 (hn:x≠"__name__":=by decide) (hd:(x == ("__debug__":Str))=false:=by decide):wpAny 06 X.A (eval (.Name x pos) X.env) Q E s:=by
 obtain⟨mb,c,a⟩:=I.mod.blt;exact Calls.Name_function_global I.ok.kind b (Calls.loadGlobal_builtin (by rw[I.ok.glob];exact I.mod.glob.keeps I.bk) hm (by rw[I.ok.blt];exact c.keeps I.bk) ((a x hn).trans d) h) hd
def ZX{x:Str}{pos:Pos}(a:Gl X x)(hm:X.mg x=some u)(r:RelV v u)(hd:(x == ("__debug__":Str))=false:=by decide):PE X (.Name x pos) (tC v) :=
 λ_ _ _ H _ I h=>xn I a hm ⟨v,H,I,r,h⟩ hd
def Xe{x:Str}{pos:Pos}(b:Gl X x)(hm:X.mg x=none)(a:bootBuiltins x=some u)(r:RelV v u)(hn:x≠"__name__":=by decide)(hd:(x == ("__debug__":Str))=false:=by decide):PE X (.Name x pos) (tC v) :=
 λ_ _ _ H _ I h=>yP I b hm a ⟨v,H,I,r,h⟩ hn hd
noncomputable def tB(t:TE):TT:=λσ H Q=>t σ H λx H1=>∃ c,x=.bl c/\Q c H1
def Z3d{e:Expr}(h:PE X e t)(he:∀ whole,isTrue e X.env whole=(do let v ←whole;standAt e.pos;holding [v] (truthy v)):=by intro _;rfl):PT X e (tB t):=by
 intro pins s σ H Q I hw;refine isTrue_plain (Zj (h pins s σ H _ I hw) λv s1 ⟨x,H1,I1,a,q1⟩=>?_) (he _);obtain⟨d,rfl,q⟩:=q1;cases a;exact wpAny_truthy_bool ⟨H1,I1,q⟩
noncomputable def Z5k(t u:TT):TT:=λσ H Q=>t σ H λc H1=>if c=true then u σ H1 Q else Q false H1
noncomputable def tOr(t u:TT):TT:=λσ H Q=>t σ H λc H1=>if c=true then Q true H1 else u σ H1 Q
noncomputable def Z2m(t:TT):TT:=λσ H Q=>t σ H λc H1=>Q (!c) H1
def z3A{pos:Pos}(ha:PT X a tA):PW X (.BoolOp .And [a] pos) tA:=by
 intro b pins s σ H Q I h;refine isTrue_and (Zj (ha pins s σ H Q I h) λc s1 e=>?_);cases c with
 | true=>exact isTrue_and_nil e
 | false=>exact e
def Z2J{pos:Pos}(ha:PT X a tA):PW X (.BoolOp .Or [a] pos) tA:=by
 intro b pins s σ H Q I h;refine isTrue_or (Zj (ha pins s σ H Q I h) λc s1 e=>?_);cases c with
 | false=>exact isTrue_or_nil e
 | true=>exact e
def z7W{pos:Pos}(ha:PT X a tA)(i:PW X (.BoolOp .And (b :: rest) pos) tB'):PW X (.BoolOp .And (a :: b :: rest) pos) (Z5k tA tB'):=by
 intro f pins s σ H Q I h;refine isTrue_and (Zj (ha pins s σ H _ I h) λc s1 d=>?_);obtain⟨H1,I1,q1⟩:=d;cases c with
 | true=>exact i f pins s1 σ H1 Q I1 q1
 | false=>exact⟨H1,I1,q1⟩
def Z5q{pos:Pos}(ha:PT X a tA)(i:PW X (.BoolOp .Or (b :: rest) pos) tB'):PW X (.BoolOp .Or (a :: b :: rest) pos) (tOr tA tB'):=by
 intro f pins s σ H Q I h;refine isTrue_or (Zj (ha pins s σ H _ I h) λc s1 d=>?_);obtain⟨H1,I1,q1⟩:=d;cases c with
 | true=>exact⟨H1,I1,q1⟩
 | false=>exact i f pins s1 σ H1 Q I1 q1
def Z3F{pos:Pos}(ha:PT X a tA):PT X (.UnaryOp .Not a pos) (Z2m tA):=by
 intro pins s σ H Q I h;exact isTrue_not (ha pins s σ H (λc H1=>Q (!c) H1) I h)
noncomputable def Z1i(a tb:TE):TE:=λσ H Q=>a σ H λx H1=>∃ c,x=.bl c/\if c=true then tb σ H1 Q else Q (.bl false) H1
noncomputable def Z4A(a tb:TE):TE:=λσ H Q=>a σ H λx H1=>∃ c,x=.bl c/\if c=true then Q (.bl true) H1 else tb σ H1 Q
noncomputable def Z1I(a:TE):TE:=λσ H Q=>a σ H λx H1=>∃ c,x=.bl c/\Q (.bl (!c)) H1
def Z2g{pos:Pos}{op}(h:PE X a t):PE X (.BoolOp op [a] pos) t:=λpins s σ H Q I hw=>BoolOp_one (h pins s σ H Q I hw)
def Z2Z{pos:Pos}(ha:PE X a ta)(i:PE X (.BoolOp .And (b :: rest) pos) tb):PE X (.BoolOp .And (a :: b :: rest) pos) (Z1i ta tb):=by
 intro pins s σ H Q I h;refine BoolOp_and (Zj (ha pins s σ H _ I h) λv s1 d=>?_);obtain⟨x,H1,I1,f,q1⟩:=d;obtain⟨c,rfl,q1⟩:=q1;cases f;refine wpAny_truthy_bool ?_;cases c with
 | true=>exact i pins s1 σ H1 Q I1 q1
 | false=>exact⟨.bl false,H1,I1,rfl,q1⟩
def Z4a{pos:Pos}(ha:PE X a ta)(i:PE X (.BoolOp .Or (b :: rest) pos) tb):PE X (.BoolOp .Or (a :: b :: rest) pos) (Z4A ta tb):=by
 intro pins s σ H Q I h;refine BoolOp_or (Zj (ha pins s σ H _ I h) λv s1 d=>?_);obtain⟨x,H1,I1,f,q1⟩:=d;obtain⟨c,rfl,q1⟩:=q1;cases f;refine wpAny_truthy_bool ?_;cases c with
 | false=>exact i pins s1 σ H1 Q I1 q1
 | true=>exact⟨.bl true,H1,I1,rfl,q1⟩
def Z2t{pos:Pos}(ha:PE X a ta):PE X (.UnaryOp .Not a pos) (Z1I ta):=by
 intro pins s σ H Q I h;refine UnaryOp_ (Zj (ha pins s σ H _ I h) λv s1 b=>?_);obtain⟨x,H1,I1,d,q1⟩:=b;obtain⟨c,rfl,q1⟩:=q1;cases d;exact not_of (wpAny_truthy_bool ⟨.bl (!c),H1,I1,rfl,q1⟩)
noncomputable def tIf(t:TT)(a tb:TE):TE:=λσ H Q=>t σ H λc H1=>if c=true then a σ H1 Q else tb σ H1 Q
def z1l{pos:Pos}(i:PT X c tA)(ha:PE X a ta)(j:PE X b tb):PE X (.IfExp c a b pos) (tIf tA ta tb):=by
 intro pins s σ H Q I h;refine wpAny_IfExp (Zj (i pins s σ H _ I h) λd s1 f=>?_);obtain⟨H1,I1,q1⟩:=f;cases d with
 | true=>exact ha pins s1 σ H1 Q I1 q1
 | false=>exact j pins s1 σ H1 Q I1 q1
noncomputable def zN(K:FR)(H:Hp)(a:Addr)(xs:List V):Prop :=
 Rd H a (.lst xs)\/
  ∃ (o:Obj) (its:Array Value) (n:Nat),K.lookup a=some o/\o.cls=.type "list"/\o.dict=none/\o.data=.seq its n/\its.size<=sizeLine/\Vals xs its.toList
noncomputable def zR(K:FR)(H:Hp)(a:Addr)(xs:List V):Prop :=
 Rd H a (.tup xs)\/
  ∃ (o:Obj) (its:Array Value) (n:Nat),K.lookup a=some o/\o.cls=.type "tuple"/\o.data=.seq its n/\its.size<=sizeLine/\Vals xs its.toList
noncomputable def Z5L:Value->Option V
 | .none=>some .Zn
 | .bool b=>some (.bl b)
 | .int i _=>some (.int i)
 | .str x _=>some (.str x)
 | .bytes b _=>some (.byt b)
 | .float b _=>some (.flt b)
 | .ref a=>some 027
 | .type n=>some (.ty n)
 | _=>none
def RelV.abs{x:V}(r:RelV x u):Z5L u=some x:=by
 cases x with
 | Zn=>cases r;rfl
 | bl _=>cases r;rfl
 | int _=>obtain⟨t,rfl⟩:=r;rfl
 | str _=>obtain⟨t,rfl⟩:=r;rfl
 | byt _=>obtain⟨t,rfl⟩:=r;rfl
 | flt _=>obtain⟨t,rfl⟩:=r;rfl
 | ref _=>cases r;rfl
 | ty _=>cases r;rfl
def RelV.inj{x:V}(r:RelV x u)(q:RelV y u):x=y:=Z19 (r.abs.symm.trans q.abs)
theorem Vals.inj:∀ {xs a:List V}{us:List Value},Vals xs us->Vals a us->xs=a
 | _,_,_,.nil,.nil=>rfl
 | _,_,_,.cons r t,.cons r' t'=>by rw[r.inj r',Vals.inj t t']
def zN.of(h:H a=some (.lst xs)):zN K H a xs:=.inl (.inl h)
def zR.of(h:H a=some (.tup xs)):zR K H a xs:=.inl (.inl h)
def Inv.list{X:Cx}{σ:St}{xs:List V}(I:Inv X pins σ H s)(h:zN X.K H a xs):∃ its:List Value,Vals xs its/\PlainL s.heap a its.toArray/\xs.length<=sizeLine:=by
 rcases h with h |⟨o,its,n,d,c,hd,b,f,r⟩;obtain⟨z,its,n,r,e⟩:=h.ok I.hok;exact⟨its,r,⟨_,n,e,rfl,rfl,rfl⟩,z⟩;refine⟨its.toList,r,⟨o,n,I.XG a o d,c,hd,by simpa using b⟩,?_⟩;have e:=r.length;simp only[Z11] at e;lia
def Inv.tuple{X:Cx}{σ:St}{xs:List V}(I:Inv X pins σ H s)(h:zR X.K H a xs):∃ its:List Value,Vals xs its/\IsTup s.heap a its.toArray/\xs.length<=sizeLine:=by
 rcases h with h |⟨o,its,n,d,c,b,f,r⟩;obtain⟨z,its,r,p⟩:=h.ok I.hok;exact⟨its,r,p.tup,z⟩;refine⟨its.toList,r,⟨o,I.XG a o d,c,n,by simpa using b⟩,?_⟩;have e:=r.length;simp only[Z11] at e;lia
def Inv.QH{X:Cx}{σ:St}(I:Inv X pins σ H s)(h:zN X.K H a xs)(h':zN X.K H a ys):xs=ys:=by
 obtain⟨its,r,⟨o,n,e,_,_,d⟩,_⟩:=I.list h;obtain⟨its',c,⟨o',n',b,_,_,d'⟩,_⟩:=I.list h';rw[e] at b;cases b;rw[d] at d';injection d' with d1 _;have:its=its':=by simpa using congrArg Array.toList d1
 subst this;exact r.inj c
def Inv.yY{X:Cx}{σ:St}(I:Inv X pins σ H s)(h:zR X.K H a xs)(h':zR X.K H a ys):xs=ys:=by
 obtain⟨its,r,⟨o,e,_,n,d⟩,_⟩:=I.tuple h;obtain⟨its',c,⟨o',b,_,n',d'⟩,_⟩:=I.tuple h';rw[e] at b;cases b;rw[d] at d';injection d' with d1 _;have:its=its':=by simpa using congrArg Array.toList d1
 subst this;exact r.inj c
noncomputable abbrev Cx.Q2(X:Cx)(E:Value->Shared->Prop):Cx:={ X with xe:=E }
noncomputable abbrev Cx.nox(X:Cx):Cx:=X.Q2 λ_ _=>False
def Cx.Ok.Q2{X:Cx}(ok:X.Ok)(E:Value->Shared->Prop):(X.Q2 E).Ok :=
 ⟨ok.mod,ok.kind,ok.glob,ok.blt,ok.above,ok.inj,ok.has,ok.cab,ok.hd,ok.frames,ok.stk,ok.exf,ok.bs,ok.bsz,ok.noex,ok.exfs,ok.XN,ok.frf⟩
def Cx.Ok.xF{X:Cx}(ok:(X.Q2 E).Ok):X.Ok :=
 ⟨ok.mod,ok.kind,ok.glob,ok.blt,ok.above,ok.inj,ok.has,ok.cab,ok.hd,ok.frames,ok.stk,ok.exf,ok.bs,ok.bsz,ok.noex,ok.exfs,ok.XN,ok.frf⟩
def Inv.Q2{X:Cx}{σ:St}(I:Inv X pins σ H s)(E:Value->Shared->Prop):Inv (X.Q2 E) pins σ H s:=⟨I.ok.Q2 E,I.os,I.bare,I.base,I.loc,I.cell,I.free,I.freeC,I.pin,I.hok,I.len⟩
def Inv.xF{X:Cx}{σ:St}(I:Inv (X.Q2 E) pins σ H s):Inv X pins σ H s:=⟨I.ok.xF,I.os,I.bare,I.base,I.loc,I.cell,I.free,I.freeC,I.pin,I.hok,I.len⟩
def SP.xF(h:SP (X.Q2 E) pins D f s'):SP X pins D f s':=by
 cases f with
 | next=>obtain⟨a,H',I,q⟩:=h;exact⟨a,H',I.xF,q⟩
 | brk=>obtain⟨a,H',I,q⟩:=h;exact⟨a,H',I.xF,q⟩
 | cont=>obtain⟨a,H',I,q⟩:=h;exact⟨a,H',I.xF,q⟩
 | ret u=>obtain⟨v,a,H',I,r,q⟩:=h;exact⟨v,a,H',I.xF,r,q⟩
def Qg.nox{st:List Stmt}(h:Qg X.nox st t):Qg X st t:=λpins s σ H D I hw =>
 wpAny_mono (h pins s σ H D (I.Q2 _) hw) (λ_ _ q=>q.xF) λ_ _ z=>False.elim z
noncomputable def z9a:TS:=λD σ H=>D.nx σ H
noncomputable def xj(t u:TS):TS:=λD σ H=>t { D with nx:=u D } σ H
def JI:Qg X [] z9a:=λ_ _ σ H _ I h=>wpAny_execs_nil ⟨σ,H,I,h⟩
def Yj{X:Cx}{st:Stmt}{rest:List Stmt}{t u:TS}(c:PS X st t)(b:Qg X rest u):Qg X (st :: rest) (xj t u):=by
 intro pins s σ H D I h;refine wpAny_execs_cons (Zj (c pins s σ H { D with nx:=u D } I h) λf s1 q=>?_);cases f with
 | next =>
   obtain⟨a,H',I',q⟩:=q;exact b pins s1 a H' D I' q
 | ret v=>exact q
 | brk=>exact q
 | cont=>exact q
def ZM{X:Cx}{st:Stmt}{t:TS}(a:PS X st t):Qg X [st] t:=by
 intro pins s σ H D I h;refine wpAny_execs_cons (Zj (a pins s σ H D I h) λf s1 q=>?_);cases f with
 | next=>exact wpAny_execs_nil q
 | ret v=>exact q
 | brk=>exact q
 | cont=>exact q
def Inv.quiet{X:Cx}{σ:St}(I:Inv X pins σ H s):interactive X.env=false:=by simp[interactive,I.ok.kind]
noncomputable def Z1w(a:TE):TS:=λD σ H=>a σ H λ_ H1=>D.nx σ H1
def z4e{e:Expr}{pos:Pos}(he:PE X e te)(a:swapsWith e none pos.line X.env=pure false:=by rfl):PS X (.Expr e pos) (Z1w te):=by
 intro pins s σ H D I h;exact wpAny_Expr_any (Zj (he pins s σ H _ I h) λv s1 ⟨x,H1,I1,b,q1⟩=>⟨σ,H1,I1,q1⟩) I.quiet a
noncomputable def Z1R(a:TE):TS:=λD σ H=>a σ H D.rt
def V1{X:Cx}{e:Expr}{a:TE}{pos:Pos}(he:PE X e a):PS X (.Return (some e) pos) (Z1R a):=by
 intro pins s σ H D I h;exact wpAny_Return_some (Zj (he pins s σ H _ I h) λv s1 ⟨x,H1,I1,b,q1⟩=>⟨x,σ,H1,I1,b,q1⟩)
noncomputable def Z0h(c:TT)(t u:TS):TS:=λD σ H=>c σ H λb H1=>if b=true then t D σ H1 else u D σ H1
def z7r{X:Cx}{t u:TS}{pos:Pos}{c:Expr}{a b:List Stmt}{f:TT}(j:PT X c f)(ha:Qg X a t)(l:Qg X b u):PS X (.If c a b pos) (Z0h f t u):=by
 intro pins s σ H D I h;refine wpAny_If (Zj (j pins s σ H _ I h) λd s1 i=>?_);obtain⟨H1,I1,q1⟩:=i;cases d with
 | true=>exact ha pins s1 σ H1 D I1 q1
 | false=>exact l pins s1 σ H1 D I1 q1
noncomputable def z8W:TS:=λ_ _ _=>False
def z8Y{st:Stmt}:PS X st z8W:=λ_ _ _ _ _ _ h=>h.elim
noncomputable abbrev TG:=V->St->Hp->(St->Hp->Prop)->Prop
noncomputable abbrev TGs:=List V->St->Hp->(St->Hp->Prop)->Prop
noncomputable def PG(X:Cx)(target:Expr)(t:TG):Prop :=
 ∀ (pins:List 014) (s:Shared) (σ:St) (H:Hp) (v:V) (u:Value) (Q:St->Hp->Prop),Inv X pins σ H s->RelV v u->t v σ H Q->
   wpAny 06 X.A (assign target X.env u) (λ_ s'=>∃ a H',Inv X pins a H' s'/\Q a H') X.xe s
noncomputable def PGs(X:Cx)(b:List Expr)(t:TGs):Prop :=
 ∀ (pins:List 014) (s:Shared) (σ:St) (H:Hp) (vs:List V) (us:List Value) (Q:St->Hp->Prop),Inv X pins σ H s->Vals vs us->t vs σ H Q->
   wpAny 06 X.A (assignInOrder ((assignEach b X.env).map (·.2)) us) (λ_ s'=>∃ a H',Inv X pins a H' s'/\Q a H') X.xe s
noncomputable abbrev Z3I:=V->V->V->Hp->(Hp->Prop)->Prop
noncomputable def Z4T(X:Cx)(t:Z3I):Prop :=
 ∀ (pins:List 014) (s:Shared) (σ:St) (H:Hp) (o i v:V) (b a u:Value) (Q:Hp->Prop),Inv X pins σ H s->RelV o b->RelV i a->RelV v u->t o i v H Q->
   wpAny 06 X.A (setItem b a u) (λ_ s'=>∃ H',Inv X pins σ H' s'/\Q H') X.xe s
noncomputable def Zo(i:Nat):TG:=λv σ H Q=>Q (σ.set i (some v)) H
def z7{pos:Pos}{x:Str}(b:X.N.Nodup)(hi:X.N[i]?=some x)(a:Loc X.env.scope x)(hf:X.fn x=true\/X.env.scope.names.lookup x=some .local:=by first | exact .inl rfl | exact .inr rfl | assumption):PG X (.Name x pos) (Zo i):=by
 intro pins s σ H v u Q I r h;exact wpAny_assign_Name (QF I b hi a r (λs' I'=>⟨_,H,I',h⟩) hf)
noncomputable def Z4i:TGs:=λvs σ H Q=>vs=[]/\Q σ H
noncomputable def Z1s(t:TG)(u:TGs):TGs:=λvs σ H Q=>∃ v r,vs=v :: r/\t v σ H λa H'=>u r a H' Q
def yC:PGs X [] Z4i:=by
 intro pins s σ H vs us Q I r h;obtain⟨e,h⟩:=h;subst e;cases r;exact assignInOrder_nil ⟨σ,H,I,h⟩
def Za{e:Expr}(i:PG X e t)(d:PGs X es u)(c:(assignEach (e :: es) X.env).map (·.2)=assign e X.env :: (assignEach es X.env).map (·.2):=by rfl):PGs X (e :: es) (Z1s t u):=by
 intro pins s σ H vs us Q I r h;obtain⟨v,j,f,h⟩:=h;subst f;cases r with
 | cons r rr =>
   rw[c];refine assignInOrder_cons (Zj (i pins s σ H _ _ _ I r h) λ_ s1 b=>?_);obtain⟨a,H1,I1,q1⟩:=b;exact d pins s1 a H1 _ _ Q I1 rr q1
noncomputable def Z0z(K:FR)(n:Nat)(t:TGs):TG:=λv σ H Q=>∃ a xs,v=.ref a/\zR K H a xs/\xs.length=n/\t xs σ H Q
def uC{pos:Pos}{k:Nat}(l:X.calm=true)(h:PGs X es t)(hn:(assignEach es X.env).length=n:=by rfl)(c:(assignEach es X.env).findIdx? (·.1)=none:=by rfl):PG X (.Tuple es k pos) (Z0z X.K n t):=by
 intro pins s σ H v u Q I r hw;obtain⟨a,xs,j,i,m,hw⟩:=hw;subst j;cases r;obtain⟨its,d,p,q⟩:=I.tuple i;refine assign_Tuple_tuple (I.ok.hd l) p (by simp[hn,← m,d.length]) c λh' f=>?_;have I1:Inv X pins σ H { s with heap:=h' }:=I.kept (t':=s.toks) λb o e=>f b o (Z14 (Z0k e)) e;exact h pins _ σ H xs _ Q I1 (by simpa using d) hw
noncomputable def Z5O(to a:TE)(t:Z3I):TG:=λv σ H Q=>to σ H λo H1=>a σ H1 λi H2=>t o i v H2 λH3=>Q σ H3
def z8z{pos:Pos}{to:TE}(l:PE X o to)(hi:PE X i ti)(d:Z4T X t)(ha:∀ v,assign (.Subscript o i pos) X.env v=(do
  let a ←holding [v] (eval o X.env);let c ←holding [v,a] (eval i X.env)
  standAt pos
  holding [v,a,c] (setItem a c v)
  release [v,a,c] []):=by intro _;rfl):PG X (.Subscript o i pos) (Z5O to ti t):=by
 intro pins s σ H v u Q I r h;rw[ha];refine wpAny_bind (wpAny_holding (Zj (l pins s σ H _ I h) λa s1 b=>?_));obtain⟨x,H1,I1,f,q1⟩:=b;refine wpAny_bind (wpAny_holding (Zj (hi pins s1 σ H1 _ I1 q1) λc s2 b=>?_));obtain⟨y,H2,I2,j,q2⟩:=b;refine wpAny_bind (wpAny_standAt (wpAny_bind (wpAny_holding (Zj (d pins s2 σ H2 x y v a c u _ I2 f j r q2) λ_ s3 b=>?_))));obtain⟨H3,I3,q3⟩:=b;exact wpAny_release ⟨σ,H3,I3,q3⟩
noncomputable def z2a(a:TE)(g:TG):TS:=λD σ H=>a σ H λx H1=>g x σ H1 D.nx
def vE{pos:Pos}{e:Expr}{g:TG}(he:PE X e te)(c:PG X tg g)(a:swapsWithSole [tg] e pos.line X.env=pure false:=by rfl)(hw:swappedStores [tg] e X.env=pure none:=by rfl)(d:(assignEach [tg] X.env).map (·.2)=[assign tg X.env]:=by rfl):PS X (.Assign [tg] e pos) (z2a te g):=by
 intro pins s σ H D I h;refine wpAny_Assign_stores (Zj (he pins s σ H _ I h) λv s1 ⟨x,H1,I1,b,q1⟩=>?_) a hw;rw[d];exact Zj (c pins s1 σ H1 x v _ I1 b q1) λ_ s2 q=>q
def vn{pos:Pos}{x:Str}{e:Expr}(c:X.N.Nodup)(hi:X.N[i]?=some x)(a:Loc X.env.scope x)(he:PE X e te)(b:swapsWith e (some (.Name x pos')) pos.line X.env=pure false:=by rfl)(hf:X.fn x=true\/X.env.scope.names.lookup x=some .local:=by first | exact .inl rfl | exact .inr rfl | assumption) :
 PS X (.Assign [.Name x pos'] e pos) (z2a te (Zo i)):=by
 intro pins s σ H D I h;refine wpAny_Assign_Name (Zj (he pins s σ H _ I h) λv s1 ⟨y,H1,I1,d,q1⟩=>?_) b;exact QF I1 c hi a d (λs2 I2=>⟨_,H1,I2,q1⟩) hf
noncomputable def Z6z(i j:Nat)(a:TA):TS:=λD σ H=>a σ H λvs H1=>∃ v w,vs=[v,w]/\D.nx ((σ.set i (some v)).set j (some w)) H1
def z8i{pos:Pos}{x:Str}{pt:Pos}{kt k2 pt2}(G:X.calm=true)(t:X.N.Nodup)(hi:X.N[i]?=some x)(C:X.N[j]?=some y)(f:i≠j)(r:X.env.scope.names.lookup x=some .local)(n:X.env.scope.names.lookup y=some .local)(ha:PA X [a,b] ta)(hw:swappedStores [.Tuple [.Name x px,.Name y py] kt pt] (.Tuple [a,b] k2 pt2) X.env=pure (some [x,y]))(z:swapsWithSole [.Tuple [.Name x px,.Name y py] kt pt] (.Tuple [a,b] k2 pt2) pos.line X.env=pure false:=by rfl) :
 PS X (.Assign [.Tuple [.Name x px,.Name y py] kt pt] (.Tuple [a,b] k2 pt2) pos) (Z6z i j ta):=by
 intro pins s σ H D I h;rw[exec_Assign_arm];refine wpAny_bind (wpAny_standAt ?_);rw[z];refine wpAny_bind (wpAny_pure ?_);rw[if_neg 01];refine wpAny_bind (Tuple_ (Zj (ha _ pins s σ H _ I h) λus s1 u=>?_));obtain⟨vs,H1,I1,B,q1⟩:=u;obtain⟨v,w,F,q1⟩:=q1;subst F;obtain⟨c,d,rfl,E,l⟩:∃ c d,us=[c,d]/\RelV v c/\RelV w d:=by
  cases B with
  | cons p q =>
    cases q with
    | cons p' q' =>
      cases q';exact⟨_,_,rfl,p,p'⟩
 refine wpAny_newObj_type ?_ zl2;have I2:Inv X pins σ H1 { s1 with heap:=s1.heap.push { cls:=.type "tuple",data:=.seq [c,d].toArray } }:=I1.kept (t':=s1.toks) λb o e=>Z00 _ e;rw[hw];refine wpAny_bind (wpAny_pure ?_);show wpAny 06 X.A (do rule "assign.swapped-stores";let items ←unpackItems (.ref s1.heap.objs.size) 2 none;assignInOrder [λv=>bindName X.env y v,λv=>bindName X.env x v] items.reverse;pure Flow.next) _ _ _;refine wpAny_bind (wpAny_rule (wpAny_bind (unpackItems_tuple (items:=#[c,d]) (I.ok.hd G) (IsTup.new s1.heap _) λh' m=>?_)));have I3:=I2.kept (h':=h') (t':=s1.toks) λb o e=>m b o (Z14 (Z0k e)) e;show wpAny _ _ (assignInOrder [λv=>bindName X.env y v,λv=>bindName X.env x v] [d,c] >>= λ_=>pure Flow.next) _ _ _;refine wpAny_bind (assignInOrder_cons (wpAny_bindName (QF I3 t C (.inl n) l (λs2 I4=>?_) (.inr n))));refine assignInOrder_cons (wpAny_bindName (QF I4 t hi (.inl r) E (λs3 I5=>assignInOrder_nil (wpAny_pure ?_)) (.inr r)));rw[List.set_comm _ _ (Z32 f)] at I5;exact⟨_,H1,I5,q1⟩
noncomputable def Jx(c:TT)(tb:TS):TS:=λD σ H=>∃ W:Nat->St->Hp->Prop,(∃ m,W m σ H)/\∀ m σ H,W m σ H->
 c σ H λb H1=>if b=true then ∃ N:St->Hp->Prop,(∀ a H',N a H'->∃ d,d<m/\W d a H')/\tb { D with nx:=N,ct:=N,bk:=D.nx } σ H1 else D.nx σ H1
def UI{pos:Pos}(o:PassesOwn 06 X.A X.env X.xe)(y:PT X c tc)(t:Qg X body tb):PS X (.While c body [] pos) (Jx tc tb):=by
 intro pins s σ H D I h;obtain⟨W,⟨m0,u⟩,turn⟩:=h;refine wpAny_While (codeAny_whileLoop (λn s'=>∃ i H',Inv X pins i H' s'/\W n i H') ?_ m0 ⟨σ,H,I,u⟩);rintro n s1 ⟨d,H1,I1,r⟩;refine wpAny_passesOwn o (Zj (y pins s1 d H1 _ I1 (turn n d H1 r)) λb s2 q=>?_);obtain⟨H2,I2,q2⟩:=q;cases b with
 | true =>
   obtain⟨N,p,q2⟩:=q2;rw[if_pos rfl];refine wpAny_passesOwn o (Zj (t pins s2 d H2 _ I2 q2) λf s3 q3=>?_);cases f with
   | next =>
     obtain⟨a,H3,I3,l⟩:=q3;obtain⟨j,hm,m⟩:=p a H3 l;exact⟨j,hm,a,H3,I3,m⟩
   | cont =>
     obtain⟨a,H3,I3,l⟩:=q3;obtain⟨j,hm,m⟩:=p a H3 l;exact⟨j,hm,a,H3,I3,m⟩
   | brk=>exact q3
   | ret v=>exact q3
 | false =>
   rw[if_neg Z0d];exact wpAny_execs_nil ⟨d,H2,I2,q2⟩
set_option genInjectivity false in
structure It where
 go:Nat->Hp->Prop
 yld:Nat->Hp->V->Hp->Prop
 stop:Nat->Hp->Prop
noncomputable def Xu(X:Cx)(pins:List 014)(H:Hp)(b:Addr):Prop :=
 H b=none/\b≠X.env.locals/\b∉X.fs/\(b∈X.ex\/X.s₀.heap.objs.size<=b)/\(∀ x c,X.env.cells.lookup x=some c->c≠b)/\∀ p∈X.pn ++ pins,p.1≠b
def Inv.z0g{σ:St}{b:Addr}(I:Inv X pins σ H s)(a:s.heap.objs.size<=b)(hn:H' b=none):Xu X pins H' b:=by
 refine⟨hn,Z40 (Z0X I.lt a),I.Z5G a,.inr (Z0Y I.sz a),λx c e z=>?_,λp d z=>?_⟩;obtain⟨v,q⟩:=I.cell x c e;exact absurd (Z0X q.lt (by rw[z];exact a)) (Z34 _);exact absurd (Z0X (Z0k (I.pin p d).1) (by rw[z];exact a)) (Z34 _)
structure Turn(P:Program)(w:World)(K:FR)(tg:Expr)(J:It)(fp:List Addr)(it:Addr)(tn:Nat->Heap->Prop):Prop where
 mem:it∈fp
 obj:∀ i h,tn i h->∀ b∈fp,∃ o,h.get? b=some o/\∀ v,o.data≠.cell v
 keep:∀ i h h',tn i h->(∀ b∈fp,∀ o,h.get? b=some o->h'.get? b=some o)->tn i h'
 item:∀ (X:Cx),X.prog=P->X.w=w->X.K=K->X.calm=true->∀ (i:Nat) (pins:List 014) (s:Shared) (σ:St) (H:Hp) (E:Value->Shared->Prop),Inv X pins σ H s->(∀ b∈fp,Xu X pins H b)->tn i s.heap->J.go i H->
  wpAny (model P w) X.A (pyNext (.ref it)) (λr s1=>∃ u,r=some u/\
   wpAny (model P w) X.A (letOwnedTupleGo tg (.ref it) u) (λ_ s2=>∃ x H',Inv X pins σ H' s2/\RelV x u/\J.yld i H x H'/\tn (i+1) s2.heap/\∀ b∈fp,H' b=none) E s1) E s
 done:∀ (X:Cx),X.prog=P->X.w=w->X.K=K->X.calm=true->∀ (i:Nat) (pins:List 014) (s:Shared) (σ:St) (H:Hp) (E:Value->Shared->Prop),Inv X pins σ H s->(∀ b∈fp,Xu X pins H b)->tn i s.heap->J.stop i H->
  wpAny (model P w) X.A (pyNext (.ref it)) (λr s1=>r=none/\Inv X pins σ H s1) E s
 self:∀ (A:Around) (i:Nat) (s:Shared) (Q:Value->Shared->Prop) (E:Value->Shared->Prop),tn i s.heap->Q (.ref it) s->wpAny (model P w) A (pyIter (.ref it)) Q E s
noncomputable abbrev TI:=St->Hp->(It->Hp->Prop)->Prop
noncomputable def PIE(X:Cx)(pins:List 014)(σ:St)(tg:Expr)(R:It->Hp->Prop)(a:Value)(s2:Shared):Prop :=
 ∃ (it:Addr) (fp:List Addr) (tn:Nat->Heap->Prop) (J:It) (H':Hp),a=.ref it/\Inv X pins σ H' s2/\Turn X.prog X.w X.K tg J fp it tn/\tn 0 s2.heap/\(∀ b∈fp,Xu X pins H' b)/\R J H'
noncomputable def PI(X:Cx)(tg iter:Expr)(a:TI):Prop :=
 ∀ (pins:List 014) (s:Shared) (σ:St) (H:Hp) (R:It->Hp->Prop),Inv X pins σ H s->a σ H R->
   wpAny 06 X.A (eval iter X.env) (λv s1=>wpAny 06 X.A (pyIter v) (PIE X pins σ tg R) X.xe s1) X.xe s
def z0x{o:Obj}{n:String}(c:s.heap.get? it=some o)(b:o.cls=.type n)(hd:o.data=.fields vs)(hn:["enumerate","zip","dict_itemiterator","dict_reverseitemiterator","odict_iterator","itertools.zip_longest","itertools.pairwise"].contains n=false)(a:Q () s):wpAny M A (letOwnedTupleGo tg (.ref it) u) Q E s:=by
 unfold letOwnedTupleGo;cases tg <;> first
  | exact wpAny_pure a
  | (cases u <;> first
   | exact wpAny_pure a
   | (refine wpAny_bind (wpAny_load c ?_)
      rw[b,hd];show wpAny M A (if (["enumerate","zip","dict_itemiterator","dict_reverseitemiterator","odict_iterator","itertools.zip_longest","itertools.pairwise"].contains n && vs[0]? == some (rawInt _))=true then _ else _) Q E s;rw[if_neg (by intro h;rw[hn,Bool.false_and] at h;cases h)];exact wpAny_pure a))
noncomputable def Itl(K:FR)(a:Addr):It :=
 ⟨λi H=>∃ xs x,zN K H a xs/\xs[i]?=some x,λi H x H'=>H'=H/\∀ xs,zN K H a xs->xs[i]?=some x,λi H=>∃ xs,zN K H a xs/\xs.length<=i⟩
noncomputable def Itt(K:FR)(a:Addr):It :=
 ⟨λi H=>∃ xs x,zR K H a xs/\xs[i]?=some x,λi H x H'=>H'=H/\∀ xs,zR K H a xs->xs[i]?=some x,λi H=>∃ xs,zR K H a xs/\xs.length<=i⟩
noncomputable def Itr(lo:Int)(n:Nat):It:=⟨λi _=>i<n,λi H x H'=>H'=H/\x=.int (lo+i),λi _=>n<=i⟩
def jv(a it:Addr):Turn P w K tg (Itl K a) [it] it (λi h=>h.IsListIter it a i) where
 mem:=05
 obj:=λi h st b f=>by
  have e:b=it:=by simpa using f
  subst e;obtain⟨o,e,c,d⟩:=st;exact⟨o,e,λv z=>by rw[d] at z;cases z⟩
 keep:=λi h h' st k=>st.at λo e=>k it 05 o e
 item:=by
  intro X m hw n B i pins s σ H E I hf st t;subst m hw n;obtain⟨xs,x,l,q⟩:=t;obtain⟨its,A,p,F⟩:=I.list l;obtain⟨u,C,G⟩:=A.get q;obtain⟨f0,f1,f2,y,f4,r⟩:=hf it 05;refine wpAny_pyNext_list_item st p.isList (x:=u) (by simpa using C) λh' j sb=>?_;have I1:Inv X pins σ H { s with heap:=h' }:=I.turned (t':=s.toks) (λb o f e=>(sb.2 b f).trans e) f0 f1 y f4 r;obtain⟨o,e,c,d⟩:=id j;exact⟨u,rfl,z0x (s:={ s with heap:=h' }) e c d 01 ⟨x,H,I1,G,⟨rfl,λL D=>by rw[I.QH D l];exact q⟩,j,λb f=>(hf b f).1⟩⟩
 done:=by
  intro X m hw n B i pins s σ H E I hf st t;subst m hw n;obtain⟨xs,l,q⟩:=t;obtain⟨its,A,p,F⟩:=I.list l;obtain⟨f0,f1,f2,y,f4,r⟩:=hf it 05;have M:=A.length;exact wpAny_pyNext_list_end (I.ok.hd B) st p.isList (by simp;lia) λh' J=>⟨rfl,I.turned (t':=s.toks) (λb o f e=>J b o f e) f0 f1 y f4 r⟩
 self:=λ_ _ _ _ _ st h=>wpAny_pyIter_listiter st h
def Um(a it:Addr):Turn P w K tg (Itt K a) [it] it (λi h=>h.IsTupleIter it a i) where
 mem:=05
 obj:=λi h st b f=>by
  have e:b=it:=by simpa using f
  subst e;obtain⟨o,e,c,d⟩:=st;exact⟨o,e,λv z=>by rw[d] at z;cases z⟩
 keep:=λi h h' st k=>st.at λo e=>k it 05 o e
 item:=by
  intro X m hw n B i pins s σ H E I hf st t;subst m hw n;obtain⟨xs,x,l,q⟩:=t;obtain⟨its,A,p,F⟩:=I.tuple l;obtain⟨u,C,G⟩:=A.get q;obtain⟨f0,f1,f2,y,f4,r⟩:=hf it 05;refine wpAny_pyNext_tuple_item st (show s.heap.IsTuple a its.toArray from p) (x:=u) (by simpa using C) λh' j sb=>?_;have I1:Inv X pins σ H { s with heap:=h' }:=I.turned (t':=s.toks) (λb o f e=>(sb.2 b f).trans e) f0 f1 y f4 r;obtain⟨o,e,c,d⟩:=id j;exact⟨u,rfl,z0x (s:={ s with heap:=h' }) e c d 01 ⟨x,H,I1,G,⟨rfl,λL D=>by rw[I.yY D l];exact q⟩,j,λb f=>(hf b f).1⟩⟩
 done:=by
  intro X m hw n B i pins s σ H E I hf st t;subst m hw n;obtain⟨xs,l,q⟩:=t;obtain⟨its,A,p,F⟩:=I.tuple l;obtain⟨f0,f1,f2,y,f4,r⟩:=hf it 05;have M:=A.length;exact wpAny_pyNext_tuple_end (I.ok.hd B) st (show s.heap.IsTuple a its.toArray from p) (by simp;lia) λh' J=>⟨rfl,I.turned (t':=s.toks) (λb o f e=>J b o f e) f0 f1 y f4 r⟩
 self:=λ_ _ _ _ _ st h=>wpAny_pyIter_tupleiter st h
def z2T(it:Addr)(lo:Int)(n:Nat):Turn P w K tg (Itr lo n) [it] it (λi h=>IsRangeIter h it (lo+(i:Nat) * 1) ((n:Int) - (i:Nat)) 1) where
 mem:=05
 obj:=λi h st b a=>by
  have e:b=it:=by simpa using a
  subst e;exact⟨_,st,λv z=>by
   have r:Data.fields _=Data.cell v:=z;cases r⟩
 keep:=λi h h' st k=>k it 05 _ st
 item:=by
  intro X d hw f p i pins s σ H E I hf st l;subst d hw f;obtain⟨f0,f1,f2,m,f4,j⟩:=hf it 05;have W:=Walks.range (prog:=X.prog) (w:=X.w) (I.ok.hd p) it lo 1 n;refine W.item i s _ _ l st λv h' q u c y=>?_;obtain⟨t,rfl⟩:=u;have I1:Inv X pins σ H { s with heap:=h',toks:=q }:=I.turned (λb o a e=>y b o (by simpa using a) e) f0 f1 m f4 j;refine⟨_,rfl,z0x (s:={ s with heap:=h',toks:=q }) (n:="range_iterator") c rfl rfl 01 ⟨.int (lo+i),H,I1,⟨t,?_⟩,⟨rfl,rfl⟩,c,λb a=>(hf b a).1⟩⟩;rw[Int.mul_one]
 done:=by
  intro X d hw f p i pins s σ H E I hf st l;subst d hw f;obtain⟨f0,f1,f2,m,f4,j⟩:=hf it 05;exact wpAny_pyNext_range_end (I.ok.hd p) st (by have:n<=i:=l;lia) λh' A=>⟨rfl,I.turned (t':=s.toks) (λb o a e=>A b o a e) f0 f1 m f4 j⟩
 self:=λ_ _ _ _ _ st h=>wpAny_pyIter_rangeiter st h
noncomputable def Z1J(K:FR)(b:TE):TI:=λσ H R=>b σ H λx H1=>∃ a,x=.ref a/\(∃ xs,zN K H1 a xs)/\R (Itl K a) H1
noncomputable def Z3W(K:FR)(b:TE):TI:=λσ H R=>b σ H λx H1=>∃ a,x=.ref a/\(∃ xs,zR K H1 a xs)/\R (Itt K a) H1
def VJ{X:Cx}{tg:Expr}{l:Expr}{c:TE}(m:PE X l c):PI X tg l (Z1J X.K c):=by
 intro pins s σ H R I h;refine Zj (m pins s σ H _ I h) λv s1 d=>?_;obtain⟨x,H1,I1,i,q1⟩:=d;obtain⟨a,e,⟨xs,f⟩,q⟩:=q1;subst e;cases i;obtain⟨its,n,p,r⟩:=I1.list f;refine wpAny_pyIter_list p.isList ?_;refine⟨s1.heap.objs.size,[s1.heap.objs.size],_,_,H1,rfl,I1.kept (t':=s1.toks) λb o e=>Z00 _ e,jv a _,⟨_,Z0r _ rfl,rfl,rfl⟩,λb j=>?_,q⟩;have e:b=s1.heap.objs.size:=by simpa using j
 subst e;exact I1.z0g (Z02 _) (I1.hok.fresh (Z02 _))
def z8L(j:PE X l tl):PI X tg l (Z3W X.K tl):=by
 intro pins s σ H R I h;refine Zj (j pins s σ H _ I h) λv s1 c=>?_;obtain⟨x,H1,I1,f,q1⟩:=c;obtain⟨a,e,⟨xs,d⟩,q⟩:=q1;subst e;cases f;obtain⟨its,m,p,n⟩:=I1.tuple d;refine wpAny_pyIter_tuple (show s1.heap.IsTuple a its.toArray from p) ?_;refine⟨s1.heap.objs.size,[s1.heap.objs.size],_,_,H1,rfl,I1.kept (t':=s1.toks) λb o e=>Z00 _ e,Um a _,⟨_,Z0r _ rfl,rfl,rfl⟩,λb i=>?_,q⟩;have e:b=s1.heap.objs.size:=by simpa using i
 subst e;exact I1.z0g (Z02 _) (I1.hok.fresh (Z02 _))
def z0t{X:Cx}{σ:St}{lo:Int}(I:Inv X pins σ H s)(d:-(2 ^ 62)<=lo)(h:lo<2 ^ 62)(i:-(2 ^ 62)<=hi)(c:hi<2 ^ 62)(q:R (Itr lo (hi - lo).toNat) H):wpAny 06 X.A (pyIter 023) (PIE X pins σ tg R) E { s with heap:=s.heap.push { cls:=.type "range",data:=.fields #[.int lo t,.int hi u,.int 1 v] },toks:=tk }:=by
 refine wpAny_pyIter_range (IsRange.new ..) (small_one d h i c) ?_;have I1:Inv X pins σ H { s with heap:=s.heap.push { cls:=.type "range",data:=.fields #[.int lo t,.int hi u,.int 1 v] },toks:=tk }:=I.kept λb o e=>Z00 _ e;refine⟨(s.heap.push { cls:=.type "range",data:=.fields #[.int lo t,.int hi u,.int 1 v] }).objs.size,[(s.heap.push { cls:=.type "range",data:=.fields #[.int lo t,.int hi u,.int 1 v] }).objs.size],_,_,H,rfl,
  I1.kept (t':=tk) λb o e=>Z00 _ e,z2T _ lo (hi - lo).toNat,?_,λb j=>?_,q⟩
 have a:lo+((0:Nat):Int) * 1=lo:=05
 have f:(((hi - lo).toNat:Nat):Int) - ((0:Nat):Int)=Builtin.Range.rangeSize lo hi 1:=by rw[rangeSize_one];split <;> lia
 show IsRangeIter _ _ (lo+((0:Nat):Int) * 1) ((((hi - lo).toNat:Nat):Int) - ((0:Nat):Int)) 1;rw[a,f];exact Z0r _ rfl;have e:b=(s.heap.push { cls:=.type "range",data:=.fields #[.int lo t,.int hi u,.int 1 v] }).objs.size:=by simpa using j
 subst e;exact I1.z0g (Z02 _) (I1.hok.fresh (Z02 _))
noncomputable def Z1C(a:TA):TI:=λσ H R=>a σ H λvs H1=>∃ j:Int,vs=[.int j]/\-(2 ^ 62)<=j/\j<2 ^ 62/\R (Itr 0 j.toNat) H1
noncomputable def Z5e(a:TA):TI:=λσ H R=>a σ H λvs H1=>∃ i j:Int,vs=[.int i,.int j]/\(-(2 ^ 62)<=i/\i<2 ^ 62/\-(2 ^ 62)<=j/\j<2 ^ 62)/\R (Itr i (j - i).toNat) H1
def vN{pos:Pos}(d:Gl X "range")(hm:X.mg "range"=none)(ha:PA X [a] ta)(b:starEach [a] X.env=[(false,eval a X.env)]:=by rfl):PI X tg (.Call (.Name "range" p) [a] [] pos) (Z1C ta):=by
 intro pins s σ H R I h;refine Call_ (yP I d hm boot_range (Z27 (Zj (ha pos pins s σ H _ I h) λus s1 ⟨vs,H1,I1,c,q1⟩=>?_) b rfl));obtain⟨j,e,q1,q2,q⟩:=q1;subst e;cases c with
 | cons r rr =>
   cases rr;obtain⟨t,rfl⟩:=r;exact call_range_1 (z0t I1 00 00 q1 q2 (by simpa using q))
def z4R{X:Cx}{tg:Expr}{a b:Expr}{d:TA}{p pos:Pos}(m:Gl X "range")(hm:X.mg "range"=none)(ha:PA X [a,b] d)(f:starEach [a,b] X.env=[(false,eval a X.env),(false,eval b X.env)]:=by rfl)(c:starEach [b] X.env=[(false,eval b X.env)]:=by rfl) :
 PI X tg (.Call (.Name "range" p) [a,b] [] pos) (Z5e d):=by
 intro pins s σ H R I h;refine Call_ (yP I m hm boot_range (Z27 (Zj (ha pos pins s σ H _ I h) λus s1 ⟨vs,H1,I1,l,q1⟩=>?_) (by rw[f,c]) (by rw[c];rfl)));obtain⟨i,j,e,⟨q1,q2,q3,q4⟩,q⟩:=q1;subst e;cases l with
 | cons r rr =>
   cases rr with
   | cons r' rr =>
     cases rr;obtain⟨t,rfl⟩:=r;obtain⟨t',rfl⟩:=r';exact call_range_2 (z0t I1 q1 q2 q3 q4 q)
noncomputable def Z2k(d:TI)(g:TG)(tb:TS):TS:=λD σ H=>d σ H λJ H1=>∃ W:Nat->Nat->St->Hp->Prop,(∃ m,W 0 m σ H1)/\∀ i m σ H,W i m σ H->
 (J.stop i H/\D.nx σ H)\/(J.go i H/\∃ N:St->Hp->Prop,(∀ a H',N a H'->∃ c,c<m/\W (i+1) c a H')/\∀ x H',J.yld i H x H'->g x σ H' λb H2=>tb { D with nx:=N,ct:=N,bk:=D.nx } b H2)
noncomputable def uQ(fp:List Addr)(h:Heap):List 014:=fp.filterMap λb=>(h.get? b).map λo=>(b,o)
def Y5(a:b∈fp)(e:h.get? b=some o):(b,o)∈uQ fp h:=List.mem_filterMap.mpr ⟨b,a,by rw[e];rfl⟩
def z6l(c:p∈uQ fp h):p.1∈fp/\h.get? p.1=some p.2:=by
 obtain⟨b,d,e⟩:=List.mem_filterMap.mp c;cases q:h.get? b with
 | none=>rw[q] at e;cases e
 | some o =>
   rw[q] at e;have a:(b,o)=p:=Z19 e;subst a;exact⟨d,q⟩
def Inv.pinned{σ:St}(I:Inv X pins σ H s)(hf:∀ b∈fp,Xu X pins H b)(h:∀ b∈fp,∃ o,s.heap.get? b=some o/\∀ v,o.data≠.cell v):Inv X (pins ++ uQ fp s.heap) σ H s :=
 I.z4E λp f=>(Z20.mp f).elim (λz=>I.pin p (Z33 _ z)) λz=>by
  obtain⟨c,e⟩:=z6l z;obtain⟨f0,f1,f2,_⟩:=hf p.1 c;obtain⟨o,a,d⟩:=h p.1 c;rw[e] at a;cases a;exact⟨e,f0,f1,f2,d⟩
def Inv.QG{σ:St}(I:Inv X (pins ++ pl) σ H s):Inv X pins σ H s:=I.z4E λp a=>I.pin p (Z33 _ (Z54 _ a))
def Z2U{g:TG}{pos:Pos}(B:PassesOwn 06 X.A X.env X.xe)(L:X.calm=true)(hi:PI X tg iter wi)(Q:PG X tg g)(j:Qg X body tb)(O:∀ x,foldedSetIterable iter X.env x=pure x:=by intro _;rfl):PS X (.For tg iter body [] pos) (Z2k wi g tb):=by
 intro pins s σ H D I h;refine wpAny_For (Zj (hi pins s σ H _ I h) λv s1 Y=>Zj Y λitv s2 P=>?_) O;obtain⟨it,fp,tn,J,H2,e,I2,T,K,f2,W,⟨m0,R⟩,turn⟩:=P;subst e;have l:∀ {H':Hp},(∀ b∈fp,H' b=none)->∀ b∈fp,Xu X pins H' b:=λhn b j=>⟨hn b j,(f2 b j).2⟩;refine codeAny_forLoop_any (λn s'=>∃ i c H',Inv X pins c H' s'/\tn i s'.heap/\(∀ b∈fp,H' b=none)/\W i n c H') ?_ m0 ⟨0,σ,H2,I2,K,λb j=>(f2 b j).1,R⟩;rintro n s3 ⟨i,p,H3,I3,t,z,S⟩;rcases turn i n p H3 S with⟨stop,qn⟩|⟨go,N,hN,step⟩;refine wpAny_passesOwn B (Zj (T.done X rfl rfl rfl L i pins s3 p H3 X.xe I3 (l z) t stop) λr s4 ⟨hr,I4⟩=>?_)
 subst hr;exact wpAny_execs_nil ⟨p,H3,I4,qn⟩
 · refine wpAny_passesOwn B (Zj (T.item X rfl rfl rfl L i pins s3 p H3 X.xe I3 (l z) t go) λr s4 ⟨u,hr,h4⟩=>?_)
   subst hr;refine wpAny_passesOwn B (Zj h4 λ_ s5 E=>?_);obtain⟨x,H5,I5,Z,y5,q,G⟩:=E;have I5':=I5.pinned (l G) (T.obj _ _ q);refine wpAny_passesOwn B (Zj (Q _ s5 p H5 x u _ I5' Z (step x H5 y5)) λ_ s6 E=>?_);obtain⟨C,H6,I6,q6⟩:=E;refine wpAny_passesOwn B (Zj (j _ s6 C H6 _ I6 q6) λf F q7=>?_);have again:∀ {a:St}{H7:Hp},Inv X (pins ++ uQ fp s5.heap) a H7 F->N a H7->∃ m,m<n/\∃ i c H',Inv X pins c H' F/\tn i F.heap/\(∀ b∈fp,H' b=none)/\W i m c H':=λ{a H7} I7 y=>by
    obtain⟨M,hm,w7⟩:=hN a H7 y;refine⟨M,hm,i+1,a,H7,I7.QG,T.keep _ _ _ q λb j o e=>(I7.pin (b,o) (Z33 _ (Z33 _ (Y5 j e)))).1,λb j=>?_,w7⟩;obtain⟨o,e,d⟩:=T.obj _ _ q b j;exact (I7.pin (b,o) (Z33 _ (Z33 _ (Y5 j e)))).2.1
   cases f with
   | next=>obtain⟨a,H7,I7,y⟩:=q7;exact again I7 y
   | cont=>obtain⟨a,H7,I7,y⟩:=q7;exact again I7 y
   | brk=>obtain⟨a,H7,I7,q7⟩:=q7;exact⟨a,H7,I7.QG,q7⟩
   | ret v=>obtain⟨U,a,H7,I7,r7,q7⟩:=q7;exact⟨U,a,H7,I7.QG,r7,q7⟩
def Qx{xs:List V}{g:TG}{tb:TS}{D:Ends}(Pv:Nat->St->Hp->Prop)(h0:Pv 0 σ H)(j:∀ i σ H,i<=xs.length->Pv i σ H->zN K H a xs)(h:∀ i x σ H,xs[i]?=some x->Pv i σ H->g x σ H λb H2=>tb { D with nx:=Pv (i+1),ct:=Pv (i+1),bk:=D.nx } b H2)(hd:∀ σ H,Pv xs.length σ H->D.nx σ H) :
 ∃ W:Nat->Nat->St->Hp->Prop,(∃ m,W 0 m σ H)/\∀ i m σ H,W i m σ H->
   ((Itl K a).stop i H/\D.nx σ H)\/((Itl K a).go i H/\∃ N:St->Hp->Prop,(∀ c H',N c H'->∃ d,d<m/\W (i+1) d c H')/\∀ x H',(Itl K a).yld i H x H'->g x σ H' λb H2=>tb { D with nx:=N,ct:=N,bk:=D.nx } b H2):=by
 refine⟨λi m σ H=>m=xs.length - i/\i<=xs.length/\Pv i σ H,⟨xs.length,05,Z15 _,h0⟩,?_⟩;rintro i m σ H ⟨rfl,hi,p⟩;have q:=j i σ H hi p;by_cases hlt:i<xs.length;refine .inr ⟨⟨xs,xs[i],q,by simp[hlt]⟩,Pv (i+1),λc H' f=>⟨xs.length - (i+1),00,rfl,hlt,f⟩,λx H' y=>?_⟩;obtain⟨e,y⟩:=y;subst e;exact h i x σ _ (y xs q) p;have e:i=xs.length:=00
 subst e;exact .inl ⟨⟨xs,q,Z02 _⟩,hd σ H p⟩
def z9I{xs:List V}{g:TG}{tb:TS}{D:Ends}(Pv:Nat->St->Hp->Prop)(h0:Pv 0 σ H)(j:∀ i σ H,i<=xs.length->Pv i σ H->zR K H a xs)(h:∀ i x σ H,xs[i]?=some x->Pv i σ H->g x σ H λb H2=>tb { D with nx:=Pv (i+1),ct:=Pv (i+1),bk:=D.nx } b H2)(hd:∀ σ H,Pv xs.length σ H->D.nx σ H) :
 ∃ W:Nat->Nat->St->Hp->Prop,(∃ m,W 0 m σ H)/\∀ i m σ H,W i m σ H->
   ((Itt K a).stop i H/\D.nx σ H)\/((Itt K a).go i H/\∃ N:St->Hp->Prop,(∀ c H',N c H'->∃ d,d<m/\W (i+1) d c H')/\∀ x H',(Itt K a).yld i H x H'->g x σ H' λb H2=>tb { D with nx:=N,ct:=N,bk:=D.nx } b H2):=by
 refine⟨λi m σ H=>m=xs.length - i/\i<=xs.length/\Pv i σ H,⟨xs.length,05,Z15 _,h0⟩,?_⟩;rintro i m σ H ⟨rfl,hi,p⟩;have q:=j i σ H hi p;by_cases hlt:i<xs.length;refine .inr ⟨⟨xs,xs[i],q,by simp[hlt]⟩,Pv (i+1),λc H' f=>⟨xs.length - (i+1),00,rfl,hlt,f⟩,λx H' y=>?_⟩;obtain⟨e,y⟩:=y;subst e;exact h i x σ _ (y xs q) p;have e:i=xs.length:=00
 subst e;exact .inl ⟨⟨xs,q,Z02 _⟩,hd σ H p⟩
def YE{lo:Int}{g:TG}{tb:TS}{D:Ends}(Pv:Nat->St->Hp->Prop)(h0:Pv 0 σ H)(f:∀ i σ H,i<n->Pv i σ H->g (.int (lo+i)) σ H λa H2=>tb { D with nx:=Pv (i+1),ct:=Pv (i+1),bk:=D.nx } a H2)(hd:∀ σ H,Pv n σ H->D.nx σ H) :
 ∃ W:Nat->Nat->St->Hp->Prop,(∃ m,W 0 m σ H)/\∀ i m σ H,W i m σ H->
   ((Itr lo n).stop i H/\D.nx σ H)\/((Itr lo n).go i H/\∃ N:St->Hp->Prop,(∀ b H',N b H'->∃ c,c<m/\W (i+1) c b H')/\∀ x H',(Itr lo n).yld i H x H'->g x σ H' λa H2=>tb { D with nx:=N,ct:=N,bk:=D.nx } a H2):=by
 refine⟨λi m σ H=>m=n - i/\i<=n/\Pv i σ H,⟨n,05,Z15 _,h0⟩,?_⟩;rintro i m σ H ⟨rfl,hi,p⟩;by_cases hlt:i<n;refine .inr ⟨hlt,Pv (i+1),λb H' d=>⟨n - (i+1),00,rfl,hlt,d⟩,λx H' y=>?_⟩;obtain⟨e,y⟩:=y;subst e y;exact f i σ _ hlt p;have e:i=n:=00
 subst e;exact .inl ⟨Z02 _,hd σ H p⟩
def z8V(Pv:St->Hp->Prop)(μ:St->Hp->Nat)(h0:Pv σ H)(f:∀ σ H,Pv σ H->c σ H λb H1=>if b=true then tb { D with nx:=λa H'=>Pv a H'/\μ a H'<μ σ H,ct:=λa H'=>Pv a H'/\μ a H'<μ σ H,bk:=D.nx } σ H1 else D.nx σ H1)(mono:∀ σ H Q Q',(∀ b H1,Q b H1->Q' b H1)->c σ H Q->c σ H Q'):Jx c tb D σ H:=by
 refine⟨λm σ H=>m=μ σ H/\Pv σ H,⟨_,rfl,h0⟩,?_⟩;rintro m σ H ⟨rfl,p⟩;refine mono σ H _ _ (λb H1 q=>?_) (f σ H p);cases b with
 | true=>exact⟨_,λa H' ⟨d,l⟩=>⟨_,l,rfl,d⟩,q⟩
 | false=>exact q
noncomputable abbrev R2:=V->V->Hp->VK->Prop
noncomputable def YD(X:Cx)(f:Value->Value->Sem Value)(r:R2):Prop :=
 ∀ (pins:List 014) (s:Shared) (σ:St) (H:Hp) (x y:V) (v u:Value) (Q:VK),Inv X pins σ H s->RelV x v->RelV y u->r x y H Q->
   wpAny 06 X.A (f v u) (EP X pins σ Q) X.xe s
noncomputable def UnR(X:Cx)(f:Value->Sem Value)(r:V->Hp->VK->Prop):Prop :=
 ∀ (pins:List 014) (s:Shared) (σ:St) (H:Hp) (x:V) (v:Value) (Q:VK),Inv X pins σ H s->RelV x v->r x H Q->
   wpAny 06 X.A (f v) (EP X pins σ Q) X.xe s
noncomputable def ZE(X:Cx)(f:Value)(r:List V->Hp->VK->Prop):Prop :=
 ∀ (pins:List 014) (s:Shared) (σ:St) (H:Hp) (xs:List V) (us:List Value) (Q:VK),Inv X pins σ H s->Vals xs us->r xs H Q->
   wpAny 06 X.A (call f us) (EP X pins σ Q) X.xe s
noncomputable def Z6k(X:Cx)(r:V->Hp->(Bool->Hp->Prop)->Prop):Prop :=
 ∀ (pins:List 014) (s:Shared) (σ:St) (H:Hp) (x:V) (v:Value) (Q:Bool->Hp->Prop),Inv X pins σ H s->RelV x v->r x H Q->
   wpAny 06 X.A (truthy v) (TP X pins σ Q) X.xe s
noncomputable def tOp(r:R2)(a tb:TE):TE:=λσ H Q=>a σ H λx H1=>tb σ H1 λy H2=>r x y H2 Q
noncomputable def tUn(r:V->Hp->VK->Prop)(a:TE):TE:=λσ H Q=>a σ H λx H1=>r x H1 Q
noncomputable def rI(C:Int->Int->Prop)(g:Int->Int->V):R2:=λx y H Q=>∃ i j,x=.int i/\y=.int j/\C i j/\Q (g i j) H
noncomputable def rI0(g:Int->Int->V):R2:=λx y H Q=>∃ i j,x=.int i/\y=.int j/\Q (g i j) H
noncomputable def rU(g:Int->V):V->Hp->VK->Prop:=λx H Q=>∃ i,x=.int i/\Q (g i) H
def Z3G{X:Cx}{a b:Expr}{j tb:TE}(ha:PE X a j)(n:PE X b tb){pins:List 014}{s:Shared}{σ:St}{H:Hp}{R:V->V->Hp->Prop}(I:Inv X pins σ H s)
 (h:j σ H λx H1=>tb σ H1 λy H2=>R x y H2) {Q:Value->Shared->Prop}{f:Value->Value->Sem Value}
 (hf:∀ v u s2 x y H2,Inv X pins σ H2 s2->RelV x v->RelV y u->R x y H2->wpAny 06 X.A (f v u) Q X.xe s2) :
 wpAny 06 X.A (eval a X.env) (λv c=>wpAny 06 X.A (eval b X.env) (λu d=>wpAny 06 X.A (f v u) Q X.xe d) X.xe c) X.xe s:=by
 refine Zj (ha pins s σ H _ I h) λv s1 i=>?_;obtain⟨x,H1,I1,l,q1⟩:=i;refine Zj (n pins s1 σ H1 _ I1 q1) λu s2 i=>?_;obtain⟨y,H2,I2,m,q2⟩:=i;exact hf v u s2 x y H2 I2 l m q2
def Zr{pos:Pos}(f:YD X (binaryOp op) r)(ha:PE X a ta)(i:PE X b tb):PE X (.BinOp a op b pos) (tOp r ta tb):=by
 intro pins s σ H Q I h;exact wpAny_BinOp (Z3G ha i I h λv u s2 x y H2 I2 c d q=>f pins s2 σ H2 x y v u Q I2 c d q)
def z4o{pos:Pos}(c:UnR X (unaryOp op) r)(ha:PE X a ta):PE X (.UnaryOp op a pos) (tUn r ta):=by
 intro pins s σ H Q I h;exact UnaryOp_ (Zj (ha pins s σ H _ I h) λv s1 ⟨x,H1,I1,b,q1⟩=>c pins s1 σ H1 x v Q I1 b q1)
def opI{g:Int->Int->Int}(rule:∀ (i j:Int) (t u:Tok) (s:Shared) (Q:Value->Shared->Prop) (E:Value->Shared->Prop),C i j->Q (.int (g i j) s.toks) { s with toks:=s.toks+1 }->wpAny 06 X.A (f (.int i t) (.int j u)) Q E s) :
 YD X f (rI C λi j=>.int (g i j)):=by
 intro pins s σ H x y v u Q I a b h;obtain⟨i,j,rfl,rfl,c,q⟩:=h;obtain⟨t,rfl⟩:=a;obtain⟨t',rfl⟩:=b;exact rule i j t t' s _ _ c ⟨.int (g i j),H,I.tok _,⟨_,rfl⟩,q⟩
def Z3T{g:Int->Int->Int}(rule:∀ (i j:Int) (t u:Tok) (s:Shared) (Q:Value->Shared->Prop) (E:Value->Shared->Prop),Q (.int (g i j) s.toks) { s with toks:=s.toks+1 }->wpAny 06 X.A (f (.int i t) (.int j u)) Q E s) :
 YD X f (rI0 λi j=>.int (g i j)):=by
 intro pins s σ H x y v u Q I a b h;obtain⟨i,j,rfl,rfl,q⟩:=h;obtain⟨t,rfl⟩:=a;obtain⟨t',rfl⟩:=b;exact rule i j t t' s _ _ ⟨.int (g i j),H,I.tok _,⟨_,rfl⟩,q⟩
def z9K{g:Int->Int->Bool}(rule:∀ (i j:Int) (t u:Tok) (s:Shared) (Q:Value->Shared->Prop) (E:Value->Shared->Prop),Q (.bool (g i j)) s->wpAny 06 X.A (f (.int i t) (.int j u)) Q E s) :
 YD X f (rI0 λi j=>.bl (g i j)):=by
 intro pins s σ H x y v u Q I a b h;obtain⟨i,j,rfl,rfl,q⟩:=h;obtain⟨t,rfl⟩:=a;obtain⟨t',rfl⟩:=b;exact rule i j t t' s _ _ ⟨.bl (g i j),H,I,rfl,q⟩
noncomputable def Z5E(i j:Int):Prop:=0<j/\j<1073741824
noncomputable def Z5T(i j:Int):Prop:=0<=j/\j<=1000000/\i.natAbs<2 ^ 64
noncomputable def Z3J(i j:Int):Prop:=(-(2 ^ 64)<i/\i<2 ^ 64)\/(-(2 ^ 64)<j/\j<2 ^ 64)
def Z3J.ok(h:Z3J i j):IntMulOk i j:=by
 rcases h with⟨h1,h2⟩|⟨h1,h2⟩;exact .of_left (intBits_le_64 h1 h2);exact .of_right (intBits_le_64 h1 h2)
def ZA:YD X (binaryOp .Add) (rI0 λi j=>.int (i+j)):=Z3T λ_ _ _ _ _ _ _ q=>add_int q
def vQ:YD X (binaryOp .Sub) (rI0 λi j=>.int (i - j)):=Z3T λ_ _ _ _ _ _ _ q=>sub_int q
def z8O:YD X (binaryOp .Mult) (rI Z3J λi j=>.int (i * j)):=opI λ_ _ _ _ _ _ _ a q=>mul_int q a.ok
def Z0q:YD X (binaryOp .FloorDiv) (rI Z5E λi j=>.int (i / j)):=opI λi j _ _ _ _ _ a q=>by
 have b:(0:Int)<j:=a.1;have c:j<1073741824:=a.2;exact floordiv_int 00 (by rw[Z36 i 00];exact q) (.inl (PyProof.noPylong_small 00))
def Y6:YD X (binaryOp .Mod) (rI (λ_ j=>0<j) λi j=>.int (i % j)):=opI λi j _ _ _ _ _ a q=>by
 have b:(0:Int)<j:=a;exact mod_int' 00 (by rw[Int.fmod_eq_emod_of_nonneg i 00];exact q)
def Ui:YD X (binaryOp .Pow) (rI Z5T λi j=>.int (i ^ j.toNat)):=opI λ_ _ _ _ _ _ _ a q=>pow_int_small a.1 a.2.1 a.2.2 q
def unI{g:Int->Int}(rule:∀ (i:Int) (t:Tok) (s:Shared) (Q:Value->Shared->Prop) (E:Value->Shared->Prop),Q (.int (g i) s.toks) { s with toks:=s.toks+1 }->wpAny 06 X.A (f (.int i t)) Q E s) :
 UnR X f (rU λi=>.int (g i)):=by
 intro pins s σ H x v Q I a h;obtain⟨i,rfl,q⟩:=h;obtain⟨t,rfl⟩:=a;exact rule i t s _ _ ⟨.int (g i),H,I.tok _,⟨_,rfl⟩,q⟩
def Ji:UnR X (unaryOp .USub) (rU λi=>.int (-i)):=unI λ_ _ _ _ _ q=>neg_int q
noncomputable def Z4m:V->V->Bool
 | .Zn,.Zn=>true | .Zn,.int _=>true | .int _,.Zn=>true | .Zn,.bl _=>true | .bl _,.Zn=>true | .Zn,.str _=>true | .str _,.Zn=>true
 | .int _,.int _=>true | .bl _,.bl _=>true | .str _,.str _=>true | .byt _,.byt _=>true
 | .int _,.str _=>true | .str _,.int _=>true | .bl _,.str _=>true | .str _,.bl _=>true
 | _,_=>false
noncomputable def rEq:R2:=λx y H Q=>Z4m x y=true/\Q (.bl (decide (x=y))) H
noncomputable def rNe:R2:=λx y H Q=>Z4m x y=true/\Q (.bl (!decide (x=y))) H
def z4i:decide (V.int i=V.int j)=(i == j):=by
 rw[Bool.eq_iff_iff];simp
def z8I:decide (V.bl i=V.bl j)=(i == j):=by
 rw[Bool.eq_iff_iff];simp
def z4B:decide (V.str i=V.str j)=(i == j):=by
 rw[Bool.eq_iff_iff];simp
def z4O:decide (V.byt i=V.byt j)=(i.toList == j.toList):=by
 rw[Bool.eq_iff_iff];cases i;cases j;simp
def zZ{σ:St}{k:Bool}(I:Inv X pins σ H s)(q:Q (.bl k) H)(e:k=k'):EP X pins σ Q (.bool k') s:=by
 subst e;exact⟨.bl k,H,I,rfl,q⟩
def Ze:YD X (compareOp .Eq) rEq:=by
 intro pins s σ H x y v u Q I c a h;obtain⟨b,q⟩:=h;cases x with
 | Zn =>
   cases c;cases y with
   | Zn=>cases a;exact PySem.EqNone.eq_none_none (zZ I q 05)
   | bl j=>cases a;exact PySem.EqNone.eq_none_bool (zZ I q 05)
   | int j=>obtain⟨t',rfl⟩:=a;exact PySem.EqNone.eq_none_int (zZ I q 05)
   | str j=>obtain⟨t',rfl⟩:=a;exact PySem.EqNone.eq_none_str (zZ I q 05)
   | _=>exact absurd (show false=true from b) Z0d
 | bl i =>
   cases c;cases y with
   | Zn=>cases a;exact PySem.EqNone.eq_bool_none (zZ I q 05)
   | bl j=>cases a;exact eq_bool (zZ I q z8I)
   | str j=>obtain⟨t',rfl⟩:=a;exact PySem.EqMixed.eq_bool_str (zZ I q 05)
   | _=>exact absurd (show false=true from b) Z0d
 | int i =>
   obtain⟨t,rfl⟩:=c;cases y with
   | Zn=>cases a;exact PySem.EqNone.eq_int_none (zZ I q 05)
   | int j=>obtain⟨t',rfl⟩:=a;exact eq_int (zZ I q z4i)
   | str j=>obtain⟨t',rfl⟩:=a;exact PySem.EqMixed.eq_int_str (zZ I q 05)
   | _=>exact absurd (show false=true from b) Z0d
 | str i =>
   obtain⟨t,rfl⟩:=c;cases y with
   | Zn=>cases a;exact PySem.EqNone.eq_str_none (zZ I q 05)
   | bl j=>cases a;exact PySem.EqMixed.eq_str_bool (zZ I q 05)
   | int j=>obtain⟨t',rfl⟩:=a;exact PySem.EqMixed.eq_str_int (zZ I q 05)
   | str j=>obtain⟨t',rfl⟩:=a;exact eq_str (zZ I q z4B)
   | _=>exact absurd (show false=true from b) Z0d
 | byt i =>
   obtain⟨t,rfl⟩:=c;cases y with
   | byt j=>obtain⟨t',rfl⟩:=a;exact PySem.W.eq_bytes (zZ I q z4O)
   | _=>exact absurd (show false=true from b) Z0d
 | _=>cases y <;> exact absurd (show false=true from b) Z0d
def Qy:YD X (compareOp .NotEq) rNe:=by
 intro pins s σ H x y v u Q I c a h;obtain⟨b,q⟩:=h;cases x with
 | Zn =>
   cases c;cases y with
   | Zn=>cases a;exact PySem.EqNone.ne_none_none (zZ I q 05)
   | bl j=>cases a;exact PySem.EqNone.ne_none_bool (zZ I q 05)
   | int j=>obtain⟨t',rfl⟩:=a;exact PySem.EqNone.ne_none_int (zZ I q 05)
   | str j=>obtain⟨t',rfl⟩:=a;exact PySem.EqNone.ne_none_str (zZ I q 05)
   | _=>exact absurd (show false=true from b) Z0d
 | bl i =>
   cases c;cases y with
   | Zn=>cases a;exact PySem.EqNone.ne_bool_none (zZ I q 05)
   | bl j=>cases a;exact ne_bool (zZ I q (congrArg not z8I))
   | str j=>obtain⟨t',rfl⟩:=a;exact PySem.EqMixed.ne_bool_str (zZ I q 05)
   | _=>exact absurd (show false=true from b) Z0d
 | int i =>
   obtain⟨t,rfl⟩:=c;cases y with
   | Zn=>cases a;exact PySem.EqNone.ne_int_none (zZ I q 05)
   | int j=>obtain⟨t',rfl⟩:=a;exact ne_int (zZ I q (congrArg not z4i))
   | str j=>obtain⟨t',rfl⟩:=a;exact PySem.EqMixed.ne_int_str (zZ I q 05)
   | _=>exact absurd (show false=true from b) Z0d
 | str i =>
   obtain⟨t,rfl⟩:=c;cases y with
   | Zn=>cases a;exact PySem.EqNone.ne_str_none (zZ I q 05)
   | bl j=>cases a;exact PySem.EqMixed.ne_str_bool (zZ I q 05)
   | int j=>obtain⟨t',rfl⟩:=a;exact PySem.EqMixed.ne_str_int (zZ I q 05)
   | str j=>obtain⟨t',rfl⟩:=a;exact ne_str (zZ I q (congrArg not z4B))
   | _=>exact absurd (show false=true from b) Z0d
 | byt i =>
   obtain⟨t,rfl⟩:=c;cases y with
   | byt j=>obtain⟨t',rfl⟩:=a;exact PySem.W.ne_bytes (zZ I q (congrArg not z4O))
   | _=>exact absurd (show false=true from b) Z0d
 | _=>cases y <;> exact absurd (show false=true from b) Z0d
def uH:YD X (compareOp .Lt) (rI0 λi j=>.bl (decide (i<j))):=z9K λ_ _ _ _ _ _ _ q=>lt_int q
def z0u:YD X (compareOp .LtE) (rI0 λi j=>.bl (decide (i<=j))):=z9K λ_ _ _ _ _ _ _ q=>le_int q
def z1e:YD X (compareOp .Gt) (rI0 λi j=>.bl (decide (j<i))):=z9K λ_ _ _ _ _ _ _ q=>gt_int q
def QN:YD X (compareOp .GtE) (rI0 λi j=>.bl (decide (j<=i))):=z9K λ_ _ _ _ _ _ _ q=>ge_int q
def z5T:YD X (compareOp .In) (λx y H Q=>∃ i j,x=.str i/\y=.str j/\Q (.bl (!(Builtin.Str.occurrences j i 0 j.length 1).isEmpty)) H):=by
 intro pins s σ H x y v u Q I a b h;obtain⟨i,j,rfl,rfl,q⟩:=h;obtain⟨t,rfl⟩:=a;obtain⟨t',rfl⟩:=b;exact in_str (zZ I q rfl)
def z2L:YD X (compareOp .Is) (λx y H Q=>y=.Zn/\Q (.bl (decide (x=.Zn))) H):=by
 intro pins s σ H x y v u Q I a b h;obtain⟨rfl,q⟩:=h;cases b;refine is_none_gen (zZ I q ?_);cases x <;> first
  | (cases a;rfl)
  | (obtain⟨t,rfl⟩:=a;rfl)
def Yc(b:Expr)(h:op≠.In:=by decide)(d:op≠.NotIn:=by decide):behindInMarks op b=false:=by
 have a:(op == CmpOp.In)=false:=by cases op <;> first | rfl | exact absurd rfl h
 have c:(op == CmpOp.NotIn)=false:=by cases op <;> first | rfl | exact absurd rfl d
 cases b <;> simp[behindInMarks,a,c]
def z4w{pos:Pos}(f:YD X (compareOp op) r)(ha:PE X a ta)(i:PE X b tb)(hm:behindInMarks op b=false):PE X (.Compare a [op] [b] pos) (tOp r ta tb):=by
 intro pins s σ H Q I h;exact wpAny_Compare1 (Z3G ha i I h λv u s2 x y H2 I2 c d q=>f pins s2 σ H2 x y v u Q I2 c d q) hm
noncomputable def z3W(t:TE):TT:=λσ H Q=>t σ H λx H'=>∃ k,x=.bl k/\Q k H'
def yW{pos:Pos}(i:YD X (compareOp op) r)(ha:PE X a ta)(l:PE X b tb)(hm:behindInMarks op b=false):PT X (.Compare a [op] [b] pos) (z3W (tOp r ta tb)):=by
 intro pins s σ H Q I h;refine wpAny_isTrue_Compare1 (Zj (ha pins s σ H _ I h) λv s1 ⟨x,H1,I1,d,q1⟩=>Zj (l pins s1 σ H1 _ I1 q1) λu s2 ⟨y,H2,I2,f,q2⟩ =>
  Zj (i pins s2 σ H2 x y v u _ I2 d f q2) λc s3 ⟨z,H3,I3,j,k,e,q3⟩=>?_) hm
 subst e;cases j;exact wpAny_truthy_bool ⟨H3,I3,q3⟩
noncomputable def Z2o(r a:R2)(d tb c:TE):TE:=λσ H Q=>d σ H λx H1=>tb σ H1 λy H2=>r x y H2 λz H3=>∃ k,z=.bl k/\
 (if k=true then c σ H3 λb H4=>a y b H4 Q else Q (.bl false) H3)
def Qw{pos:Pos}(p:YD X (compareOp op) r)(f:YD X (compareOp op') r')(ha:PE X a ta)(n:PE X b tb)(t:PE X c tc)(hm:lastMarks [op,op'] [b,c]=false:=by with_unfolding_all rfl):PE X (.Compare a [op,op'] [b,c] pos) (Z2o r r' ta tb tc):=by
 intro pins s σ H Q I h;refine Compare_chain (Zj (ha pins s σ H _ I h) λv s1 ⟨x,H1,I1,l,q1⟩=>chain_link (Zj (n pins s1 σ H1 _ I1 q1) λu s2 ⟨y,H2,I2,i,q2⟩ =>
  Zj (p pins s2 σ H2 x y v u _ I2 l i q2) λd s3 ⟨z,H3,I3,q,k,e,q3⟩=>?_)) hm
 subst e;cases q;refine wpAny_truthy_bool ?_;cases k with
 | false=>exact ite_ff ⟨.bl false,H3,I3,rfl,q3⟩
 | true=>exact ite_tt (chain_last (Zj (t pins s3 σ H3 _ I3 q3) λo s4 ⟨m,H4,I4,j,q4⟩=>f pins s4 σ H4 y m u o Q I4 i j q4))
noncomputable def Z2K(K:FR)(x:V)(H:Hp)(k:Bool):Prop :=
 match x with
 | .Zn=>k=false
 | .bl b=>k=b
 | .int i=>k=(i != 0)
 | .str y=>y.length<=sizeLine/\k=((y.length:Int) != 0)
 | .byt y=>y.size<=sizeLine/\k=((y.size:Int) != 0)
 | .ref p=>(∃ xs,zN K H p xs/\k=!xs.isEmpty)\/(∃ xs,zR K H p xs/\k=!xs.isEmpty)\/∃ kvs,H p=some (.dK kvs)/\k=!kvs.isEmpty
 | _=>False
def z2R{κ:Type}{kvs:List (κ×V)}{vs:List (κ×Value)}(r:KV kvs vs):(!vs.isEmpty)=!kvs.isEmpty:=by
 cases r <;> rfl
def Ug(r:Vals xs its):(!its.toArray.isEmpty)=!xs.isEmpty:=by
 cases r <;> simp
def vz:(sizeLine:Nat)<2 ^ 63:=by rw[sizeLine_eq];decide
def Z3t:Z6k X (λx H Q=>∃ k,Z2K X.K x H k/\Q k H):=by
 intro pins s σ H x v Q I c h;obtain⟨k,e,q⟩:=h;have n:=vz;have l:sizeLine=16777216:=sizeLine_eq;cases x with
 | Zn =>
   cases c;have a:k=false:=e;subst a;exact truthy_none ⟨H,I,q⟩
 | bl b =>
   cases c;have a:k=b:=e;subst a;exact wpAny_truthy_bool ⟨H,I,q⟩
 | int i =>
   obtain⟨t,rfl⟩:=c;have a:k=(i != 0):=e;subst a;exact PySem.P.truthy_int ⟨H,I,q⟩
 | str y =>
   obtain⟨t,rfl⟩:=c;obtain⟨j,a⟩:y.length<=sizeLine/\k=((y.length:Int) != 0):=e;subst a;exact PySem.P.truthy_str 00 ⟨H,I.tok _,q⟩
 | byt y =>
   obtain⟨t,rfl⟩:=c;obtain⟨j,a⟩:y.size<=sizeLine/\k=((y.size:Int) != 0):=e;subst a;exact PySem.W.truthy_bytes 00 ⟨H,I.tok _,q⟩
 | ref p =>
   cases c;have a:(∃ xs,zN X.K H p xs/\k=!xs.isEmpty)\/(∃ xs,zR X.K H p xs/\k=!xs.isEmpty)\/∃ kvs,H p=some (.dK kvs)/\k=!kvs.isEmpty:=e;rcases a with⟨xs,hx,a⟩|⟨xs,hx,a⟩|⟨kvs,hx,a⟩;subst a;obtain⟨its,r,pl,d⟩:=I.list hx;have hlen:=r.length;exact wpAny_truthy_list pl.isList (by simp only[Z04];lia) ⟨H,I.tok _,by rw[Ug r];exact q⟩;subst a;obtain⟨its,r,pl,d⟩:=I.tuple hx;have hlen:=r.length;exact truthy_tuple pl (by simp only[Z04];lia) ⟨H,I.tok _,by rw[Ug r];exact q⟩;subst a;obtain⟨d,f,vs,r,m⟩:kvs.length<=sizeLine/\(p == sysModules)=false/\∃ vs,KV kvs vs/\s.heap.DictOf (Zz X.prog X.w) p vs:=I.hok p _ hx;have hlen:kvs.length=vs.length:=Paired.length r;exact wpAny_truthy_dict f m 00 ⟨H,I.tok _,by rw[z2R r];exact q⟩
 | _=>exact (show False from e).elim
def z7T(ha:PE X a ta)(he:∀ whole,isTrue a X.env whole=(do let v ←whole;standAt a.pos;holding [v] (truthy v))) :
 PT X a (λσ H Q=>ta σ H λx H'=>∃ k,Z2K X.K x H' k/\Q k H'):=by
 intro pins s σ H Q I h;exact isTrue_plain (Zj (ha pins s σ H _ I h) λv s1 ⟨x,H1,I1,b,q1⟩=>Z3t pins s1 σ H1 x v Q I1 b q1) (he _)
def Zd:YD X (binaryOp .Add) (λx y H Q=>∃ i j,x=.str i/\y=.str j/\i.length+j.length<=sizeLine/\Q (.str (i ++ j)) H):=by
 intro pins s σ H x y v u Q I a b h;obtain⟨i,j,rfl,rfl,c,q⟩:=h;obtain⟨t,rfl⟩:=a;obtain⟨t',rfl⟩:=b;exact add_str (λt' d=>⟨.str (i ++ j),H,I.tok _,⟨_,rfl⟩,q⟩) c
def vals1{x:V}(r:Vals [x] us):∃ u,us=[u]/\RelV x u:=by
 cases r with
 | cons r1 r2=>cases r2;exact⟨_,rfl,r1⟩
def vals2{x:V}(r:Vals [x,y] us):∃ u a,us=[u,a]/\RelV x u/\RelV y a:=by
 cases r with
 | cons r1 r2 =>
   cases r2 with
   | cons r3 r4=>cases r4;exact⟨_,_,rfl,r1,r3⟩
def Uk:ZE X (.builtin "abs") (λxs H Q=>∃ i,xs=[.int i]/\Q (.int (if i<0 then -i else i)) H):=by
 intro pins s σ H xs us Q I r h;obtain⟨i,rfl,q⟩:=h;obtain⟨u,rfl,t,rfl⟩:=vals1 r;exact call_abs_int λu a=>⟨.int (if i<0 then -i else i),H,I.tok _,⟨_,rfl⟩,q⟩
def vL(a:X.calm=true):ZE X (.builtin "max") (λxs H Q=>∃ i j,xs=[.int i,.int j]/\Q (.int (if j > i then j else i)) H):=by
 intro pins s σ H xs us Q I r h;obtain⟨i,j,rfl,q⟩:=h;obtain⟨u,b,rfl,⟨t,rfl⟩,⟨t',rfl⟩⟩:=vals2 r;refine max_two_ints (I.ok.hd a) λh' c k=>⟨_,H,I.kept k,?_,q⟩;by_cases hj:j > i;rw[if_pos hj,if_pos hj];exact⟨_,rfl⟩;rw[if_neg hj,if_neg hj];exact⟨_,rfl⟩
def vA(a:X.calm=true):ZE X (.builtin "min") (λxs H Q=>∃ i j,xs=[.int i,.int j]/\Q (.int (if j<i then j else i)) H):=by
 intro pins s σ H xs us Q I r h;obtain⟨i,j,rfl,q⟩:=h;obtain⟨u,b,rfl,⟨t,rfl⟩,⟨t',rfl⟩⟩:=vals2 r;refine min_two_ints (I.ok.hd a) λh' c k=>⟨_,H,I.kept k,?_,q⟩;by_cases hj:j<i;rw[if_pos hj,if_pos hj];exact⟨_,rfl⟩;rw[if_neg hj,if_neg hj];exact⟨_,rfl⟩
def YI:ZE X (.type "int") (λxs H Q=>(∃ i,xs=[.int i]/\Q (.int i) H)\/∃ k,xs=[.bl k]/\Q (.int (if k then 1 else 0)) H):=by
 intro pins s σ H xs us Q I r h;rcases h with⟨i,rfl,q⟩|⟨k,rfl,q⟩;obtain⟨u,rfl,t,rfl⟩:=vals1 r;exact call_int_int ⟨.int i,H,I,⟨_,rfl⟩,q⟩;obtain⟨u,rfl,a⟩:=vals1 r;cases a;exact call_int_bool ⟨.int (if k then 1 else 0),H,I.tok _,⟨_,rfl⟩,q⟩
def zQ:ZE X (.type "str") (λxs H Q=>∃ i,xs=[.int i]/\i.natAbs.log2<1920/\Q (.str (toString i)) H):=by
 intro pins s σ H xs us Q I r h;obtain⟨i,rfl,a,q⟩:=h;obtain⟨u,rfl,t,rfl⟩:=vals1 r;exact PySem.P.str_of_int a ⟨.str _,H,I.tok _,⟨_,rfl⟩,q⟩
structure z2X(h:Heap)(x dx C:Addr)(mA:SV):Prop where
 obj:h.get? x=some (PySem.W.instObj C dx)
 ns:h.Ns1 dx mA
 ne:dx≠x
def z6b{h:Heap}{dx:Addr}{mA:SV}(n:h.Ns1 dx mA):∃ od,h.get? dx=some od/\∀ name,PySem.W.lookIn name od=some (mA name):=by
 obtain⟨o,c,l,i,hd,j,_,hm⟩:=n;refine⟨o,i,λname=>?_⟩;have e:=hm name;unfold nsFind findBy at e;rw[← Array.find?_toList] at e;unfold PySem.W.lookIn;rw[hd];dsimp only;split;rename_i y q;rw[q] at e;exact congrArg some e;rename_i q;rw[q] at e;have a:c.toList.any (·.refKey)=false:=by
  rw[List.any_eq_false];intro y d;obtain⟨z,t,b⟩:=j y (Array.mem_toList_iff.mp d);simp[DictEntry.refKey,b]
 have f:¬ c.toList.any (·.refKey)=true:=by rw[a];exact Z0d
 rw[if_neg f];exact congrArg some e
def z2X.look{x:Addr}(I:z2X h x dx C mA):∃ od,PySem.W.InstAt h x (PySem.W.instObj C dx) C (some od)/\∀ name,PySem.W.lookIn name od=some (mA name) :=
 let ⟨od,ho,hl⟩:=z6b I.ns
 ⟨od,⟨I.obj,rfl,rfl,ho⟩,hl⟩
def get_map{x:Addr}(X:K.In s.heap)(I:z2X s.heap x dx C mA)(f:PySem.W.plainGet K C name=true)(d:PySem.W.hasDictIn K C=true)(ha:PySem.W.findIn K (.ref C) name=some none)(b:mA name=some v)(a:PySem.W.handedIn v=true)(h:Q v { s with toks:=s.toks+1 }) :
 wpAny 09 A (getAttr (.ref x) name expr) Q E s:=by
 obtain⟨od,J,c⟩:=I.look;exact PySem.W.get_value X J (PySem.W.plainGet_of f).1 (PySem.W.findObj_own d ha rfl (by rw[c,b])) a h
def z7d{x:Addr}(X:K.In s.heap)(I:z2X s.heap x dx C mA)(a:PySem.W.plainGet K C name=true)(hf:PySem.W.findIn K (.ref C) name=some (some 034))(d:PySem.W.isFn K 034=true)(b:mA name=none)(h:Q (.ref f,[.ref x]) s) :
 wpAny 09 A (getMethod (.ref x) name pl) Q E s:=by
 obtain⟨od,J,c⟩:=I.look;exact PySem.W.method_fn X J (PySem.W.plainGet_of a).1 (PySem.W.plainGet_of a).2 hf (beq_iff_eq.mp d) (by show (PySem.W.lookIn name od).map (·.isSome)=some false;rw[c,b];rfl) h
def Z0x{x:Addr}{ns:List Str}(X:K.In s.heap)(I:z2X s.heap x dx C mA)(n:PySem.W.findIn K (.ref C) "__setattr__"=some (some (.builtin "object.__setattr__")))(m:PySem.W.plainOver K C=true)(u:PySem.W.takerIn K C name=some none)(z:PySem.W.hasDictIn K C=true)(hw:PySem.Within mA ns)(hsz:ns.length<=sizeLine)(h:∀ h',z2X h' x dx C (λy=>if y=name then some v else mA y)->Heap.SameBut dx s.heap h'->Q () { s with heap:=h',toks:=s.toks+2 }) :
 wpAny 09 A (setAttr (.ref x) name v) Q E s:=by
 obtain⟨od,J,D⟩:=I.look;refine PySem.W.set_plain X J n (PySem.W.osa_open (s:={ s with toks:=s.toks+1 }) (r:=none) X J m u λb=>?_);obtain⟨cd,q,f⟩:=PySem.W.any_some z;have o:s.heap.get? x=some ⟨.ref C,some dx,.plain,#[]⟩:=I.obj;refine wpAny_bind (wpAny_pure (wpAny_bind (wpAny_bind (wpAny_loadPart o (wpAny_bind (PySem.W.Looks.here (s:={ s with toks:=s.toks+1 }) (PySem.W.looks_clsIn X q) ?_))))));rw[f];refine wpAny_pure (a:=some dx) (wpAny_bind (wpAny_pure (wpAny_bind ?_)));refine wpAny_nsSet1 (s:={ s with toks:=s.toks+1 }) I.ns λh' c d=>?_;obtain⟨B,p,t,i,l,j⟩:=c.count (PySem.Within.cons name v hw);refine wpAny_bind (wpAny_lookBehind i (by rw[l];exact pastItsLine_dict (Z0Y j (by rw[Z07];lia))) ?_);exact wpAny_pure (h _ ⟨(d.2 _ (Z32 I.ne)).trans I.obj,c,I.ne⟩ d)
def z9e(X:K.In s.heap)(hm:PySem.W.makesIn K C=true)(hi:PySem.W.findIn K (.ref C) "__init__"=some (some 034))(hf:PySem.W.typeIn K 034=some (.type "function"))(h:codeAny 09 (A.under (.builtin "type.__call__" ⟨.ref C :: vs,kw⟩)) (.call 034 ⟨.ref 021 :: vs,kw⟩) (PySem.W.InitBack 021 R)
  { s with heap:=(s.heap.push PySem.W.emptyDict).push (PySem.W.instObj C s.heap.objs.size) }) :
 codeAny 09 A (.call (.ref C) ⟨vs,kw⟩) R s:=by
 obtain⟨a,g,d,t,os⟩:=s;exact PySem.W.make_core (PySem.W.makes_of X hm) (PySem.W.looks_findIn X hi) (λself=>PySem.W.bind_fn X self hf) (.inl rfl) h
noncomputable def ya(f:Str)(v:V):List (Str×V)->List (Str×V)
 | []=>[(f,v)]
 | (g,x) :: r=>if g=f then (g,v) :: r else (g,x) :: ya f v r
theorem z8(f g:Str)(v:V):∀ fs:List (Str×V),(ya f v fs).lookup g=if g=f then some v else fs.lookup g
 | []=>by
   show List.lookup g [(f,v)]=_;by_cases h:g=f;have a:(g == f)=true:=beq_iff_eq.mpr h;simp only[List.lookup,a,if_pos h];have a:(g == f)=false:=beq_eq_false_iff_ne.mpr h;simp only[List.lookup,a,if_neg h]
 | (k,x) :: r=>by
   have b:=z8 f g v r;rw[show ya f v ((k,x) :: r)=(if k=f then (k,v) :: r else (k,x) :: ya f v r) from rfl];by_cases hk:k=f;rw[if_pos hk];by_cases h:g=k;have a:(g == k)=true:=beq_iff_eq.mpr h;simp only[List.lookup,a,if_pos (h.trans hk)];have a:(g == k)=false:=beq_eq_false_iff_ne.mpr h;simp only[List.lookup,a,if_neg (λe:g=f=>h (e.trans hk.symm))];rw[if_neg hk];by_cases h:g=k;have a:(g == k)=true:=beq_iff_eq.mpr h;simp only[List.lookup,a,if_neg (λe:g=f=>hk (h.symm.trans e))];have a:(g == k)=false:=beq_eq_false_iff_ne.mpr h;simp only[List.lookup,a];exact b
theorem vH(f:Str)(v:V):∀ fs:List (Str×V),f∈(ya f v fs).map (·.1)/\∀ g,g∈fs.map (·.1)->g∈(ya f v fs).map (·.1)
 | []=>⟨by simp[ya],λg h=>by simp at h⟩
 | (k,x) :: r=>by
   obtain⟨i1,i2⟩:=vH f v r;rw[show ya f v ((k,x) :: r)=(if k=f then (k,v) :: r else (k,x) :: ya f v r) from rfl];by_cases hk:k=f;rw[if_pos hk];subst hk;exact⟨05,λg h=>by simpa using h⟩;rw[if_neg hk];refine⟨?_,λg h=>?_⟩;rw[Z1d];exact Z06 _ i1;rw[Z1d] at h ⊢;rcases Z08.mp h with e | e;exact Z08.mpr (.inl e);exact Z06 _ (i2 g e)
theorem Ve(f:Str)(v:V):∀ fs:List (Str×V),(ya f v fs).length<=fs.length+1
 | []=>by simp[ya]
 | (k,x) :: r=>by
   have a:=Ve f v r;rw[show ya f v ((k,x) :: r)=(if k=f then (k,v) :: r else (k,x) :: ya f v r) from rfl];by_cases hk:k=f;rw[if_pos hk,Z07,Z07];lia;rw[if_neg hk,Z07,Z07];lia
def Xo.some_of(r:Xo (some v) o):∃ u,o=some u/\RelV v u:=by
 cases o with
 | none=>exact (show False from r).elim
 | some u=>exact⟨u,rfl,r⟩
def Xo.none_of(r:Xo none o):o=none:=by
 cases o with
 | none=>rfl
 | some u=>exact (show False from r).elim
def z5O(r:RelV v u):PySem.W.handedIn u=true:=by
 cases v with
 | Zn=>cases (show u=Value.none from r);rfl
 | bl b=>cases (show u=Value.bool b from r);rfl
 | int i=>obtain⟨t,e⟩:=(show ∃ t,u=Value.int i t from r);cases e;rfl
 | str x=>obtain⟨t,e⟩:=(show ∃ t,u=Value.str x t from r);cases e;rfl
 | byt b=>obtain⟨t,e⟩:=(show ∃ t,u=Value.bytes b t from r);cases e;rfl
 | flt b=>obtain⟨t,e⟩:=(show ∃ t,u=Value.float b t from r);cases e;rfl
 | ref a=>cases (show u=Value.ref a from r);rfl
 | ty n=>cases (show u=Value.type n from r);rfl
def VN{fs:List (Str×V)}(hok:xZ P w H h)(e:H a=some (.ins C dx fs)):∃ mA,z2X h a dx C mA/\(∀ f,Xo (fs.lookup f) (mA f))/\PySem.Within mA (fs.map (·.1))/\fs.length<=1000/\H dx=some (.own a):=by
 obtain⟨d,z,ne,ob,mA,n,r,q⟩:=(show Zg P w H h a (.ins C dx fs) from hok a _ e);exact⟨mA,⟨ob,n,ne⟩,r,q,z,d⟩
structure Cls(K:FR)(C:Addr):Prop where
 pg:PySem.W.plainGet K C Str.empty=true
 hd:PySem.W.hasDictIn K C=true
 po:PySem.W.plainOver K C=true
 sa:PySem.W.findIn K (.ref C) "__setattr__"=some (some (.builtin "object.__setattr__"))
def Cls.get(c:Cls K C)(f:Str):PySem.W.plainGet K C f=true:=c.pg
noncomputable def Yy(K:FR)(C:Addr)(f:Str):Prop:=PySem.W.findIn K (.ref C) f=some none
def Yy.Z4u(n:Yy K C f):PySem.W.takerIn K C f=some none:=by
 unfold PySem.W.takerIn;rw[show PySem.W.findIn K (.ref C) f=some none from n];rfl
structure Meth(K:FR)(C:Addr)(m:Str)(f:Addr):Prop where
 at_:PySem.W.findIn K (.ref C) m=some (some 034)
 fn:PySem.W.isFn K 034=true
 kp:PySem.W.keepIn K 034=true
def z1V{X:Cx}{σ:St}{fs:List (Str×V)}(I:Inv X pins σ H s)(e:H a=some (.ins C dx fs))(c:Cls X.K C)(n:Yy X.K C f)(l:fs.lookup f=some v)(h:∀ u s',Inv X pins σ H s'->RelV v u->Q u s'):wpAny 06 A (getAttr 027 f b) Q E s:=by
 obtain⟨mA,O,r,_,_,_⟩:=VN I.hok e;obtain⟨u,i,d⟩:=Xo.some_of (v:=v) (o:=mA f) (by rw[← l];exact r f);exact get_map I.XG O (c.get f) c.hd n i (z5O d) (h u _ (I.tok _) d)
def V4{X:Cx}{σ:St}{fs:List (Str×V)}{g:Addr}(I:Inv X pins σ H s)(e:H a=some (.ins C dx fs))(c:Cls X.K C)(k:Meth X.K C m g)(l:fs.lookup m=none)(h:Q (.ref g,[.ref a]) s):wpAny 06 A (getMethod 027 m pl) Q E s:=by
 obtain⟨mA,O,r,_,_,_⟩:=VN I.hok e;have hn:mA m=none:=Xo.none_of (by rw[← l];exact r m);exact z7d I.XG O (c.get m) k.at_ k.fn hn h
def z1X{X:Cx}{σ:St}{fs:List (Str×V)}(I:Inv X pins σ H s)(e:H a=some (.ins C dx fs))(c:Cls X.K C)(n:Yy X.K C f)(t:fs.length<1000)(j:RelV y u)(h:∀ s',Inv X pins σ (upd H a (.ins C dx (ya f y fs))) s'->Q () s'):wpAny 06 A (setAttr 027 f u) Q E s:=by
 obtain⟨mA,O,r,i,_,d⟩:=VN I.hok e;have m:(fs.map (·.1)).length<=sizeLine:=by rw[ZB,sizeLine_eq];lia
 refine Z0x I.XG O c.sa c.po n.Z4u c.hd i m λh' O' sb=>h _ ?_;have hd:∃ o,h'.get? dx=some o:=let ⟨o,_,_,e',_⟩:=O'.ns;⟨o,e'⟩;refine I.write (x:=a) (e:=dx) (by rw[e];exact True.intro) (.inr d) (λb q p z=>(sb.2 b p).trans z) hd ?_;refine⟨by rw[zD O.ne];exact d,?_,O.ne,O'.obj,_,O'.ns,λg=>?_,λg l=>?_⟩;have:=Ve f y fs;lia;show Xo ((ya f y fs).lookup g) (if g=f then some u else mA g);rw[z8];by_cases q:g=f;rw[if_pos q,if_pos q];exact j;rw[if_neg q,if_neg q];exact r g;by_cases q:g=f;rw[q];exact (vH f y fs).1;refine (vH f y fs).2 g (i g λz=>l ?_);show (if g=f then some u else mA g)=none;rw[if_neg q];exact z
def Inv.made{σ:St}(I:Inv X pins σ H s):Inv X pins σ (upd (upd H s.heap.objs.size (.own 021)) 021 (.ins C s.heap.objs.size []))
 { s with heap:=(s.heap.push PySem.W.emptyDict).push (PySem.W.instObj C s.heap.objs.size) }:=by
 have c:(s.heap.push PySem.W.emptyDict).get? s.heap.objs.size=some PySem.W.emptyDict:=Z0r s.heap rfl;have d:((s.heap.push PySem.W.emptyDict).push (PySem.W.instObj C s.heap.objs.size)).get? 021=some (PySem.W.instObj C s.heap.objs.size):=by
  have:=Z0r (s.heap.push PySem.W.emptyDict) (o:=PySem.W.instObj C s.heap.objs.size) rfl;rwa [Z5h] at this
 have h:(s.heap.push PySem.W.emptyDict).Ns s.heap.objs.size (λ_=>none):=⟨PySem.W.emptyDict,#[],_,c,rfl,(λe he=>absurd he 05),λ_=>rfl⟩;have I1:=I.laid (a:=s.heap.objs.size) (o:=.own 021) (h':=s.heap.push PySem.W.emptyDict) (t':=s.toks) (λb u q=>Z00 _ q) (Z02 _) ⟨_,c⟩;refine I1.laid (a:=s.heap.objs.size+1) (o:=.ins C s.heap.objs.size []) (t':=s.toks) (λb u q=>Z00 _ q) (Nat.le_of_eq (Z5h _ _)) ?_;have ne:s.heap.objs.size≠s.heap.objs.size+1:=Z14 (Nat.lt_succ_self _);refine⟨by rw[zD ne,zB],Z15 _,ne,d,λ_=>none,(Heap.Ns1.of_empty h).at λo q=>Z00 _ q,λ_=>True.intro,λy f=>absurd rfl f⟩
def Z0g{e:Expr}{pos:Pos}(b:attributeBase e f env (eval e env)=eval e env)(h:wpAny 09 A (eval e env) (λo a=>wpAny 09 A (getAttr o f true) Q E a) E s):wpAny 09 A (eval (.Attribute e f pos) env) Q E s :=
 Attribute_any_ h (by rw[arm_eval_Attribute,b])
noncomputable def Z4C(K:FR)(b:TE)(f:Str):TE:=λσ H Q=>b σ H λx H1=>∃ a C dx fs v,x=.ref a/\H1 a=some (.ins C dx fs)/\Cls K C/\Yy K C f/\fs.lookup f=some v/\Q v H1
noncomputable def Z5m(K:FR)(b tv:TE)(f:Str):TS:=λD σ H=>tv σ H λy H1=>b σ H1 λx H2=>∃ a C dx fs,x=.ref a/\H2 a=some (.ins C dx fs)/\Cls K C/\Yy K C f/\fs.length<1000/\
 D.nx σ (upd H2 a (.ins C dx (ya f y fs)))
def XS{e:Expr}{pos:Pos}(he:PE X e ta)(m:attributeBase e f X.env (eval e X.env)=eval e X.env):PE X (.Attribute e f pos) (Z4C X.K ta f):=by
 intro pins s σ H Q I h;refine Z0g m (Zj (he pins s σ H _ I h) λu s1 b=>?_);obtain⟨x,H1,I1,d,a,C,dx,fs,v,ex,j,c,n,l,q⟩:=b;subst ex;obtain rfl:u=Value.ref a:=d;exact z1V I1 j c n l λo s2 I2 i=>⟨v,H1,I2,i,q⟩
def Z2f{pos:Pos}{tv:TE}(ha:PE X o ta)(p:PE X value tv)(b:swapsWith value (some (.Attribute o f pos')) pos.line X.env=pure false):PS X (.Assign [.Attribute o f pos'] value pos) (Z5m X.K ta tv f):=by
 intro pins s σ H D I h;refine plainObj_wpAny_Assign_Attribute (Zj (p pins s σ H _ I h) λu s1 ⟨y,H1,I1,i,q⟩=>Zj (ha pins s1 σ H1 _ I1 q) λm s2 ⟨x,H2,I2,d,a,C,dx,fs,ex,j,c,n,l,q2⟩=>?_) b;subst ex;obtain rfl:m=Value.ref a:=d;exact z1X I2 j c n l i λs3 I3=>⟨σ,_,I3,q2⟩
inductive vm (K:FR) (H:Hp):V->Value->Prop where
 | Zn:vm K H .Zn (.type "NoneType")
 | bl (x:Bool):vm K H (.bl x) (.type "bool")
 | int (i:Int):vm K H (.int i) (.type "int")
 | str (x:Str):vm K H (.str x) (.type "str")
 | flt (x:UInt64):vm K H (.flt x) (.type "float")
 | lst {a:Addr}{xs:List V}(e:H a=some (.lst xs)):vm K H 027 (.type "list")
 | frz {a:Addr}{o:Obj}{xs:List V}(e:H a=some (.frz o (.lst xs))):vm K H 027 (.type "list")
 | tup {a:Addr}{xs:List V}(e:H a=some (.tup xs)):vm K H 027 (.type "tuple")
 | dK {a:Addr}{kvs:List (Key×V)}(e:H a=some (.dK kvs)):vm K H 027 (.type "dict")
 | dT {a:Addr}{kvs:List (List Key×V)}(e:H a=some (.dT kvs)):vm K H 027 (.type "dict")
 | ins {a C dx:Addr}{fs:List (Str×V)}(e:H a=some (.ins C dx fs)) (cl:Cls K C) (ha:PySem.W.findIn K (.ref C) "__class__"=some (some (.builtin "object.__class__")))
  (hn:PySem.W.specialIn K (.builtin "object.__class__") "__get__"=some (some (.builtin "getset_descriptor.__get__"))) (htk:PySem.W.takesIn K (.builtin "object.__class__")=some true)
  (hm:PySem.W.mroIn K C (.type "object")=some true):vm K H 027 (.ref C)
def z5y{X:Cx}{σ:St}{x:V}(I:Inv X pins σ H s)(d:RelV x u)(ty:vm X.K H x t)(e:PySem.W.kitOne X.K t c=some b)(h:∀ r,Q (.bool b) { s with toks:=r }) :
 wpAny 06 A (call (.builtin "isinstance") [u,c]) Q E s:=by
 cases ty with
 | Zn=>cases (show u=Value.none from d);exact Z3M PySem.W.kitx_none I.XG True.intro e (λz=>nomatch z) h
 | bl y=>cases (show u=Value.bool y from d);exact Z3M PySem.W.kitx_bool I.XG True.intro e (λz=>nomatch z) h
 | int i=>obtain⟨t,q⟩:=(show ∃ t,u=Value.int i t from d);cases q;exact Z3M PySem.W.kitx_int I.XG True.intro e (λz=>nomatch z) h
 | str y=>obtain⟨t,q⟩:=(show ∃ t,u=Value.str y t from d);cases q;exact Z3M PySem.W.kitx_str I.XG True.intro e (λz=>nomatch z) h
 | flt y=>obtain⟨t,q⟩:=(show ∃ t,u=Value.float y t from d);cases q;exact Z3M PySem.W.kitx_float I.XG True.intro e (λz=>nomatch z) h
 | @lst a xs ea =>
   cases (show u=Value.ref a from d);obtain⟨_,_,n,_,f⟩:=(show Zg X.prog X.w H s.heap a (.lst xs) from I.hok a _ ea);exact Z3M PySem.W.kitx_list I.XG ⟨_,f,rfl⟩ e (λz=>nomatch z) h
 | @frz a ob xs ea =>
   cases (show u=Value.ref a from d);obtain⟨_,_,_,n,_,f⟩:=(show Zg X.prog X.w H s.heap a (.frz ob (.lst xs)) from I.hok a _ ea);exact Z3M PySem.W.kitx_list I.XG ⟨_,f,rfl⟩ e (λz=>nomatch z) h
 | @tup a xs ea =>
   cases (show u=Value.ref a from d);obtain⟨_,_,_,p⟩:=(show Zg X.prog X.w H s.heap a (.tup xs) from I.hok a _ ea);obtain⟨o,f,j,_⟩:=p.tup;exact Z3M PySem.W.kitx_tuple I.XG ⟨o,f,j⟩ e (λz=>nomatch z) h
 | @dK a kvs ea =>
   cases (show u=Value.ref a from d);obtain⟨_,_,vs,_,p⟩:=(show Zg X.prog X.w H s.heap a (.dK kvs) from I.hok a _ ea);obtain⟨o,l,m,f,j,_⟩:=p;exact Z3M PySem.W.kitx_dict I.XG ⟨o,f,j.1⟩ e (λz=>nomatch z) h
 | @dT a kvs ea =>
   cases (show u=Value.ref a from d);obtain⟨_,_,xs,_,o,l,m,f,j,_⟩:=(show Zg X.prog X.w H s.heap a (.dT kvs) from I.hok a _ ea);exact Z3M PySem.W.kitx_dict I.XG ⟨o,f,j.1⟩ e (λz=>nomatch z) h
 | @ins a C dx fs ea cl ha hn htk hm =>
   cases (show u=Value.ref a from d);obtain⟨mA,O,_⟩:=VN I.hok ea;obtain⟨od,J,_⟩:=O.look;exact Z3M (PySem.W.kitx_own (cl.get _) cl.hd ha hn htk hm) I.XG J e (λz=>nomatch z) h
structure Zf(k:Nat)(A:Around):Prop where
 hd:A.handled=none
 dp:A.depth+3 * k+5<recursionLimit
 un:A.units+16 * k+200<cLine
 gd:A.guards=some []
def Zf.mono{k:Nat}(r:Zf k A)(h:j<=k):Zf j A:=⟨r.hd,by have:=r.dp;lia,by have:=r.un;lia,r.gd⟩
def Zf.deeper{k:Nat}(r:Zf (k+1) A)(env:Env):Zf k (A.deeper env) :=
 ⟨r.hd,by have:=r.dp;show A.depth+1+3 * k+5<_;lia,by have:=r.un;show A.units+3+16 * k+200<_;lia,r.gd⟩
def Zf.in1{k:Nat}(r:Zf (k+1) A):Zf k A.in1 :=
 ⟨r.hd,by have:=r.dp;show A.depth+3 * k+5<_;lia,by have:=r.un;show A.units+1+16 * k+200<_;lia,r.gd⟩
def z2d{A:Around}{C:Addr}{us:List Value}{kw:List (Str×Value)}:(A.under (.builtin "type.__call__" ⟨.ref C :: us,kw⟩)).depth=A.depth+1:=by
 first | rfl | simp[Around.under,Code.weight,Code.isCreation,Code.isGuard,Code.isCaller,Code.frames,Code.isFrame,guardIds]
def z1K{A:Around}{C:Addr}{us:List Value}{kw:List (Str×Value)}:(A.under (.builtin "type.__call__" ⟨.ref C :: us,kw⟩)).units=A.units+1:=by
 first | rfl | simp[Around.under,Code.cUnits,Code.frames,Code.isFrame]
def z0V{A:Around}:(A.under (.builtin "type.__call__" ⟨.ref C :: us,kw⟩)).guards=A.guards:=by
 cases h:A.guards <;> first | rfl | simp[Around.under,Code.guards,Code.isGuard,guardIds,pushGuards,h]
def Zf.make{k:Nat}(r:Zf (k+1) A)(C:Addr)(us:List Value)(kw:List (Str×Value)):Zf k (A.under (.builtin "type.__call__" ⟨.ref C :: us,kw⟩)) :=
 ⟨r.hd,by have:=r.dp;rw[z2d];lia,by have:=r.un;rw[z1K];lia,by rw[z0V];exact r.gd⟩
def Zf.depth{k:Nat}(r:Zf k A):A.depth<recursionLimit:=by have:=r.dp;lia
def Zf.units{k:Nat}(r:Zf k A):A.units+64<cLine:=by have:=r.un;lia
def Zf.Z3e{k:Nat}(r:Zf k A):A.units<cLine:=by have:=r.un;lia
noncomputable def VB:TA:=λ_ H Q=>Q [] H
noncomputable def Xv(b:TE)(a:TA):TA:=λσ H Q=>b σ H λx H1=>a σ H1 λxs H2=>Q (x :: xs) H2
def zF:PA X [] VB:=λ_ _ _ _ H Q I h=>Calls.spliced_nil ⟨[],H,I,.nil,h⟩
def YW{e:Expr}(ha:PE X e te)(hr:PA X es t)(b:starEach (e :: es) X.env=019 :: starEach es X.env:=by rfl):PA X (e :: es) (Xv te t):=by
 intro pos pins s σ H Q I h;rw[b];show wpAny _ _ (spliced (019 :: backTo pos (starEach es X.env))) _ _ s;refine Calls.spliced_cons (Zj (ha pins s σ H _ I h) λu s1 a=>?_);obtain⟨x,H1,I1,c,q1⟩:=a;exact Zj (hr pos pins s1 σ H1 _ I1 q1) λus s2 ⟨xs,H2,I2,d,q2⟩=>⟨x :: xs,H2,I2,.cons c d,q2⟩
noncomputable def Z5W(t:TA):TE:=λσ H Q=>t σ H λxs H1=>xs.length<=sizeLine/\∀ p,H1 p=none->Q (.ref p) (upd H1 p (.tup xs))
def Z1Q{pos:Pos}{x1}(h:PA X es t):PE X (.Tuple es x1 pos) (Z5W t):=by
 intro pins s σ H Q I a;refine wpAny_Tuple_spliced (Zj (h pos pins s σ H _ I a) λus s1 ⟨xs,H1,I1,r,z,q⟩=>⟨by rw[← r.length];exact z,?_⟩);have hf:H1 s1.heap.objs.size=none:=I1.hok.fresh (Z02 _);refine⟨.ref s1.heap.objs.size,upd H1 s1.heap.objs.size (.tup xs),I1.laid (t':=s1.toks) (λb u e=>Z00 _ e) (Z02 _) ?_,rfl,q _ hf⟩;exact⟨z,us,r,⟨_,Z0r _ rfl,rfl,_,rfl⟩⟩
noncomputable abbrev Sp:=List V->Hp->VK->XK->Prop
noncomputable abbrev Q8:=List Env->Hp->Shared->XK->Value->Shared->Prop
structure z3i(P:Program)(w:World)(K:FR)(mg:SV)(base:Heap)(A:Around)(outer:List Env)(s:Shared)(H:Hp):Prop where
 frames:A.frames=some outer
 mod:Mod K mg base
 bs:∀ b o,base.get? b=some o->s.heap.get? b=some o/\H b=none
 bsz:base.objs.size<=s.heap.objs.size
 XN:s.heap.FunFrames base outer
 frf:∀ b∈frs outer,H b=none
 hok:xZ P w H s.heap
 bare:AllBare s.gens
noncomputable def CE(outer:List Env)(P:Program)(w:World)(H:Hp)(s:Shared)(Q:VK)(u:Value)(s':Shared):Prop :=
 ∃ v H',s'.os=s.os/\AllBare s'.gens/\Un (frs outer) [] H H' s.heap s'.heap/\xZ P w H' s'.heap/\RelV v u/\Q v H'
noncomputable def CR(CX:Q8)(outer:List Env)(P:Program)(w:World)(H:Hp)(s:Shared)(Q:VK)(E:XK)(r:Result)(s':Shared):Prop :=
 match r with
 | .ok (.ret u)=>CE outer P w H s Q u s'
 | .ok _=>False
 | .error e=>CX outer H s E e s'
structure Zu(P:Program)(w:World)(K:FR)(mg:SV)(base:Heap)(CX:Q8)(k:Nat)(f:Addr)(fd:FuncData)(ps:List Str)(sp:Sp):Prop where
 len:∀ vs H Q E,sp vs H Q E->vs.length=ps.length
 run:∀ (A:Around) (outer:List Env) (s:Shared) (H:Hp) (args:Args) (us:List Value) (vs:List V) (Q:VK) (E:XK),Zf k A->z3i P w K mg base A outer s H->BindsTo s fd args (ps.zip us)->Vals vs us->sp vs H Q E->
  codeAny (model P w) A (.call 034 args) (CR CX outer P w H s Q E) s
def Zu.mono{mg:SV}{k:Nat}{sp:Sp}(F:Zu P w K mg base CX j f fd ps sp)(h:j<=k) :
 Zu P w K mg base CX k f fd ps sp:=⟨F.len,λA outer s H args us vs Q E hr=>F.run A outer s H args us vs Q E (hr.mono h)⟩
def Zu.imp{mg:SV}{k:Nat}{sp:Sp}(F:Zu P w K mg base CX k f fd ps sp)(h:∀ vs H Q E,sp' vs H Q E->sp vs H Q E):Zu P w K mg base CX k f fd ps sp' :=
 ⟨λvs H Q E q=>F.len vs H Q E (h _ _ _ _ q),λA outer s H args us vs Q E hr he b c a=>F.run A outer s H args us vs Q E hr he b c (h _ _ _ _ a)⟩
def z3i.make{mg:SV}(e:z3i P w K mg base A outer s H)(C:Addr)(us:List Value)(kw:List (Str×Value)) :
 z3i P w K mg base (A.under (.builtin "type.__call__" ⟨.ref C :: us,kw⟩)) outer s H:=⟨by first | exact e.frames | (simpa[Around.under,Code.envs,Code.isFrame,pushEnvs] using e.frames),e.mod,e.bs,e.bsz,e.XN,e.frf,e.hok,e.bare⟩
def Inv.Z4d{X:Cx}{σ:St}(I:Inv X pins σ H s):z3i X.prog X.w X.K X.mg X.base X.A X.stack s H :=
 ⟨I.ok.frames,I.ok.mod,I.bs,Z0Y I.ok.bsz I.sz,I.stack,I.VR,I.hok,I.bare⟩
def Inv.after{X:Cx}{σ:St}(I:Inv X pins σ H s)(h:CE X.stack X.prog X.w H s Q u s'):EP X pins σ Q u s':=by
 obtain⟨v,H',os,bare,un,hok,r,q⟩:=h;obtain⟨c,g,d,t,a⟩:=s';obtain rfl:a=s.os:=os;exact⟨v,H',I.call (h':=c) (g':=g) (d':=d) (t':=t) (ch:=[]) un hok bare (λb z=>absurd z 05),r,q⟩
noncomputable def uu(sp:Sp)(a:List V)(E:XK)(t:TA):TE:=λσ H Q=>t σ H λvs H1=>sp (vs ++ a) H1 Q E
noncomputable def ji(C:Addr)(m:Str)(sp:Sp)(b:List V)(E:XK)(c:TE)(t:TA):TE:=λσ H Q=>c σ H λx H1=>∃ a dx fs,x=.ref a/\H1 a=some (.ins C dx fs)/\fs.lookup m=none/\
 t σ H1 λvs H2=>sp (x :: (vs ++ b)) H2 Q E
noncomputable def z3y(C:Addr)(sp:Sp)(a:List V)(E:XK)(t:TA):TE:=λσ H Q=>t σ H λvs H1=>∀ x dx,H1 x=none->H1 dx=none->dx≠x->
 sp (.ref x :: (vs ++ a)) (upd (upd H1 dx (.own x)) x (.ins C dx [])) (λv H2=>v=.Zn/\Q (.ref x) H2) E
noncomputable def Binds(K:FR)(fd:FuncData)(ps:List Str)(ds:List Value):Prop :=
 ∀ (s:Shared) (us:List Value),K.In s.heap->(us ++ ds).length=ps.length->BindsTo s fd ⟨us,[]⟩ (ps.zip (us ++ ds))
def Binds.all(h:∀ us:List Value,us.length=ps.length->bindArgs fd ⟨us,[]⟩=pure (ps.zip us)):Binds K fd ps []:=λs us _ a=>by
 rw[Z58] at a ⊢;exact .of_eq (h us a)
noncomputable def Passes(CX:Q8)(X:Cx)(E:XK):Prop:=∀ (pins:List 014) (σ:St) (H:Hp) (s:Shared) (e:Value) (s':Shared),Inv X pins σ H s->CX X.stack H s E e s'->X.xe e s'
def j6{X:Cx}{k:Nat}{sp:Sp}{σ:St}(F:Zu X.prog X.w X.K X.mg X.base CX k f fd ps sp)(hr:Zf k X.A)(i:Binds X.K fd ps ds)(hd:Vals dvs ds)(c:Passes CX X E)(I:Inv X pins σ H s)(r:Vals vs us)(h:sp (vs ++ dvs) H Q E):wpAny 06 X.A (call 034 us) (EP X pins σ Q) X.xe s:=by
 have b:Vals (vs ++ dvs) (us ++ ds):=r.append hd;have d:(us ++ ds).length=ps.length:=by rw[← b.length];exact F.len _ _ _ _ h
 refine wpAny_call (codeAny_mono (F.run X.A X.stack s H ⟨us,[]⟩ (us ++ ds) (vs ++ dvs) Q E hr I.Z4d (i s us I.XG d) b h) λr s' a=>?_);cases r with
 | error e=>exact c pins σ H s e s' I a
 | ok fl =>
   cases fl with
   | ret u=>exact I.after a
   | next=>exact False.elim a
   | brk=>exact False.elim a
   | cont=>exact False.elim a
def Jt{X:Cx}{CX:Q8}{k:Nat}{f:Addr}{fd:FuncData}{ps:List Str}{sp:Sp}{b:List V}{ds:List Value}{E:XK}{x:Str}{p pos:Pos}{e:Expr}{a:List Expr}{t:TA}(F:Zu X.prog X.w X.K X.mg X.base CX k f fd ps sp)(hr:Zf k X.A)(j:Gl X x)(hm:X.mg x=some 034)(m:PySem.W.keepIn X.K 034=true)(l:Binds X.K fd ps ds)(hd:Vals b ds)(i:Passes CX X E)
 (ha:PA X (e :: a) t) (d:(x == ("__debug__":Str))=false:=by decide) (he:starEach (e :: a) X.env=019 :: starEach a X.env:=by rfl) (c:(backTo pos (starEach a X.env)).any (·.1)=false:=by rfl) :
 PE X (.Call (.Name x p) (e :: a) [] pos) (uu sp b E t):=by
 intro pins s σ H Q I h;refine wpAny_Call_Name_kw (xn I j hm ?_ d);refine PySem.W.callWith_K (h₀:=X.base) I.ok.mod.kin m (Zj (ha pos pins s σ H _ I h) λus s1 ⟨vs,H1,I1,r,q⟩=>⟨I1.XG,?_⟩) he c;exact j6 F hr l hd i I1 r q
def Z0C{X:Cx}{CX:Q8}{k:Nat}{f C:Addr}{fd:FuncData}{ps:List Str}{sp:Sp}{d:List V}{ds:List Value}{E:XK}{m:Str}{pos apos:Pos}{e o:Expr}{b:List Expr}{n:TE}{t:TA}{pl:Sem Bool}(he:PE X o n)(c:Cls X.K C)(hm:Meth X.K C m f)(F:Zu X.prog X.w X.K X.mg X.base CX k f fd ps sp)(hr:Zf k X.A)(z:Binds X.K fd ps ds)(hd:Vals d ds)(v:Passes CX X E)(ha:PA X (e :: b) t)
 (j:starEach (e :: b) X.env=019 :: starEach b X.env:=by rfl) (i:(backTo pos (starEach b X.env)).any (·.1)=false:=by rfl)
 (B:eval (.Call (.Attribute o m apos) (e :: b) [] pos) X.env=(do
  let ov ←eval o X.env
  standAt apos.atName
  let (f,first) ←holding [ov] (getMethod ov m pl)
  callWith pos f first (backTo pos (starEach (e :: b) X.env)) (backToKw pos (keywordEach [] X.env))):=by rfl) :
 PE X (.Call (.Attribute o m apos) (e :: b) [] pos) (ji C m sp d E n t):=by
 intro pins s σ H Q I h;refine PySem.W.methodCall_KW (pl:=pl) (Zj (he pins s σ H _ I h) λu s1 ⟨x,H1,I1,p,a,dx,fs,ex,y,l,q⟩=>?_) B;subst ex;obtain rfl:u=Value.ref a:=p;refine V4 I1 y c hm l ?_;refine PySem.W.callWith_K (first:=[.ref a]) (h₀:=X.base) I.ok.mod.kin hm.kp (Zj (ha pos pins s1 σ H1 _ I1 q) λus s2 ⟨vs,H2,I2,r,q2⟩=>⟨I2.XG,?_⟩) j i
 exact j6 (us:=.ref a :: us) (vs:=.ref a :: vs) F hr z hd v I2 (.cons rfl r) q2
def z8o{k:Nat}{sp:Sp}{pos:Pos}(he:PE X o ta)(c:Cls X.K C)(hm:Meth X.K C m f)(F:Zu X.prog X.w X.K X.mg X.base CX k f fd ps sp)(hr:Zf k X.A)(n:Binds X.K fd ps ds)(hd:Vals dvs ds)(d:Passes CX X E)(i:eval (.Call (.Attribute o m apos) [] [] pos) X.env=(do
  let ov ←eval o X.env
  standAt apos.atName
  let (f,first) ←holding [ov] (getMethod ov m pl)
  callWith pos f first (backTo pos (starEach [] X.env)) (backToKw pos (keywordEach [] X.env))):=by rfl) :
 PE X (.Call (.Attribute o m apos) [] [] pos) (ji C m sp dvs E ta VB):=by
 intro pins s σ H Q I h;refine PySem.W.methodCall_KW (pl:=pl) (Zj (he pins s σ H _ I h) λu s1 ⟨x,H1,I1,b,a,dx,fs,ex,j,l,q⟩=>?_) i;subst ex;obtain rfl:u=Value.ref a:=b;refine V4 I1 j c hm l ?_;exact PySem.W.callWith_K0 (first:=[.ref a]) I1.XG hm.kp (j6 (us:=[.ref a]) (vs:=[.ref a]) F hr n hd d I1 (.cons rfl .nil) q)
structure Mk(K:FR)(C f:Addr):Prop where
 makes:PySem.W.makesIn K C=true
 init:PySem.W.findIn K (.ref C) "__init__"=some (some 034)
 fn:PySem.W.isFn K 034=true
 kp:PySem.W.keepIn K (.ref C)=true
def z0w{X:Cx}{k:Nat}{sp:Sp}{σ:St}(M:Mk X.K C f)(F:Zu X.prog X.w X.K X.mg X.base CX k f fd ps sp)(hr:Zf (k+1) X.A)(l:Binds X.K fd ps ds)(hd:Vals dvs ds)(d:Passes CX X E)(I:Inv X pins σ H s)(r:Vals vs us)(h:∀ x dx,H x=none->H dx=none->dx≠x->sp (.ref x :: (vs ++ dvs)) (upd (upd H dx (.own x)) x (.ins C dx [])) (λv H2=>v=.Zn/\Q (.ref x) H2) E) :
 wpAny 06 X.A (call (.ref C) us) (EP X pins σ Q) X.xe s:=by
 have b:=h 021 s.heap.objs.size (I.hok.fresh (Nat.le_succ _)) (I.hok.fresh (Z02 _)) (Z14 (Nat.lt_succ_self _));have I2:=Inv.made (C:=C) I;have c:Vals (V.ref 021 :: (vs ++ dvs)) (Value.ref 021 :: (us ++ ds)):=.cons rfl (r.append hd);have j:(Value.ref 021 :: us ++ ds).length=ps.length:=by
  have e:=c.length;rw[F.len _ _ _ _ b] at e;exact e.symm
 refine wpAny_call (z9e (f:=f) I.XG M.makes M.init (beq_iff_eq.mp M.fn) (codeAny_mono (F.run _ X.stack _ _ ⟨Value.ref 021 :: us,[]⟩ (Value.ref 021 :: (us ++ ds)) _ _ E (hr.make C us [])
  (I2.Z4d.make C us []) (l _ (Value.ref 021 :: us) I2.XG j) c b) λr s' a=>?_))
 cases r with
 | error e=>exact d pins σ _ _ e s' I2 a
 | ok fl =>
   cases fl with
   | ret u =>
     obtain⟨v,H',I3,i,ev,q3⟩:=I2.after a;subst ev;exact⟨i,⟨V.ref 021,H',I3,rfl,q3⟩⟩
   | next=>exact False.elim a
   | brk=>exact False.elim a
   | cont=>exact False.elim a
def z9r{X:Cx}{CX:Q8}{k:Nat}{f C:Addr}{fd:FuncData}{ps:List Str}{sp:Sp}{b:List V}{ds:List Value}{E:XK}{x:Str}{p pos:Pos}{e:Expr}{a:List Expr}{t:TA}(M:Mk X.K C f)(F:Zu X.prog X.w X.K X.mg X.base CX k f fd ps sp)(hr:Zf (k+1) X.A)(j:Gl X x)(hm:X.mg x=some (.ref C))(l:Binds X.K fd ps ds)(hd:Vals b ds)(i:Passes CX X E)
 (ha:PA X (e :: a) t) (d:(x == ("__debug__":Str))=false:=by decide) (he:starEach (e :: a) X.env=019 :: starEach a X.env:=by rfl) (c:(backTo pos (starEach a X.env)).any (·.1)=false:=by rfl) :
 PE X (.Call (.Name x p) (e :: a) [] pos) (z3y C sp b E t):=by
 intro pins s σ H Q I h;refine wpAny_Call_Name_kw (xn I j hm ?_ d);refine PySem.W.callWith_K (h₀:=X.base) I.ok.mod.kin M.kp (Zj (ha pos pins s σ H _ I h) λus s1 ⟨vs,H1,I1,r,q⟩=>⟨I1.XG,?_⟩) he c;exact z0w M F hr l hd i I1 r q
def z6E{k:Nat}{sp:Sp}{x:Str}{pos:Pos}(M:Mk X.K C f)(F:Zu X.prog X.w X.K X.mg X.base CX k f fd ps sp)(hr:Zf (k+1) X.A)(c:Gl X x)(hm:X.mg x=some (.ref C))(d:Binds X.K fd ps ds)(hd:Vals dvs ds)(b:Passes CX X E)(a:(x == ("__debug__":Str))=false:=by decide):PE X (.Call (.Name x p) [] [] pos) (z3y C sp dvs E VB):=by
 intro pins s σ H Q I h;refine wpAny_Call_Name_kw (xn I c hm ?_ a);exact PySem.W.callWith_K0 I.XG M.kp (z0w (us:=[]) M F hr d hd b I .nil h)
structure zE(N P:List Str)(sc:Scope):Prop where
 kind:sc.kind=.function
 co:sc.isCoroutine=false
 gen:sc.isGenerator=false
 nd:N.Nodup
 pre:N.take P.length=P
 par:∀ x∈P,sc.names.lookup x=some .local\/sc.names.lookup x=some .cell
 nofree:∀ y∈sc.names,y.2≠.free
theorem jA{kindOf:Str->Option NameKind}{x:Str}:∀ {binds:List (Str×Value)}{m:SV},(∀ v,(x,v)∉binds)->bindL kindOf binds m x=m x
 | [],_,_=>rfl
 | (n,v) :: r,m,h=>by
   unfold bindL;rw[jA λw hw=>h w (Z06 _ hw)];split;have:x≠n:=by rintro rfl;exact h v Z09
   simp[this];rfl
theorem jo{kindOf:Str->Option NameKind}{x:Str}:∀ {binds:List (Str×Value)}{m:SV},(∀ v,(x,v)∉binds)->bindC kindOf binds m x=m x
 | [],_,_=>rfl
 | (n,v) :: r,m,h=>by
   unfold bindC;rw[jo λw hw=>h w (Z06 _ hw)];split;rfl;have:x≠n:=by rintro rfl;exact h v Z09
   simp[this]
theorem jn{kindOf:Str->Option NameKind}{x:Str}:∀ {P:List Str}{vs:List Value}{i:Nat}{m:SV},P.Nodup->P[i]?=some x->vs[i]?=some v->kindOf x=some .local->
 bindL kindOf (P.zip vs) m x=some v
 | [],_,_,_,_,h,_,_=>by simp at h
 | _ :: _,[],_,_,_,_,h,_=>by simp at h
 | p :: P,w :: vs,0,m,nd,h1,h2,hk=>by
   simp at h1 h2;subst h1;subst h2;show bindL kindOf ((p,w) :: P.zip vs) m p=_;unfold bindL;rw[jA λv a=>(List.nodup_cons.mp nd).1 (List.of_mem_zip a).1,if_pos hk];simp
 | p :: P,w :: vs,i+1,m,nd,h1,h2,hk=>by
   show bindL kindOf ((p,w) :: P.zip vs) m x=_;unfold bindL;exact jn (i:=i) (List.nodup_cons.mp nd).2 (by simpa using h1) (by simpa using h2) hk
theorem jm{kindOf:Str->Option NameKind}{x:Str}:∀ {P:List Str}{vs:List Value}{i:Nat}{m:SV},P.Nodup->P[i]?=some x->vs[i]?=some v->kindOf x≠some .local->
 bindC kindOf (P.zip vs) m x=some v
 | [],_,_,_,_,h,_,_=>by simp at h
 | _ :: _,[],_,_,_,_,h,_=>by simp at h
 | p :: P,w :: vs,0,m,nd,h1,h2,hk=>by
   simp at h1 h2;subst h1;subst h2;show bindC kindOf ((p,w) :: P.zip vs) m p=_;unfold bindC;rw[jo λv a=>(List.nodup_cons.mp nd).1 (List.of_mem_zip a).1,if_neg hk];simp
 | p :: P,w :: vs,i+1,m,nd,h1,h2,hk=>by
   show bindC kindOf ((p,w) :: P.zip vs) m x=_;unfold bindC;exact jm (i:=i) (List.nodup_cons.mp nd).2 (by simpa using h1) (by simpa using h2) hk
noncomputable def start(N:List Str)(vs:List V):St:=vs.map some ++ List.replicate (N.length - vs.length) none
noncomputable def ZJ(CX:Q8)(P:Program)(w:World)(K:FR)(mg:SV)(base:Heap)(N:List Str)(qual:Str)(scope:Scope)(f:Addr)(cd:Value)(A:Around)(outer:List Env)(s:Shared)(H:Hp)(E:XK):Cx where
 prog:=P
 w:=w
 K:=K
 mg:=mg
 base:=base
 A:=A.deeper 04
 N:=N
 s₀:=s
 H₀:=H
 env:=envOfC qual scope s.heap.objs.size f cd
 outer:=outer
 stack:=envOfC qual scope s.heap.objs.size f cd :: outer
 ex:=[]
 calm:=true
 fn:=λ_=>true
 pn:=[]
 xe:=λe s'=>wpAny (model P w) (A.deeper 04) (leaving 04 e) (λ_ a=>CX outer H s E e a) (λb a=>CX outer H s E b a) s'
def z1x{sc:Scope}{x:Str}(h:sc.names.lookup x=some .cell):∃ c,(cellsFrom n sc.names []).lookup x=some c:=by
 have q:=PySem.W.cellsFrom_some sc.names n [] (.inl h);exact Option.isSome_iff_exists.mp q
def z5I{mg:SV}(S:zE N ps scope)(hd:A.handled=none)(j:z3i P w K mg base A outer s H)(I:vs.length=ps.length)(r:Vals vs us)(x:InCallC s s.heap.objs.size (bindL (envOfC qual scope s.heap.objs.size f cd).kindOf (ps.zip us) λ_=>none) (cellsFrom 021 scope.names []) (bindC (envOfC qual scope s.heap.objs.size f cd).kindOf (ps.zip us) λ_=>none) s1) :
 Inv (ZJ CX P w K mg base N qual scope f cd A outer s H E) [] (start N vs) H s1:=by
 have F:ps.length<=N.length:=by have:=congrArg List.length S.pre;rw[Z1r] at this;lia
 obtain⟨B,J,rfl,D⟩:=x.done;have m:∀ b:Addr,b∉(ZJ CX P w K mg base N qual scope f cd A outer s H E).ex:=λb z=>absurd (show b∈([]:List Addr) from z) 05;refine⟨⟨j.mod,S.kind,rfl,rfl,Z02 _,λy z c B d=>?_,λy l=>?_,λy c _ h=>?_,λ_=>hd,Around.frames_deeper j.frames,.inr ⟨rfl,rfl⟩,λb z=>absurd z (m b),j.bs,j.bsz,λb _ _=>m b,λb z=>absurd z (m b),j.XN,j.frf⟩,
  rfl,j.bare,Un.kept D,⟨_,x.toInCall.ns,λi y v B d L=>?_⟩,λy c h=>⟨_,x.cell y c h⟩,j.hok.fresh (Z02 _),λy c h=>?_,λp o=>absurd (show p∈([]:List 014) from o) 05,j.hok.kept D,?_⟩
 exact name_of_addr x.apart (Z3L B) (Z3L d);have l:scope.names.lookup y=some .cell\/scope.names.lookup y=some .free:=l;rcases l with l | l;exact z1x l;exact absurd rfl (S.nofree _ (Z3L l));exact Nat.le_of_lt (x.above y c (Z3L h));have hi:i<vs.length:=by
  unfold start at d;by_cases hi:i<vs.length;exact hi;rw[Z53 (by simpa using hi)] at d;rw[List.getElem?_replicate] at d;split at d <;> cases d
 have ha:vs[i]?=some v:=by
  unfold start at d;rw[Z39 (by simpa using hi),Z17] at d;cases e:vs[i]? with
  | none=>rw[e] at d;cases d
  | some a=>rw[e] at d;cases d;rfl
 obtain⟨u,C,G⟩:=r.get ha;have o:ps[i]?=some y:=by
  rw[← S.pre,List.getElem?_take_of_lt 00];exact B
 have t:ps.Nodup:=by rw[← S.pre];exact S.nd.sublist (List.take_sublist _ _)
 refine⟨u,G,?_⟩;rcases S.par y (Z1q o) with k | k;exact .inl ⟨k,jn t o C k⟩;obtain⟨c,e⟩:=z1x (n:=s.heap.objs.size+1) k;refine .inr ⟨.inl k,c,e,?_⟩;have q:=x.cell y c e;rw[jm t o C (by show scope.names.lookup y≠_;rw[k];decide)] at q;exact q;exact j.hok.fresh (Nat.le_of_lt (x.above y c (Z3L h)));unfold start;show _=N.length;rw[Z10,ZB,Z5a];lia
def z7S{mg:SV}{k:Nat}{kV:Value}{sp:Sp}(lk:K.lookup f=some ⟨oc,od,.func (PySem.W.fnOf name qual params body scope dV kV doc pm an cdv ct),osl⟩)(l:PySem.W.codeIn K cdv qual=true)(S:zE N ps scope)(len:∀ vs H Q E,sp vs H Q E->vs.length=ps.length)(c:∀ (A:Around) (outer:List Env) (s:Shared) (H:Hp) (vs:List V) (Q:VK) (E:XK),Zf k (A.deeper (envOfC qual scope s.heap.objs.size f cdv))->sp vs H Q E->
  ∃ t,Qg (ZJ CX P w K mg base N qual scope f cdv A outer s H E) body t/\t { nx:=λ_ H'=>Q .Zn H',rt:=Q } (start N vs) H) :
 Zu P w K mg base CX (k+1) f (PySem.W.fnOf name qual params body scope dV kV doc pm an cdv ct) ps sp:=by
 refine⟨len,λA outer s H args us vs Q E hr j C r i=>?_⟩;have z:=len _ _ _ _ i;have KX:K.In s.heap:=j.mod.kin.keeps λb o e=>(j.bs b o e).1;have lim:s.heap.NoLimit:=j.mod.nolimit.keeps λb o e=>(j.bs b o e).1;have d:∀ y∈ps.zip us,scope.names.lookup y.1=some .local\/(scope.names.lookup y.1=some .cell/\((cellsFrom 021 scope.names []).lookup y.1).isSome=true):=λ⟨n,v⟩ p=>by
  rcases S.par n (List.of_mem_zip p).1 with q | q;exact .inl q;exact .inr ⟨q,PySem.W.cellsFrom_some _ _ _ (.inl q)⟩
 refine codeAny_call_function hr.depth (KX _ _ lk) rfl S.co S.gen rfl (PySem.W.codeRec_of KX l) (C _ _ _ _ ?_);refine wpAny_newFunctionEnv_cells S.kind d λenv he s1 x=>?_;subst he;refine⟨lim.keeps x.toInCall.keep,codeAny_func ?_⟩;obtain⟨t,B,F⟩:=c A outer s H vs Q E (hr.deeper _) i;have I:Inv (ZJ CX P w K mg base N qual scope f cdv A outer s H E) [] (start N vs) H s1:=z5I S hr.hd j z r x;refine wpAny_mono (B [] s1 (start N vs) H _ I F) (λD s' h=>?_) λe s' h=>h;have fin:∀ {a:St}{H':Hp}{v:V}{u:Value},Inv (ZJ CX P w K mg base N qual scope f cdv A outer s H E) [] a H' s'->RelV v u->Q v H'->CE outer P w H s Q u s' :=
  λ{a H' v u} J m q=>⟨v,H',J.os,J.bare,J.base,J.hok,m,q⟩
 cases D with
 | ret u =>
   obtain⟨v,a,H',J,m,q⟩:=h;exact fin J m q
 | next =>
   obtain⟨a,H',J,q⟩:=h;exact fin (v:=V.Zn) (u:=Value.none) J rfl q
 | brk =>
   obtain⟨_,_,_,q⟩:=h;exact False.elim q
 | cont =>
   obtain⟨_,_,_,q⟩:=h;exact False.elim q
noncomputable def tCB(r:List V->Hp->VK->Prop)(t:TA):TE:=λσ H Q=>t σ H λvs H1=>r vs H1 Q
def ZQ{X:Cx}{x:Str}{p pos:Pos}{e:Expr}{a:List Expr}{t:TA}{id:String}{r:List V->Hp->VK->Prop}(i:ZE X (.builtin id) r)(f:Gl X x)(hm:X.mg x=none)(j:bootBuiltins x=some (.builtin id))(ha:PA X (e :: a) t)(hn:x≠"__name__":=by decide)(c:(x == ("__debug__":Str))=false:=by decide)
 (he:starEach (e :: a) X.env=019 :: starEach a X.env:=by rfl) (b:(backTo pos (starEach a X.env)).any (·.1)=false:=by rfl):PE X (.Call (.Name x p) (e :: a) [] pos) (tCB r t):=by
 intro pins s σ H Q I h;refine wpAny_Call_Name_kw (yP I f hm j ?_ hn c);exact PyProof.Rows.callWith_builtin1 (Zj (ha pos pins s σ H _ I h) λus s1 ⟨vs,H1,I1,d,q1⟩=>i pins s1 σ H1 vs us Q I1 d q1) he b
def yf{X:Cx}{x:Str}{p pos:Pos}{e:Expr}{a:List Expr}{t:TA}{T:String}{r:List V->Hp->VK->Prop}(i:ZE X (.type T) r)(f:Gl X x)(hm:X.mg x=none)(j:bootBuiltins x=some (.type T))(ha:PA X (e :: a) t)(hn:x≠"__name__":=by decide)(c:(x == ("__debug__":Str))=false:=by decide)
 (he:starEach (e :: a) X.env=019 :: starEach a X.env:=by rfl) (b:(backTo pos (starEach a X.env)).any (·.1)=false:=by rfl):PE X (.Call (.Name x p) (e :: a) [] pos) (tCB r t):=by
 intro pins s σ H Q I h;refine wpAny_Call_Name_kw (yP I f hm j ?_ hn c);exact Z27 (Zj (ha pos pins s σ H _ I h) λus s1 ⟨vs,H1,I1,d,q1⟩=>i pins s1 σ H1 vs us Q I1 d q1) he b
end L2
namespace HT
def z8c(A:Around)(s:Shared)(a:Int)(t:Tok)(c:Int)(u:Tok):∃ e,SeqAt.EqAt A s (.int a t) (.int c u) e/\(e=true↔a=c) :=
 ⟨(a == c),SeqAt.EqAt.int_int a t c u,05⟩
section
open PySem.SeqAt
open PySem.AutoSeq1 (wpAny_loadPart')
open PySem.MeetsSeq PySem.MeetsSeq2 PySem.MeetsSeq3
end
def z9O(r:IsTup s.heap t vs.toArray)(q:IsTup s.heap b ws.toArray)(l:vs≠[])(p:ws=[]->Q (.ref t) s)(o:ws≠[]->Q 023 { s with heap:=s.heap.push { cls:=.type "tuple",data:=.seq (vs ++ ws).toArray } })(hsz:vs.length+ws.length<=sizeLine):wpAny 09 A (binaryOp .Add (.ref t) (.ref b)) Q E s:=by
 obtain⟨⟨cls,dd,data,sl⟩,h,m,n,hd⟩:=id r;obtain⟨⟨i,f,data2,c⟩,a,d,j,hd2⟩:=id q;simp only at m hd d hd2;subst m hd d hd2;have e:vs.toArray ++ ws.toArray=(vs ++ ws).toArray:=05
 by_cases hw:ws=[];exact concat_meets ⟨_,h,rfl⟩ ⟨_,a,rfl⟩ noFill_tuple_add seq_tuple_add PySem.F.slot_tuple_add PySem.F.entry_tuple_add (PySem.F.args_tuple_add_2 _ _)
  (tuple_addW1 t b vs.toArray ws.toArray n j dd f sl c (by simpa using l) (by simp[hw])) ⟨h,a,p hw⟩
 refine concat_meets ⟨_,h,rfl⟩ ⟨_,a,rfl⟩ noFill_tuple_add seq_tuple_add PySem.F.slot_tuple_add PySem.F.entry_tuple_add (PySem.F.args_tuple_add_2 _ _)
  (tuple_addW2 t b vs.toArray ws.toArray n j dd f sl c (by simpa using l) (by simpa using hw) (by rw[Z04,Z04];exact hsz)) ⟨h,a,?_⟩
 rw[e];exact o hw
noncomputable def yr(n d:Nat):Option Int->Nat
 | none=>d
 | some v=>if v<0 then (v+(n:Int)).toNat else min v.toNat n
def Z4(n d:Nat):yr n d none=d:=rfl
def yG(n d k:Nat):yr n d (some (k:Int))=min k n:=by
 show (if (k:Int)<0 then ((k:Int)+(n:Int)).toNat else min (k:Int).toNat n)=min k n;rw[if_neg 00,Z31]
def z1W(n d:Nat)(hd:d<=n)(o:Option Int):yr n d o<=n:=by
 cases o with
 | none=>exact hd
 | some v =>
   show (if v<0 then (v+(n:Int)).toNat else min v.toNat n)<=n;by_cases hv:v<0;rw[if_pos hv];lia;rw[if_neg hv];exact Nat.min_le_right _ _
def z4s(v:Int)(n d:Nat):(if v<0 then max (v+(n:Int)) 0 else min v (n:Int))=((yr n d (some v):Nat):Int):=by
 show (if v<0 then max (v+(n:Int)) 0 else min v (n:Int))=(((if v<0 then (v+(n:Int)).toNat else min v.toNat n):Nat):Int);by_cases hv:v<0;simp only[if_pos hv];lia;simp only[if_neg hv];lia
def z2Z(lo hi:Option Int)(n:Nat):Builtin.Slice.sliceAdjust lo hi 1 (n:Int)=(((yr n 0 lo:Nat):Int),((yr n n hi:Nat):Int)):=by
 have a:¬ ((1:Int)<0):=00
 unfold Builtin.Slice.sliceAdjust;simp only[a,if_false];refine Prod.ext ?_ ?_;cases lo with
 | none=>rfl
 | some v=>exact z4s v n 0
 cases hi with
 | none=>rfl
 | some v=>exact z4s v n n
def z2U(i j:Nat):Builtin.Slice.slicePlaces (i:Int) (j:Int) 1=j - i:=by
 unfold Builtin.Slice.slicePlaces;have a:(1:Int) > 0:=00
 simp only[a,if_true,Int.ediv_one];split <;> lia
def UC(p:IsPart v o)(h:Q o s):wpAny 09 A (Builtin.Slice.slicePartIndex v) Q E s:=by
 cases p with
 | none=>exact slicePart_none h
 | int i t=>exact slicePart_int h
def YQ{lo:Option Int}(b:s.heap.IsSliceOf sl vl vu .none)(pl:IsPart vl lo)(pu:IsPart vu hi)(h:Q (((yr n 0 lo:Nat):Int),1,yr n n hi - yr n 0 lo) s):wpAny 09 A (Builtin.Slice.sliceApplied (.ref sl) (pure (n:Int))) Q E s:=by
 obtain⟨os,a,c,hds⟩:=id b;unfold Builtin.Slice.sliceApplied Builtin.Slice.sliceFields;refine wpAny_bind (wpAny_bind (wpAny_field a hds (x:=vl) rfl (wpAny_bind (wpAny_field a hds (x:=vu) rfl (wpAny_bind (wpAny_field a hds (x:=.none) rfl (wpAny_pure ?_)))))));refine wpAny_bind (slicePart_none ?_);show wpAny _ _ (if ((1:Int) == 0)=true then _ else _) _ _ s;rw[if_neg 01];refine wpAny_bind (UC pl (wpAny_bind (UC pu (wpAny_bind (wpAny_pure ?_)))));show wpAny _ _ (match Builtin.Slice.sliceAdjust lo hi 1 (n:Int) with | (lo,hi)=>pure (lo,(1:Int),Builtin.Slice.slicePlaces lo hi 1)) _ _ s
 rw[z2Z lo hi n];show wpAny _ _ (pure (((yr n 0 lo:Nat):Int),(1:Int),Builtin.Slice.slicePlaces ((yr n 0 lo:Nat):Int) ((yr n n hi:Nat):Int) 1)) _ _ s;rw[z2U];exact wpAny_pure h
def z7u(xs:Array Value)(i k:Nat):((List.range k).filterMap λ(m:Nat)=>xs[((i:Int)+(m:Int) * 1).toNat]?).toArray=((xs.toList.drop i).take k).toArray:=by
 have e:(λ(m:Nat)=>xs[((i:Int)+(m:Int) * 1).toNat]?)=λm=>xs[i+m]?:=by
  funext m;have:((i:Int)+(m:Int) * 1).toNat=i+m:=00
  rw[this]
 rw[e];have:=pick_run xs i k;rw[List.filterMap_map] at this;have a:((λx=>xs[x]?) ∘ λx=>i+x)=λm=>xs[i+m]?:=rfl;rw[a] at this;rw[this]
def Q7{lo:Option Int}(b:IsTup s.heap t items)(j:s.heap.IsSliceOf sl vl vu .none)(pl:IsPart vl lo)(pu:IsPart vu hi)(hw:¬ (yr items.size 0 lo=0/\yr items.size items.size hi=items.size))(h:Q 023 { s with heap:=s.heap.push { cls:=.type "tuple",data:=.seq ((items.toList.drop (yr items.size 0 lo)).take (yr items.size items.size hi - yr items.size 0 lo)).toArray } })(hsz:items.size<=sizeLine):wpAny 09 A (getItem (.ref t) (.ref sl)) Q E s:=by
 have a:sizeOk (.seq ((items.toList.drop (yr items.size 0 lo)).take (yr items.size items.size hi - yr items.size 0 lo)).toArray):=by
  show ((items.toList.drop (yr items.size 0 lo)).take (yr items.size items.size hi - yr items.size 0 lo)).toArray.size<=sizeLine;rw[Z04,Z1r,Z3K,Z11];omega
 have l:yr items.size items.size hi<=items.size:=z1W _ _ (Z02 _) hi;obtain⟨os,c,i,hds⟩:=id j;have f:s.TypeIs (.ref sl) "slice":=⟨os,c,i⟩;unfold getItem
 try with_reducible refine wpAny_holding ?_
 first | refine wpAny_bind (wpAny_pure ?_) | skip
 refine wpAny_bind (wpAny_sequenceKey b.typeIs 01 ?_);refine wpAny_bind (wpAny_callSpecial?_slot (name:=Str.ofString "__getitem__") b.typeIs Z3P
  (wpAny_call_entry Z3P b.typeIs entry_tuple_getitem ?_ (args_tuple_getitem _ _)))
 show wpAny _ _ (Builtin.Tuple.tupleItemsOf (.ref t) >>= _) _ _ s;refine wpAny_bind (tupleItemsOf_ b ?_);refine wpAny_bind (wpAny_typeOf f ?_);rw[if_pos 01];refine wpAny_bind (YQ j pl pu ?_);have d:¬ ((((yr items.size 0 lo:Nat):Int) == 0 && (1:Int) == 1 && (yr items.size items.size hi - yr items.size 0 lo) == items.size)=true):=by
  intro q;rw[Z3O,Z3O] at q;have q1:((yr items.size 0 lo:Nat):Int)=0:=eq_of_beq q.1.1;have q2:yr items.size items.size hi - yr items.size 0 lo=items.size:=eq_of_beq q.2;exact hw ⟨by omega,by omega⟩
 show wpAny _ _ (if (((yr items.size 0 lo:Nat):Int) == 0 && (1:Int) == 1 && (yr items.size items.size hi - yr items.size 0 lo) == items.size)=true then _ else _) _ _ s;rw[if_neg d,z7u]
 first
  | exact wpAny_bind (m:=Builtin.Tuple.tupleExact _) (wpAny_newObj_type (wpAny_pure ⟨_,rfl,wpAny_pure h⟩) a)
  | exact wpAny_bind (m:=Builtin.Tuple.tupleExact _) (wpAny_newObj_type (wpAny_bind (wpAny_pure (wpAny_pure ⟨_,rfl,wpAny_pure h⟩))) a)
  | exact wpAny_bind (wpAny_bind (m:=Builtin.Tuple.tupleExact _) (wpAny_newObj_type (wpAny_pure (wpAny_pure ⟨_,rfl,wpAny_pure h⟩)) a))
  | exact wpAny_bind (wpAny_bind (m:=Builtin.Tuple.tupleExact _) (wpAny_newObj_type (wpAny_pure ⟨_,rfl,wpAny_pure h⟩) a))
end HT
namespace L2
noncomputable abbrev TO:=St->Hp->(Option Int->Hp->Prop)->Prop
noncomputable def PO(X:Cx)(e:Option Expr)(t:TO):Prop :=
 ∀ (pins:List 014) (s:Shared) (σ:St) (H:Hp) (Q:Option Int->Hp->Prop),Inv X pins σ H s->t σ H Q->
   wpAny 06 X.A (evalPart e X.env) (λu s'=>∃ o H',Inv X pins σ H' s'/\IsPart u o/\Q o H') X.xe s
noncomputable def z3L:TO:=λ_ H Q=>Q none H
noncomputable def Z1F(t:TE):TO:=λσ H Q=>t σ H λx H1=>∃ i,x=.int i/\Q (some i) H1
def intsAre_of{ns:List Int}:∀ {us:List Value},Vals (ns.map V.int) us->IntsAre us ns:=by
 induction ns with
 | nil=>intro us r;rw[Z3N] at r;cases r;exact .nil
 | cons n ns ih =>
   intro us r;rw[Z1d] at r;cases r with
   | cons r1 r2 =>
     obtain⟨t,e⟩:=r1;subst e;exact .cons n t (ih r2)
def YX:PO X none z3L:=by
 intro pins s σ H Q I h;rw[evalPart_none];exact wpAny_pure ⟨none,H,I,.none,h⟩
def xm{e:Expr}(h:PE X e te):PO X (some e) (Z1F te):=by
 intro pins s σ H Q I hw;rw[evalPart_some];refine Zj (h pins s σ H _ I hw) λu s1 a=>?_;obtain⟨x,H1,I1,b,q1⟩:=a;obtain⟨i,rfl,q⟩:=q1;obtain⟨t,rfl⟩:=b;exact⟨some i,H1,I1,.int i t,q⟩
noncomputable def SlR(X:Cx)(r:V->Option Int->Option Int->Hp->VK->Prop):Prop :=
 ∀ (pins:List 014) (s:Shared) (σ:St) (H:Hp) (x:V) (v b a:Value) (lo hi:Option Int) (sl:Addr) (Q:VK),Inv X pins σ H s->RelV x v->s.heap.IsSliceOf sl b a .none->IsPart b lo->IsPart a hi->r x lo hi H Q->
   ∃ T id,typeLookup (.type T) "__getitem__"=pure (some (.builtin id))/\s.TypeIs v T/\wpAny 06 X.A (getItem v (.ref sl)) (EP X pins σ Q) X.xe s
def SlR.or(h:SlR X r)(h':SlR X r'):SlR X (λx lo hi H Q=>r x lo hi H Q\/r' x lo hi H Q):=by
 intro pins s σ H x v c d lo hi sl Q I b a pl pu q;rcases q with q | q;exact h pins s σ H x v c d lo hi sl Q I b a pl pu q;exact h' pins s σ H x v c d lo hi sl Q I b a pl pu q
noncomputable def tSl(r:V->Option Int->Option Int->Hp->VK->Prop)(c:TE)(a b:TO):TE:=λσ H Q=>c σ H λx H1=>a σ H1 λl H2=>b σ H2 λu H3=>r x l u H3 Q
def Yi{e:Expr}{lo:Option Expr}{pos:Pos}(hr:SlR X r)(he:PE X e te)(n:PO X lo tl)(f:PO X hi th):PE X (.Subscript e (.Slice lo hi none p2) pos) (tSl r te tl th):=by
 intro pins s σ H Q I h;refine Subscript_ (Zj (he pins s σ H _ I h) λv s1 d=>?_);obtain⟨x,H1,I1,i,q1⟩:=d;refine wpAny_Slice (Zj (n pins s1 σ H1 _ I1 q1) λa s2 ⟨l,H2,I2,pl,q2⟩=>Zj (f pins s2 σ H2 _ I2 q2) λc s3 d=>?_);obtain⟨u,H3,I3,pu,q3⟩:=d;rw[evalPart_none];refine wpAny_pure ?_;have I4:Inv X pins σ H3 { s3 with heap:=s3.heap.push { cls:=.type "slice",data:=.fields #[a,c,.none] } }:=I3.kept (t':=s3.toks) λb ob q=>Z00 _ q;obtain⟨T,id,m,o,j⟩:=hr pins { s3 with heap:=s3.heap.push { cls:=.type "slice",data:=.fields #[a,c,.none] } } σ H3 x v a c l u s3.heap.objs.size Q I4 i (Heap.IsSliceOf.new ..) pl pu q3;show wpAny 06 X.A (subscriptTail e (.Slice lo hi none p2) v (.ref s3.heap.objs.size)) (EP X pins σ Q) X.xe { s3 with heap:=s3.heap.push { cls:=.type "slice",data:=.fields #[a,c,.none] } };exact tail_any (ops:=[.ref s3.heap.objs.size,v]) o m j (by with_unfolding_all rfl)
noncomputable def yT(xs:List V)(lo hi:Option Int):List V:=(xs.drop (HT.yr xs.length 0 lo)).take (HT.yr xs.length xs.length hi - HT.yr xs.length 0 lo)
def Vk(xs:List V)(lo hi:Option Int):(yT xs lo hi).length<=xs.length:=by
 unfold yT;rw[Z1r,Z3K];lia
noncomputable def Z6v(K:FR):V->Option Int->Option Int->Hp->VK->Prop:=λx lo hi H Q=>∃ a xs,x=.ref a/\zR K H a xs/\
 ¬ (HT.yr xs.length 0 lo=0/\HT.yr xs.length xs.length hi=xs.length)/\∀ p,H p=none->Q (.ref p) (upd H p (.tup (yT xs lo hi)))
def Z3o:SlR X (Z6v X.K):=by
 intro pins s σ H x v l m lo hi sl Q I i f pl pu h;obtain⟨a,xs,rfl,j,hw,q⟩:=h;cases i;obtain⟨its,r,c,d⟩:=I.tuple j;have hlen:its.toArray.size=xs.length:=by rw[Z04];exact r.length.symm
 refine⟨"tuple",_,Z3P.lookup,c.typeIs,?_⟩;refine HT.Q7 c f pl pu (by rw[hlen];exact hw) ?_ (by rw[hlen];exact d);rw[hlen];refine⟨.ref s.heap.objs.size,_,I.laid (t':=s.toks) (o:=.tup (yT xs lo hi)) (λb ob q=>Z00 _ q) (Z02 _) ?_,rfl,q _ (I.hok.fresh (Z02 _))⟩;exact⟨Z0Y (Vk xs lo hi) d,_,(r.drop (HT.yr xs.length 0 lo)).take (HT.yr xs.length xs.length hi - HT.yr xs.length 0 lo),yw.new _ _⟩
noncomputable def Z4h(K:FR):R2:=λx y H Q=>∃ a b xs c,x=.ref a/\y=.ref b/\zR K H a xs/\zR K H b c/\xs≠[]/\xs.length+c.length<=sizeLine/\
 (c=[]->Q 027 H)/\(c≠[]->∀ p,H p=none->Q (.ref p) (upd H p (.tup (xs ++ c))))
def Vals.jZ(r:Vals xs us):us=[]↔xs=[]:=by
 cases r with
 | nil=>simp
 | cons _ _=>simp
def z9N:YD X (binaryOp .Add) (Z4h X.K):=by
 intro pins s σ H x y v u Q I j m h;obtain⟨a,b,xs,n,rfl,rfl,ha,t,l,i,q1,q2⟩:=h;cases j;cases m;obtain⟨its,d,p,_⟩:=I.tuple ha;obtain⟨f,c,r,_⟩:=I.tuple t;refine HT.z9O p r (λz=>l (d.jZ.mp z)) (λz=>⟨.ref a,H,I,rfl,q1 (c.jZ.mp z)⟩) (λz=>?_) (by rw[← d.length,← c.length];exact i);refine⟨.ref s.heap.objs.size,_,I.laid (t':=s.toks) (o:=.tup (xs ++ n)) (λb ob q=>Z00 _ q) (Z02 _) ?_,rfl,q2 (λw=>z (c.jZ.mpr w)) _ (I.hok.fresh (Z02 _))⟩;exact⟨by rw[Z10];exact i,_,d.append c,yw.new _ _⟩
noncomputable def ixN(n:Nat)(i:Int):Option Nat:=if 0<=i then (if i<n then some i.toNat else none) else if -(n:Int)<=i then some (i+n).toNat else none
noncomputable def JL{α:Type}(xs:List α)(i:Int):Option α:=(ixN xs.length i).bind λj=>xs[j]?
def z3Y(h:ixN n i=some j):seqIndex? i n=some j/\j<n/\-(n:Int)<=i/\i<n:=by
 unfold ixN at h;by_cases h0:0<=i;rw[if_pos h0] at h;by_cases h1:i<n;rw[if_pos h1] at h;have e:i.toNat=j:=Z19 h;exact⟨by rw[seqIndex_of h0 h1,e],00,00,h1⟩;rw[if_neg h1] at h;cases h;rw[if_neg h0] at h;by_cases h1:-(n:Int)<=i;rw[if_pos h1] at h;have e:(i+n).toNat=j:=Z19 h;exact⟨by rw[seqIndex_neg 00 h1,e],00,h1,00⟩;rw[if_neg h1] at h;cases h
def z3S{α:Type}{xs:List α}{v:α}(h:JL xs i=some v):∃ j,seqIndex? i xs.length=some j/\xs[j]?=some v/\j<xs.length/\-(xs.length:Int)<=i/\i<xs.length:=by
 unfold JL at h;cases e:ixN xs.length i with
 | none=>rw[e] at h;cases h
 | some j =>
   rw[e] at h;obtain⟨b,d,c,a⟩:=z3Y e;exact⟨j,b,h,d,c,a⟩
def Zi{α:Type}{xs:List α}{j:Nat}{v:α}(h:xs[j]?=some v):JL xs (j:Int)=some v:=by
 have a:j<xs.length:=(Z16.mp h).1;have e:ixN xs.length (j:Int)=some j:=by
  unfold ixN;rw[if_pos 00,if_pos 00];simp
 unfold JL;rw[e];exact h
def z7o{α:Type}(xs:List α)(v:α):JL (xs ++ [v]) (-1)=some v:=by
 have a:(xs ++ [v]).length=xs.length+1:=05
 have e:ixN (xs ++ [v]).length (-1)=some xs.length:=by
  unfold ixN;rw[a,if_neg 01,if_pos 00];congr 1;lia
 unfold JL;rw[e];show (xs ++ [v])[xs.length]?=some v;simp
noncomputable def z4l(b:Expr):Prop:=∀ o i,subscripted b false o i=operate [o,i] (getItem o i)
noncomputable def IxR(X:Cx)(r:R2):Prop :=
 ∀ (value slice:Expr) (pins:List 014) (s:Shared) (σ:St) (H:Hp) (x y:V) (v u:Value) (Q:VK),Inv X pins σ H s->RelV x v->RelV y u->r x y H Q->
   subscripted slice false v u=operate [v,u] (getItem v u)->wpAny 06 X.A (subscriptTail value slice v u) (EP X pins σ Q) X.xe s
noncomputable def MtR(X:Cx)(id:String)(r:V->List V->Hp->VK->Prop):Prop :=
 ∀ (pins:List 014) (s:Shared) (σ:St) (H:Hp) (x:V) (xs:List V) (v:Value) (us:List Value) (Q:VK),Inv X pins σ H s->RelV x v->Vals xs us->r x xs H Q->
   wpAny 06 X.A (call (.builtin id) (v :: us)) (EP X pins σ Q) X.xe s
def Zt{pos:Pos}(hr:IxR X r)(ha:PE X a ta)(i:PE X b tb)(d:z4l b):PE X (.Subscript a b pos) (tOp r ta tb):=by
 intro pins s σ H Q I h;exact Subscript_ (Z3G ha i I h λv u s2 x y H2 I2 c f q=>hr a b pins s2 σ H2 x y v u Q I2 c f q (d _ _))
noncomputable def Z0j(K:FR):R2:=λx y H Q=>∃ p xs i v,x=.ref p/\y=.int i/\zN K H p xs/\JL xs i=some v/\Q v H
noncomputable def Z0i(K:FR):R2:=λx y H Q=>∃ p xs i v,x=.ref p/\y=.int i/\zR K H p xs/\JL xs i=some v/\Q v H
def zW:IxR X (Z0j X.K):=by
 intro value slice pins s σ H x y v u Q I m n h d;obtain⟨p,xs,i,z,rfl,rfl,B,he,q⟩:=h;cases m;obtain⟨t,rfl⟩:=n;obtain⟨its,r,pl,D⟩:=I.list B;obtain⟨j,a,o,E,l,C⟩:=z3S he;obtain⟨w,f,b⟩:=r.get o;have A:=r.length;have hn:=vz;have fin:EP X pins σ Q w s:=⟨z,H,I,b,q⟩;by_cases h0:0<=i;have c:i.toNat=j:=by
  rw[seqIndex_of h0 C] at a;exact Z19 a
 exact item_listR pl.isList h0 00 (by rw[c];simpa using f) fin d;have c:(i+(its.toArray.size:Int)).toNat=j:=by
  rw[seqIndex_neg 00 l] at a;rw[Z04,← A];exact Z19 a
 exact subscriptTail_builtinR (x:=w) pl.isList.typeIs slot_list_getitem.lookup
  (wpAny_getItem_list_neg (Q:=λr s'=>r=w/\EP X pins σ Q r s') pl.isList 00 (by rw[Z04] <;> lia) 00 (by rw[c];simpa using f) ⟨rfl,fin⟩) d
def zJ:IxR X (Z0i X.K):=by
 intro value slice pins s σ H x y v u Q I c d h b;obtain⟨p,xs,i,z,rfl,rfl,n,he,q⟩:=h;cases c;obtain⟨t,rfl⟩:=d;obtain⟨its,r,pl,B⟩:=I.tuple n;obtain⟨j,o,f,C,A,D⟩:=z3S he;obtain⟨w,l,a⟩:=r.get f;have m:=r.length;have hn:=vz;have fin:EP X pins σ Q w s:=⟨z,H,I,a,q⟩;exact subscriptTail_builtinR (x:=w) pl.typeIs slot_tuple_getitem.lookup
  (getItem_tuple (j:=j) (Q:=λr s'=>r=w/\EP X pins σ Q r s') pl 00 00 (by rw[Z04,← m];exact o) (by simpa using l) ⟨rfl,fin⟩) b
def z2N(its:List Value)(n j:Nat)(u:Value):Obj.mapSeq (·.setIfInBounds j u) { cls:=.type "list",data:=.seq its.toArray n }={ cls:=.type "list",data:=.seq (its.set j u).toArray n }:=by
 simp[Obj.mapSeq]
def Inv.lst{X:Cx}{pins:List 014}{σ:St}{H:Hp}{s:Shared}{p:Addr}{xs:List V}(I:Inv X pins σ H s)(h:H p=some (.lst xs)) :
 ∃ (its:List Value) (n:Nat),Vals xs its/\s.heap.get? p=some { cls:=.type "list",data:=.seq its.toArray n }/\xs.length<=sizeLine:=by
 obtain⟨z,its,n,r,e⟩:=I.hok p _ h;exact⟨its,n,r,e,z⟩
def Inv.Z1S{σ:St}{a:List V}{its its':List Value}(I:Inv X pins σ H s)(h:H p=some (.lst xs))(c:s.heap.get? p=some { cls:=.type "list",data:=.seq its.toArray n })(hf:f { cls:=.type "list",data:=.seq its.toArray n }={ cls:=.type "list",data:=.seq its'.toArray n' })(r:Vals a its')(d:a.length<=sizeLine)(t:Nat) :
 Inv X pins σ (upd H p (.lst a)) { s with heap:=s.heap.update p f,toks:=t }:=by
 have e:(s.heap.update p f).get? p=some { cls:=.type "list",data:=.seq its'.toArray n' }:=by
  rw[Heap.get?_update_self f c (by rw[hf] <;> rfl),hf]
 refine I.write (x:=p) (e:=p) (by rw[h];trivial) (.inl rfl) (λb u i q=>(Heap.get?_update_other _ _ (Z32 i)).trans q) ⟨_,e⟩ ?_;exact⟨d,its',n',r,e⟩
noncomputable def Z5d:V->V->V->Hp->(Hp->Prop)->Prop:=λo i v H Q=>∃ p xs k j,o=.ref p/\i=.int k/\H p=some (.lst xs)/\ixN xs.length k=some j/\Q (upd H p (.lst (xs.set j v)))
def set_list:Z4T X Z5d:=by
 intro pins s σ H o i v E D u Q I B A y h;obtain⟨p,xs,k,j,rfl,rfl,l,w,q⟩:=h;cases B;obtain⟨t,rfl⟩:=A;obtain⟨its,n,r,b,z⟩:=I.lst l;obtain⟨a,C,m,f⟩:=z3Y w;have c:=r.length;have hn:=vz;have I':Inv X pins σ (upd H p (.lst (xs.set j v))) { s with heap:=s.heap.update p (Obj.mapSeq (·.setIfInBounds j u)) } :=
  I.Z1S l b (z2N its n j u) (r.set y j) (by rw[List.length_set];exact z) s.toks
 by_cases h0:0<=k;have d:k.toNat=j:=by
  rw[seqIndex_of h0 f] at a;exact Z19 a
 exact PySem.W.ki_setAt b h0 00 (by rw[Z04,← c];exact f) (by rw[d];exact⟨_,I',q⟩);have d:(k+(its.toArray.size:Int)).toNat=j:=by
  rw[seqIndex_neg 00 m] at a;rw[Z04,← c];exact Z19 a
 exact PySem.W.ki_setBack b 00 (by rw[Z04,← c];exact m) 00 (by rw[d];exact⟨_,I',q⟩)
def JD(lo hi:Option Int)(n:Nat):(sliceBounds lo hi none n).1=((HT.yr n 0 lo:Nat):Int)/\(sliceBounds lo hi none n).2.1=((HT.yr n n hi:Nat):Int)/\(sliceBounds lo hi none n).2.2=1:=by
 refine⟨?_,?_,rfl⟩;cases lo with
 | none=>simp[sliceBounds,HT.yr]
 | some i =>
   simp only[sliceBounds,HT.yr,Option.getD_none,show (1:Int) > 0 by decide,if_true];by_cases h:i<0;simp only[h,if_true] <;> lia;simp only[h,if_false] <;> lia
 cases hi with
 | none=>simp[sliceBounds,HT.yr]
 | some i =>
   simp only[sliceBounds,HT.yr,Option.getD_none,show (1:Int) > 0 by decide,if_true];by_cases h:i<0;simp only[h,if_true] <;> lia;simp only[h,if_false] <;> lia
def UU(its:List Value)(lo hi:Option Int):slicePick its.toArray lo hi none=((its.drop (HT.yr its.length 0 lo)).take (HT.yr its.length its.length hi - HT.yr its.length 0 lo)).toArray:=by
 obtain⟨a,c,b⟩:=JD lo hi its.toArray.size;unfold slicePick;rw[a,c,b];simp only[sliceRange_one,pick_run,Z04] <;> rfl
noncomputable def Z6i(K:FR):V->Option Int->Option Int->Hp->VK->Prop:=λx lo hi H Q=>∃ a xs,x=.ref a/\zN K H a xs/\∀ p,H p=none->Q (.ref p) (upd H p (.lst (yT xs lo hi)))
def VH:SlR X (Z6i X.K):=by
 intro pins s σ H x v l m lo hi sl Q I f d pl pu h;obtain⟨a,xs,rfl,i,q⟩:=h;cases f;obtain⟨its,r,c,j⟩:=I.list i;have hlen:=r.length;refine⟨"list",_,slot_list_getitem.lookup,c.isList.typeIs,?_⟩;refine wpAny_getItem_list_slice c.isList d pl pu .none 05 ?_ (by rw[Z04] <;> lia);rw[UU,← hlen];refine⟨.ref s.heap.objs.size,_,I.laid (t':=s.toks) (o:=.lst (yT xs lo hi)) (λb ob q=>Z00 _ q) (Z02 _) ?_,rfl,q _ (I.hok.fresh (Z02 _))⟩;exact⟨Z0Y (Vk xs lo hi) j,_,0,(r.drop (HT.yr xs.length 0 lo)).take (HT.yr xs.length xs.length hi - HT.yr xs.length 0 lo),Z0r _ rfl⟩
noncomputable def Vj:V->Bool
 | .Zn=>true
 | .bl _=>true
 | .int _=>true
 | .str _=>true
 | _=>false
noncomputable def eqV:V->V->Bool
 | .Zn,.Zn=>true
 | .bl a,.bl b=>a == b
 | .bl a,.int b=>(if a then 1 else 0) == b
 | .int a,.bl b=>a == (if b then 1 else 0)
 | .int a,.int b=>a == b
 | .str a,.str b=>a == b
 | _,_=>false
def Ut{x:V}(d:RelV y u)(c:RelV x v)(h:Vj y=true)(f:Vj x=true):SeqAt.EqAt A s u v (eqV y x):=by
 cases y with
 | Zn =>
   cases d;cases x with
   | Zn=>cases c;exact SeqAt.EqAt.same _
   | bl b=>cases c;exact SeqAt.EqAt.none_bool b
   | int b=>obtain⟨t,rfl⟩:=c;exact SeqAt.EqAt.none_int b t
   | str b=>obtain⟨t,rfl⟩:=c;exact SeqAt.EqAt.none_str b t
   | _=>exact absurd (show false=true from f) Z0d
 | bl a =>
   cases d;cases x with
   | Zn=>cases c;exact SeqAt.EqAt.bool_none a
   | bl b=>cases c;exact SeqAt.EqAt.bool_bool a b
   | int b=>obtain⟨t,rfl⟩:=c;exact SeqAt.EqAt.bool_int a b t
   | str b=>obtain⟨t,rfl⟩:=c;exact SeqAt.EqAt.bool_str a b t
   | _=>exact absurd (show false=true from f) Z0d
 | int a =>
   obtain⟨t',rfl⟩:=d;cases x with
   | Zn=>cases c;exact SeqAt.EqAt.int_none a t'
   | bl b=>cases c;exact SeqAt.EqAt.int_bool a t' b
   | int b=>obtain⟨t,rfl⟩:=c;exact SeqAt.EqAt.int_int a t' b t
   | str b=>obtain⟨t,rfl⟩:=c;exact SeqAt.EqAt.int_str a t' b t
   | _=>exact absurd (show false=true from f) Z0d
 | str a =>
   obtain⟨t',rfl⟩:=d;cases x with
   | Zn=>cases c;exact SeqAt.EqAt.str_none a t'
   | bl b=>cases c;exact SeqAt.EqAt.str_bool a t' b
   | int b=>obtain⟨t,rfl⟩:=c;exact SeqAt.EqAt.str_int a t' b t
   | str b=>obtain⟨t,rfl⟩:=c;exact SeqAt.EqAt.str_str a t' b t
   | _=>exact absurd (show false=true from f) Z0d
 | _=>exact absurd (show false=true from h) Z0d
noncomputable def eqU(x:V)(u:Value):Bool:=match u with
 | .none=>eqV .Zn x
 | .bool b=>eqV (.bl b) x
 | .int i _=>eqV (.int i) x
 | .str z _=>eqV (.str z) x
 | _=>false
def z8J{x:V}(r:RelV y u)(f:Vj y=true):eqU x u=eqV y x:=by
 cases y with
 | Zn=>cases r;rfl
 | bl b=>cases r;rfl
 | int i=>obtain⟨t,rfl⟩:=r;rfl
 | str z=>obtain⟨t,rfl⟩:=r;rfl
 | _=>exact absurd (show false=true from f) Z0d
theorem JF{x:V}:∀ {xs:List V}{us:List Value},Vals xs us->xs.all Vj=true->us.any (eqU x)=xs.any λy=>eqV y x
 | _,_,.nil,_=>rfl
 | y :: xs,u :: us,.cons r t,f=>by
   rw[List.all_cons,Z3O] at f;rw[List.any_cons,List.any_cons,z8J r f.1,JF t f.2]
theorem V0{x:V}(c:RelV x v)(b:Vj x=true):∀ {xs:List V}{us:List Value},Vals xs us->xs.all Vj=true->∀ u∈us,SeqAt.EqAt A s u v (eqU x u)
 | _,_,.nil,_=>λu a=>by cases a
 | y :: xs,u :: us,.cons r t,f=>λd a=>by
   rw[List.all_cons,Z3O] at f;rcases Z08.mp a with rfl | a;rw[z8J r f.1];exact Ut r c f.1 b;exact V0 c b t f.2 d a
noncomputable def inV(x:V)(xs:List V):Bool:=xs.any λy=>eqV y x
noncomputable def rIn(K:FR)(neg:Bool):R2:=λx y H Q=>∃ p xs,y=.ref p/\(zN K H p xs\/zR K H p xs)/\Vj x=true/\xs.all Vj=true/\Q (.bl (if neg then !inV x xs else inV x xs)) H
def jR:YD X (compareOp .In) (rIn X.K false):=by
 intro pins s σ H x y v u Q I c d h;obtain⟨p,xs,rfl,a,b,fs,q⟩:=h;cases d;rcases a with a | a;obtain⟨its,r,pl,f⟩:=I.list a;refine SeqAt.in_listAt (eqU x) pl.isList (λw hw=>V0 c b r fs w (by simpa using hw)) ⟨.bl _,H,I,rfl,?_⟩
 rw[show its.toArray.any (eqU x)=its.any (eqU x) by simp,JF r fs];exact q;obtain⟨its,r,pl,f⟩:=I.tuple a;refine SeqAt.in_tupleAt (eqU x) pl (λw hw=>V0 c b r fs w (by simpa using hw)) ⟨.bl _,H,I,rfl,?_⟩;rw[show its.toArray.any (eqU x)=its.any (eqU x) by simp,JF r fs];exact q
def zY:ZE X (.builtin "len") (λxs H Q=>∃ p a,xs=[.ref p]/\(zN X.K H p a\/zR X.K H p a)/\Q (.int a.length) H):=by
 intro pins s σ H xs us Q I r h;obtain⟨p,a,rfl,b,q⟩:=h;obtain⟨u,rfl,d⟩:=vals1 r;cases d;have hn:=vz;rcases b with b | b;obtain⟨its,c,pl,f⟩:=I.list b;have hlen:=c.length;exact Calls.call_len_list pl.isList (by simp only[Z04] <;> lia) ⟨.int a.length,H,I.tok _,⟨s.toks+1,by rw[Z04,hlen]⟩,q⟩;obtain⟨its,c,pl,f⟩:=I.tuple b;have hlen:=c.length;exact len_tuple pl (by simp only[Z04] <;> lia) ⟨.int a.length,H,I.tok _,⟨s.toks+1,by rw[Z04,hlen]⟩,q⟩
def JY:ZE X (.builtin "len") (λxs H Q=>∃ z,xs=[.str z]/\z.length<=sizeLine/\Q (.int z.length) H):=by
 intro pins s σ H xs us Q I r h;obtain⟨z,rfl,a,q⟩:=h;obtain⟨u,rfl,t,rfl⟩:=vals1 r;have hn:=vz;exact len_str 00 ⟨.int z.length,H,I.tok _,⟨_,rfl⟩,q⟩
def U4:ZE X (.type "tuple") (λxs H Q=>∃ p a,xs=[.ref p]/\((zN X.K H p a/\∀ l,H l=none->Q (.ref l) (upd H l (.tup a)))\/(zR X.K H p a/\Q (.ref p) H))):=by
 intro pins s σ H xs us Q I r h;obtain⟨p,a,rfl,h⟩:=h;obtain⟨u,rfl,f⟩:=vals1 r;cases f;rcases h with⟨hq,q⟩|⟨hq,q⟩;obtain⟨its,c,pl,d⟩:=I.list hq;have hlen:=c.length;refine call_tuple_list pl.isList (λh' kp=>?_) (by simp only[Z04] <;> lia)
 have I1:Inv X pins σ H { s with heap:=h' }:=I.kept (t':=s.toks) kp;have I2:Inv X pins σ (upd H h'.objs.size (.tup a)) { s with heap:=h'.push { cls:=.type "tuple",data:=.seq its.toArray } } :=
  I1.laid (t':=s.toks) (λb o e=>Z00 _ e) (Z02 _) (show Zg X.prog X.w _ _ _ (.tup a) from ⟨d,its,c,yw.new _ _⟩)
 exact⟨.ref h'.objs.size,_,I2,rfl,q _ (I1.hok.fresh (Z02 _))⟩;obtain⟨its,c,pl,d⟩:=I.tuple hq;exact call_tuple_same pl ⟨.ref p,H,I,rfl,q⟩
noncomputable def tyV(K:FR)(T:String)(x:V)(H:Hp):Prop:=match x with
 | .str _=>T="str"
 | .int _=>T="int"
 | .ref p=>(T="list"/\∃ xs,zN K H p xs)\/(T="tuple"/\∃ o,K.lookup p=some o/\o.cls=.type "tuple"/\o.dict=none)\/
  (T="dict"/\((∃ kvs,H p=some (.dK kvs))\/∃ kvs,H p=some (.dT kvs)))\/(T="set"/\∃ S n,H p=some (.set S n))
 | _=>False
def z8a{X:Cx}{σ:St}{x:V}(I:Inv X pins σ H s)(r:RelV x v)(ty:tyV X.K T x H) :
 s.TypeIs v T/\∀ a,v=.ref a->∃ ob,s.heap.get? a=some ob/\ob.dict=none:=by
 cases x with
 | str z =>
   obtain⟨t,rfl⟩:=r;cases (show T="str" from ty);exact⟨typeIs_str s z t,λ_ e=>nomatch e⟩
 | int i =>
   obtain⟨t,rfl⟩:=r;cases (show T="int" from ty);exact⟨typeIs_int s i t,λ_ e=>nomatch e⟩
 | ref p =>
   cases r;rcases ty with⟨rfl,xs,hq⟩|⟨rfl,o,hk,hc,hd⟩|⟨rfl,hk⟩|⟨rfl,S,n,hk⟩;obtain⟨its,_,pl,_⟩:=I.list hq;refine⟨pl.isList.typeIs,λa e=>?_⟩
   cases e;obtain⟨o,n,e,c,hd,_⟩:=pl;exact⟨o,e,hd⟩;refine⟨⟨o,I.XG p o hk,hc⟩,λa e=>?_⟩;cases e;exact⟨o,I.XG _ o hk,hd⟩;have z:∃ o,s.heap.get? p=some o/\o.ExactDict:=by
    rcases hk with⟨kvs,hk⟩|⟨kvs,hk⟩;obtain⟨_,_,_,_,o,_,_,e,ex,_⟩:=I.hok p _ hk;exact⟨o,e,ex⟩;obtain⟨_,_,_,_,o,_,_,e,ex,_⟩:=I.hok p _ hk;exact⟨o,e,ex⟩
   obtain⟨o,e,ex⟩:=z;refine⟨⟨o,e,ex.1⟩,λa b=>?_⟩;cases b;exact⟨o,e,ex.2.1⟩;obtain⟨o,_,_,_,e,ex,_⟩:=I.hok p _ hk;refine⟨⟨o,e,ex.1⟩,λa b=>?_⟩;cases b;exact⟨o,e,ex.2.1⟩
 | _=>exact False.elim ty
noncomputable def Z6B(K:FR)(T:String)(r:V->List V->Hp->VK->Prop)(to:TE):TE:=λσ H Q=>to σ H λx H1=>tyV K T x H1/\r x [] H1 Q
noncomputable def tBM(K:FR)(T:String)(r:V->List V->Hp->VK->Prop)(to:TE)(t:TA):TE:=λσ H Q=>to σ H λx H1=>tyV K T x H1/\t σ H1 λxs H2=>r x xs H2 Q
def z6U{X:Cx}{to:TE}{apos cpos:Pos}{id:String}(j:PlainAttrs T)(slot:Slot T name id)(c:typeOf (.builtin id)=pure (.type "method_descriptor"))(hm:MtR X id r)(m:PE X o to)(a:attributeBase o name X.env (eval o X.env)=eval o X.env:=by rfl)(b:(apos.endLine == cpos.line)=true:=by rfl):PE X (.Call (.Attribute o name apos) [] [] cpos) (Z6B X.K T r to):=by
 intro pins s σ H Q I h;refine wpAny_Call_method0_late a b (Zj (m pins s σ H _ I h) λv s1 f=>?_);obtain⟨x,H1,I1,d,ty,q1⟩:=f;obtain⟨l,i⟩:=z8a I1 d ty;exact⟨T,id,j,slot,c,l,i,Calls.callWith_builtin rfl (PySem.evalArgs_none (hm pins s1 σ H1 x [] v [] Q I1 d .nil q1))⟩
def z6Z{X:Cx}{e:Expr}{to:TE}{apos cpos:Pos}{id:String}(q:PlainAttrs T)(slot:Slot T name id)(f:typeOf (.builtin id)=pure (.type "method_descriptor"))(hm:MtR X id r)(w:PE X o to)(ha:PA X (e :: es) t)(b:attributeBase o name X.env (eval o X.env)=eval o X.env:=by rfl)(d:((backTo cpos (starEach (e :: es) X.env)).all (λx=>!x.1) && (backToKw cpos (keywordEach [] X.env)).all (λx=>x.1.isSome)
  && decide ((e :: es).length+([]:List Keyword).length+(if ([]:List Keyword).isEmpty then 0 else 1)<30))=true:=by rfl)(c:(apos.endLine == cpos.line)=true:=by rfl)(m:starEach (e :: es) X.env=019 :: starEach es X.env:=by rfl)(a:(backTo cpos (starEach es X.env)).any (·.1)=false:=by rfl) :
 PE X (.Call (.Attribute o name apos) (e :: es) [] cpos) (tBM X.K T r to t):=by
 intro pins s σ H Q I h;refine wpAny_Call_method_late b d c rfl (Zj (w pins s σ H _ I h) λv s1 l=>?_);obtain⟨x,H1,I1,i,ty,q1⟩:=l;obtain⟨u,n⟩:=z8a I1 i ty;refine⟨T,id,q,slot,f,u,n,?_⟩;have j:=ha cpos pins s1 σ H1 _ I1 q1;rw[m] at j ⊢;refine Calls.callWith_builtin (by show (false || (backTo cpos (starEach es X.env)).any (·.1))=false;rw[a] <;> rfl) (Calls.evalArgs_plain ?_)
 exact Zj j λus s2 ⟨vs,H2,I2,p,q2⟩=>hm pins s2 σ H2 x vs v us Q I2 i p q2
noncomputable def MtM(X:Cx)(id:String)(r:V->List V->Hp->VK->Prop):Prop :=
 ∀ (pins:List 014) (s:Shared) (σ:St) (H:Hp) (x:V) (xs:List V) (v:Value) (us:List Value) (Q:VK),Inv X pins σ H s->RelV x v->Vals xs us->r x xs H Q->
   wpAny 06 X.A (call (.builtin id) (v :: us)) (EP X pins σ Q) X.xe s
def Vals.one:∀ {x:V}{us:List Value},Vals [x] us->∃ u,us=[u]/\RelV x u
 | _,_,.cons r .nil=>⟨_,rfl,r⟩
def Vals.zero:∀ {us:List Value},Vals [] us->us=[]
 | _,.nil=>rfl
def Vals.dropLast(h:Vals xs us):Vals xs.dropLast us.dropLast:=by
 induction h with
 | nil=>exact .nil
 | cons r t ih =>
   cases t with
   | nil=>exact .nil
   | cons q t'=>exact .cons r ih
theorem Vals.rep(h:Vals xs us):∀ k:Nat,Vals (List.replicate k xs).flatten (List.replicate k us).flatten
 | 0=>.nil
 | k+1=>by
   rw[Z3Q,Z3Q,Z52,Z52];exact Vals.append h (Vals.rep h k)
def z1O{α:Type}(l:List α):l.eraseIdx (l.length - 1)=l.dropLast:=by
 induction l with
 | nil=>rfl
 | cons a r ih =>
   cases r with
   | nil=>rfl
   | cons b r =>
     have e:(a :: b :: r).length - 1=((b :: r).length - 1)+1:=by
      have c:(a :: b :: r).length=r.length+2:=rfl;have d:(b :: r).length=r.length+1:=rfl;lia
     rw[e,List.eraseIdx_cons_succ,ih]
     all_goals rfl
theorem foldl_rep(its:List Value):∀ (k:Nat) (acc:List Value),
 List.foldl (λx1 x2=>x1 ++ x2) acc.toArray (List.replicate k its.toArray)=(acc ++ (List.replicate k its).flatten).toArray
 | 0,acc=>by simp
 | k+1,acc=>by
   have e:acc.toArray ++ its.toArray=(acc ++ its).toArray:=05
   have a:(acc ++ its) ++ (List.replicate k its).flatten=acc ++ (List.replicate (k+1) its).flatten:=by
    rw[Z3Q,Z52,Z2N]
   rw[← a,← foldl_rep its k (acc ++ its),← e,Z3Q,List.foldl_cons]
def Inv.Z2O{σ:St}{a:List V}{its its':List Value}(I:Inv X pins σ H s)(c:H l=some (.lst xs))(e:s.heap.get? l=some { cls:=.type "list",data:=.seq its.toArray n })(hf:f its.toArray=its'.toArray)(h:Vals a its')(d:a.length<=sizeLine) :
 Inv X pins σ (upd H l (.lst a)) { s with heap:=s.heap.update l (Obj.mapSeq f),toks:=t' }:=by
 have q:=PySem.IsL.update e f;rw[hf] at q;refine I.write (x:=l) (e:=l) (by rw[c];exact trivial) (.inl rfl) (λj u i b=>(Heap.get?_update_other s.heap (Obj.mapSeq f) (Z32 i)).trans b) ⟨_,q⟩ ?_;exact⟨d,its',_,h,q⟩
def Inv.Z4c{σ:St}{a:List V}{its:List Value}(I:Inv X pins σ H s)(b:Vals a its)(c:a.length<=sizeLine) :
 Inv X pins σ (upd H s.heap.objs.size (.lst a)) { s with heap:=s.heap.push { cls:=.type "list",data:=.seq its.toArray },toks:=t' } :=
 I.laid (λ_ _ q=>Z00 _ q) (Z02 _) ⟨c,its,0,b,Z0r _ rfl⟩
def Inv.fresh{σ:St}(I:Inv X pins σ H s):H s.heap.objs.size=none:=I.hok.fresh (Z02 _)
def Inv.z3e{σ:St}{xs:List V}(I:Inv X pins σ H s)(a:H l=some (.lst xs)):xs.length<=sizeLine/\∃ (its:List Value) (n:Nat),Vals xs its/\xs.length=its.length/\s.heap.get? l=some { cls:=.type "list",data:=.seq its.toArray n }:=by
 obtain⟨z,its,n,r,e⟩:=I.hok l _ a;exact⟨z,its,n,r,r.length,e⟩
def z0J(h:n<=sizeLine):Builtin.List.listTooLong n=false:=by
 unfold Builtin.List.listTooLong;exact decide_eq_false 00
noncomputable def Z0N:V->List V->Hp->VK->Prop:=λx vs H Q=>∃ l xs y,x=.ref l/\vs=[y]/\H l=some (.lst xs)/\xs.length<sizeLine/\Q .Zn (upd H l (.lst (xs ++ [y])))
def ye:MtM X "list.append" Z0N:=by
 intro pins s σ H x vs v us Q I b d h;obtain⟨l,xs,y,rfl,rfl,a,f,q⟩:=h;cases b;obtain⟨u,rfl,c⟩:=d.one;obtain⟨z,its,n,r,i,e⟩:=I.z3e a;refine call_meets F.slot_list_append ⟨_,e,rfl⟩ F.entry_list_append (F.args_list_append_2 _ _) (PySem.list_append l its.toArray n u (by rw[Z04];lia)) ⟨e,?_⟩;refine⟨.Zn,_,I.Z2O (its':=its ++ [u]) a e 05 (r.append (.cons c .nil)) ?_,rfl,q⟩;rw[Z10,Z41];lia
noncomputable def z9X:V->List V->Hp->VK->Prop:=λx vs H Q=>∃ l b xs zs,x=.ref l/\vs=[.ref b]/\H l=some (.lst xs)/\H b=some (.lst zs)/\xs.length+zs.length<=sizeLine/\Q .Zn (upd H l (.lst (xs ++ zs)))
def z5M:MtM X "list.extend" z9X:=by
 intro pins s σ H x vs v us Q I w p h;obtain⟨l,b,xs,zs,rfl,rfl,d,m,y,q⟩:=h;cases w;obtain⟨u,rfl,o⟩:=p.one;cases o;obtain⟨z,its,n,r,A,e⟩:=I.z3e d;obtain⟨B,a,i,f,t,j⟩:=I.z3e m;have hsz:its.toArray.size+a.toArray.size<=sizeLine:=by rw[Z04,Z04];lia
 have c:¬ (!its.toArray.isEmpty && Builtin.List.listTooLong (its.toArray.size+a.toArray.size))=true:=by
  rw[z0J hsz,Bool.and_false];exact Z0d
 refine call_meets F.slot_list_extend ⟨_,e,rfl⟩ F.entry_list_extend (F.args_list_extend_2 _ _)
  (AutoSeq1.list_extend_list_list_0 l its.toArray n b a.toArray i c (by rw[Z04];lia) 00) ⟨e,j,?_⟩
 refine⟨.Zn,_,I.Z2O (its':=its ++ a) d e 05 (r.append f) ?_,rfl,q⟩;rw[Z10];lia
noncomputable def Z5Y:V->List V->Hp->VK->Prop:=λx vs H Q=>∃ l xs y,x=.ref l/\vs=[]/\H l=some (.lst xs)/\xs[xs.length - 1]?=some y/\Q y (upd H l (.lst xs.dropLast))
def z7Z:MtM X "list.pop" Z5Y:=by
 intro pins s σ H x vs v us Q I i m h;obtain⟨l,xs,y,rfl,rfl,c,f,q⟩:=h;cases i;have b:=m.zero;subst b;obtain⟨z,its,n,r,o,e⟩:=I.z3e c;obtain⟨u,d,j⟩:=r.get f;have a:its.toArray[its.toArray.size - 1]?=some u:=by
  show its.toArray[its.length - 1]?=some u;rw[← Z42,← o];exact d
 refine call_meets F.slot_list_pop ⟨_,e,rfl⟩ F.entry_list_pop (F.args_list_pop_1 _) (MeetsSeq.list_pop_last l its.toArray n u a (by rw[Z04];lia)) ⟨e,?_⟩;refine⟨y,_,I.Z2O (its':=its.dropLast) c e ?_ r.dropLast ?_,j,q⟩;show its.toArray.eraseIdxIfInBounds (its.toArray.size - 1)=its.dropLast.toArray;rw[Z04,List.eraseIdxIfInBounds_toArray,z1O];rw[List.length_dropLast];lia
noncomputable def Z5V:R2:=λx y H Q=>∃ l b xs zs,x=.ref l/\y=.ref b/\H l=some (.lst xs)/\H b=some (.lst zs)/\xs.length+zs.length<=sizeLine/\∀ p,H p=none->Q (.ref p) (upd H p (.lst (xs ++ zs)))
def Z2R:YD X (binaryOp .Add) Z5V:=by
 intro pins s σ H x y v u Q I i j h;obtain⟨l,b,xs,zs,rfl,rfl,p,f,A,q⟩:=h;cases i;cases j;obtain⟨z,its,n,r,B,e⟩:=I.z3e p;obtain⟨w,a,t,m,c,d⟩:=I.z3e f;refine PySem.P.add_list e d ?_ (by rw[Z04,Z04];lia);have o:its.toArray ++ a.toArray=(its ++ a).toArray:=05
 rw[o];exact⟨.ref _,_,I.Z4c (t':=s.toks) (r.append m) (by rw[Z10];lia),rfl,q _ I.fresh⟩
noncomputable def Z6t:R2:=λx y H Q=>∃ l k xs,x=.ref l/\y=.int k/\H l=some (.lst xs)/\-(2 ^ 63)<=k/\k<2 ^ 63/\xs.length * k.toNat<=sizeLine/\
 ∀ p,H p=none->Q (.ref p) (upd H p (.lst (List.replicate k.toNat xs).flatten))
def len_rep{α:Type}(xs:List α)(k:Nat):(List.replicate k xs).flatten.length=k * xs.length:=by
 induction k with
 | zero=>simp
 | succ k ih=>rw[Z3Q,Z52,Z10,ih,Nat.succ_mul,Nat.add_comm]
def Z2y:YD X (binaryOp .Mult) Z6t:=by
 intro pins s σ H x y v u Q I j o h;obtain⟨l,k,xs,rfl,rfl,w,B,p,i,q⟩:=h;cases j;obtain⟨t,rfl⟩:=o;obtain⟨z,its,n,r,A,e⟩:=I.z3e w;have hlen:its.toArray.size * k.toNat<=sizeLine:=by rw[Z04,← A];exact i
 have d:¬ its.toArray.size * k.toNat > (2 ^ 63 - 1) / 8:=by
  have:(sizeLine:Nat)<=(2 ^ 63 - 1) / 8:=01
  lia
 have f:¬ (!Builtin.List.listFitsIndex k)=true:=by
  rw[fitsIndex_both B p];exact Z0d
 have b:¬ Builtin.List.listTooLong (its.toArray.size * k.toNat)=true:=by
  rw[z0J hlen];exact Z0d
 have c:List.foldl (λx1 x2=>x1 ++ x2) #[] (List.replicate (if its.toArray.isEmpty=true then 0 else k.toNat) its.toArray)=(List.replicate k.toNat its).flatten.toArray:=by
  have f0:∀ m:Nat,List.foldl (λx1 x2=>x1 ++ x2) #[] (List.replicate m its.toArray)=(List.replicate m its).flatten.toArray:=λm=>by
   have:=foldl_rep its m [];rw[List.nil_append] at this;exact this
  rw[f0];cases its with
  | nil=>simp
  | cons a r'=>rw[if_neg 05]
 refine wpAny_binaryOp_repeat_ref (T:="list") (U:="int") 01 ⟨_,e,rfl⟩ (λs'=>typeIs_int s' k t) noFill_list_mul F.fills_int_mul F.slot_int_rmul repeat_list F.slot_int_index.lookup
  (call_meets F.slot_int_rmul (typeIs_int s k t) F.entry_int_rmul (F.args_int_rmul_2 _ _) (int___rmul___int_list k t l its.toArray n)
   ⟨e,rfl,⟨_,e,rfl⟩,call_meets F.slot_list_mul ⟨_,e,rfl⟩ F.entry_list_mul (F.args_list_mul_2 _ _) (AutoListH.list___mul___list_int_3 l its.toArray n k t f d b) ⟨e,?_⟩⟩)
 rw[c];exact⟨.ref _,_,I.Z4c (t':=s.toks) (r.rep k.toNat) (by rw[len_rep,Nat.mul_comm];exact i),rfl,q _ I.fresh⟩
end L2
namespace Att
open PySem.Calls
def Vt:∀ (ns:List Int) (vs:List Value),WellAll P h vs (ns.map WData.int)->IntsAre vs ns:=by
 intro ns
 induction ns with
 | nil =>
   intro vs w;rw[Z3N] at w;cases w;exact .nil
 | cons n ns ih =>
   intro vs w;rw[Z1d] at w;cases w with
   | cons a b =>
     cases a;exact .cons _ _ (ih _ b)
def z5H{l:OpenLaw}{h:Heap}(hn:l.most=some n)(b:l.row.toRowW.claim.pre args=true)(j:WellAll P h vals args) :
 ∃ a vs ns,vals=[Value.ref a]/\args=[WData.list (ns.map WData.int)]/\h.get? a=some { cls:=.type "list",data:=.seq vs.toArray }/\IntsAre vs ns/\ns.length<=n:=by
 have i:WShape.hasAll [] args [.list .int]=true:=(pre_splitW b).1;have m:l.pre.holds [] { args:=args }=true:=(pre_splitW b).2;obtain⟨d,r,rfl,p,o⟩:=hasAllW_cons i;obtain rfl:=hasAllW_nil o;obtain⟨xs,rfl,t⟩:=hasW_list p;obtain⟨ns,rfl⟩:=items_int t;have hlen:ns.length<=n:=by
  unfold OpenLaw.pre at m;have c:(WTm.not (.lt (.lit (.int (n:Int))) (.len (.arg 0)))).holds [] { args:=[.list (ns.map .int)] }=true:=by
   have c:=(holds_andW m).1;rw[hn] at c;exact c
  have f:=condW_of c (w_not (w_lt w_lit (w_len_list (w_arg rfl))));rw[ZB] at f;refine Nat.le_of_not_lt λq=>?_;have s:(n:Int)<((ns.length:Nat):Int):=00
  first
   | (rw[decide_eq_true s] at f;exact absurd f (01))
   | (simp at f;lia)
 cases j with
 | cons w1 w2 =>
   cases w2;cases w1 with
   | list ho hall=>exact⟨_,_,ns,rfl,rfl,ho,Vt ns _ hall,hlen⟩
def z5D(l:OpenLaw)(args:List WData):l.row.toRowW.claim.post args (.bool true) args=true :=
 postW_of (r:=l.row.toRowW) (X:=(true == true))
  (show WShape.has [] (.bool true) .bool=true by first | rfl | decide | simp[WShape.has,WShape.arms,WShape.armsAll])
  (show (WTm.eq .res (.lit (.bool true))).value [] { args:=args,res:=some (.bool true),after:=args }=some (.bool (true == true)) from w_eq_bool (w_res rfl) w_lit) rfl
def z0b{l:OpenLaw}{d:DefRec}(hn:l.most=some n)(j:d.params.defaults=[])(call:∀ (w:World) (s₀ b:Shared) (mg mb:SV) (c:Addr) (o:Obj) (pm cd doc:Value) (a:Addr) (vs:List Value) (ns:List Int),
  Ground q loose [] XP w s₀ mg mb b.heap->YP w b.heap->
  b.heap.get? c=some o->o.data=.func (docDef d.name d.params d.body d.scope pm cd doc)->b.heap.CodeRec cd d.name->mg d.name=some (.ref c)->
  b.heap.get? a=some { cls:=.type "list",data:=.seq vs.toArray }->IntsAre vs ns->ns.length<=n->b.gens=#[]->
  codeAny (model l.prog w) callerA (.call (.ref c) ⟨[.ref a],[]⟩) (λr s'=>r=.ok (.ret (.bool true))/\OldK b.heap s'.heap/\s'.os=b.os/\AllBare s'.gens) b) :
 WalkO q loose XP YP l.row.toRowW d [] (λf vs=>PySem.call f vs):=by
 intro w s₀ b mg mb G Y c o pm cd doc E kV F hd m u s z args vals as i t B p C;obtain rfl:E=.none:=Dflts.none u j;obtain rfl:kV=.none:=Dflts.noKw u;obtain⟨a,vs,ns,rfl,rfl,h,hints,hlen⟩:=z5H hn i p;refine enter_call (codeAny_mono (call w s₀ b mg mb c o pm cd doc a vs ns G Y F (fd_plain hd) m s h hints hlen z) λr s' D=>?_);obtain⟨rfl,y,A,v⟩:=D;exact⟨.inl ⟨.bool true,.bool true,[],rfl,λ_=>rfl,.bool true,z5D l _,λ_=>⟨List.Pairwise.nil,λ_ hm=>(nomatch hm)⟩⟩,y,A,v⟩
end Att
namespace L2
def jh:∀ {vs:List Value}{ns:List Int},IntsAre vs ns->Vals (ns.map V.int) vs
 | _,_,.nil=>.nil
 | _,_,.cons n t h=>.cons ⟨t,rfl⟩ (jh h)
noncomputable def inClass(s:Stmt)(j:Nat):Stmt:=match s with
 | .ClassDef _ _ _ body _ _ _ _ _ _ _=>body.getD j (.Pass ⟨0,0,0,0⟩)
 | _=>.Pass ⟨0,0,0,0⟩
noncomputable def ZT(s:Stmt):Arguments:=match s with
 | .FunctionDef _ a _ _ _ _ _ _ _ _=>a
 | _=>{ posonlyargs:=[],args:=[],vararg:=none,kwonlyargs:=[],kw_defaults:=[],kwarg:=none,defaults:=[] }
noncomputable def Zs(s:Stmt):List Stmt:=match s with
 | .FunctionDef _ _ b _ _ _ _ _ _ _=>b
 | _=>[]
noncomputable def zo(s:Stmt):Scope:=match s with
 | .FunctionDef _ _ _ _ _ _ sc _ _ _=>sc
 | _=>{ kind:=.function,names:=[],isGenerator:=false,isCoroutine:=false }
noncomputable abbrev Yn:Q8:=λ_ _ _ _ _ _=>False
noncomputable abbrev E0:XK:=λ_ _ _=>False
def XI:Passes Yn X E0:=λ_ _ _ _ _ _ _ h=>h.elim
structure vc(K:FR)(x qual:Str)(st:Stmt)(f:Addr)(fd:FuncData):Prop where
 ex:∃ (oc:Value) (od:Option Addr) (kV doc pm:Value) (an:Option Addr) (cdv ct:Value) (osl:Array (Option Value)),
  fd=PySem.W.fnOf x qual (ZT st) (Zs st) (zo st) .none kV doc pm an cdv ct/\K.lookup f=some ⟨oc,od,.func fd,osl⟩/\PySem.W.codeIn K cdv qual=true
 kp:PySem.W.keepIn K 034=true
def vc.ok{mg:SV}{x:Str}{st:Stmt}{k:Nat}{sp:Sp}(F:vc K x qual st f fd)(S:zE N ps (zo st))(len:∀ vs H Q E,sp vs H Q E->vs.length=ps.length)(a:∀ (cdv:Value) (A:Around) (outer:List Env) (s:Shared) (H:Hp) (vs:List V) (Q:VK) (E:XK),Zf k (A.deeper (envOfC qual (zo st) s.heap.objs.size f cdv))->sp vs H Q E->
  ∃ t,Qg (ZJ Yn P w K mg base N qual (zo st) f cdv A outer s H E).nox (Zs st) t/\t { nx:=λ_ H'=>Q .Zn H',rt:=Q } (start N vs) H):Zu P w K mg base Yn (k+1) f fd ps sp:=by
 obtain⟨oc,od,kV,doc,pm,an,cdv,ct,osl,rfl,lk,c⟩:=F.ex;refine z7S lk c S len λA outer s H vs Q E hr b=>?_;obtain⟨t,h,q⟩:=a cdv A outer s H vs Q E hr b;exact⟨t,h.nox,q⟩
def vc.binds{x:Str}{st:Stmt}(F:vc K x qual st f fd)(h:∀ (kV doc pm:Value) (an:Option Addr) (cdv ct:Value) (us:List Value),us.length=ps.length->bindArgs (PySem.W.fnOf x qual (ZT st) (Zs st) (zo st) .none kV doc pm an cdv ct) ⟨us,[]⟩=pure (ps.zip us)):Binds K fd ps []:=by
 obtain⟨oc,od,kV,doc,pm,an,cdv,ct,osl,rfl,lk,a⟩:=F.ex;exact .all (h kV doc pm an cdv ct)
def z2F{x:Str}{st:Stmt}{kV:Value}(l:K.lookup f=some ⟨oc,od,.func (PySem.W.fnOf x qual (ZT st) (Zs st) (zo st) .none kV doc pm an cdv ct),osl⟩)(c:PySem.W.codeIn K cdv qual=true)(k:PySem.W.keepIn K 034=true):vc K x qual st f (PySem.W.fnOf x qual (ZT st) (Zs st) (zo st) .none kV doc pm an cdv ct):=⟨⟨oc,od,kV,doc,pm,an,cdv,ct,osl,rfl,l,c⟩,k⟩
def Zv{k:Nat}(hr:Zf k A):A.units+1<cLine:=Z24 (Nat.add_le_add_left (by decide:1<=64) _) hr.units
def ZV(h:n<=1000):n<sizeLine:=Z24 h 01
def pv{X:Cx}{x:Str}{pos:Pos}(i:Nat)(b:X.N[i]?=some x:=by rfl)(c:Vis X.env.scope x:=by first | exact Or.inl rfl | exact Or.inr 018 | exact Or.inr (Or.inr rfl))(hd:(x == ("__debug__":Str))=false:=by decide)(a:(x == ("__classdict__":Str))=false:=by decide):PE X (.Name x pos) (uD i):=Z2D b c hd a
def Z4x{A B:Prop}(h:B):if false=true then A else B:=by
 rw[if_neg Z0d];exact h
def Z6f{A B:Prop}(h:A):if true=true then A else B:=by
 rw[if_pos rfl];exact h
noncomputable def zC(H H':Hp):Prop:=∀ b o,H b=some o->H' b=some o
def zC.refl(H:Hp):zC H H:=λ_ _ h=>h
def zC.trans(a:zC H H1)(b:zC H1 H2):zC H H2:=λc o h=>b c o (a c o h)
def zC.free(e:zC H H')(h:H' l=Option.none):H l=Option.none:=by
 cases q:H l with
 | none=>rfl
 | some o =>
   rw[e l o q] at h;cases h
def zC.seq(e:zC H H')(h:zN K H a xs):zN K H' a xs:=by
 rcases h with (h |⟨o,h⟩) | h;exact .inl (.inl (e _ _ h));exact .inl (.inr ⟨o,e _ _ h⟩);exact .inr h
def JV{pos:Pos}(I:Nat->Shared->Prop)(turn:∀ n s,I n s->wpAny 09 A (pyNext it) (λr a=>match r with
  | none=>R (.ok .next) a
  | some v=>wpAny 09 A (letOwnedTupleGo target it v) (λ_ d=>wpAny 09 A (assign target env v) (λ_ p =>
   wpAny 09 A (forIn ifs true λc r=>if r=true then do let ok ←isTrue c env (eval c env);pure (ForInStep.yield ok) else pure (ForInStep.yield r)) (λok b =>
    if ok=true then wpAny 09 A (eval elt env) (λx l =>
     wpAny 09 A (call (.builtin "list.append") [acc,x]) (λ_ j=>∃ m,m<n/\I m j) (λ_ _=>False) l) (λ_ _=>False) b
    else ∃ m,m<n/\I m b) (λ_ _=>False) p) (λ_ _=>False) d) (λ_ _=>False) a) (λ_ _=>False) s)(n:Nat)(h:I n s) :
 codeAny 09 A (.compLoop (.ListComp elt [⟨target,iter,ifs,0⟩] scope pos) 0 it acc env) R s:=by
 refine codeAny_loop rfl I (λn s z=>?_) n h;show wpAny _ A ((compTurn (.ListComp elt [⟨target,iter,ifs,0⟩] scope pos) 0 it acc env).onRaise (λx=>do noteFrame x env;theTreesLotGoes x)) _ _ s;refine wpAny_noted ?_;rw[compTurn_list];have B:∀ {E':Value->Shared->Prop}(x:Value) (s':Shared),False->E' x s':=λ_ _ f=>f.elim;refine wpAny_bind (wpAny_standAt (wpAny_bind (wpAny_mono (turn n s z) (λr a i=>?_) λ_ _ f=>f.elim)));cases r with
 | none=>exact wpAny_pure i
 | some v =>
   refine wpAny_bind (wpAny_mono i (λ_ d q=>?_) λ_ _ f=>f.elim);refine wpAny_bind (wpAny_mono q (λ_ p t=>wpAny_bind (wpAny_mono t (λok b o=>?_) λ_ _ f=>f.elim)) λ_ _ f=>f.elim);cases ok with
   | false=>exact wpAny_pure ⟨rfl,o⟩
   | true =>
     exact wpAny_bind (wpAny_bind (wpAny_mono o (λx l y=>wpAny_bind (wpAny_mono y (λ_ j u=>wpAny_pure (wpAny_pure ⟨rfl,u⟩)) λ_ _ f=>f.elim)) λ_ _ f=>f.elim))
noncomputable def Zp(X:Cx)(N':List Str)(scope:Scope)(cl:List (Str×Addr))(C:Addr)(s:Shared)(H:Hp)(fp:List Addr):Cx where
 prog:=X.prog
 w:=X.w
 K:=X.K
 mg:=X.mg
 base:=X.base
 A:=X.A
 N:=N'
 s₀:=s
 H₀:=H
 env:=compEnvC scope cl C X.env
 outer:=X.stack
 stack:=X.stack
 ex:=fp
 fn:=λ_=>false
 calm:=X.calm
 pn:=[]
 xe:=λ_ _=>False
noncomputable def PTs(X:Cx)(ifs:List Expr)(t:TT):Prop :=
 ∀ (pins:List 014) (s:Shared) (σ:St) (H:Hp) (Q:Bool->Hp->Prop),Inv X pins σ H s->t σ H Q->
   wpAny 06 X.A (forIn ifs true λc r=>if r=true then do let ok ←isTrue c X.env (eval c X.env);pure (ForInStep.yield ok) else pure (ForInStep.yield r)) (TP X pins σ Q) X.xe s
def ym:PTs X [] (λ_ H Q=>Q true H):=λ_ _ _ H _ I h=>wpAny_pure ⟨H,I,h⟩
def z9q(h:PT X c t):PTs X [c] t:=λpins s σ H Q I hw=>by
 simp only[Z5x,List.forIn_nil,if_true];exact wpAny_bind (wpAny_bind (wpAny_mono (h pins s σ H Q I hw) (λb s' a=>wpAny_pure (wpAny_pure a)) λ_ _ x=>x))
noncomputable def U5(X:Cx)(sc:Scope):List Str->List (Option Nat)->Prop
 | [],[]=>True
 | _ :: N,none :: ks=>U5 X sc N ks
 | x :: N,some k :: ks=>(X.N[k]?=some x/\X.env.scope.names.lookup x=some .cell/\(sc.names.lookup x=some .cell\/sc.names.lookup x=some .free))/\U5 X sc N ks
 | _,_=>False
theorem U5.len:∀ {N:List Str}{a:List (Option Nat)},U5 X sc N a->a.length=N.length
 | [],[],_=>rfl
 | _ :: N,none :: a,h=>by simp[U5.len (show U5 X sc N a from h)]
 | _ :: N,some _ :: a,h=>by simp[U5.len (show U5 X sc N a from h.2)]
 | [],_ :: _,h=>by cases h
 | _ :: _,[],h=>by cases h
theorem U5.get:∀ {N:List Str}{a:List (Option Nat)}{i k:Nat}{x:Str},U5 X sc N a->N[i]?=some x->a[i]?=some (some k)->
 X.N[k]?=some x/\X.env.scope.names.lookup x=some .cell/\(sc.names.lookup x=some .cell\/sc.names.lookup x=some .free)
 | [],[],_,_,_,_,e,_=>by simp at e
 | [],_ :: _,_,_,_,h,_,_=>by cases h
 | _ :: _,[],_,_,_,h,_,_=>by cases h
 | _ :: N,none :: a,0,k,x,h,e1,e2=>by simp at e2
 | _ :: N,none :: a,i+1,k,x,h,e1,e2=>U5.get (i:=i) (show U5 X sc N a from h) (by simpa using e1) (by simpa using e2)
 | y :: N,some j :: a,0,k,x,h,e1,e2=>by
   simp at e1 e2;subst e1 e2;exact h.1
 | _ :: N,some _ :: a,i+1,k,x,h,e1,e2=>U5.get (i:=i) (show U5 X sc N a from h.2) (by simpa using e1) (by simpa using e2)
noncomputable def z5f(a:List (Option Nat))(σ:St):St:=a.map λo=>match o with
 | none=>none
 | some k=>σ.getD k none
noncomputable def Q4(J:It)(D:Addr)(g:TG)(tt:TT)(h:TE)(Q:VK)(σ0:St)(H0:Hp):Prop :=
 ∃ W:Nat->Nat->List V->St->Hp->Prop,(∃ m,W 0 m [] σ0 H0)/\∀ i m c f H',W i m c f H'->H' D=some (.lst c)/\
   ((J.stop i H'/\Q (.ref D) H')\/(J.go i H'/\∀ x H2,J.yld i H' x H2->g x f H2 λa H3=>tt a H3 λb H4=>if b=true then
     h a H4 λy H5=>H5 D=some (.lst c)/\c.length<sizeLine/\∃ d,d<m/\W (i+1) d (c ++ [y]) a (upd H5 D (.lst (c ++ [y]))) else ∃ d,d<m/\W (i+1) d c a H4))
noncomputable def Vs(a:TI)(c:List (Option Nat))(g:TG)(tt:TT)(b:TE):TE:=λσ H Q=>a σ H λJ H1=>∀ D,H1 D=none->Q4 J D g tt b Q (z5f c σ) (upd H1 D (.lst []))
def z3J{X:Cx}{σ:St}{scope:Scope}{pos:Pos}{cl:List (Str×Addr)}{g:TG}(N:X.calm=true)(hi:PI X tg iter wi)(hclos:closureFor scope X.env=pure cl)(hcl:∀ x c,cl.lookup x=some c->X.env.cells.lookup x=some c)(hcell:∀ y∈scope.names,y.2≠.cell)(G:scope.kind=.function)(Q:∀ y∈scope.names,y.2=.local->scope.names.lookup y.1=some .local)(U:∀ x,((relabel scope X.env).names.lookup x=some .cell\/(relabel scope X.env).names.lookup x=some .free)->∃ c,cl.lookup x=some c)(S:U5 X (relabel scope X.env) N' ks)(hg:∀ C s H fp,PG 010 tg g)(ht:∀ C s H fp,PTs 010 ifs tt)(he:∀ C s H fp,PE 010 elt te)(hs:∀ x,foldedSetIterable iter X.env x=pure x)(I:Inv X pins σ H s)(h:Vs wi ks g tt te σ H QV)(fin:∀ {C D:Addr}{H5:Hp}{s6:Shared}{w:Flow},QV (.ref D) H5->(∃ m,s6.heap.Ns C m)->Inv X pins σ H5 s6->C≠X.env.locals->(∀ x c,X.env.cells.lookup x=some c->c≠C)->(∀ (f:St) (s':Shared),Inv X pins f H5 s'->∀ h'',Heap.SameBut C s'.heap h''->Inv X pins f H5 { s' with heap:=h'' })->compPost 06 X.A X.xe use QQ (.ref D) C (.ok w) s6) :
 wpAny 06 X.A (comprehension 011 scope X.env pos3 (newList []) false (eval iter X.env) use) QQ X.xe s:=by
 refine wpAny_comprehension_free (use:=use) rfl hs hclos G Q (Zj (hi pins s σ H _ I h) λv s1 h1=>Zj h1 λitv s2 h2=>?_);obtain⟨it,fp,tn,J,H2,e,I2,T,st2,f2,R⟩:=h2;subst e;refine wpAny_newObj_type (wpAny_newFunctionEnv hcell (by intro y hy;simp at hy) (λj E B=>?_) G);dsimp only at E B ⊢;have hD:H2 s2.heap.objs.size=none:=I2.hok.fresh (Z02 _);obtain⟨W,⟨m0,w0⟩,turn⟩:=R _ hD;generalize hs3:({ s2 with heap:=s2.heap.push { cls:=.type "list",dict:=none,data:=.seq ([]:List Value).toArray } }:Shared)=s3;have e3:s3.heap=s2.heap.push { cls:=.type "list",dict:=none,data:=.seq ([]:List Value).toArray }:=by rw[← hs3]
 have I3:Inv X pins σ (upd H2 s2.heap.objs.size (.lst [])) s3:=by
  rw[← hs3];exact I2.laid (t':=s2.toks) (λb o e=>Z00 _ e) (Z02 _) ⟨Z15 _,[],0,.nil,Z0r _ rfl⟩
 generalize hD0:s2.heap.objs.size=D at *;generalize hH3:upd H2 D (.lst [])=H3 at *;rw[← e3] at E B ⊢;have kp:∀ b o,s3.heap.get? b=some o->j.get? b=some o:=λb o e=>B.extBut b o (Z14 (Z0k e)) (Z00 _ e);have K:∀ b∈fp,Xu X pins H3 b/\b<s3.heap.objs.size:=λb a=>by
  obtain⟨o,ho,_⟩:=T.obj 0 _ st2 b a;have hlt:b<D:=by rw[← hD0];exact Z0k ho
  refine⟨⟨?_,(f2 b a).2⟩,?_⟩;rw[← hH3,zD (Z14 hlt)];exact (f2 b a).1;rw[e3,Z5h,hD0];exact Nat.lt_succ_of_lt hlt
 have st3:tn 0 j:=T.keep 0 s2.heap j st2 λb a o e=>kp b o (by rw[e3];exact Z00 _ e);have t:∀ x c,cl.lookup x=some c->X.env.cells.lookup x=some c:=hcl;have O:∀ b∈fp,b∉frs X.stack:=λb a z=>by
  rcases Z08.mp (I3.z3m b z) with e | e;exact (K b a).1.2.1 e;exact (K b a).1.2.2.1 e
 have Cfresh:H3 s3.heap.objs.size=none:=I3.hok.fresh (Z02 _);have ok':(Zp X N' scope cl s3.heap.objs.size s3 H3 fp).Ok:=by
  refine⟨I3.ok.mod,G,I3.ok.glob,I3.ok.blt,Z02 _,λx y c h1 h2=>I3.ok.inj x y c (t x c h1) (t y c h2),λx hx=>U x hx,λx c hf _=>absurd (show false=true from hf) Z0d,λz=>I3.ok.hd z,I3.ok.frames,.inl rfl,
   λb a=>⟨Z14 (K b a).2,λx c e=>(K b a).1.2.2.2.2.1 x c (t x c e)⟩,I3.bs,Z0Y I3.ok.bsz I3.sz,λb o e a=>?_,λb a=>O b a,I3.stack,I3.VR⟩
  rcases (K b a).1.2.2.2.1 with z | z;exact I3.ok.noex b o e z;exact absurd (Z0X (Z0k e) (Z0Y I3.ok.bsz z)) (Z34 _)
 have I4:Inv 030 [] (z5f ks σ) H3 { s3 with heap:=j,toks:=s3.toks+([]:List (Str×Value)).length }:=by
  refine⟨ok',rfl,I3.bare,Un.kept kp,⟨_,E,λi x v e1 e2 e3'=>?_⟩,λx c e=>?_,Cfresh,λx c e=>I3.freeC x c (t x c e),λp hp=>absurd (show p∈([]:List 014) from hp) 05,I3.hok.kept kp,?_⟩;have F:(z5f ks σ)[i]?=some (some v):=e2;unfold z5f at F;rw[Z17] at F;cases hk:ks[i]? with
  | none=>rw[hk] at F;cases F
  | some o =>
    rw[hk] at F;cases o with
    | none=>cases F
    | some k =>
      have ev:σ.getD k none=some v:=Z19 F;obtain⟨c1,c2,c3⟩:=S.get e1 hk;obtain⟨m,hn,hl⟩:=I3.loc;have es:σ[k]?=some (some v):=by
       rw[Z05] at ev;cases q:σ[k]? with
       | none=>rw[q] at ev;cases ev
       | some z=>rw[q] at ev;exact congrArg some ev
      obtain⟨u,r,l⟩:=hl k x v c1 es (.inr (.inl c2));refine⟨u,r,.inr ⟨c3,?_⟩⟩;rcases l with⟨l1,_⟩|⟨_,c,l2,l3⟩;have l1':X.env.scope.names.lookup x=some .local:=l1;rw[c2] at l1';cases l1';obtain⟨c',hc'⟩:=U x c3;have:X.env.cells.lookup x=some c':=t x c' hc';rw[l2] at this;cases this;refine⟨c,hc',?_⟩;obtain⟨o,ho,hd⟩:=l3;exact⟨o,kp c o ho,hd⟩
  obtain⟨v,o,ho,hd⟩:=I3.cell x c (t x c e);exact⟨v,o,kp c o ho,hd⟩;show (z5f ks σ).length=N'.length;unfold z5f;rw[ZB,S.len]
 have Cne:∀ p∈X.pn ++ pins,p.1≠s3.heap.objs.size:=λp hp=>Z14 (Z0k (I3.pin p hp).1);have L:∀ {H':Hp},(∀ b∈fp,H' b=none)->∀ b∈fp,Xu 030 [] H' b:=λhn b a =>
  ⟨hn b a,Z14 (K b a).2,O b a,.inl a,λx c e=>(K b a).1.2.2.2.2.1 x c (t x c e),λp hp=>absurd (show p∈([]:List 014) from hp) 05⟩
 have loop:codeAny 06 X.A (.compLoop 011 0 (.ref it) (.ref D) (compEnvC scope cl s3.heap.objs.size X.env))
  (compPost 06 X.A X.xe use QQ (.ref D) s3.heap.objs.size) { s3 with heap:=j,toks:=s3.toks+([]:List (Str×Value)).length }:=by
  refine JV (λn s'=>∃ i ys f H',Inv 030 [] f H' s'/\tn i s'.heap/\(∀ b∈fp,H' b=none)/\W i n ys f H') ?_ m0 ⟨0,[],_,_,I4,st3,λb a=>(K b a).1.1,w0⟩;rintro n s5 ⟨i,ys,P,H5,I5,st5,fr5,w5⟩;obtain⟨hD5,tq⟩:=turn i n ys P H5 w5;rcases tq with⟨stop,q⟩|⟨go,step⟩;refine Zj (T.done 030 rfl rfl rfl N i [] s5 P H5 _ I5 (L fr5) st5 stop) λr s6 ⟨hr,I6⟩=>?_
  subst hr;obtain⟨m,hn,_⟩:=I6.loc;have cL:∀ x c,X.env.cells.lookup x=some c->c≠s3.heap.objs.size:=λx c e=>by
   obtain⟨v,q⟩:=I3.cell x c e;exact Z14 q.lt
  exact fin q ⟨m,hn⟩ (I3.Z1c (ch:=fp) I6.os I6.base I6.hok I6.bare λb a=>⟨(K b a).1.2.2.2.1,(K b a).1.2.1,(K b a).1.2.2.2.2.1,(K b a).1.2.2.2.2.2⟩) (Z40 I3.lt) cL λf s' I' h'' sb=>I'.turned (t':=s'.toks) (it:=s3.heap.objs.size) (λb o a e=>(sb.2 b a).trans e) I6.free (Z40 I3.lt) (.inr I3.sz) cL Cne;refine Zj (T.item 030 rfl rfl rfl N i [] s5 P H5 _ I5 (L fr5) st5 go) λr s6 M=>?_;obtain⟨u,hr,h6⟩:=M;subst hr;refine Zj h6 λ_ s7 M=>?_;obtain⟨x,H7,I7,r7,y7,Y,fr7⟩:=M;have I7':=I7.pinned (L fr7) (T.obj _ _ Y);refine Zj (hg _ _ _ _ _ s7 P H7 x u _ I7' r7 (step x H7 y7)) λ_ s8 M=>?_;obtain⟨σ8,H8,I8,q8⟩:=M;refine Zj (ht _ _ _ _ _ s8 σ8 H8 _ I8 q8) λok s9 M=>?_;obtain⟨H9,I9,q9⟩:=M;have again:∀ {f:St}{H':Hp}{s':Shared}{ys':List V},Inv 030 ([] ++ uQ fp s7.heap) f H' s'->(∃ Z,Z<n/\W (i+1) Z ys' f H')->
   ∃ Z,Z<n/\∃ i ys f H',Inv 030 [] f H' s'/\tn i s'.heap/\(∀ b∈fp,H' b=none)/\W i Z ys f H':=λ{f H' s' ys'} I' hw=>by
   obtain⟨Z,hm,w'⟩:=hw;refine⟨Z,hm,i+1,ys',f,H',I'.QG,T.keep _ _ _ Y λb a o e=>(I'.pin (b,o) (Z33 _ (Z33 _ (Y5 a e)))).1,λb a=>?_,w'⟩;obtain⟨o,e,d⟩:=T.obj _ _ Y b a;exact (I'.pin (b,o) (Z33 _ (Z33 _ (Y5 a e)))).2.1
  cases ok with
  | false =>
    rw[if_neg Z0d] at q9 ⊢;exact again I9 q9
  | true =>
    rw[if_pos rfl] at q9 ⊢;refine Zj (he _ _ _ _ _ s9 σ8 H9 _ I9 q9) λy s10 M=>?_;obtain⟨yv,H10,I10,r10,q10,z10,w10⟩:=M;refine Zj (ye _ s10 σ8 H10 (.ref D) [yv] (.ref D) [y] (λv H'=>v=.Zn/\H'=upd H10 D (.lst (ys ++ [yv]))) I10 rfl (.cons r10 .nil) ⟨D,ys,yv,rfl,rfl,q10,z10,rfl,rfl⟩) λ_ s11 M=>?_;obtain⟨_,H11,I11,_,_,e11⟩:=M;subst e11;exact again I11 w10
 have es:({ s3 with heap:=j,toks:=s3.toks+([]:List (Str×Value)).length }:Shared)={ s2 with heap:=j,toks:=s2.toks+([]:List (Str×Value)).length }:=by rw[← hs3]
 rw[es] at loop;exact codeAny_compStart_list loop (T.self _ 0 _ _ _ st3 loop)
def Z0E{pos:Pos}{g:TG}(d:X.calm=true)(hi:PI X tg iter wi)(f:closureFor scope X.env=pure cl)(n:∀ x c,cl.lookup x=some c->X.env.cells.lookup x=some c)(b:∀ y∈scope.names,y.2≠.cell)(i:scope.kind=.function)(a:∀ y∈scope.names,y.2=.local->scope.names.lookup y.1=some .local)(j:∀ x,((relabel scope X.env).names.lookup x=some .cell\/(relabel scope X.env).names.lookup x=some .free)->∃ c,cl.lookup x=some c)(l:U5 X (relabel scope X.env) N' ks)(r:∀ C s H fp,PG 010 tg g)(u:∀ C s H fp,PTs 010 ifs tt)(he:∀ C s H fp,PE 010 elt te)(p:∀ x,foldedSetIterable iter X.env x=pure x:=by intro _;rfl):PE X 011 (Vs wi ks g tt te):=by
 intro pins s σ H Q I h;rw[eval_ListComp];exact z3J (use:=none) (QQ:=EP X pins σ Q) d hi f n b i a j l r u he p I h λ{C D H5 v w} q ⟨m,hn⟩ J _ _ t=>⟨m,hn,λo sb=>⟨.ref D,H5,t σ v J o sb,rfl,q⟩⟩
noncomputable def Sz(n:Nat)(k:Int):Prop:=k.natAbs<2 ^ n
def Sz.mono{k:Int}(h:Sz n k)(l:n<=m):Sz m k:=Z0X h (Z37 01 l)
def Sz.mul(h:Sz n a)(h':Sz m b):Sz (n+m) (a * b):=by
 unfold Sz at *;rw[Int.natAbs_mul,Nat.pow_add];exact Nat.mul_lt_mul'' h h'
def Sz.add(h:Sz n a)(h':Sz n b):Sz (n+1) (a+b):=by
 unfold Sz at *;rw[Nat.pow_succ,Nat.mul_two];exact Z24 (Int.natAbs_add_le a b) (Nat.add_lt_add h h')
def Sz.neg(h:Sz n a):Sz n (-a):=by
 unfold Sz at *;rw[Int.natAbs_neg];exact h
def Sz.sub(h:Sz n a)(h':Sz n b):Sz (n+1) (a - b):=by
 rw[Int.sub_eq_add_neg];exact h.add h'.neg
def Sz.bits{k:Int}(h:Sz n k):Builtin.Int.intBits k<=n:=by
 unfold Builtin.Int.intBits;split;exact Z15 _;rename_i hk;have h0:k.natAbs≠0:=λz=>hk (by simp at z;simp[z]);have:=(Nat.log2_lt h0).mpr h;lia
def Sz.log2{k:Int}(h:Sz n k)(hn:0<n):k.natAbs.log2<n:=by
 by_cases h0:k.natAbs=0;rw[h0];exact hn;exact (Nat.log2_lt h0).mpr h
noncomputable def z6y(i j:Int):Prop:=Sz 100000 i/\Sz 100000 j
def z6y.ok(h:z6y i j):IntMulOk i j:=by
 have a:=h.1.bits;have b:=h.2.bits;have e:Builtin.Int.intTooBig ((Builtin.Int.intBits i:Int)+Builtin.Int.intBits j)=false:=by
  unfold Builtin.Int.intTooBig;refine decide_eq_false ?_;have:(bitsLine:Nat)=134217728:=rfl;rw[this];lia
 unfold IntMulOk;simp[e]
noncomputable def Z4e(_ j:Int):Prop:=j≠0/\Sz 9000 j
def Z7:YD X (binaryOp .Mult) (rI z6y λi j=>.int (i * j)):=opI λ_ _ _ _ _ _ _ a q=>mul_int q a.ok
def yl:YD X (binaryOp .FloorDiv) (rI Z4e λi j=>.int (i.fdiv j)):=opI λ_ _ _ _ _ _ _ a q=>floordiv_int a.1 q (.inl (PyProof.noPylong_of_log2 (a.2.log2 01)))
inductive Dt where
 | Zn | bl (b:Bool) | int (i:Int) | str (x:Str) | tup (xs:List Dt) | lst (xs:List Dt)
mutual
def Den(K:FR)(H:Hp):Dt->V->Prop
 | .Zn,v=>v=.Zn
 | .bl b,v=>v=.bl b
 | .int i,v=>v=.int i
 | .str x,v=>v=.str x
 | .tup ds,v=>∃ a xs,v=.ref a/\zR K H a xs/\Zh K H ds xs
 | .lst ds,v=>∃ a xs,v=.ref a/\zN K H a xs/\Zh K H ds xs
def Zh(K:FR)(H:Hp):List Dt->List V->Prop
 | [],xs=>xs=[]
 | d :: ds,xs=>∃ x r,xs=x :: r/\Den K H d x/\Zh K H ds r
end
mutual
def UO:Dt->Dt->Bool
 | .Zn,.Zn=>true
 | .bl a,.bl b=>a == b
 | .bl a,.int b=>(if a then 1 else 0) == b
 | .int a,.bl b=>a == (if b then 1 else 0)
 | .int a,.int b=>a == b
 | .str a,.str b=>a == b
 | .tup xs,.tup ys=>xM xs ys
 | .lst xs,.lst ys=>xM xs ys
 | _,_=>false
def xM:List Dt->List Dt->Bool
 | [],[]=>true
 | x :: xs,y :: ys=>UO x y && xM xs ys
 | _,_=>false
end
mutual
def QD:Dt->Nat
 | .tup xs=>xP xs+1
 | .lst xs=>xP xs+1
 | _=>0
def xP:List Dt->Nat
 | []=>0
 | x :: xs=>max (QD x) (xP xs)
end
mutual
theorem Ul:∀ d:Dt,UO d d=true
 | .Zn=>rfl
 | .bl b=>by simp[UO]
 | .int b=>by simp[UO]
 | .str b=>by simp[UO]
 | .tup xs=>by simp only[UO];exact vJ xs
 | .lst xs=>by simp only[UO];exact vJ xs
theorem vJ:∀ ds:List Dt,xM ds ds=true
 | []=>rfl
 | x :: xs=>by simp only[xM,Ul x,vJ xs,Bool.and_self]
end
theorem Zh.length:∀ {ds:List Dt}{xs:List V},Zh K H ds xs->xs.length=ds.length
 | [],_,h=>by simp only[Zh] at h;subst h;rfl
 | d :: ds,_,h=>by
   simp only[Zh] at h;obtain⟨x,r,rfl,_,h⟩:=h;simp[Zh.length h]
def Vc{X:Cx}{σ:St}(I:Inv X pins σ H s)(h:zR X.K H a xs)(h':zN X.K H a ys):False:=by
 obtain⟨its,_,⟨o,e,c,_⟩,_⟩:=I.tuple h;obtain⟨its',_,⟨o',n',d,b,_⟩,_⟩:=I.list h';rw[e] at d;cases d;rw[c] at b;have:("tuple":String)="list":=by injection b
 exact absurd this 01
mutual
theorem Den.inj{X:Cx}{σ:St}(I:Inv X pins σ H s):∀ {d e:Dt}{v:V},Den X.K H d v->Den X.K H e v->d=e
 | .Zn,e,v,h,h'=>by
   simp only[Den] at h;subst h;cases e <;> simp only[Den] at h' <;> first
    | rfl
    | (obtain⟨_,_,z,_⟩:=h';cases z;done)
    | (cases h';done)
 | .bl b,e,v,h,h'=>by
   simp only[Den] at h;subst h;cases e <;> simp only[Den] at h' <;> first
    | (obtain⟨_,_,z,_⟩:=h';cases z;done)
    | (cases h';rfl)
    | (cases h';done)
 | .int b,e,v,h,h'=>by
   simp only[Den] at h;subst h;cases e <;> simp only[Den] at h' <;> first
    | (obtain⟨_,_,z,_⟩:=h';cases z;done)
    | (cases h';rfl)
    | (cases h';done)
 | .str b,e,v,h,h'=>by
   simp only[Den] at h;subst h;cases e <;> simp only[Den] at h' <;> first
    | (obtain⟨_,_,z,_⟩:=h';cases z;done)
    | (cases h';rfl)
    | (cases h';done)
 | .tup ds,e,v,h,h'=>by
   simp only[Den] at h;obtain⟨a,xs,rfl,f,hd⟩:=h;cases e with
   | tup es =>
     simp only[Den] at h';obtain⟨b,i,z,c,he⟩:=h';cases z;rw[I.yY c f] at he;rw[Zh.inj I hd he]
   | lst es =>
     simp only[Den] at h';obtain⟨b,i,z,c,he⟩:=h';cases z;exact (Vc I f c).elim
   | Zn=>simp only[Den] at h';cases h'
   | bl b=>simp only[Den] at h';cases h'
   | int b=>simp only[Den] at h';cases h'
   | str b=>simp only[Den] at h';cases h'
 | .lst ds,e,v,h,h'=>by
   simp only[Den] at h;obtain⟨a,xs,rfl,f,hd⟩:=h;cases e with
   | lst es =>
     simp only[Den] at h';obtain⟨b,i,z,c,he⟩:=h';cases z;rw[I.QH c f] at he;rw[Zh.inj I hd he]
   | tup es =>
     simp only[Den] at h';obtain⟨b,i,z,c,he⟩:=h';cases z;exact (Vc I c f).elim
   | Zn=>simp only[Den] at h';cases h'
   | bl b=>simp only[Den] at h';cases h'
   | int b=>simp only[Den] at h';cases h'
   | str b=>simp only[Den] at h';cases h'
theorem Zh.inj{X:Cx}{σ:St}(I:Inv X pins σ H s):∀ {ds a:List Dt}{vs:List V},Zh X.K H ds vs->Zh X.K H a vs->ds=a
 | [],[],_,_,_=>rfl
 | [],e :: a,vs,h,h'=>by
   simp only[Zh] at h h';subst h;obtain⟨_,_,z,_⟩:=h';cases z
 | d :: ds,[],vs,h,h'=>by
   simp only[Zh] at h h';subst h';obtain⟨_,_,z,_⟩:=h;cases z
 | d :: ds,e :: a,vs,h,h'=>by
   simp only[Zh] at h h';obtain⟨x,r,rfl,c,i⟩:=h;obtain⟨y,j,z,f,b⟩:=h';cases z;rw[Den.inj I c f,Zh.inj I i b]
end
noncomputable def Ys(ds a:List Dt)(j:Nat):Bool:=match ds[j]?,a[j]? with
 | some d,some e=>UO d e
 | _,_=>true
theorem vP:∀ (ds a:List Dt),ds.length=a.length->(List.range ds.length).all (Ys ds a)=xM ds a
 | [],[],_=>rfl
 | d :: ds,e :: a,h=>by
   have c:=vP ds a (by simpa using h);rw[Z07,List.range_succ_eq_map,List.all_cons,List.all_map];have f:Ys (d :: ds) (e :: a) 0=UO d e:=rfl;have b:(Ys (d :: ds) (e :: a)) ∘ Nat.succ=Ys ds a:=by
    funext j;simp[Ys,Function.comp]
   rw[f,b,c];rfl
theorem V6:∀ (ds a:List Dt),ds.length≠a.length->xM ds a=false
 | [],[],h=>absurd rfl h
 | [],_ :: _,_=>rfl
 | _ :: _,[],_=>rfl
 | d :: ds,e :: a,h=>by
   simp only[xM];rw[V6 ds a (by simpa using h),Bool.and_false]
theorem Zh.get:∀ {ds:List Dt}{xs:List V}{j:Nat}{d:Dt},Zh K H ds xs->ds[j]?=some d->∃ x,xs[j]?=some x/\Den K H d x
 | [],_,_,_,_,e=>by simp at e
 | d :: ds,xs,0,d',h,e=>by
   simp only[Zh] at h;obtain⟨x,r,rfl,b,_⟩:=h;simp at e;subst e;exact⟨x,rfl,b⟩
 | d :: ds,xs,j+1,d',h,e=>by
   simp only[Zh] at h;obtain⟨x,r,rfl,_,f⟩:=h;obtain⟨y,c,a⟩:=Zh.get (j:=j) f (by simpa using e);exact⟨y,by simpa using c,a⟩
theorem U9:∀ {ds:List Dt}{j:Nat}{d:Dt},ds[j]?=some d->QD d<=xP ds
 | [],_,_,e=>by simp at e
 | d :: ds,0,d',e=>by simp at e;subst e;simp only[xP];exact Nat.le_max_left _ _
 | d :: ds,j+1,d',e=>by
   have:=U9 (ds:=ds) (j:=j) (d:=d') (by simpa using e);simp only[xP];exact Z0Y this (Nat.le_max_right _ _)
def QU{X:Cx}{A:Around}{us vs:List Value}(n:Nat)(C:∀ (A:Around) (d e:Dt) (x y:V) (u v:Value),QD d<=n->A.units+n<cLine->Den X.K H d x->Den X.K H e y->RelV x u->RelV y v->SeqAt.EqAt A s u v (UO d e))(hd:xP ds<=n)(I:A.units+n+1<cLine)(o:Zh X.K H ds xs)(f:Zh X.K H es ys)(h:Vals xs us)(i:Vals ys vs) :
 ∀ j (g1:j<us.toArray.size) (g2:j<vs.toArray.size),SeqAt.EqAt A.in1 s us.toArray[j] vs.toArray[j] (Ys ds es j):=by
 intro j g1 g2;have F:=o.length;have G:=f.length;have w:=h.length;have z:=i.length;have a:j<us.length:=by simpa using g1
 have b:j<vs.length:=by simpa using g2
 have q:j<ds.length:=by rw[← F,w];exact a
 have t:j<es.length:=by rw[← G,z];exact b
 have c:ds[j]?=some ds[j]:=by simp[q]
 have m:es[j]?=some es[j]:=by simp[t]
 obtain⟨x,ex,dx⟩:=o.get c;obtain⟨y,E,r⟩:=f.get m;obtain⟨u,l,B⟩:=h.get ex;obtain⟨v,ev,D⟩:=i.get E;have p:Ys ds es j=UO ds[j] es[j]:=by unfold Ys;rw[c,m]
 rw[p];have a1:us.toArray[j]=u:=by
  have:us[j]?=some us[j]:=by simp[a]
  rw[this] at l;simpa using Z19 l
 have a2:vs.toArray[j]=v:=by
  have:vs[j]?=some vs[j]:=by simp[b]
  rw[this] at ev;simpa using Z19 ev
 rw[a1,a2];exact C A.in1 _ _ x y u v (Z0Y (U9 c) hd) (by show A.units+1+n<cLine;lia) dx r B D
def Z0M{X:Cx}{σ:St}{A:Around}(I:Inv X pins σ H s)(n:Nat)(t:∀ (A:Around) (d e:Dt) (x y:V) (u v:Value),QD d<=n->A.units+n<cLine->Den X.K H d x->Den X.K H e y->RelV x u->RelV y v->SeqAt.EqAt A s u v (UO d e))(hd:xP ds<=n)(p:A.units+n+1<cLine)(ha:zR X.K H a xs)(C:zR X.K H b ys)(m:Zh X.K H ds xs)(i:Zh X.K H es ys) :
 SeqAt.RcAt A s 027 (.ref b) (xM ds es)/\SeqAt.RcNeAt A s 027 (.ref b) (!xM ds es):=by
 obtain⟨its,j,z,_⟩:=I.tuple ha;obtain⟨c,l,w,_⟩:=I.tuple C;have B:=m.length;have o:=i.length;have r:=j.length;have h:=l.length;have f:A.units<cLine:=00
 have q:=SeqAt.RcAt.tuples (A:=A) (s:=s) (e:=Ys ds es) z w f (QU n t hd p m i j l);have q2:=SeqAt.RcNeAt.tuples (A:=A) (s:=s) (e:=Ys ds es) z w f (QU n t hd p m i j l);have e:((List.range (min its.toArray.size c.toArray.size)).all (Ys ds es) && its.toArray.size == c.toArray.size)=xM ds es:=by
  simp only[Z04];by_cases hl:ds.length=es.length;have:its.length=c.length:=by rw[← r,← h,B,o,hl]
  rw[this,Nat.min_self,← h,o,← hl,vP ds es hl];simp;have:its.length≠c.length:=by rw[← r,← h,B,o];exact hl
  rw[V6 ds es hl];simp[this]
 rw[e] at q q2;exact⟨q,q2⟩
def z9E{X:Cx}{σ:St}{A:Around}(I:Inv X pins σ H s)(n:Nat)(z:∀ (A:Around) (d e:Dt) (x y:V) (u v:Value),QD d<=n->A.units+n<cLine->Den X.K H d x->Den X.K H e y->RelV x u->RelV y v->SeqAt.EqAt A s u v (UO d e))(hd:xP ds<=n)(t:A.units+n+1<cLine)(ha:zN X.K H a xs)(C:zN X.K H b ys)(p:Zh X.K H ds xs)(l:Zh X.K H es ys) :
 SeqAt.RcAt A s 027 (.ref b) (xM ds es)/\SeqAt.RcNeAt A s 027 (.ref b) (!xM ds es):=by
 obtain⟨its,m,i,_⟩:=I.list ha;obtain⟨f,o,h,_⟩:=I.list C;have r:=p.length;have B:=l.length;have j:=m.length;have w:=o.length;have c:A.units<cLine:=00
 by_cases hl:ds.length=es.length;have hsz:its.toArray.size=f.toArray.size:=by simp only[Z04];rw[← j,← w,r,B,hl]
 have q:=SeqAt.RcAt.lists (A:=A) (s:=s) (e:=Ys ds es) i.isList h.isList hsz c (QU n z hd t p l m o);have q2:=SeqAt.RcNeAt.lists (A:=A) (s:=s) (e:=Ys ds es) i.isList h.isList hsz c (QU n z hd t p l m o);have e:(List.range its.toArray.size).all (Ys ds es)=xM ds es:=by
  simp only[Z04];rw[← j,r,vP ds es hl]
 rw[e] at q q2;exact⟨q,q2⟩;have hsz:(its.toArray.size != f.toArray.size)=true:=by
  simp only[Z04];rw[← j,← w,r,B];simpa using hl
 rw[V6 ds es hl];exact⟨SeqAt.RcAt.lists_lengths i.isList h.isList hsz c,SeqAt.RcNeAt.lists_lengths i.isList h.isList hsz c⟩
def z8C{X:Cx}{σ:St}(I:Inv X pins σ H s):∀ (n:Nat) (A:Around) (d e:Dt) (x y:V) (u v:Value),QD d<=n->A.units+n<cLine->Den X.K H d x->Den X.K H e y->RelV x u->RelV y v->SeqAt.EqAt A s u v (UO d e):=by
 intro n
 induction n with
 | zero =>
   intro A d e x y u v hd D m c l h;have f:A.units<cLine:=00
   cases d with
   | tup ds=>simp only[QD] at hd;lia
   | lst ds=>simp only[QD] at hd;lia
   | Zn =>
     simp only[Den] at m;subst m;cases e with
     | tup es =>
       simp only[Den] at c;obtain⟨b,o,rfl,j,_⟩:=c;cases l;cases h;obtain⟨its,_,p,_⟩:=I.tuple j;exact SeqAt.EqAt.none_tuple p f
     | lst es =>
       simp only[Den] at c;obtain⟨b,o,rfl,j,_⟩:=c;cases l;cases h;obtain⟨its,_,p,_⟩:=I.list j;exact SeqAt.EqAt.none_list p.isList f
     | _=>simp only[Den] at c;subst c;exact Ut l h rfl rfl
   | bl i =>
     simp only[Den] at m;subst m;cases e with
     | tup es =>
       simp only[Den] at c;obtain⟨b,o,rfl,j,_⟩:=c;cases l;cases h;obtain⟨its,_,p,_⟩:=I.tuple j;exact SeqAt.EqAt.bool_tuple _ p f
     | lst es =>
       simp only[Den] at c;obtain⟨b,o,rfl,j,_⟩:=c;cases l;cases h;obtain⟨its,_,p,_⟩:=I.list j;exact SeqAt.EqAt.bool_list _ p.isList f
     | _=>simp only[Den] at c;subst c;exact Ut l h rfl rfl
   | int i =>
     simp only[Den] at m;subst m;cases e with
     | tup es =>
       simp only[Den] at c;obtain⟨b,o,rfl,j,_⟩:=c;obtain⟨t,rfl⟩:=l;cases h;obtain⟨its,_,p,_⟩:=I.tuple j;exact SeqAt.EqAt.int_tuple _ _ p f
     | lst es =>
       simp only[Den] at c;obtain⟨b,o,rfl,j,_⟩:=c;obtain⟨t,rfl⟩:=l;cases h;obtain⟨its,_,p,_⟩:=I.list j;exact SeqAt.EqAt.int_list _ _ p.isList f
     | _=>simp only[Den] at c;subst c;exact Ut l h rfl rfl
   | str i =>
     simp only[Den] at m;subst m;cases e with
     | tup es =>
       simp only[Den] at c;obtain⟨b,o,rfl,j,_⟩:=c;obtain⟨t,rfl⟩:=l;cases h;obtain⟨its,_,p,_⟩:=I.tuple j;exact SeqAt.EqAt.str_tuple _ _ p f
     | lst es =>
       simp only[Den] at c;obtain⟨b,o,rfl,j,_⟩:=c;obtain⟨t,rfl⟩:=l;cases h;obtain⟨its,_,p,_⟩:=I.list j;exact SeqAt.EqAt.str_list _ _ p.isList f
     | _=>simp only[Den] at c;subst c;exact Ut l h rfl rfl
 | succ n ih =>
   intro A d e x y u v hd D m c l h;have f:A.units<cLine:=00
   by_cases hle:QD d<=n;exact ih A d e x y u v hle 00 m c l h;cases d with
   | tup ds =>
     simp only[QD] at hd;have w:=m;simp only[Den] at m;obtain⟨a,xs,rfl,B,hds⟩:=m;cases l;have C:=I.tuple B;obtain⟨its,E,q,_⟩:=C;cases e with
     | tup es =>
       have z:=c;simp only[Den] at c;obtain⟨b,o,rfl,j,r⟩:=c;cases h;by_cases hab:a=b;subst hab;rw[Den.inj I w z,Ul];exact SeqAt.EqAt.same _;simp only[UO];exact SeqAt.EqAt.of_refs hab (Z0M I n ih 00 00 B j hds r).1
     | lst es =>
       simp only[Den] at c;obtain⟨b,o,rfl,j,_⟩:=c;cases h;obtain⟨its',_,p,_⟩:=I.list j;exact SeqAt.EqAt.tuple_list q p.isList f
     | Zn=>simp only[Den] at c;subst c;cases h;exact SeqAt.EqAt.tuple_none q f
     | bl i=>simp only[Den] at c;subst c;cases h;exact SeqAt.EqAt.tuple_bool _ q f
     | int i=>simp only[Den] at c;subst c;obtain⟨t,rfl⟩:=h;exact SeqAt.EqAt.tuple_int _ _ q f
     | str i=>simp only[Den] at c;subst c;obtain⟨t,rfl⟩:=h;exact SeqAt.EqAt.tuple_str _ _ q f
   | lst ds =>
     simp only[QD] at hd;have w:=m;simp only[Den] at m;obtain⟨a,xs,rfl,B,hds⟩:=m;cases l;have C:=I.list B;obtain⟨its,E,q,_⟩:=C;cases e with
     | lst es =>
       have z:=c;simp only[Den] at c;obtain⟨b,o,rfl,j,r⟩:=c;cases h;by_cases hab:a=b;subst hab;rw[Den.inj I w z,Ul];exact SeqAt.EqAt.same _;simp only[UO];exact SeqAt.EqAt.of_refs hab (z9E I n ih 00 00 B j hds r).1
     | tup es =>
       simp only[Den] at c;obtain⟨b,o,rfl,j,_⟩:=c;cases h;obtain⟨its',_,p,_⟩:=I.tuple j;exact SeqAt.EqAt.list_tuple q.isList p f
     | Zn=>simp only[Den] at c;subst c;cases h;exact SeqAt.EqAt.list_none q.isList f
     | bl i=>simp only[Den] at c;subst c;cases h;exact SeqAt.EqAt.list_bool _ q.isList f
     | int i=>simp only[Den] at c;subst c;obtain⟨t,rfl⟩:=h;exact SeqAt.EqAt.list_int _ _ q.isList f
     | str i=>simp only[Den] at c;subst c;obtain⟨t,rfl⟩:=h;exact SeqAt.EqAt.list_str _ _ q.isList f
   | _=>simp only[QD] at hle;lia
noncomputable def Z6u(K:FR):List V->Hp->VK->Prop:=λxs H Q=>∃ x T t b,xs=[x,.ty T]/\vm K H x t/\PySem.W.kitOne K t (.type T)=some b/\Q (.bl b) H
def uo:ZE X (.builtin "isinstance") (Z6u X.K):=by
 intro pins s σ H xs us Q I r h;obtain⟨x,T,t,b,rfl,ty,e,q⟩:=h;obtain⟨u,f,rfl,c,a⟩:=vals2 r;cases a;exact z5y I c ty e λd=>⟨.bl b,H,I.tok d,rfl,q⟩
def Z2v(K:FR):PySem.W.kitOne K (.type "tuple") (.type "tuple")=some true:=rfl
def Z2G(K:FR):PySem.W.kitOne K (.type "int") (.type "int")=some true:=02
def Z1X(K:FR):PySem.W.kitOne K (.type "int") (.type "bool")=some false:=02
end L2
namespace Pw
noncomputable def mk(a b:Int):Int×Int:=if b<0 then (a.fdiv (-(Int.gcd a b:Int)),b.fdiv (-(Int.gcd a b:Int))) else (a.fdiv (Int.gcd a b:Int),b.fdiv (Int.gcd a b:Int))
noncomputable def Canon(p:Int×Int):Prop:=0<p.2/\Int.gcd p.1 p.2=1
def z9L(h:b≠0):0<(Int.gcd a b:Int):=by
 have:0<Int.gcd a b:=Nat.pos_of_ne_zero λz=>h (Int.gcd_eq_zero_iff.mp z).2;lia
def V2{k n:Int}(h:k∣m * n)(c:Int.gcd m k=1):k∣n:=by
 have a:k.natAbs∣m.natAbs * n.natAbs:=by rw[← Int.natAbs_mul];exact Int.natAbs_dvd_natAbs.mpr h
 have b:Nat.Coprime k.natAbs m.natAbs:=by
  show Nat.gcd _ _=1;rw[Nat.gcd_comm];exact c
 exact Int.natAbs_dvd_natAbs.mp (Nat.Coprime.dvd_of_dvd_mul_left b a)
def QL(h:b≠0):Canon (mk a b)/\(mk a b).1 * b=a * (mk a b).2:=by
 have m:=z9L (a:=a) h;obtain⟨x,i⟩:((Int.gcd a b:Nat):Int)∣a:=Int.gcd_dvd_left ..;obtain⟨y,d⟩:((Int.gcd a b:Nat):Int)∣b:=Int.gcd_dvd_right ..;generalize hG:(Int.gcd a b:Int)=g at *;have f:g≠0:=00
 have j:Int.gcd x y=1:=by
  have l:Int.gcd a b=Int.gcd (g * x) (g * y):=by rw[← i,← d]
  rw[Int.gcd_mul_left] at l;have s:(g.natAbs:Int)=g:=00
  have u:(Int.gcd a b:Int)=g.natAbs:=by rw[hG,s]
  have o:Int.gcd a b=g.natAbs:=00
  have t:g.natAbs * Int.gcd x y=g.natAbs * 1:=by rw[← l,o];simp
  exact Nat.eq_of_mul_eq_mul_left 00 t
 have n:a.fdiv g=x:=by rw[i];exact Int.mul_fdiv_cancel_left _ f
 have q:b.fdiv g=y:=by rw[d];exact Int.mul_fdiv_cancel_left _ f
 have r:a.fdiv (-g)=-x:=by
  have:a=(-g) * (-x):=by rw[Int.neg_mul_neg];exact i
  rw[this];exact Int.mul_fdiv_cancel_left _ 00
 have p:b.fdiv (-g)=-y:=by
  have:b=(-g) * (-y):=by rw[Int.neg_mul_neg];exact d
  rw[this];exact Int.mul_fdiv_cancel_left _ 00
 unfold mk;rw[hG];by_cases hb:b<0;rw[if_pos hb,r,p];have c:y<0:=by
  refine Int.not_le.mp λc=>?_;have:=Z4j (Z51 m) c;lia
 refine⟨⟨by show 0 < -y;lia,by show Int.gcd (-x) (-y)=1;rw[Int.neg_gcd,Int.gcd_neg];exact j⟩,?_⟩;show -x * b=a * -y;rw[i,d];grind;rw[if_neg hb,n,q];have c:0<y:=by
  refine Int.not_le.mp λc=>?_;have:=Z4j (Z51 m) (show 0<=-y by lia);rw[Int.mul_neg,← d] at this;lia
 refine⟨⟨c,j⟩,?_⟩;show x * b=a * y;rw[i,d];grind
def Qi(d:Canon p)(f:Canon q)(h:p.1 * q.2=q.1 * p.2):p=q:=by
 obtain⟨b,a⟩:=p;obtain⟨q1,q2⟩:=q;obtain⟨a1,a2⟩:=d;obtain⟨b1,b2⟩:=f;simp only at *;have i:a∣q2:=by
  have:a∣b * q2:=⟨q1,by rw[h];grind⟩;exact V2 this a2
 have c:q2∣a:=by
  have:q2∣q1 * a:=⟨b,by rw[← h];grind⟩;exact V2 this b2
 have e:a=q2:=Int.dvd_antisymm 00 00 i c;subst e;have:b=q1:=Int.eq_of_mul_eq_mul_right 00 h;rw[this]
def Z0Q(h:b≠0)(d:Canon p)(hw:p.1 * b=a * p.2):mk a b=p:=by
 obtain⟨c,w⟩:=QL (a:=a) h;refine Qi c d (Int.eq_of_mul_eq_mul_right h ?_);grind
def z8l(h:Canon p):mk p.1 p.2=p:=Z0Q (by have:=h.1;lia) h (by grind)
def z0r{x:Int}(b:0<=x)(a:0<y):Int.gcd y (x % y)=Int.gcd x y:=by
 obtain⟨m,rfl⟩:=Z46 b;obtain⟨n,rfl⟩:=Z46 (Z51 a);show Nat.gcd n (((m:Int) % (n:Int)).natAbs)=Nat.gcd m n;have e:((m:Int) % (n:Int)).natAbs=m % n:=by rw[← Int.natCast_emod,Int.natAbs_natCast]
 rw[e,Nat.gcd_comm m n,Nat.gcd_comm n (m % n),← Nat.gcd_rec]
end Pw
namespace L2
def Zy{b:Bool}{A B:Prop}(e:b=true)(a:A):if b=true then A else B:=by rw[if_pos e];exact a
def ZF{b:Bool}{A B:Prop}(e:b=false)(h:B):if b=true then A else B:=by rw[e];exact Z4x h
def if2{b:Bool}{A B:Prop}(a:b=true->A)(c:b=false->B):if b=true then A else B:=by
 cases b with
 | true=>exact Z6f (a rfl)
 | false=>exact Z4x (c rfl)
def vne(h:i≠j):(!decide (V.int i=V.int j))=true:=by
 rw[decide_eq_false (λz=>h (V.int.inj z))];rfl
def veq(h:i=j):(!decide (V.int i=V.int j))=false:=by
 rw[decide_eq_true (congrArg V.int h)];rfl
def yk{k:Int}(n:Nat)(h:k.natAbs<2 ^ n)(l:n<=m:=by decide):Sz m k:=Sz.mono h l
noncomputable def Wt(Pv:Nat->List V->St->Hp->Prop)(n:Nat):Nat->Nat->List V->St->Hp->Prop:=λi m a σ H=>m=n - i/\i<=n/\Pv i a σ H
def Wt.next(h:i<n)(p:Pv (i+1) ys σ H):∃ a,a<n - i/\Wt Pv n (i+1) a ys σ H:=⟨n - (i+1),by omega,rfl,h,p⟩
def xC{g:TG}(Pv:Nat->List V->St->Hp->Prop)(h0:Pv 0 [] σ0 H0)(o:∀ i c σ H,Pv i c σ H->zR K H a xs/\H D=some (.lst c))(l:∀ i x c σ H,xs[i]?=some x->i<xs.length->Pv i c σ H->g x σ H λd H3=>tt d H3 λb H4=>if b=true then
  te d H4 λy H5=>H5 D=some (.lst c)/\c.length<sizeLine/\∃ h,h<xs.length - i/\Wt Pv xs.length (i+1) h (c ++ [y]) d (upd H5 D (.lst (c ++ [y]))) else ∃ h,h<xs.length - i/\Wt Pv xs.length (i+1) h c d H4)(hd:∀ c σ H,Pv xs.length c σ H->Q (.ref D) H) :
 Q4 (Itt K a) D g tt te Q σ0 H0:=by
 refine⟨Wt Pv xs.length,⟨xs.length,rfl,Z15 _,h0⟩,?_⟩;rintro i m c f H' ⟨rfl,hi,p⟩;obtain⟨j,n⟩:=o i c f H' p;refine⟨n,?_⟩;by_cases hlt:i<xs.length;refine .inr ⟨⟨xs,xs[i],j,by simp[hlt]⟩,λx H2 y=>?_⟩;obtain⟨e,y⟩:=y;subst e;exact l i x c f _ (y xs j) hlt p;have e:i=xs.length:=00
 subst e;exact .inl ⟨⟨xs,j,Z02 _⟩,hd c f H' p⟩
def Z3{g:TG}(Pv:Nat->List V->St->Hp->Prop)(h0:Pv 0 [] σ0 H0)(o:∀ i c σ H,Pv i c σ H->zN K H a xs/\H D=some (.lst c))(l:∀ i x c σ H,xs[i]?=some x->i<xs.length->Pv i c σ H->g x σ H λd H3=>tt d H3 λb H4=>if b=true then
  te d H4 λy H5=>H5 D=some (.lst c)/\c.length<sizeLine/\∃ h,h<xs.length - i/\Wt Pv xs.length (i+1) h (c ++ [y]) d (upd H5 D (.lst (c ++ [y]))) else ∃ h,h<xs.length - i/\Wt Pv xs.length (i+1) h c d H4)(hd:∀ c σ H,Pv xs.length c σ H->Q (.ref D) H) :
 Q4 (Itl K a) D g tt te Q σ0 H0:=by
 refine⟨Wt Pv xs.length,⟨xs.length,rfl,Z15 _,h0⟩,?_⟩;rintro i m c f H' ⟨rfl,hi,p⟩;obtain⟨j,n⟩:=o i c f H' p;refine⟨n,?_⟩;by_cases hlt:i<xs.length;refine .inr ⟨⟨xs,xs[i],j,by simp[hlt]⟩,λx H2 y=>?_⟩;obtain⟨e,y⟩:=y;subst e;exact l i x c f _ (y xs j) hlt p;have e:i=xs.length:=00
 subst e;exact .inl ⟨⟨xs,j,Z02 _⟩,hd c f H' p⟩
def ZI(e:X.K=K):IxR X (Z0j K):=e ▸ zW
def VD(e:X.K=K):IxR X (Z0i K):=e ▸ zJ
theorem je(K:FR)(H:Hp):∀ ns:List Int,Zh K H (ns.map Dt.int) (ns.map V.int)
 | []=>by simp only[Z3N,Zh]
 | n :: ns=>by
   simp only[Z1d,Zh];exact⟨_,_,rfl,by simp only[Den],je K H ns⟩
theorem jD:∀ ns ms:List Int,xM (ns.map Dt.int) (ms.map Dt.int)=decide (ns=ms)
 | [],[]=>rfl
 | [],_ :: _=>rfl
 | _ :: _,[]=>rfl
 | n :: ns,m :: ms=>by
   simp only[Z1d,xM,UO];rw[jD ns ms];by_cases h:n=m;subst h;simp;simp[h]
def z4u(K:FR)(H:Hp)(x y:Int):Zh K H [Dt.int x,Dt.int y] [V.int x,V.int y]:=je K H [x,y]
def Z1a(x y z u:Int):xM [Dt.int x,Dt.int y] [Dt.int z,Dt.int u]=decide ((x,y)=(z,u)):=by
 rw[show ([Dt.int x,Dt.int y]:List Dt)=[x,y].map Dt.int from rfl,show ([Dt.int z,Dt.int u]:List Dt)=[z,u].map Dt.int from rfl,jD];simp
noncomputable def Kp(p:Addr)(H H':Hp):Prop:=∀ b o,H b=some o->b≠p->H' b=some o
def Kp.trans(a:Kp p H H1)(b:Kp p H1 H2):Kp p H H2:=λc o h n=>b c o (a c o h n) n
def Kp.new(a:H q=none):Kp p H (upd H q o):=λb u h _=>by rw[zD (zh h a)];exact h
def Kp.set:Kp p H (upd H p o):=λb u h n=>by rw[zD n];exact h
def zC.kp(k:zC H H1):Kp p H H1:=λb o e _=>k b o e
def zC.new(a:H q=none):zC H (upd H q o):=λb u h=>by rw[zD (zh h a)];exact h
def zC.z1S(e:zC H H')(h:zR K H a xs):zR K H' a xs:=by
 rcases h with (h |⟨o,h⟩) | h;exact .inl (.inl (e _ _ h));exact .inl (.inr ⟨o,e _ _ h⟩);exact .inr h
noncomputable def YM:Sp:=λvs H Q _=>∃ x y:Int,vs=[.int x,.int y]/\0<=x/\0<=y/\Q (.int (Int.gcd x y:Int)) H
noncomputable def Z2b:Sp:=λvs H Q _=>∃ x y:Int,vs=[.int x,.int y]/\y≠0/\Sz 8000 x/\Sz 8000 y/\∀ p,H p=none->Q (.ref p) (upd H p (.tup [.int (Pw.mk x y).1,.int (Pw.mk x y).2]))
end L2
namespace Pw
noncomputable def z7n(p q:Int×Int):Int×Int:=mk (p.1 * q.2+q.1 * p.2) (p.2 * q.2)
noncomputable def z3P(p q:Int×Int):Int×Int:=mk (p.1 * q.2 - q.1 * p.2) (p.2 * q.2)
noncomputable def uW(p q:Int×Int):Int×Int:=mk (p.1 * q.1) (p.2 * q.2)
structure Fr(A:Int×Int)(n d:Int):Prop where
 canon:Canon A
 ne:d≠0
 w:A.1 * d=n * A.2
def Fr.pos{n:Int}(h:Fr A n d):A.2≠0:=by have:=h.canon.1;lia
def Fr.made{n:Int}(h:d≠0):Fr (Pw.mk n d) n d:=⟨(QL h).1,h,(QL h).2⟩
def Fr.of(h:Canon A):Fr A A.1 A.2:=⟨h,by have:=h.1;lia,rfl⟩
end Pw
namespace L2
noncomputable def Z5F(t u:TS):TS:=λD σ H=>∃ R:St->Hp->Prop,t { D with nx:=R } σ H/\∀ a H',R a H'->u D a H'
def z9p{X:Cx}{st:Stmt}{rest:List Stmt}{t u:TS}(c:PS X st t)(b:Qg X rest u):Qg X (st :: rest) (Z5F t u):=by
 intro pins s σ H D I h;obtain⟨R,h,d⟩:=h;refine wpAny_execs_cons (Zj (c pins s σ H { D with nx:=R } I h) λf s1 q=>?_);cases f with
 | next =>
   obtain⟨a,H',I',q⟩:=q;exact b pins s1 a H' D I' (d a H' q)
 | ret v=>exact q
 | brk=>exact q
 | cont=>exact q
noncomputable def Z1x(t:TA):TE:=λσ H Q=>t σ H λxs H1=>xs.length<=sizeLine/\∀ (p:Addr) (H':Hp),zC H1 H'->H1 p=none->H' p=some (.tup xs)->Q (.ref p) H'
noncomputable def Z1m(t:TA):TE:=λσ H Q=>t σ H λxs H1=>xs.length<=sizeLine/\∀ (p:Addr) (H':Hp),zC H1 H'->H1 p=none->H' p=some (.lst xs)->Q (.ref p) H'
def Zx{X:Cx}{a:List Expr}{t:TA}{pos:Pos}{x1}(h:PA X a t):PE X (.Tuple a x1 pos) (Z1x t):=by
 intro pins s σ H Q I c;refine wpAny_Tuple_spliced (Zj (h pos pins s σ H _ I c) λus s1 ⟨xs,H1,I1,r,z,q⟩=>⟨by rw[← r.length];exact z,?_⟩);have hf:H1 s1.heap.objs.size=none:=I1.hok.fresh (Z02 _);refine⟨.ref s1.heap.objs.size,upd H1 s1.heap.objs.size (.tup xs),I1.laid (t':=s1.toks) (λb u e=>Z00 _ e) (Z02 _) ?_,rfl,q _ _ (zC.new hf) hf zB⟩;exact⟨z,us,r,⟨_,Z0r _ rfl,rfl,_,rfl⟩⟩
def QE{X:Cx}{a:List Expr}{t:TA}{pos:Pos}(h:PA X a t):PE X (.List a pos) (Z1m t):=by
 intro pins s σ H Q I c;refine wpAny_List_spliced (Zj (h pos pins s σ H _ I c) λus s1 ⟨xs,H1,I1,r,z,q⟩=>⟨by rw[← r.length];exact z,?_⟩);have hf:H1 s1.heap.objs.size=none:=I1.hok.fresh (Z02 _);refine⟨.ref s1.heap.objs.size,upd H1 s1.heap.objs.size (.lst xs),I1.laid (t':=s1.toks) (λb u e=>Z00 _ e) (Z02 _) ?_,rfl,q _ _ (zC.new hf) hf zB⟩;exact⟨z,us,0,r,Z0r _ rfl⟩
noncomputable def Vz(n:Nat)(A:Int×Int):Prop:=Sz n A.1/\Sz n A.2
def Vz.mono(h:Vz n A)(l:n<=m):Vz m A:=⟨h.1.mono l,h.2.mono l⟩
noncomputable abbrev Xw(_:FR)(H:Hp)(p:Addr)(A:Int×Int):Prop:=H p=some (.tup [.int A.1,.int A.2])
noncomputable def z1Q(K:FR):Sp:=λvs H Q _=>∃ (p q:Addr) (A B:Int×Int),vs=[.ref p,.ref q]/\Xw K H p A/\Xw K H q B/\Vz 3000 A/\Vz 3000 B/\Q (.bl (decide (A.1 * B.2<B.1 * A.2))) H
end L2
namespace Srt
noncomputable def run{α:Type}(lt:Nat->Nat->Bool):KasT α->α
 | .ret a=>a
 | .ask i j k=>run lt (k (lt i j))
theorem run_bind{α β:Type}(lt:Nat->Nat->Bool)(f:α->KasT β):∀ t:KasT α,run lt (t.bind f)=run lt (f (run lt t))
 | .ret _=>rfl
 | .ask i j k=>by
   show run lt ((k (lt i j)).bind f)=_;rw[run_bind lt f (k (lt i j))];rfl
noncomputable def e(p:Array Nat)(k:Nat):Nat:=p.getD k 0
def z6x{k:Nat}(h:p[i]?=q[k]?):e p i=e q k:=by
 have a:p.getD i 0=(p[i]?).getD 0:=by simp[Array.getD_eq_getD_getElem?]
 have b:q.getD k 0=(q[k]?).getD 0:=by simp[Array.getD_eq_getD_getElem?]
 show p.getD i 0=q.getD k 0;rw[a,b,h]
def Z6{k:Nat}(a:j<=p.size)(b:i<=k)(c:k<j):e (kas_rev p i j) k=e p (i+j - 1 - k):=by
 unfold kas_rev;refine z6x ?_;rw[getElem?_mirror a ((j - i) / 2) 00 k];split;rfl;rename_i h;have:i+j - 1 - k=k:=00
 rw[this]
def yt{k:Nat}(a:j<=p.size)(h:k<i\/j<=k):e (kas_rev p i j) k=e p k:=by
 unfold kas_rev;refine z6x ?_;rw[getElem?_mirror a ((j - i) / 2) (by omega) k];split;omega;rfl
def z4n{k:Nat}(b:k<p.size)(c:l<=k):e (bubble p k (k - l)) i=if i=l then e p k else if l<i/\i<=k then e p (i - 1) else e p i:=by
 have h:=getElem?_bubble b (k - l) 00 i;have a:k - (k - l)=l:=00
 rw[a] at h;split;rename_i hi;rw[if_pos hi] at h;exact z6x h;rename_i hi;rw[if_neg hi] at h;split;rename_i h2;rw[if_pos h2] at h;exact z6x h;rename_i h2;rw[if_neg h2] at h;exact z6x h
def xE(p:Array Nat)(i j:Nat):(kas_rev p i j).size=p.size:=mirror_size _ _ _ _
def yI(p:Array Nat)(i j:Nat):(kas_rev p i j).Perm p:=mirror_perm _ _ _ _
structure Ord(lt:Nat->Nat->Bool):Prop where
 asym:∀ i j,lt i j=true->lt j i=false
 trans:∀ i j k,lt j i=false->lt k j=false->lt k i=false
section
variable{lt:Nat->Nat->Bool}(O:Ord lt)
noncomputable def Up(lt:Nat->Nat->Bool)(p:Array Nat)(b:Nat):Prop:=∀ k,1<=k->k<b->lt (e p k) (e p (k - 1))=false
noncomputable def Alike(lt:Nat->Nat->Bool)(p:Array Nat)(a b:Nat):Prop:=∀ i j,a<=i->i<b->a<=j->j<b->lt (e p i) (e p j)=false
include O
theorem irr(i:Nat):lt i i=false:=by
 cases h:lt i i with
 | false=>rfl
 | true=>rw[O.asym i i h] at h;cases h
theorem Up.pair(h:Up lt p b):∀ d i,i+d<b->lt (e p (i+d)) (e p i)=false
 | 0,i,_=>irr O _
 | d+1,i,hb=>O.trans _ _ _ (Up.pair h d i 00) (by
     have:=h (i+(d+1)) 00 hb;rw[show i+(d+1) - 1=i+d by lia] at this;exact this)
theorem Up.le(h:Up lt p b)(a:i<=j)(c:j<b):lt (e p j) (e p i)=false:=by
 have:=Up.pair O h (j - i) i 00;rw[show i+(j - i)=j by lia] at this;exact this
theorem z2W:∀ (f n:Nat),1<=n->Up lt p n->n<=run lt (kas_asc p f n)/\run lt (kas_asc p f n)<=n+f/\Up lt p (run lt (kas_asc p f n))/\(run lt (kas_asc p f n)<n+f->lt (e p (run lt (kas_asc p f n))) (e p (run lt (kas_asc p f n) - 1))=true)
 | 0,n,h1,h=>⟨Z02 _,Z02 _,h,λz=>absurd z (Z34 _)⟩
 | f+1,n,h1,h=>by
   have a:run lt (kas_asc p (f+1) n)=run lt (if lt (e p n) (e p (n - 1))=true then KasT.ret n else kas_asc p f (n+1)):=rfl;cases c:lt (e p n) (e p (n - 1)) with
   | true =>
     rw[a,c,if_pos rfl];exact⟨Z02 _,Nat.le_add_right _ _,h,λ_=>c⟩
   | false =>
     rw[a,c,if_neg Z0d];obtain⟨a1,a2,a3,a4⟩:=z2W (p:=p) f (n+1) 00 (λk k1 k2=>by
      by_cases hk:k<n;exact h k k1 hk;have:k=n:=00;subst this;exact c)
     exact⟨00,00,a3,λz=>a4 00⟩
theorem V5{k:Nat}(h:Up lt p k):∀ (f l r:Nat),r<=l+f->l<=r->r<=k->(∀ i,i<l->lt (e p k) (e p i)=false)->(∀ i,r<=i->i<k->lt (e p k) (e p i)=true)->
 run lt (kas_place p k f l r)<=k/\(∀ i,i<run lt (kas_place p k f l r)->lt (e p k) (e p i)=false)/\(∀ i,run lt (kas_place p k f l r)<=i->i<k->lt (e p k) (e p i)=true)
 | 0,l,r,h1,h2,h3,h4,h5=>by
   have:r=l:=00
   subst this;exact⟨h3,h4,h5⟩
 | f+1,l,r,h1,h2,h3,h4,h5=>by
   have b:run lt (kas_place p k (f+1) l r)=run lt (if l ≥ r then KasT.ret l else KasT.ask (e p k) (e p ((l+r) / 2)) λc=>if c=true then kas_place p k f l ((l+r) / 2) else kas_place p k f ((l+r) / 2+1) r):=rfl;rw[b];by_cases hlr:l ≥ r;rw[if_pos hlr];have:r=l:=00
   subst this;exact⟨h3,h4,h5⟩;rw[if_neg hlr];have a:run lt (KasT.ask (e p k) (e p ((l+r) / 2)) λc=>if c=true then kas_place p k f l ((l+r) / 2) else kas_place p k f ((l+r) / 2+1) r)=run lt (if lt (e p k) (e p ((l+r) / 2))=true then kas_place p k f l ((l+r) / 2) else kas_place p k f ((l+r) / 2+1) r):=rfl;rw[a];cases c:lt (e p k) (e p ((l+r) / 2)) with
   | true =>
     rw[if_pos rfl];refine V5 h f l ((l+r) / 2) 00 00 00 h4 λi i1 i2=>?_;cases d:lt (e p k) (e p i) with
     | true=>rfl
     | false =>
       have:=O.trans _ _ _ (Up.le O h i1 i2) d;rw[c] at this;cases this
   | false =>
     rw[if_neg Z0d];refine V5 h f ((l+r) / 2+1) r 00 00 h3 (λi i1=>?_) h5;exact O.trans _ _ _ (Up.le O h (show i<=(l+r) / 2 by lia) 00) c
end
noncomputable def Ls(lt:Nat->Nat->Bool)(i j:Nat):Prop:=lt i j=false/\(lt j i=true\/j<=i)
noncomputable def UpS(lt:Nat->Nat->Bool)(p:Array Nat)(b:Nat):Prop:=∀ k,1<=k->k<b->Ls lt (e p k) (e p (k - 1))
noncomputable def Qm(lt:Nat->Nat->Bool)(p:Array Nat)(b:Nat):Prop:=∀ k,1<=k->k<b->Ls lt (e p (k - 1)) (e p k)
structure Pf(p:Array Nat)(k:Nat):Prop where
 lo:∀ i,i<k->e p i<k
 hi:∀ i,k<=i->i<p.size->e p i=i
def Pf.range{k:Nat}(h:k<=n):Pf (List.toArray (List.range n)) k:=by
 have he:∀ i,i<n->e (List.toArray (List.range n)) i=i:=λi hi=>by
  unfold e;rw[Array.getD_eq_getD_getElem?];simp[hi]
 refine⟨λi hi=>?_,λi _ hi=>he i (by simpa using hi)⟩;rw[he i 00];exact hi
def Pf.mono{k:Nat}(h:Pf p k)(d:k<=m)(hm:m<=p.size):Pf p m:=⟨λi hi=>by
 by_cases c:i<k;have:=h.lo i c;lia;rw[h.hi i 00 00];exact hi,λi b a=>h.hi i 00 a⟩
def Pf.rev{k:Nat}(h:Pf p k)(l:b<=k)(j:k<=p.size):Pf (kas_rev p a b) k:=⟨λi hi=>by
 by_cases c:a<=i/\i<b;rw[Z6 00 c.1 c.2];exact h.lo _ 00;rw[yt 00 00];exact h.lo i hi,λi f d=>by
 rw[xE] at d;rw[yt 00 00];exact h.hi i f d⟩
section
variable{lt:Nat->Nat->Bool}(O:Ord lt)
def UpS.up(h:UpS lt p b):Up lt p b:=λk k1 k2=>(h k k1 k2).1
def UpS.ext(a:Pf p n)(hm:m<=p.size)(h0:UpS lt p n)(h:Up lt p m):UpS lt p m:=λk k1 k2=>by
 by_cases c:k<n;exact h0 k k1 c;refine⟨h k k1 k2,.inr ?_⟩;have b:=a.hi k 00 00;by_cases d:k - 1<n;have:=a.lo (k - 1) d;lia;have:=a.hi (k - 1) 00 00;lia
def Qm.upS(hn:n<=p.size)(h:Qm lt p n):UpS lt (kas_rev p 0 n) n:=λk k1 k2=>by
 rw[Z6 (k:=k) hn (Z15 _) k2,Z6 (k:=k - 1) hn (Z15 _) 00];have:=h (0+n - 1 - (k - 1)) 00 00;rw[show 0+n - 1 - (k - 1) - 1=0+n - 1 - k by lia] at this;exact this
include O
theorem blk(a:n<=p.size)(l:q+1<=n)(hd:Qm lt p (n - q))(ha:Alike lt p (n - (q+1)) n)(i:1<=n - (q+1)->lt (e p (n - (q+1))) (e p (n - (q+1) - 1))=true)(f:Pf p (n - (q+1))) :
 Qm lt (kas_rev p (n - (q+1)) n) n:=λk k1 k2=>by
 by_cases c:k<n - (q+1);rw[yt (k:=k) a (by omega),yt (k:=k - 1) a (by omega)];exact hd k k1 (by omega);by_cases d:k=n - (q+1);rw[yt (k:=k - 1) a (by omega),Z6 (k:=k) a (by omega) k2];have b:=i (by omega);rw[← d] at b;have j:=ha k (n - (q+1)+n - 1 - k) (by omega) k2 (by omega) (by omega);have h:lt (e p (n - (q+1)+n - 1 - k)) (e p (k - 1))=true:=by
  cases hc:lt (e p (n - (q+1)+n - 1 - k)) (e p (k - 1)) with
  | true=>rfl
  | false =>
    have:=O.trans _ _ _ hc j;rw[b] at this;cases this
 exact⟨O.asym _ _ h,.inl h⟩;rw[Z6 (k:=k) a (by omega) k2,Z6 (k:=k - 1) a (by omega) (by omega)];refine⟨ha _ _ (by omega) (by omega) (by omega) (by omega),.inr ?_⟩;rw[f.hi _ (by omega) (by omega),f.hi _ (by omega) (by omega)];omega
noncomputable def DI(lt:Nat->Nat->Bool)(p:Array Nat)(n q:Nat):Prop:=q+1<=n/\Qm lt p (n - q)/\Alike lt p (n - (q+1)) n/\(1<=n - (q+1)->lt (e p (n - (q+1))) (e p (n - (q+1) - 1))=true)/\Pf p (n - (q+1))
theorem DI.one(h:Qm lt p n)(c:lt (e p n) (e p (n - 1))=true)(d:Pf p n):DI lt p (n+1) 0:=by
 refine⟨00,λk k1 k2=>?_,λi j i1 i2 m l=>?_,λ_=>c,d⟩;by_cases hk:k<n;exact h k k1 hk;have f:k=n:=00
 subst f;exact⟨O.asym _ _ c,.inl c⟩;have a:i=n:=00
 have b:j=n:=00
 subst a b;exact irr O _
theorem z4D(h:lt a b=true)(g:lt c b=false):lt a c=true:=by
 cases d:lt a c with
 | true=>rfl
 | false=>rw[O.trans _ _ _ g d] at h;cases h
theorem QC:∀ (f:Nat) (p:Array Nat) (n q:Nat),n+f<=p.size->DI lt p n q->∃ r,run lt (kas_desc f p n q)=r/\r.1.Perm p/\n<=r.2.1/\r.2.1<=n+f/\DI lt r.1 r.2.1 r.2.2
 | 0,p,n,q,_,h=>⟨_,rfl,Array.Perm.refl _,Z02 _,Z02 _,h⟩
 | f+1,p,n,q,hz,h=>by
   obtain⟨E,hd,ha,w,o⟩:=id h;have z:run lt (kas_desc (f+1) p n q)=run lt (if lt (e p n) (e p (n - 1))=true then (if q > 0 then kas_desc f (kas_rev p (n - (q+1)) n) (n+1) 0 else kas_desc f p (n+1) 0)
    else .ask (e p (n - 1)) (e p n) λd=>if d=true then .ret (p,n,q) else kas_desc f p (n+1) (q+1)):=rfl
   cases c:lt (e p n) (e p (n - 1)) with
   | true =>
     rw[z,c,if_pos rfl];by_cases q0:q > 0;rw[if_pos q0];have F:=xE p (n - (q+1)) n;have B:=blk O 00 E hd ha w o;have C:lt (e (kas_rev p (n - (q+1)) n) n) (e (kas_rev p (n - (q+1)) n) (n - 1))=true:=by
      rw[yt (k:=n) 00 (Or.inr (Z02 _)),Z6 (k:=n - 1) 00 00 00];exact z4D O c (ha (n - (q+1)+n - 1 - (n - 1)) (n - 1) 00 00 00 00)
     obtain⟨r,b,a,y,v,l⟩:=QC f (kas_rev p (n - (q+1)) n) (n+1) 0 00 (DI.one O B C ((o.mono (m:=n) 00 00).rev (Z02 _) 00));exact⟨r,b,a.trans (yI ..),00,00,l⟩;rw[if_neg q0];have eq:q=0:=00;subst eq;obtain⟨r,b,a,y,v,l⟩:=QC f p (n+1) 0 00 (DI.one O hd c (o.mono 00 00));exact⟨r,b,a,00,00,l⟩
   | false =>
     rw[z,c,if_neg Z0d];show ∃ r,run lt (if lt (e p (n - 1)) (e p n)=true then KasT.ret (p,n,q) else kas_desc f p (n+1) (q+1))=r/\_;cases c2:lt (e p (n - 1)) (e p n) with
     | true =>
       rw[if_pos rfl];exact⟨_,rfl,Array.Perm.refl _,Z02 _,Nat.le_add_right _ _,h⟩
     | false =>
       rw[if_neg Z0d];have t:Alike lt p (n+1 - (q+1+1)) (n+1):=λi j i1 i2 G H=>by
        by_cases hi:i<n;by_cases hj:j<n;exact ha i j 00 hi 00 hj;have s:j=n:=00;subst s;exact O.trans _ _ _ c2 (ha i (j - 1) 00 hi 00 00);have D:i=n:=00;subst D;by_cases hj:j<i;exact O.trans _ _ _ (ha (i - 1) j 00 00 00 hj) c;have s:j=i:=00;subst s;exact irr O _
       have A:n+1 - (q+1+1)=n - (q+1):=00;have u:n+1 - (q+1)=n - q:=00;obtain⟨r,b,a,y,v,l⟩:=QC f p (n+1) (q+1) 00 ⟨00,by rw[u];exact hd,t,by rw[A];exact w,by rw[A];exact o⟩;exact⟨r,b,a,00,00,l⟩
noncomputable def RI(lt:Nat->Nat->Bool)(p:Array Nat)(m:Nat)(r:Nat×Array Nat):Prop:=r.2.Perm p/\1<=r.1/\r.1<=m/\UpS lt r.2 r.1/\Pf r.2 r.1
theorem jq(b:1<=n)(hn:n<=m)(i:m<=p.size)(h:Qm lt p n)(c:Pf p n):RI lt p m (run lt (kas_tail3 n m p)):=by
 have d:run lt (kas_tail3 n m p)=(run lt (kas_asc (kas_rev p 0 n) (m - n) n),kas_rev p 0 n):=by
  unfold kas_tail3;rw[run_bind];rfl
 rw[d];have f:=xE p 0 n;have u:=h.upS 00;obtain⟨a1,a2,a3,_⟩:=z2W O (p:=kas_rev p 0 n) (m - n) n b u.up;have a:Pf (kas_rev p 0 n) n:=c.rev (Z02 _) 00;have z:run lt (kas_asc (kas_rev p 0 n) (m - n) n)<=(kas_rev p 0 n).size:=00
 exact⟨yI ..,by show 1<=run lt _;lia,by show run lt _<=m;lia,UpS.ext a z u a3,a.mono a1 z⟩
theorem QJ(hn:n+1<=m)(v:m<=p.size)(h:Qm lt p n)(d:lt (e p n) (e p (n - 1))=true)(o:Pf p n):RI lt p m (run lt (kas_descPart n m p)):=by
 obtain⟨r,j,b,u,t,a5,c,q,s,a⟩:=QC O (m - (n+1)) p (n+1) 0 00 (DI.one O h d o);have f:run lt (kas_descPart n m p)=run lt (if r.2.2 > 0 then kas_tail3 r.2.1 m (kas_rev r.1 (r.2.1 - (r.2.2+1)) r.2.1) else kas_tail3 r.2.1 m r.1):=by
  unfold kas_descPart;rw[run_bind,j]
 rw[f];have z:=b.size_eq;split;have l:=xE r.1 (r.2.1 - (r.2.2+1)) r.2.1;obtain⟨b1,b2⟩:=jq O (n:=r.2.1) (m:=m) 00 00 00 (blk O 00 a5 c q s a) ((a.mono (m:=r.2.1) 00 00).rev (Z02 _) 00);exact⟨b1.trans ((yI ..).trans b),b2⟩;have i:r.2.2=0:=00
 rw[i] at c a;obtain⟨b1,b2⟩:=jq O (n:=r.2.1) (m:=m) 00 00 00 c (a.mono 00 00);exact⟨b1.trans b,b2⟩
theorem z5t(t:1<=m)(q:m<=p.size)(b:∀ k,k<=m->Pf p k):RI lt p m (run lt (kas_count m p)):=by
 obtain⟨a1,a2,a3,a4⟩:=z2W O (p:=p) (m - 1) 1 (Z02 _) (λk k1 k2=>00);have h:run lt (kas_count m p)=run lt (if (run lt (kas_asc p (m - 1) 1) == m)=true then KasT.ret (run lt (kas_asc p (m - 1) 1),p) else if run lt (kas_asc p (m - 1) 1) > 1 then
  .ask (e p 0) (e p (run lt (kas_asc p (m - 1) 1) - 1)) λc=>if c=true then .ret (run lt (kas_asc p (m - 1) 1),p) else kas_descPart (run lt (kas_asc p (m - 1) 1)) m (kas_rev p 0 (run lt (kas_asc p (m - 1) 1)))
  else kas_descPart (run lt (kas_asc p (m - 1) 1)) m p):=by
  unfold kas_count;rw[run_bind];rfl
 rw[h];generalize run lt (kas_asc p (m - 1) 1)=n at *;have un:UpS lt p n:=UpS.ext (b 0 00) 00 (λk _ k2=>absurd k2 (Z4q _)) a3;have pn:Pf p n:=b n 00;have fin:RI lt p m (n,p):=⟨Array.Perm.refl _,a1,by show n<=m;lia,un,pn⟩;split;exact fin;rename_i hne;have f:n≠m:=λz=>hne (by simp[z]);have a:=a4 00;split;show RI lt p m (run lt (if lt (e p 0) (e p (n - 1))=true then KasT.ret (n,p) else kas_descPart n m (kas_rev p 0 n)));cases c:lt (e p 0) (e p (n - 1)) with
 | true =>
   rw[if_pos rfl];exact fin
 | false =>
   rw[if_neg Z0d];have al:Alike lt p 0 n:=λi j _ i2 _ r=>O.trans _ _ _ (O.trans _ _ _ (Up.le O a3 (show j<=n - 1 by lia) 00) c) (Up.le O a3 (Z15 i) i2);have s:=xE p 0 n;have d:=b 0 00;have l:Qm lt (kas_rev p 0 n) n:=λk k1 k2=>by
    rw[Z6 (k:=k) 00 (Z15 _) k2,Z6 (k:=k - 1) 00 (Z15 _) 00];refine⟨al _ _ (Z15 _) 00 (Z15 _) 00,.inr ?_⟩;rw[d.hi _ (Z15 _) 00,d.hi _ (Z15 _) 00];lia
   have s1:lt (e (kas_rev p 0 n) n) (e (kas_rev p 0 n) (n - 1))=true:=by
    rw[yt (k:=n) 00 (Or.inr (Z02 _)),Z6 (k:=n - 1) 00 (Z15 _) 00];exact z4D O a (al (0+n - 1 - (n - 1)) (n - 1) (Z15 _) 00 (Z15 _) 00)
   obtain⟨b1,b2⟩:=QJ O (n:=n) (m:=m) 00 00 l s1 (pn.rev (Z02 _) 00);exact⟨b1.trans (yI ..),b2⟩
 have o:n=1:=00
 subst o;exact QJ O 00 q (λk k1 k2=>00) a pn
theorem z4f:∀ (f:Nat) (p:Array Nat) (k:Nat),k+f<=p.size->1<=k->UpS lt p k->Pf p k->(run lt (kas_bin f p k)).Perm p/\UpS lt (run lt (kas_bin f p k)) (k+f)
 | 0,p,k,_,_,h,_=>⟨Array.Perm.refl _,h⟩
 | f+1,p,k,hz,d,h,pf=>by
   have m:run lt (kas_bin (f+1) p k)=run lt (kas_bin f (bubble p k (k - run lt (kas_place p k k 0 k))) (k+1)):=by
    show run lt ((kas_place p k k 0 k).bind λl=>kas_bin f (bubble p k (k - l)) (k+1))=_;rw[run_bind]
   rw[m];obtain⟨a1,a2,a3⟩:=V5 O h.up k 0 k 00 (Z15 _) (Z02 _) (λi hi=>absurd hi (Z4q _)) (λi d c=>00);generalize run lt (kas_place p k k 0 k)=l at *;have a:k<p.size:=00
   have o:=pf.hi k (Z02 _) a;have up:UpS lt (bubble p k (k - l)) (k+1):=λj n q=>by
    rw[z4n a a1,z4n a a1];by_cases c1:j=l;rw[if_pos c1,if_neg 00,if_neg 00];refine⟨a2 _ 00,.inr ?_⟩;have:=pf.lo (j - 1) 00;lia;rw[if_neg c1];by_cases c2:j - 1=l;rw[if_pos c2,if_pos 00];have:=a3 (j - 1) 00 00;exact⟨O.asym _ _ this,.inl this⟩;rw[if_neg c2];by_cases c3:l<j - 1/\j - 1<=k;rw[if_pos c3,if_pos 00];exact h (j - 1) 00 00;rw[if_neg c3,if_neg 00];exact h j n 00
   have b:Pf (bubble p k (k - l)) (k+1):=⟨λi hi=>by
    rw[z4n a a1];split;lia;split;have:=pf.lo (i - 1) 00;lia;have:=pf.lo i 00;lia,λi d c=>by
    rw[bubble_size] at c;rw[z4n a a1,if_neg 00,if_neg 00];exact pf.hi i 00 c⟩
   obtain⟨b1,b2⟩:=z4f f (bubble p k (k - l)) (k+1) (by rw[bubble_size];lia) 00 up b;rw[show k+(f+1)=k+1+f by lia];exact⟨b1.trans (bubble_perm ..),b2⟩
theorem z0M(hn:1<=n):(run lt (kas_sort n)).toList.Perm (List.range n)/\UpS lt (run lt (kas_sort n)) n:=by
 have c:n<=(List.toArray (List.range n)).size:=05
 obtain⟨a2,a3,a4,a5,a6⟩:=z5t O (p:=List.toArray (List.range n)) hn c λk d=>Pf.range d;have a:run lt (kas_sort n)=run lt (if (run lt (kas_count n (List.toArray (List.range n)))).1<n then kas_bin (n - max (run lt (kas_count n (List.toArray (List.range n)))).1 1) (run lt (kas_count n (List.toArray (List.range n)))).2 (max (run lt (kas_count n (List.toArray (List.range n)))).1 1) else .ret (run lt (kas_count n (List.toArray (List.range n)))).2):=by
  unfold kas_sort;rw[run_bind]
 rw[a];generalize run lt (kas_count n (List.toArray (List.range n)))=r at *;have hm:max r.1 1=r.1:=00
 rw[hm];have z:=a2.size_eq;split;obtain⟨b1,b2⟩:=z4f O (n - r.1) r.2 r.1 00 a3 a5 a6;rw[show r.1+(n - r.1)=n by lia] at b2;exact⟨(b1.trans a2).toList,b2⟩;have b:r.1=n:=00
 rw[b] at a5;exact⟨a2.toList,a5⟩
end
noncomputable def Z2{α:Type}(n:Nat):KasT α->(α->Prop)->Prop
 | .ret a,Q=>Q a
 | .ask i j k,Q=>i<n/\j<n/\∀ b,Z2 n (k b) Q
theorem Z2.bind{α β:Type}{n:Nat}{f:α->KasT β}{Q:β->Prop}:∀ {t:KasT α},Z2 n t (λa=>Z2 n (f a) Q)->Z2 n (t.bind f) Q
 | .ret _,h=>h
 | .ask _ _ _,h=>⟨h.1,h.2.1,λb=>Z2.bind (h.2.2 b)⟩
theorem JH{α:Type}{n:Nat}(lt:Nat->Nat->Bool){cmp:Nat->Nat->(Bool->Shared->Prop)->Shared->Prop}{P:Shared->Prop}(h:∀ i j (C:Bool->Shared->Prop) s,i<n->j<n->P s->(∀ s',P s'->C (lt i j) s')->cmp i j C s)
 {Q:α->Shared->Prop}{T:α->Prop}:∀ (t:KasT α) (s:Shared),Z2 n t T->P s->(∀ s',P s'->Q (run lt t) s')->t.kasWp cmp Q s
 | .ret a,s,_,p,q=>q s p
 | .ask i j k,s,a,p,q=>h i j _ s a.1 a.2.1 p λs' b=>JH lt h (k (lt i j)) s' (a.2.2 _) b q
noncomputable def AllLt(n:Nat)(p:Array Nat):Prop:=∀ k,p.getD k 0<n
def AllLt.perm(hn:0<n)(h:AllLt n p)(pm:q.Perm p):AllLt n q:=λk=>by
 by_cases hk:k<q.size;have b:q.getD k 0=q[k]:=by simp[Array.getD,hk]
 rw[b];have hm:q[k]∈q:=Array.getElem_mem hk;have c:q[k]∈p:=by
  have:=pm.toList.mem_iff (a:=q[k]);simpa using this.mp (by simpa using hm)
 obtain⟨j,f,d⟩:=Array.mem_iff_getElem.mp c;have:=h j;have i:p.getD j 0=p[j]:=by simp[Array.getD,f]
 rw[i,d] at this;exact this;have b:q.getD k 0=0:=by simp[Array.getD,hk]
 rw[b];exact hn
section
variable{n:Nat}(hn:0<n)
include hn
theorem uT(h:AllLt n p):∀ f m,Z2 n (kas_asc p f m) (λ_=>True)
 | 0,_=>trivial
 | f+1,m=>⟨h _,h _,λb=>by
     cases b with
     | true=>exact trivial
     | false=>exact uT h f (m+1)⟩
theorem Xd:∀ (f:Nat) (p:Array Nat) (m q:Nat),AllLt n p->Z2 n (kas_desc f p m q) (λr=>AllLt n r.1)
 | 0,p,_,_,h=>h
 | f+1,p,m,q,h=>⟨h _,h _,λb=>by
     cases b with
     | true =>
       show Z2 n (if true=true then (if q > 0 then kas_desc f (kas_rev p (m - (q+1)) m) (m+1) 0 else kas_desc f p (m+1) 0) else _) _;rw[if_pos rfl];split;exact Xd f _ _ _ (h.perm hn (yI ..));exact Xd f _ _ _ h
     | false =>
       show Z2 n (if false=true then _ else KasT.ask (p.getD (m - 1) 0) (p.getD m 0) λd=>if d=true then KasT.ret (p,m,q) else kas_desc f p (m+1) (q+1)) _;rw[if_neg Z0d];refine⟨h _,h _,λd=>?_⟩;cases d with
       | true=>exact h
       | false=>exact Xd f _ _ _ h⟩
theorem Z2.mono{α:Type}{Q Q':α->Prop}(c:∀ a,Q a->Q' a):∀ {t:KasT α},Z2 n t Q->Z2 n t Q'
 | .ret a,h=>c a h
 | .ask _ _ _,h=>⟨h.1,h.2.1,λb=>Z2.mono c (h.2.2 b)⟩
theorem uV(h:AllLt n p)(m r:Nat):Z2 n (kas_tail3 m r p) (λx=>AllLt n x.2):=by
 have h':=h.perm hn (yI p 0 m);exact Z2.bind (Z2.mono hn (λ_ _=>h') (uT hn h' _ _))
theorem XD(h:AllLt n p)(m r:Nat):Z2 n (kas_descPart m r p) (λx=>AllLt n x.2):=by
 refine Z2.bind (Z2.mono hn (λx a=>?_) (Xd hn _ _ _ _ h));split;exact uV hn (a.perm hn (yI ..)) _ _;exact uV hn a _ _
theorem z2x(h:AllLt n p)(r:Nat):Z2 n (kas_count r p) (λx=>AllLt n x.2):=by
 refine Z2.bind (Z2.mono hn (λm _=>?_) (uT hn h _ _));split;exact h;split;refine⟨h _,h _,λb=>?_⟩;cases b with
 | true=>exact h
 | false=>exact XD hn (h.perm hn (yI ..)) _ _
 exact XD hn h _ _
theorem Qd(h:AllLt n p)(k:Nat):∀ f l r,Z2 n (kas_place p k f l r) (λ_=>True)
 | 0,_,_=>trivial
 | f+1,l,r=>by
   show Z2 n (if l ≥ r then KasT.ret l else KasT.ask (p.getD k 0) (p.getD ((l+r) / 2) 0) λc=>if c=true then kas_place p k f l ((l+r) / 2) else kas_place p k f ((l+r) / 2+1) r) _;split;exact trivial;refine⟨h _,h _,λb=>?_⟩;cases b with
   | true=>exact Qd h k f _ _
   | false=>exact Qd h k f _ _
theorem z1i:∀ (f:Nat) (p:Array Nat) (k:Nat),AllLt n p->Z2 n (kas_bin f p k) (λ_=>True)
 | 0,_,_,_=>trivial
 | f+1,p,k,h=>Z2.bind (Z2.mono hn (λl _=>z1i f _ _ (h.perm hn (bubble_perm ..))) (Qd hn h k _ _ _))
theorem jM:Z2 n (kas_sort n) (λ_=>True):=by
 have h0:AllLt n (List.toArray (List.range n)):=λk=>by
  by_cases hk:k<n;simp[Array.getD,hk];simp[Array.getD,hk];exact hn
 refine Z2.bind (Z2.mono hn (λr hr=>?_) (z2x hn h0 n));split;exact z1i hn _ _ _ hr;exact trivial
end
end Srt
namespace L2
def Z0m(vs:List Value):(vs.toArray.zip vs.toArray).map (·.2)=vs.toArray:=by
 apply Z30.mp;simp[List.map_snd_zip]
def Z3u{h:Heap}{a:Addr}{m f:SV}(x:h.Ns a m)(y:h.Ns a f):m=f:=by
 obtain⟨o,n,p,j,hd,_,hm⟩:=x;obtain⟨o',l,i,c,b,_,d⟩:=y;rw[j] at c;cases c;rw[hd] at b;cases b;funext z;rw[← hm z,← d z]
def Zg.there(x:Zg P w H h a o):∃ u,h.get? a=some u:=by
 cases o with
 | lst xs=>obtain⟨_,_,_,_,e⟩:=x;exact⟨_,e⟩
 | tup xs=>obtain⟨_,_,_,ob,e,_⟩:=x;exact⟨_,e⟩
 | dK kvs=>obtain⟨_,_,_,_,o,_,_,e,_⟩:=x;exact⟨_,e⟩
 | dT kvs=>obtain⟨_,_,_,_,o,_,_,e,_⟩:=x;exact⟨_,e⟩
 | set S n=>obtain⟨o,_,_,_,e,_⟩:=x;exact⟨_,e⟩
 | ins C dx fs=>obtain⟨_,_,_,e,_⟩:=x;exact⟨_,e⟩
 | own y=>obtain⟨_,e⟩:=x;exact⟨_,e⟩
 | xd fs=>obtain⟨_,⟨_,_,_,e,_⟩,_⟩:=x;exact⟨_,e⟩
 | rng lo hi=>obtain⟨_,_,_,e⟩:=x;exact⟨_,e⟩
 | frz ob u=>obtain⟨e,_⟩:=x;exact⟨_,e⟩
 | XH ps=>exact⟨_,(show h.get? a=some _ from x)⟩
 | met f y=>exact⟨_,(show h.get? a=some _ from x)⟩
 | ext φ=>obtain⟨_,⟨_,e⟩,_⟩:=x;exact⟨_,e⟩
def z6n:∀ (xs:List V),xs.length<2->(List.range xs.length).map (λi=>xs.getD i V.Zn)=xs
 | [],_=>rfl
 | [_],_=>rfl
 | _ :: _ :: _,h=>by simp at h;lia
noncomputable def z7N(X:Cx)(s:Shared)(xs:List V)(lt:Nat->Nat->Bool):Prop:=∀ (vs:List Value) (s':Shared),Vals xs vs->2<=vs.length->(∀ b o,b≠X.env.locals->s.heap.get? b=some o->s'.heap.get? b=some o)->∃ κ:SortKind,(∀ (R:SortKind->Shared->Prop),R κ s'->wpAny 06 X.A.in1.in1 (keyKind' vs.toArray) R (λ_ _=>False) s')/\
 ∀ (i j:Nat) (C:Bool->Shared->Prop) (s2:Shared),i<vs.length->j<vs.length->(∀ b o,b≠X.env.locals->s.heap.get? b=some o->s2.heap.get? b=some o)->C (lt i j) s2->kas_ask X.prog X.w X.A.in1.in1 κ vs i j C s2
def Js{A:Around}{vs:List Value}(i:T="list"\/T="tuple")(c:∃ o,s.heap.get? t=some o/\o.cls=.type T/\∃ n,o.data=.seq vs.toArray n)(few:vs.length<=sizeLine)(h:∀ (g:Heap) (D:Addr),(∀ b o,s.heap.get? b=some o->g.get? b=some o)->(∀ b o,s.heap.get? b=some o->b≠D)->g.get? D=some (seqObj "list" vs.toArray 0)->
  wpAny 09 A.in1.in1 (Builtin.«list.sort» ⟨[.ref D],[]⟩) (λfin s'=>fin=.done (.ret .none)/\Q (.ref D) s') E { s with heap:=g }) :
 wpAny 09 A (call (.builtin "sorted") [.ref t]) Q E s:=by
 obtain⟨o,f,j,n,hd⟩:=c;refine Calls.call_function_entry kind_sorted plain_sorted entry_sorted (args_sorted1 _) ?_;unfold Builtin.«sorted»;refine wpAny_bind (m:=checkCount "sorted" 1 1 _) (wpAny_pure ?_);refine wpAny_bind (wpAny_collect_seq t i f j hd (λg kp=>?_) (by rw[Z04];exact few));refine wpAny_bind (wpAny_newList ?_ few);have a:(g.push (seqObj "list" vs.toArray 0)).get? g.objs.size=some (seqObj "list" vs.toArray 0):=Z0r _ rfl;have lt:∀ b o,s.heap.get? b=some o->b<g.objs.size:=λb o e=>Z0k (kp b o e);refine wpAny_bind (wpAny_holding (wpAny_call_entry slot_list_sort ⟨_,a,rfl⟩ entry_list_sort ?body (args_list_sort _)))
 case body =>
  refine wpAny_mono (h (g.push (seqObj "list" vs.toArray 0)) g.objs.size (λb o e=>Z00 _ (kp b o e)) (λb o e=>Z14 (lt b o e)) a) (λfin s' hf=>?_) λ_ _ e=>e;obtain⟨rfl,d⟩:=hf;exact⟨_,rfl,wpAny_pure ⟨_,rfl,d⟩⟩
def z1n{g:Heap}{vs:List Value}{Q:Value->Shared->Prop}(keep:∀ b o,s.heap.get? b=some o->g.get? b=some o)(m:∀ b o,s.heap.get? b=some o->b≠D)(d:g.get? D=some (seqObj "list" vs.toArray 0))(t:vs.length<2)(h:∀ (h':Heap) (c:Nat),(∀ b o,s.heap.get? b=some o->h'.get? b=some o)->h'.get? D=some (seqObj "list" vs.toArray c)->Q (.ref D) { s with heap:=h' }) :
 wpAny 09 A (Builtin.«list.sort» ⟨[.ref D],[]⟩) (λfin s'=>fin=.done (.ret .none)/\Q (.ref D) s') E { s with heap:=g }:=by
 obtain⟨n,i⟩:∃ n,(g.update D (Obj.mapSeq λ_=>(#[]:Array Value))).get? D=some (seqObj "list" #[] n):=⟨_,get?_update_seq d λ_=>#[]⟩;have few:vs.length<=sizeLine:=by rw[sizeLine_eq];lia
 rw[list_sort_plain];refine wpAny_bind (listItems_at d rfl ?_);refine wpAny_bind (listUpdate_at d rfl ?_ (by rw[Z04];lia) (Z15 _));refine wpAny_bind (seqEpoch_at i rfl ?_);refine wpAny_bind (wpAny_newTuple ?_ few);refine wpAny_bind (wpAny_newList ?_ (Z15 _));refine wpAny_holding ?_;show wpAny 09 _ _ _ E { s with heap:=((g.update D (Obj.mapSeq λ_=>(#[]:Array Value))).push (seqObj "tuple" vs.toArray 0)).push (seqObj "list" #[] 0) };dsimp only;have f:vs.toArray.size<2:=by rw[Z04];exact t
 rw[if_pos f,if_pos f];refine wpAny_bind (wpAny_pure ?_);refine wpAny_bind (wpAny_pure ?_);dsimp only;have a:(((g.update D (Obj.mapSeq λ_=>(#[]:Array Value))).push (seqObj "tuple" vs.toArray 0)).push (seqObj "list" #[] 0)).get? D=some (seqObj "list" #[] n):=Z00 _ (Z00 _ i);have j:(arrOf (SortSt.mk' general' (vs.toArray.zip vs.toArray) #[] 7 none)).map (·.2)=vs.toArray:=Z0m vs
 rw[j];refine wpAny_bind (seqEpoch_at a rfl ?_);refine wpAny_bind (listUpdate_at a rfl ?_ (Z15 _) (by show vs.toArray.size<=_;rw[Z04];lia));simp only[bne_self_eq_false,Bool.false_eq_true,if_false];obtain⟨p,l⟩:∃ p,((((g.update D (Obj.mapSeq λ_=>(#[]:Array Value))).push (seqObj "tuple" vs.toArray 0)).push (seqObj "list" #[] 0)).update D (Obj.mapSeq λ_=>vs.toArray)).get? D=some (seqObj "list" vs.toArray p):=⟨_,get?_update_seq a λ_=>vs.toArray⟩;refine wpAny_pure ⟨rfl,h _ p (λb o q=>?_) l⟩;have r:=m b o q;exact (Heap.get?_update_other _ _ (Z32 r)).trans (Z00 _ (Z00 _ ((Heap.get?_update_other _ _ (Z32 r)).trans (keep b o q))))
def Inv.z2E{X:Cx}{σ:St}{h':Heap}{ws:List V}{out:List Value}(I:Inv X pins σ H s)(hn:s.heap.Ns X.env.locals m)(F:Fr X.base X.env.locals h' m)(k:∀ b o,b≠X.env.locals->s.heap.get? b=some o->h'.get? b=some o)(a:H D=none)(d:∀ o,s.heap.get? D≠some o)(j:h'.get? D=some { cls:=.type "list",data:=.seq out.toArray c })(r:Vals ws out)(l:ws.length<=sizeLine) :
 Inv X pins σ (upd H D (.lst ws)) { s with heap:=h',toks:=t' }:=by
 have p:∀ b o,s.heap.get? b=some o->b≠D:=λb o e z=>by subst z;exact d o e
 have nL:∀ b u,H b=some u->b≠X.env.locals:=λb u e z=>by rw[z,I.free] at e;cases e
 refine I.step (g':=s.gens) (d':=s.drawn) (ch:=[]) (λ_ z=>nomatch z) (λb o f _ _ e _=>k b o f e) (λb o f _ _ e _=>⟨o.slots,k b o f e⟩) (λb o _ e n=>by rw[zD (p b o e)];exact n) (λb o _ e=>?_)
  (λb xs e=>by rw[zD (zh e a)];exact e) (λb o u e=>by rw[zD (zh e a)];exact e) (λb ps e=>⟨#[],by rw[zD (zh e a),e];simp⟩) (λt hm=>?_) (λb u e=>?_) I.bare
 by_cases hb:b=X.env.locals;obtain⟨o',_,_,i,_⟩:=F.ns;exact⟨o',by rw[hb];exact i⟩;exact⟨o,k b o hb e⟩;rw[← Z3u hn hm];exact F.ns;by_cases hb:b=D;subst hb;rw[zB] at e;cases e;exact⟨l,out,c,r,j⟩;rw[zD hb] at e;refine (I.hok b u e).stay (λx v h q=>k x v ?_ q) (λx q=>by rw[zD (zh q a)];exact q) λx xs q=>by rw[zD (zh q a)];exact q
 rcases h with z | z;rw[z];exact nL b u e;exact nL x _ z
def JQ(p:Array Nat)(j:Nat):p.toList.getD j 0=Srt.e p j:=by
 unfold Srt.e;simp[Z05]
def z7X{X:Cx}{σ:St}{g:Heap}{its:List Value}{xs:List V}(I:Inv X pins σ H s)(t:∀ b o,s.heap.get? b=some o->g.get? b=some o)(d:∀ b o,s.heap.get? b=some o->b≠D)(K:g.get? D=some (seqObj "list" its.toArray 0))(S:Vals xs its)(h64:xs.length<64)(lt:Nat->Nat->Bool)(O:Srt.Ord lt)(h:z7N X s xs lt)(q:∀ (p:List Nat),p.Perm (List.range xs.length)->(∀ k,1<=k->k<xs.length->lt (p.getD k 0) (p.getD (k - 1) 0)=false)->H D=none->Q (.ref D) (upd H D (.lst (p.map λi=>xs.getD i .Zn)))) :
 wpAny 06 X.A.in1.in1 (Builtin.«list.sort» ⟨[.ref D],[]⟩) (λfin s'=>fin=.done (.ret .none)/\EP X pins σ Q (.ref D) s') E { s with heap:=g }:=by
 have hlen:=S.length;by_cases h2:its.length<2;refine z1n t d K h2 λh' c kp ho=>?_;have hf:H D=none:=by
  cases z:H D with
  | none=>rfl
  | some u =>
    obtain⟨o,e⟩:=Zg.there (I.hok D u z);exact absurd rfl (d _ _ e)
 obtain⟨m,hn,_⟩:=id I.loc;have F:Fr X.base X.env.locals h' m:=Fr.kept ⟨hn,I.bk,Z0Y I.ok.bsz I.ok.above⟩ kp;have I':Inv X pins σ (upd H D (.lst xs)) { s with heap:=h' }:=I.z2E (t':=s.toks) hn F (λb o _ e=>kp b o e) hf (λo e=>d _ _ e rfl) ho S (by rw[sizeLine_eq];lia);have v:=q (List.range xs.length) (List.Perm.refl _) (λk k1 k2=>00) hf;have ex:(List.range xs.length).map (λi=>xs.getD i .Zn)=xs:=by
  exact z6n xs 00
 rw[ex] at v;exact⟨.ref D,_,I',rfl,v⟩;obtain⟨m,hn,_⟩:=id I.loc;have F:Fr X.base X.env.locals s.heap m:=⟨hn,I.bk,Z0Y I.ok.bsz I.ok.above⟩;have N:News X.base X.env.locals s.heap (yE X.base s.heap X.env.locals):=z0f;have f:∀ {h':Heap}{r:List 014},Fr X.base X.env.locals h' m->News X.base X.env.locals h' r->(∀ p∈yE X.base s.heap X.env.locals,p∈r)->∀ b o,b≠X.env.locals->s.heap.get? b=some o->h'.get? b=some o:=λ{h' r} F' N' sub b o hb e=>by
  cases z:X.base.get? b with
  | some u =>
    have:=I.bk b u z;rw[e] at this;cases this;exact F'.keep b _ z
  | none=>exact (N' (b,o) (sub _ (Vn hb z e))).1
 have L:2<=its.length:=00
 have oL:∃ o,s.heap.get? X.env.locals=some o:=by obtain⟨o,_,_,e,_⟩:=F.ns;exact⟨o,e⟩
 obtain⟨oL,eL⟩:=oL;have h0:X.base.get? D=none:=by
  cases z:X.base.get? D with
  | none=>rfl
  | some u=>exact absurd rfl (d _ _ (F.keep _ _ z))
 refine kat_list_sort (s:={ s with heap:=g }) (F.kept t) (N.grown t) K (Z32 (d _ _ eL)) h0 (λp B=>d _ _ (N p B).1) L 00 λU h' F' N'=>?_;have kp:=f F' N' (λp B=>Z06 _ B);have nDD:=N' (D,seqObj "list" #[] U) Z09;have J:∀ o,s.heap.get? D≠some o:=λo e=>d D o e rfl;have R:H D=none:=by
  cases z:H D with
  | none=>rfl
  | some u =>
    obtain⟨o,e⟩:=Zg.there (I.hok D u z);exact absurd e (J o)
 have hD:∀ q∈yE X.base s.heap X.env.locals,q.1≠D:=λq v=>d _ _ (N q v).1;obtain⟨κ,T,y⟩:=h its { s with heap:=h' } S L kp;refine T _ ?_;have hn1:0<its.length:=00
 refine Srt.JH (n:=its.length) (P:=λs'=>s'={ s with heap:=h' }) lt (λi j C s2 hi hj Z hc=>by subst Z;exact y i j C _ hi hj kp (hc _ rfl)) (kas_sort its.length) _ (Srt.jM hn1) rfl λs2 Z=>?_;subst Z;obtain⟨pm,up⟩:=Srt.z0M O (n:=its.length) 00;generalize Srt.run lt (kas_sort its.length)=p at *;refine KasFin.intro F' N' (.head λx hx=>hD x hx) λh3 c F3 N3=>?_;have kp3:=f F3 N3 (λp B=>Z06 _ B);have Y:=(N3 (D,listOf (List.toArray (p.toList.map λi=>its.getD i Value.none)) c) Z09).1;have rel:Vals (p.toList.map λi=>xs.getD i .Zn) (p.toList.map λi=>its.getD i Value.none):=by
  have key:∀ (l:List Nat),(∀ i∈l,i<its.length)->Vals (l.map λi=>xs.getD i .Zn) (l.map λi=>its.getD i Value.none):=by
   intro l
   induction l with
   | nil=>intro _;exact .nil
   | cons a l ih =>
     intro M;have ha:=M a Z09;have G:a<xs.length:=00;obtain⟨u,hu,ru⟩:=S.get (i:=a) (x:=xs[a]) (by simp[G]);have U:xs.getD a .Zn=xs[a]:=(by simp[G]);have e2:its.getD a Value.none=u:=(by rw[Z05,hu];rfl);rw[Z1d,Z1d,U,e2];exact .cons ru (ih λi hi=>M i (Z06 _ hi))
  exact key _ λi hi=>Z25.mp (pm.mem_iff.mp hi)
 have v:=q p.toList (by rw[hlen];exact pm) (λk k1 k2=>by
  have:=(up k k1 00).1;rw[JQ,JQ];exact this) R
 refine⟨rfl,.ref D,_,I.z2E (t':=s.toks) hn F3 kp3 R J Y rel ?_,rfl,v⟩;rw[ZB,pm.length_eq,Z29,← hlen];rw[hlen,sizeLine_eq];lia
def qE{X:Cx}{σ:St}{xs:List V}(I:Inv X pins σ H s)(h:zN X.K H l xs\/zR X.K H l xs)(j:xs.length<64)(lt:Nat->Nat->Bool)(O:Srt.Ord lt)(d:z7N X s xs lt)(q:∀ (p:List Nat) (D:Addr),p.Perm (List.range xs.length)->(∀ k,1<=k->k<xs.length->lt (p.getD k 0) (p.getD (k - 1) 0)=false)->H D=none->Q (.ref D) (upd H D (.lst (p.map λi=>xs.getD i .Zn)))) :
 wpAny 06 X.A (call (.builtin "sorted") [.ref l]) (EP X pins σ Q) X.xe s:=by
 have ⟨T,hT,its,f,ht⟩:∃ T,(T="list"\/T="tuple")/\∃ its,Vals xs its/\∃ o,s.heap.get? l=some o/\o.cls=.type T/\∃ n,o.data=.seq its.toArray n:=by
  rcases h with h | h;obtain⟨its,f,pl,_⟩:=I.list h;exact⟨_,.inl rfl,its,f,pl.isList⟩;obtain⟨its,f,pl,_⟩:=I.tuple h;exact⟨_,.inr rfl,its,f,pl⟩
 refine Js hT ht (by rw[← f.length,sizeLine_eq];lia) λg D kp r m=>?_;exact z7X I kp r m f j lt O d λp a b c=>q p D a b c
theorem yQ{α:Type}{R:α->α->Prop}(i:∀ a b c,R a b->R b c->R a c):∀ l:List α,(∀ k a b,l[k]?=some a->l[k+1]?=some b->R a b)->l.Pairwise R
 | [],_=>.nil
 | [a],_=>by simp
 | a :: b :: l,h=>by
   have f:=yQ i (b :: l) λk x y m j=>h (k+1) x y (by simpa using m) (by simpa using j);refine Z4f.mpr ⟨λc d=>?_,f⟩;rcases Z08.mp d with rfl | d;exact h 0 a c rfl rfl;exact i a b c (h 0 a b rfl rfl) ((Z4f.mp f).1 c d)
def range_getD{α:Type}(l:List α)(d:α):(List.range l.length).map (λi=>l.getD i d)=l:=by
 refine List.ext_getElem 05 λi b a=>?_;simp[a]
theorem map_getD{α β:Type}{f:α->β}{l:List α}{d:α}{d':β}:∀ {p:List Nat},(∀ i∈p,i<l.length)->(p.map λi=>(l.map f).getD i d')=(p.map λi=>l.getD i d).map f
 | [],_=>rfl
 | i :: p,h=>by
   have hi:=h i Z09;rw[Z1d,Z1d,Z1d,map_getD (d:=d) (d':=d') λj a=>h j (Z06 _ a)];simp[hi]
def vU{α:Type}{l:List α}{d:α}{p:List Nat}(h:p.Perm (List.range l.length)):(p.map λi=>l.getD i d).Perm l:=by
 have:=h.map (λi=>l.getD i d);rw[range_getD] at this;exact this
def vj(r:Vals xs vs)(h:i<vs.length):RelV (xs.getD i .Zn) (vs.getD i Value.none):=by
 have h':i<xs.length:=by rw[r.length];exact h
 obtain⟨u,a,d⟩:=r.get (i:=i) (x:=xs[i]) (by simp[h']);have b:xs.getD i .Zn=xs[i]:=by simp[h']
 have c:vs.getD i Value.none=u:=by rw[Z05,a];rfl
 rw[b,c];exact d
noncomputable def ltI(ns:List Int)(i j:Nat):Bool:=decide (ns.getD i 0<ns.getD j 0)
def z9W(ns:List Int):Srt.Ord (ltI ns):=by
 refine⟨λi j h=>?_,λi j k a b=>?_⟩ <;> simp only[ltI,decide_eq_true_eq,decide_eq_false_iff_not] at * <;> lia
noncomputable def xw(p q:Int×Int):Bool:=decide (p.1<q.1\/(p.1=q.1/\p.2<q.2))
noncomputable def yj(p q:Int×Int):Prop:=p.1<q.1\/(p.1=q.1/\p.2<=q.2)
def z4I(h:xw q p=false):yj p q:=by
 simp only[xw,yj,decide_eq_false_iff_not] at *;lia
def qh(a b c:Int×Int)(d:yj a b)(f:yj b c):yj a c:=by
 simp only[yj] at *;lia
noncomputable def ltP(ps:LI)(i j:Nat):Bool:=xw (ps.getD i (0,0)) (ps.getD j (0,0))
def z4h(ps:LI):Srt.Ord (ltP ps):=by
 refine⟨λi j h=>?_,λi j k a b=>?_⟩ <;> simp only[ltP,xw,decide_eq_true_eq,decide_eq_false_iff_not] at * <;> omega
def xB{α:Type}{R:α->α->Prop}(m:∀ a b c,R a b->R b c->R a c){l:List α}{d:α}{p:List Nat}(h:p.Perm (List.range l.length)){lt:Nat->Nat->Bool}
 (up:∀ k,1<=k->k<l.length->lt (p.getD k 0) (p.getD (k - 1) 0)=false) (n:∀ i j,lt j i=false->R (l.getD i d) (l.getD j d)):(p.map λi=>l.getD i d).Pairwise R:=by
 refine yQ m _ λk a b ha f=>?_;have o:p.length=l.length:=by rw[h.length_eq,Z29]
 rw[Z17] at ha f;cases e1:p[k]? with
 | none=>rw[e1] at ha;cases ha
 | some i =>
   cases e2:p[k+1]? with
   | none=>rw[e2] at f;cases f
   | some j =>
     rw[e1] at ha;rw[e2] at f;have ha:l.getD i d=a:=Z19 ha;have f:l.getD j d=b:=Z19 f;subst ha f;have q:k+1<p.length:=(Z16.mp e2).1;have:=up (k+1) 00 00;have g1:p.getD (k+1) 0=j:=(by rw[Z05,e2];rfl);have g2:p.getD (k+1 - 1) 0=i:=(by rw[Z05,Nat.add_sub_cancel,e1];rfl);rw[g1,g2] at this;exact n i j this
noncomputable def dtP(p:Int×Int):Dt:=.tup [.int p.1,.int p.2]
noncomputable def Zm(K:FR)(H:Hp)(ps:LI)(vs:List V):Prop:=Zh K H (ps.map dtP) vs
theorem vC{α:Type}{f:α->Dt}{l:List α}{d:α}{vs:List V}(h:Zh K H (l.map f) vs):∀ {p:List Nat},(∀ i∈p,i<l.length)->Zh K H ((p.map λi=>l.getD i d).map f) (p.map λi=>vs.getD i .Zn)
 | [],_=>by simp only[Z3N,Zh]
 | i :: p,hp=>by
   have hi:=hp i Z09;simp only[Z1d,Zh];obtain⟨x,m,dx⟩:=h.get (j:=i) (d:=f l[i]) (by simp[hi]);refine⟨_,_,rfl,?_,vC h λj c=>hp j (Z06 _ c)⟩;have a:l.getD i d=l[i]:=by simp[hi]
   have b:vs.getD i .Zn=x:=by rw[Z05,m];rfl
   rw[a,b];exact dx
def z2O(h:Zm K H ps vs)(hi:i<ps.length):∃ a,vs.getD i .Zn=.ref a/\zR K H a [.int (ps.getD i (0,0)).1,.int (ps.getD i (0,0)).2]:=by
 obtain⟨x,f,dx⟩:=Zh.get (j:=i) (d:=dtP ps[i]) h (by simp[hi]);have b:ps.getD i (0,0)=ps[i]:=by simp[hi]
 have c:vs.getD i .Zn=x:=by rw[Z05,f];rfl
 rw[b,c];simp only[dtP,Den,Zh] at dx;obtain⟨a,xs,rfl,l,y,r,rfl,rfl,y2,m,rfl,rfl,rfl⟩:=dx;exact⟨a,rfl,l⟩
def Inv.Z1G{X:Cx}{σ:St}(I:Inv X pins σ H s)(h:zR X.K H a xs):a≠X.env.locals:=by
 rintro rfl;obtain⟨its,_,⟨o,e,c,n,d⟩,_⟩:=I.tuple h;obtain⟨m,⟨o',f,i,b,hd,_⟩,_⟩:=I.loc;rw[e] at b;cases b;rw[d] at hd;cases hd
noncomputable def Z2h(K:FR):List V->Hp->VK->Prop:=λxs H Q=>∃ (l:Addr) (ns:List Int),xs=[.ref l]/\zN K H l (ns.map V.int)/\ns.length<64/\∀ (ms:List Int) (D:Addr),ms.Perm ns->ms.Pairwise (·<=·)->H D=none->Q (.ref D) (upd H D (.lst (ms.map V.int)))
noncomputable def Z1T(K:FR):List V->Hp->VK->Prop:=λxs H Q=>∃ (l:Addr) (vs:List V) (ps:LI),xs=[.ref l]/\zN K H l vs/\Zm K H ps vs/\ps.length<64/\∀ (us:List V) (ms:LI) (D:Addr),ms.Perm ps->ms.Pairwise yj->Zm K H ms us->H D=none->Q (.ref D) (upd H D (.lst us))
def JJ:ZE X (.builtin "sorted") (Z2h X.K):=by
 intro pins s σ H xs us Q I r h;obtain⟨l,ns,rfl,B,f,q⟩:=h;obtain⟨u,rfl,rfl⟩:=vals1 r;refine qE I (.inl B) (by rw[ZB];exact f) (ltI ns) (z9W ns) (λvs s' n w kp=>?_) λp D pm up y=>?_;have L:=intsAre_of n;refine⟨oneType',λR z=>?_,λi j C s2 hi A _ J=>?_⟩;rw[ksk_kind (keys:=vs.toArray) (kz:=ns) (by simpa using L) (by simpa using w)];exact wpAny_pure z;unfold kas_ask;have hn:vs.length=ns.length:=by rw[← n.length,ZB]
 have v:∀ {i:Nat},i<vs.length->∃ t,vs.getD i Value.none=.int (ns.getD i 0) t:=λ{i} hi=>by
  have o:=vj n hi;have m:i<ns.length:=00
  have e:(ns.map V.int).getD i .Zn=.int (ns.getD i 0):=by simp[m]
  rw[e] at o;exact o
 obtain⟨t,G⟩:=v hi;obtain⟨t',F⟩:=v A;rw[G,F];exact kat_lt_int J;rw[ZB] at pm up;have E:∀ i∈p,i<ns.length:=λi hi=>Z25.mp (pm.mem_iff.mp hi);rw[map_getD (d:=0) E];exact q _ D (vU pm) (xB (R:=λa b:Int=>a<=b) (λa b c=>Int.le_trans) pm up λi j h=>by simp only[ltI,decide_eq_false_iff_not] at h;lia) y
def Jv:ZE X (.builtin "sorted") (Z1T X.K):=by
 intro pins s σ H xs us Q I r h;obtain⟨l,xs,ps,rfl,hl,E,N,q⟩:=h;obtain⟨u,rfl,rfl⟩:=vals1 r;have hlen:xs.length=ps.length:=by have:=Zh.length E;rw[ZB] at this;exact this
 refine qE I (.inl hl) 00 (ltP ps) (z4h ps) (λvs s' J A kp=>?_) λp D pm up Z=>?_;have d:vs.length=ps.length:=by rw[← J.length,hlen]
 have tup:∀ {s2:Shared},(∀ b o,b≠X.env.locals->s.heap.get? b=some o->s2.heap.get? b=some o)->∀ {i:Nat},i<vs.length->∃ a o n t1 f,vs.getD i Value.none=.ref a/\s2.heap.get? a=some o/\o.cls=.type "tuple"/\o.data=.seq #[.int (ps.getD i (0,0)).1 t1,.int (ps.getD i (0,0)).2 f] n:=λ{s2} k {i} hi=>by
  obtain⟨a,e,L⟩:=z2O E (show i<ps.length by lia);have G:=vj J hi;rw[e] at G;obtain⟨its,ri,⟨o,m,z,n,hd⟩,_⟩:=I.tuple L;obtain⟨u1,u2,rfl,⟨t1,rfl⟩,⟨f,rfl⟩⟩:=vals2 ri;exact⟨a,o,n,t1,f,G,k a o (I.Z1G L) m,z,by simpa using hd⟩
 refine⟨tuples' true,λR O=>?_,λi j C s2 hi P k z=>?_⟩;have build:∀ (ws:List Value),(∀ v∈ws,∃ a o n x t1 y f,v=.ref a/\s'.heap.get? a=some o/\o.cls=.type "tuple"/\o.data=.seq #[.int x t1,.int y f] n)->∃ fs:List Value,fs.length=ws.length/\KatTups s'.heap ws fs/\∀ v∈fs,∃ x t,v=.int x t:=by
  intro ws
  induction ws with
  | nil=>intro _;exact⟨[],rfl,KatTups.nil,λv h=>by simp at h⟩
  | cons w ws ih =>
    intro h;obtain⟨fs,e,t,a⟩:=ih λv d=>h v (Z06 _ d);obtain⟨b,o,n,x,t1,y,f,rfl,m,z,hd⟩:=h w Z09;refine⟨.int x t1 :: fs,by simp[e],KatTups.cons m z hd rfl t,λv d=>?_⟩;rcases Z08.mp d with rfl | d;exact⟨_,_,rfl⟩;exact a v d
 obtain⟨fs,e,kt,M⟩:=build vs λv d=>by
  obtain⟨i,hi,rfl⟩:=List.mem_iff_getElem.mp d;obtain⟨a,o,n,t1,f,e,m,z,hd⟩:=tup kp hi;have:vs.getD i Value.none=vs[i]:=by simp[hi]
  rw[this] at e;exact⟨a,o,n,_,t1,_,f,e,m,z,hd⟩
 refine kat_kind (T:=.type "int") kt 00 (λv d=>?_) 01 O;obtain⟨x,t,rfl⟩:=M v d;exact Looks.of_pure rfl;unfold kas_ask;obtain⟨a,o,n,t1,f,e,m,_,hd⟩:=tup k hi;obtain⟨a',o',n',U,t2',Y,F,_,B⟩:=tup k P;rw[e,Y];refine kat_lt m hd F B (kat_cons ?_);have c:C (xw (ps.getD i (0,0)) (ps.getD j (0,0))) s2:=z;generalize ps.getD i (0,0)=x at *;generalize ps.getD j (0,0)=y at *;refine wpAny_eqBool_int ?_;by_cases h1:x.1=y.1;rw[show (x.1 == y.1)=true by simp[h1]];refine kat_yes (kat_cons (wpAny_eqBool_int ?_));by_cases A:x.2=y.2;rw[show (x.2 == y.2)=true by simp[A]];refine kat_yes (kat_nil ?_);have:xw x y=false:=by simp only[xw,decide_eq_false_iff_not];lia
 rw[this] at c;simpa using c;rw[show (x.2 == y.2)=false by simp[A]];refine kat_no (kat_one _ _ ?_);have:xw x y=decide (x.2<y.2):=by simp only[xw,decide_eq_decide];lia
 rw[this] at c;exact lt_int c;rw[show (x.1 == y.1)=false by simp[h1]];refine kat_no (oneLt_int ?_);have:xw x y=decide (x.1<y.1):=by simp only[xw,decide_eq_decide];lia
 rw[this] at c;exact c;rw[hlen] at pm up;have S:∀ i∈p,i<ps.length:=λi hi=>Z25.mp (pm.mem_iff.mp hi);exact q _ _ D (vU pm) (xB qh pm up λi j h=>z4I h) (vC E S) Z
theorem Y0(env:Env):∀ (names:List (Str×NameKind)) (cs:List (Str×Addr)),(∀ y∈names,y.2=.free->∃ c,env.cells.lookup y.1=some c)->(∀ p∈cs,env.cells.lookup p.1=some p.2)->
 ∃ cl:List (Str×Addr),(forIn names cs λx cs=>(match x with | (name,kind)=>if (kind == .free)=true then do let __do_lift ←cellOf env name;pure (ForInStep.yield ((name,__do_lift) :: cs)) else pure (ForInStep.yield cs):Sem (ForInStep (List (Str×Addr)))))=pure cl/\
   (∀ p∈cl,env.cells.lookup p.1=some p.2)/\(∀ p∈cs,p∈cl)/\∀ x,(x,NameKind.free)∈names->∃ c,(x,c)∈cl
 | [],cs,_,hc=>⟨cs,by rw[List.forIn_nil],hc,λ_ h=>h,λx h=>by simp at h⟩
 | (n,k) :: names,cs,h,hc=>by
   have h':=λy m=>h y (Z06 _ m);rw[Z5x];by_cases hk:k=.free;subst hk;obtain⟨c,e⟩:=h (n,.free) Z09 rfl;obtain⟨cl,j,i,d,f⟩:=Y0 env names ((n,c) :: cs) h' λp b=>by
    rcases Z08.mp b with rfl | b;exact e;exact hc p b
   refine⟨cl,?_,i,λp b=>d p (Z06 _ b),λx a=>?_⟩;have l:cellOf env n=pure c:=by unfold cellOf;rw[e]
   simp only[l,beq_self_eq_true,if_true,pure_bind];exact j;rcases Z08.mp a with z | a;cases z;exact⟨c,d _ Z09⟩;exact f x a;obtain⟨cl,j,i,d,f⟩:=Y0 env names cs h' hc;refine⟨cl,?_,i,d,λx a=>?_⟩
   have:(k == NameKind.free)=false:=by simpa using hk
   simp only[this,Bool.false_eq_true,if_false,pure_bind];exact j;rcases Z08.mp a with z | a;cases z;exact absurd rfl hk;exact f x a
theorem Ym{x:Str}:∀ {l:List (Str×Addr)},(x,c)∈l->∃ a,l.lookup x=some a
 | [],h=>by simp at h
 | (n,d) :: l,h=>by
   rw[List.lookup_cons];cases e:x == n with
   | true=>exact⟨d,rfl⟩
   | false =>
     rcases Z08.mp h with z | h;cases z;simp at e;exact Ym h
def UH(h:∀ y∈scope.names,y.2=.free->∃ c,env.cells.lookup y.1=some c) :
 ∃ cl,closureFor scope env=pure cl/\(∀ x c,cl.lookup x=some c->env.cells.lookup x=some c)/\∀ x,(x,NameKind.free)∈scope.names->∃ c,cl.lookup x=some c:=by
 obtain⟨cl,b,f,_,d⟩:=Y0 env scope.names [] h (λp i=>by simp at i);refine⟨cl,?_,λx c a=>f (x,c) (Z3L a),λx a=>?_⟩;unfold closureFor;refine Eq.trans (congrArg (λt=>t >>= λcs=>pure cs) ?_) (bind_pure _);exact b;obtain⟨c,j⟩:=d x a;exact Ym j
def ZR{pos:Pos}{g:TG}(N':List Str)(o:List (Option Nat))(c:X.calm=true)(hi:PI X tg iter wi)(d:∀ y∈scope.names,y.2=.free->X.env.scope.names.lookup y.1=some .cell)(a:∀ y∈scope.names,y.2≠.cell)(f:scope.kind=.function)(b:∀ y∈scope.names,y.2=.local->scope.names.lookup y.1=some .local)(l:U5 X (relabel scope X.env) N' o)(q:∀ cl C s H fp,PG 010 tg g)(t:∀ cl C s H fp,PTs 010 ifs tt)(he:∀ cl C s H fp,PE 010 elt te)(p:∀ x,foldedSetIterable iter X.env x=pure x:=by intro _;rfl):PE X 011 (Vs wi o g tt te):=by
 intro pins s σ H Q I h;obtain⟨cl,v,u,m⟩:=UH (scope:=scope) (env:=X.env) λy i hf=>I.ok.has y.1 (.inl (d y i hf));refine Z0E c hi v u a f b (λx j=>?_) l (q cl) (t cl) (he cl) p pins s σ H Q I h;have key:∀ k,(x,k)∈(relabel scope X.env).names->k=.cell\/k=.free->(x,NameKind.free)∈scope.names:=λk hm w=>by
  unfold relabel at hm;obtain⟨⟨n,r⟩,i,e⟩:=Z18.mp hm;dsimp only at e;split at e;rename_i hc;cases e;have:r=.free:=by simp at hc;exact hc.1.1
  rw[← this];exact i;cases e;rcases w with rfl | rfl;exact absurd rfl (a _ i);exact i
 rcases j with j | j;exact m x (key _ (Z3L j) (.inl rfl));exact m x (key _ (Z3L j) (.inr rfl))
def Qh{lo:Int}{g:TG}(Pv:Nat->List V->St->Hp->Prop)(h0:Pv 0 [] σ0 H0)(j:∀ i a σ H,Pv i a σ H->H D=some (.lst a))(h:∀ i a σ H,i<n->Pv i a σ H->g (.int (lo+i)) σ H λc H3=>tt c H3 λb H4=>if b=true then
  te c H4 λy H5=>H5 D=some (.lst a)/\a.length<sizeLine/\∃ f,f<n - i/\Wt Pv n (i+1) f (a ++ [y]) c (upd H5 D (.lst (a ++ [y]))) else ∃ f,f<n - i/\Wt Pv n (i+1) f a c H4)(hd:∀ a σ H,Pv n a σ H->Q (.ref D) H) :
 Q4 (Itr lo n) D g tt te Q σ0 H0:=by
 refine⟨Wt Pv n,⟨n,rfl,Z15 _,h0⟩,?_⟩;rintro i m a d H' ⟨rfl,hi,p⟩;refine⟨j i a d H' p,?_⟩;by_cases hlt:i<n;refine .inr ⟨hlt,λx H2 y=>?_⟩;obtain⟨e,y⟩:=y;subst e y;exact h i a d _ hlt p;have e:i=n:=00
 subst e;exact .inl ⟨Z02 _,hd a d H' p⟩
def Xa{k:Nat}{pos:Pos}(n:Nat)(e:X.K=K)(b:X.calm=true)(h:PGs X es t)(hn:(assignEach es X.env).length=n:=by rfl)(a:(assignEach es X.env).findIdx? (·.1)=none:=by rfl):PG X (.Tuple es k pos) (Z0z K n t):=e ▸ uC b h hn a
noncomputable def Z4B(K:FR):List V->Hp->VK->Prop:=λxs H Q=>∃ (l:Addr) (ns:List Int),xs=[.ref l]/\zN K H l (ns.map V.int)/\Q (.int ns.sum) H
def z7R(m:X.calm=true):ZE X (.builtin "sum") (Z4B X.K):=by
 intro pins s σ H xs us Q I r h;obtain⟨l,ns,rfl,n,q⟩:=h;obtain⟨u,rfl,rfl⟩:=vals1 r;obtain⟨its,i,pl,_⟩:=I.list n;have hi:=intsAre_of i;obtain⟨xs,b⟩:=hi.allInts.items;have a:s.heap.IsList l (intItems xs):=b ▸ pl.isList;refine sum_intListG (I.ok.hd m) a λh' f t' c=>?_;have j:ns=xs.toList.map (·.1):=by
  rw[← nums_intItems,← b];exact (show numsOf its.toArray.toList=ns from hi.numsOf).symm
 have d:preSum (numAt xs) xs.size=ns.sum:=by
  rw[preSum_eq,Z12 05,j]
 rw[d];exact⟨.int ns.sum,H,I.kept (t':=f) c,⟨_,rfl⟩,q⟩
def z7Y{H:Hp}{Q:VK}{o:HO}(h:∀ (p:Addr) (H':Hp),zC H H'->H p=none->H' p=some o->Q (.ref p) H'):∀ p,H p=none->Q (.ref p) (upd H p o):=λp a=>h p _ (zC.new a) a zB
noncomputable def KL(H H':Hp):Prop:=∀ b o,H b=some o->(∀ xs,o≠.lst xs)->H' b=some o
def KL.trans(a:KL H H1)(b:KL H1 H2):KL H H2:=λc o h n=>b c o (a c o h n) n
def zC.kl(s:zC H H'):KL H H':=λb o h _=>s b o h
def KL.set(h:H l=some (.lst xs)):KL H (upd H l (.lst ys)):=λb o e n=>by
 have:b≠l:=by rintro rfl;rw[h] at e;cases e;exact n xs rfl
 rw[zD this];exact e
def Kp.kl(k:Kp l H H')(h:H l=some (.lst xs)):KL H H':=λb o e n=>k b o e (by rintro rfl;rw[h] at e;cases e;exact n xs rfl)
def KL.tup{H H':Hp}{b:Addr}{xs:List V}(k:KL H H')(h:H b=some (.tup xs)):H' b=some (.tup xs):=k b _ h λ_ z=>by cases z
def KL.z1S(e:KL H H')(h:zR K H a xs):zR K H' a xs:=by
 rcases h with (h |⟨o,h⟩) | h;exact .inl (.inl (e _ _ h λ_ z=>by cases z))
 exact .inl (.inr ⟨o,e _ _ h λ_ z=>by cases z⟩);exact .inr h
def Y4:Zm K H [] []:=by simp only[Zm,Z3N,Zh]
def YL(h:zR K H a [.int p.1,.int p.2])(r:Zm K H ps vs):Zm K H (p :: ps) (.ref a :: vs):=by
 simp only[Zm,Z1d,Zh,dtP,Den];exact⟨_,_,rfl,⟨a,_,rfl,h,_,_,rfl,rfl,_,_,rfl,rfl,rfl⟩,r⟩
def yd(h:Zm K H (p :: ps) vs):∃ a r,vs=.ref a :: r/\zR K H a [.int p.1,.int p.2]/\Zm K H ps r:=by
 simp only[Zm,Z1d,Zh,dtP,Den] at h;obtain⟨x,r,rfl,⟨a,xs,rfl,b,y,c,rfl,rfl,y2,d,rfl,rfl,rfl⟩,hr⟩:=h;exact⟨a,r,rfl,b,hr⟩
theorem Zm.kl(k:KL H H'):∀ {ps:LI}{vs:List V},Zm K H ps vs->Zm K H' ps vs
 | [],vs,h=>by
   simp only[Zm,Z3N,Zh] at h;subst h;exact Y4
 | p :: ps,vs,h=>by
   obtain⟨a,r,rfl,b,hr⟩:=yd h;exact YL (k.z1S b) (Zm.kl k hr)
theorem Zm.snoc(c:zR K H a [.int p.1,.int p.2]):∀ {ps:LI}{vs:List V},Zm K H ps vs->Zm K H (ps ++ [p]) (vs ++ [.ref a])
 | [],vs,h=>by
   simp only[Zm,Z3N,Zh] at h;subst h;exact YL c Y4
 | q :: ps,vs,h=>by
   obtain⟨b,r,rfl,d,hr⟩:=yd h;exact YL d (Zm.snoc c hr)
theorem Zm.append{qs:LI}(a:Zm K H qs us):∀ {ps:LI}{vs:List V},Zm K H ps vs->Zm K H (ps ++ qs) (vs ++ us)
 | [],vs,h=>by
   simp only[Zm,Z3N,Zh] at h;subst h;exact a
 | q :: ps,vs,h=>by
   obtain⟨b,r,rfl,c,hr⟩:=yd h;exact YL c (Zm.append a hr)
def Zm.len(h:Zm K H ps vs):vs.length=ps.length:=by
 have:=Zh.length h;rw[ZB] at this;exact this
def Zm.get{K:FR}{H:Hp}{ps:LI}{vs:List V}(h:Zm K H ps vs){i:Nat}{v:V}(b:vs[i]?=some v):∃ a p,ps[i]?=some p/\v=.ref a/\zR K H a [.int p.1,.int p.2]:=by
 have hi:i<ps.length:=by rw[← h.len];exact (Z16.mp b).1
 obtain⟨a,e,q⟩:=z2O h hi;have c:vs.getD i .Zn=v:=by rw[Z05,b];rfl
 have d:ps.getD i (0,0)=ps[i]:=by simp[hi]
 rw[c] at e;rw[d] at q;exact⟨a,ps[i],by simp[hi],e,q⟩
def z5Z{ns:List Int}(p:ms.Perm ns)(c:ms.Pairwise (·<=·))(d:ns.Pairwise (·<=·)):ms=ns:=p.eq_of_pairwise (λa b _ _ x y=>Int.le_antisymm x y) c d
noncomputable def Z0W:R2:=λx y H Q=>∃ l b xs zs,x=.ref l/\y=.ref b/\H l=some (.lst xs)/\H b=some (.lst zs)/\xs.length+zs.length<=sizeLine/\∀ (p:Addr) (H':Hp),zC H H'->H p=none->H' p=some (.lst (xs ++ zs))->Q (.ref p) H'
noncomputable def Z5f:R2:=λx y H Q=>∃ l k xs,x=.ref l/\y=.int k/\H l=some (.lst xs)/\-(2 ^ 63)<=k/\k<2 ^ 63/\xs.length * k.toNat<=sizeLine/\
 ∀ (p:Addr) (H':Hp),zC H H'->H p=none->H' p=some (.lst (List.replicate k.toNat xs).flatten)->Q (.ref p) H'
noncomputable def Z0R(K:FR):List V->Hp->VK->Prop:=λxs H Q=>∃ (l:Addr) (ns:List Int),xs=[.ref l]/\zN K H l (ns.map V.int)/\ns.length<64/\∀ (ms:List Int) (D:Addr) (H':Hp),ms.Perm ns->ms.Pairwise (·<=·)->zC H H'->H D=none->H' D=some (.lst (ms.map V.int))->Q (.ref D) H'
noncomputable def z9T(K:FR):List V->Hp->VK->Prop:=λxs H Q=>∃ (l:Addr) (vs:List V) (ps:LI),xs=[.ref l]/\zN K H l vs/\Zm K H ps vs/\ps.length<64/\∀ (us:List V) (ms:LI) (D:Addr) (H':Hp),ms.Perm ps->ms.Pairwise yj->Zm K H' ms us->zC H H'->H D=none->H' D=some (.lst us)->Q (.ref D) H'
noncomputable def Z2Y(K:FR):List V->Hp->VK->Prop:=λxs H Q=>∃ (p:Addr) (a:List V),xs=[.ref p]/\zN K H p a/\∀ (t:Addr) (H':Hp),zC H H'->H t=none->H' t=some (.tup a)->Q (.ref t) H'
def Xk:YD X (binaryOp .Add) Z0W:=λpins s σ H x y v u Q I c d ⟨l,b,xs,zs,h,a,i,f,j,q⟩=>Z2R pins s σ H x y v u Q I c d ⟨l,b,xs,zs,h,a,i,f,j,z7Y q⟩
def z9x:YD X (binaryOp .Mult) Z5f:=λpins s σ H x y v u Q I c d ⟨l,k,xs,h,b,i,f,j,a,q⟩=>Z2y pins s σ H x y v u Q I c d ⟨l,k,xs,h,b,i,f,j,a,z7Y q⟩
def U6:ZE X (.builtin "sorted") (Z0R X.K):=λpins s σ H xs us Q I r ⟨l,ns,e,f,d,q⟩=>JJ pins s σ H xs us Q I r ⟨l,ns,e,f,d,λms D a b c=>q ms D _ a b (zC.new c) c zB⟩
def XJ:ZE X (.builtin "sorted") (z9T X.K):=λpins s σ H xs us Q I r ⟨l,vs,ps,e,h,f,i,q⟩=>Jv pins s σ H xs us Q I r ⟨l,vs,ps,e,h,f,i,λus ms D a b c d=>q us ms D _ a b (c.kl (zC.new d).kl) (zC.new d) d zB⟩
def yu:ZE X (.type "tuple") (Z2Y X.K):=λpins s σ H xs us Q I r ⟨p,b,e,a,q⟩=>U4 pins s σ H xs us Q I r ⟨p,b,e,.inl ⟨a,z7Y q⟩⟩
end L2
namespace Pw
noncomputable def outs(ps:LI)(page:Int):List Int:=(ps.filter λp=>decide (p.1=page)).map (·.2)
def jQ(ps:LI)(p:Int×Int)(page:Int):outs (ps ++ [p]) page=outs ps page ++ (if p.1=page then [p.2] else []):=by
 unfold outs;rw[List.filter_append,Z13];by_cases h:p.1=page <;> simp[h]
def YF(ps:LI)(page:Int):(outs ps page).length<=ps.length:=by
 unfold outs;rw[ZB];exact List.length_filter_le ..
end Pw
namespace L2
noncomputable def xA(K:FR)(H:Hp)(w:Addr)(pages:Int)(ps:LI):Prop:=∃ (ws:Addr) (us:List V),H w=some (.tup [.int pages,.ref ws])/\H ws=some (.tup us)/\Zm K H ps us
def xA.kl(h:xA K H w pages ps)(k:KL H H'):xA K H' w pages ps:=by
 obtain⟨ws,us,a,b,c⟩:=h;exact⟨ws,us,k.tup a,k.tup b,c.kl k⟩
def xA.same(h:xA K H w pages ps)(k:zC H H'):xA K H' w pages ps:=h.kl k.kl
noncomputable def VG(K:FR)(f:LI->Int->List Int):Sp:=λvs H Q _=>∃ (w:Addr) (pages page:Int) (ps:LI),vs=[.ref w,.int page]/\xA K H w pages ps/\ps.length<=100/\
 ∀ (p:Addr) (H':Hp),zC H H'->H p=none->H' p=some (.lst ((f ps page).map V.int))->Q (.ref p) H'
open Builtin in
def Q0(a:Int)(t:Tok)(l:Addr)(items:Array Value)(n:Nat)(dd:Option Addr)(sl:Array (Option Value)) :
 Meets (Builtin.«int.__rmul__» ⟨[.int a t,.ref l],[]⟩) (λ_ R s=>s.heap.get? l=some { cls:=.type "tuple",dict:=dd,data:=.seq items n,slots:=sl }/\R (.ok (.ret Value.notImplemented)) s) :=
 .of_wp λprog w A R s h=>by obtain⟨b,g,d,f,os⟩:=s;obtain⟨c,h⟩:=h;wp_walk;exact⟨_,rfl,h⟩
def xQ:fillsNumberSlot (.type "tuple") "mul"=pure false :=
 PySem.fillsNumberSlot_seq (id:="tuple.__mul__") (r:=some (.builtin "tuple.__rmul__")) F.slot_tuple_mul.lookup 03 F.slot_tuple_rmul.lookup 03
def V7:seqRepeat? (.type "tuple")=pure (some (.builtin "tuple.__mul__")):=by
 unfold seqRepeat?;rw[PySem.seqSlot_of (T:="tuple") (name:="__mul__") (id:="tuple.__mul__") F.slot_tuple_mul.lookup 03,PySem.seqSlot_of (T:="tuple") (name:="__rmul__") (id:="tuple.__rmul__") F.slot_tuple_rmul.lookup 03];rfl
open Builtin in
def z0A(l:Addr)(items:Array Value)(n:Nat)(dd:Option Addr)(sl:Array (Option Value))(u:Tok) :
 Meets (Builtin.«tuple.__mul__» ⟨[.ref l,.int 1 u],[]⟩) (λ_ R s=>s.heap.get? l=some { cls:=.type "tuple",dict:=dd,data:=.seq items n,slots:=sl }/\R (.ok (.ret (.ref l))) s) :=
 .of_wp λprog w A R s h=>by obtain⟨b,g,d,c,os⟩:=s;obtain⟨a,h⟩:=h;have f1:=AutoSeq1.idx_int;have f2:=AutoSeq1.sub_tuple_tuple;wp_walk using wpAny_loadPart' a;exact⟨_,rfl,h⟩
open Builtin in
def Jl(l:Addr)(items:Array Value)(n:Nat)(dd:Option Addr)(sl:Array (Option Value))(x:Int)(u:Tok)(c:(decide (x < -(2 ^ 63)) || decide (x ≥ 2 ^ 63))=false)(j:(items.isEmpty || x == 1)=false)(p:(decide (x<=0) || items.isEmpty)=false)(b:¬ (items.size * x > (2 ^ 63 - 1) / 8))(o:Builtin.Tuple.tupleTooMany (items.size * x)=false)(f:sizeOk (.seq ((List.replicate x.toNat items).foldl (· ++ ·) #[]))) :
 Meets (Builtin.«tuple.__mul__» ⟨[.ref l,.int x u],[]⟩) (λ_ R s=>s.heap.get? l=some { cls:=.type "tuple",dict:=dd,data:=.seq items n,slots:=sl }/\R (.ok (.ret 023)) { s with heap:=s.heap.push { cls:=.type "tuple",data:=.seq ((List.replicate x.toNat items).foldl (· ++ ·) #[]) } }) :=
 .of_wp λprog w A R s h=>by obtain⟨i,g,d,m,os⟩:=s;obtain⟨a,h⟩:=h;have f1:=AutoSeq1.idx_int;have f2:=AutoSeq1.sub_tuple_tuple;wp_walk using wpAny_loadPart' a;refine wpAny_ite_false (by simpa using c) ?_;wp_walk using wpAny_loadPart' a;refine wpAny_ite_false (decide_eq_false b) ?_;wp_walk using wpAny_loadPart' a;refine wpAny_ite_false (decide_eq_false (Nat.not_lt.mpr f)) ?_;wp_walk using wpAny_loadPart' a;exact⟨_,rfl,h⟩
noncomputable def Z3V:R2:=λx y H Q=>∃ l k xs,x=.ref l/\y=.int k/\H l=some (.tup xs)/\xs≠[]/\1<=k/\k<2 ^ 60/\xs.length * k.toNat<=sizeLine/\
 ∀ (p:Addr) (H':Hp),zC H H'->H' p=some (.tup (List.replicate k.toNat xs).flatten)->Q (.ref p) H'
def Uv(its:List Value)(m:Nat):List.foldl (λx1 x2=>x1 ++ x2) #[] (List.replicate m its.toArray)=(List.replicate m its).flatten.toArray:=by
 have:∀ (m:Nat) (a:List Value),List.foldl (λx1 x2=>x1 ++ x2) a.toArray (List.replicate m its.toArray)=(a ++ (List.replicate m its).flatten).toArray:=λm=>by
  induction m with
  | zero=>intro a;simp
  | succ m ih=>intro a;rw[Z3Q,List.foldl_cons,Z3Q,Z52,show a.toArray ++ its.toArray=(a ++ its).toArray by simp,ih (a ++ its),Z2N]
 have:=this m [];rw[List.nil_append] at this;exact this
def z9Z:YD X (binaryOp .Mult) Z3V:=by
 intro pins s σ H x y v u Q I C D h;obtain⟨l,k,xs,rfl,rfl,m,d,J,B,f,q⟩:=h;cases C;obtain⟨t,rfl⟩:=D;obtain⟨z,its,r,p⟩:xs.length<=sizeLine/\∃ its:List Value,Vals xs its/\yw s.heap l its.toArray:=I.hok l _ m;have p:=p.tup;obtain⟨⟨cls,dd,data,sl⟩,a,A,n,hd⟩:=id p;simp only at A hd;subst A hd;have hlen:its.toArray.size=xs.length:=by rw[Z04];exact r.length.symm
 have j:0<xs.length:=Z4N.mpr d;by_cases hk:k=1;subst hk;refine wpAny_binaryOp_repeat_ref (T:="tuple") (U:="int") 01 ⟨_,a,rfl⟩ (λs'=>typeIs_int s' 1 t) xQ F.fills_int_mul F.slot_int_rmul V7 F.slot_int_index.lookup
  (call_meets F.slot_int_rmul (typeIs_int s 1 t) F.entry_int_rmul (F.args_int_rmul_2 _ _) (Q0 1 t l its.toArray n dd sl)
   ⟨a,rfl,⟨_,a,rfl⟩,call_meets F.slot_tuple_mul ⟨_,a,rfl⟩ F.entry_tuple_mul (F.args_tuple_mul_2 _ _) (z0A l its.toArray n dd sl t) ⟨a,?_⟩⟩)
 refine⟨.ref l,H,I,rfl,q l H (zC.refl _) ?_⟩;have:(List.replicate (1:Int).toNat xs).flatten=xs:=by
  show (List.replicate 1 xs).flatten=xs;simp
 rw[this];exact m;have i:(List.replicate k.toNat its).flatten.length<=sizeLine:=by
  rw[len_rep,← r.length,Nat.mul_comm];exact f
 have w:((its.toArray.size:Nat):Int) * k=((xs.length * k.toNat:Nat):Int):=by
  rw[hlen,Int.natCast_mul,Int.toNat_of_nonneg 00]
 have G:((sizeLine:Nat):Int)<=(2 ^ 63 - 1) / 8:=01
 have E:((xs.length * k.toNat:Nat):Int)<=((sizeLine:Nat):Int):=Int.ofNat_le.mpr f;have c:its.toArray.isEmpty=false:=by
  rw[Bool.eq_false_iff];intro h;have:=Array.isEmpty_iff.mp h;have B:its.toArray.size=0:=by rw[this];rfl
  lia
 refine wpAny_binaryOp_repeat_ref (T:="tuple") (U:="int") 01 ⟨_,a,rfl⟩ (λs'=>typeIs_int s' k t) xQ F.fills_int_mul F.slot_int_rmul V7 F.slot_int_index.lookup
  (call_meets F.slot_int_rmul (typeIs_int s k t) F.entry_int_rmul (F.args_int_rmul_2 _ _) (Q0 k t l its.toArray n dd sl)
   ⟨a,rfl,⟨_,a,rfl⟩,call_meets F.slot_tuple_mul ⟨_,a,rfl⟩ F.entry_tuple_mul (F.args_tuple_mul_2 _ _)
    (Jl l its.toArray n dd sl k t (by rw[decide_eq_false 00,decide_eq_false 00];rfl) (by rw[c];simpa using hk) (by rw[c,decide_eq_false 00];rfl)
     (by rw[w];lia) (by unfold Builtin.Tuple.tupleTooMany;rw[w];exact decide_eq_false 00) (by rw[Uv];show (List.replicate k.toNat its).flatten.toArray.size<=sizeLine;rw[Z04];exact i)) ⟨a,?_⟩⟩)
 rw[Uv];refine⟨.ref s.heap.objs.size,_,I.laid (t':=s.toks) (o:=.tup (List.replicate k.toNat xs).flatten) (λb ob q=>Z00 _ q) (Z02 _) ?_,rfl,q _ _ (zC.new I.fresh) zB⟩;exact⟨by rw[len_rep,Nat.mul_comm];exact f,_,r.rep k.toNat,yw.new _ _⟩
theorem uv:∀ {bs:List Bool}{its:List Value},Vals (bs.map V.bl) its->LSm.BoolsAre its bs
 | [],_,.nil=>.nil
 | b :: bs,_,.cons r t=>by
   cases r;exact .cons b (uv t)
noncomputable def Z5Q(K:FR):List V->Hp->VK->Prop:=λxs H Q=>∃ (l:Addr) (bs:List Bool),xs=[.ref l]/\zN K H l (bs.map V.bl)/\Q (.bl (bs.all id)) H
def Qv(p:X.calm=true):ZE X (.builtin "all") (Z5Q X.K):=by
 intro pins s σ H xs us Q I r h;obtain⟨l,bs,rfl,w,q⟩:=h;obtain⟨u,rfl,rfl⟩:=vals1 r;obtain⟨its,o,pl,_⟩:=I.list w;have f:=uv o;have a:=pl.isList;have t:=I.ok.hd p;have c:l<s.heap.objs.size:=by obtain⟨_,e,_⟩:=a;exact Z0k e
 refine call_all_walk (wpAny_pyIter_list a ?_);refine⟨s.heap.objs.size,[s.heap.objs.size,l],[s.heap.objs.size],its.toArray.size,_,_,λi=>(bs[i]?).getD true,rfl,Walks.list (A:=X.A.in1) t _ l (Z14 c) its.toArray,
  ⟨⟨_,Z0r _ rfl,rfl,rfl⟩,a.push _⟩,λi v s' Q' E' m d=>?_,λh' n j=>?_⟩
 obtain⟨b,e,rfl⟩:=f.get i v (by simpa using m);simp only[e,Option.getD_some] at d;exact wpAny_truthy_bool d;have e:((List.range its.toArray.size).all λi=>(bs[i]?).getD true)=bs.all id:=by
  rw[Z04,f.length];exact LSm.range_all bs
 rw[e];exact⟨.bl (bs.all id),H,I.kept (t':=n) (LSm.kept_iter j),rfl,q⟩
end L2
namespace Pw
def z5e(c:0<b)(ha:0<=a):0<=(mk a b).1:=by
 obtain⟨⟨d,_⟩,w⟩:=QL (a:=a) (b:=b) 00;have h:0<=(mk a b).1 * b:=by rw[w];exact Z4j ha 00
 exact Int.nonneg_of_mul_nonneg_left h c
theorem z7G:∀ {l:List Int},(∀ n∈l,0<=n)->0<=l.sum
 | [],_=>by simp
 | a :: l,h=>by
   have:=z7G λn hn=>h n (Z06 _ hn);have:=h a Z09;rw[List.sum_cons];lia
def Z5M{n:Int}(hn:0<n):mk 1 n=(1,n):=z8l (p:=(1,n)) ⟨hn,by simp[Canon]⟩
end Pw
namespace L2
noncomputable def yK(K:FR)(H:Hp):LI->List V->Prop
 | [],vs=>vs=[]
 | A :: As,vs=>∃ p r,vs=.ref p :: r/\Xw K H p A/\yK K H As r
noncomputable def Xn(A:Int×Int):Dt:=.tup [.int A.1,.int A.2]
theorem yK.same(s:zC H H'):∀ {As:LI}{vs:List V},yK K H As vs->yK K H' As vs
 | [],_,h=>h
 | _ :: _,_,⟨p,r,e,f,h⟩=>⟨p,r,e,s _ _ f,yK.same s h⟩
theorem yK.snoc(f:Xw K H p A):∀ {As:LI}{vs:List V},yK K H As vs->yK K H (As ++ [A]) (vs ++ [.ref p])
 | [],_,h=>by
   have h:_=([]:List V):=h;subst h;exact⟨p,[],rfl,f,rfl⟩
 | _ :: _,_,⟨q,r,e,g,h⟩=>⟨q,r ++ [.ref p],by rw[e];rfl,g,yK.snoc f h⟩
theorem yK.len:∀ {As:LI}{vs:List V},yK K H As vs->vs.length=As.length
 | [],_,h=>by
   have h:_=([]:List V):=h;subst h;rfl
 | _ :: _,_,⟨p,r,e,f,h⟩=>by rw[e];simp[yK.len h]
theorem yK.kp(k:KL H H'):∀ {As:LI}{vs:List V},yK K H As vs->yK K H' As vs
 | [],_,h=>h
 | _ :: _,_,⟨p,r,e,f,h⟩=>⟨p,r,e,k.tup f,yK.kp k h⟩
def yK.at{K:FR}{H:Hp}{As:LI}{vs:List V}(h:yK K H As vs){j:Nat}{A:Int×Int}(e:As[j]?=some A):∃ p,vs[j]?=some (.ref p)/\Xw K H p A:=by
 induction As generalizing vs j with
 | nil=>simp at e
 | cons B As ih =>
   obtain⟨p,r,rfl,f,h⟩:=h;cases j with
   | zero=>simp at e;subst e;exact⟨p,05,f⟩
   | succ j =>
     obtain⟨q,a,b⟩:=ih h (j:=j) (by simpa using e);exact⟨q,by simpa using a,b⟩
def yK.JL{As:LI}{i:Int}(h:yK K H As vs)(h0:0<=i)(a:i<As.length):∃ p A,A∈As/\Xw K H p A/\L2.JL vs i=some (.ref p):=by
 obtain⟨n,rfl⟩:∃ n:Nat,i=n:=⟨i.toNat,00⟩;have hn:n<As.length:=00
 obtain⟨p,e,f⟩:=h.at (j:=n) (A:=As[n]) (by simp[hn]);exact⟨p,As[n],Z1z hn,f,Zi e⟩
theorem yK.rep(f:Xw K H p A):∀ n:Nat,yK K H (List.replicate n A) (List.replicate n [V.ref p]).flatten
 | 0=>rfl
 | n+1=>by
   rw[Z3Q,Z3Q,Z52];exact⟨p,_,rfl,f,yK.rep f n⟩
def z5n(e:X.K=K)(a:X.calm=true):ZE X (.builtin "sum") (Z4B K):=e ▸ z7R a
def ze{X:Cx}{e:Expr}{a:List Expr}{b:TE}{t:TA}(d:starEach (e :: a) X.env=019 :: starEach a X.env)(c:PE X e b)(f:PA X a t):PA X (e :: a) (Xv b t):=YW c f d
def xq{X:Cx}{pos:Pos}{i:Nat}{x:Str}{e:Expr}{a:TE}{pos':Pos}(b:swapsWith e (some (.Name x pos')) pos.line X.env=pure false)(hf:X.fn x=true\/X.env.scope.names.lookup x=some .local)(d:X.N.Nodup)(hi:X.N[i]?=some x)(c:Loc X.env.scope x)(he:PE X e a) :
 PS X (.Assign [.Name x pos'] e pos) (z2a a (Zo i)):=vn d hi c he b hf
noncomputable def Z4z(K:FR)(neg:Bool):R2:=λx y H Q=>∃ a b xs,x=.ref a/\y=.ref b/\((zR K H a xs/\zR K H b [])\/(zN K H a xs/\zN K H b []))/\Q (.bl (if neg then !xs.isEmpty else xs.isEmpty)) H
def z4p{X:Cx}{σ:St}{A:Around}{xs:List V}(I:Inv X pins σ H s)(d:A.units<cLine)(ha:zR X.K H a xs)(p:zR X.K H b []) :
 SeqAt.RcAt A s 027 (.ref b) xs.isEmpty/\SeqAt.RcNeAt A s 027 (.ref b) (!xs.isEmpty):=by
 obtain⟨its,m,i,_⟩:=I.tuple ha;obtain⟨f,n,h,_⟩:=I.tuple p;cases n;have l:=m.length;have q:=SeqAt.RcAt.tuples (A:=A) (s:=s) (e:=λ_=>true) i h d (λj o c=>absurd c (Z4q j));have q2:=SeqAt.RcNeAt.tuples (A:=A) (s:=s) (e:=λ_=>true) i h d (λj o c=>absurd c (Z4q j));have e:((List.range (min its.toArray.size ([]:List Value).toArray.size)).all (λ_=>true) && its.toArray.size == ([]:List Value).toArray.size)=xs.isEmpty:=by
  cases xs <;> cases its <;> simp at l ⊢
 rw[e] at q q2;exact⟨q,q2⟩
def z4q{X:Cx}{σ:St}{A:Around}{xs:List V}(I:Inv X pins σ H s)(c:A.units<cLine)(ha:zN X.K H a xs)(p:zN X.K H b []) :
 SeqAt.RcAt A s 027 (.ref b) xs.isEmpty/\SeqAt.RcNeAt A s 027 (.ref b) (!xs.isEmpty):=by
 obtain⟨its,l,f,_⟩:=I.list ha;obtain⟨i,n,d,_⟩:=I.list p;cases n;have m:=l.length;cases xs with
 | nil =>
   cases l;exact⟨SeqAt.RcAt.lists (A:=A) (s:=s) (e:=λ_=>true) f.isList d.isList rfl c (λj o h=>absurd h (Z4q j)),SeqAt.RcNeAt.lists (A:=A) (s:=s) (e:=λ_=>true) f.isList d.isList rfl c (λj o h=>absurd h (Z4q j))⟩
 | cons x xs =>
   have hsz:(its.toArray.size != ([]:List Value).toArray.size)=true:=by
    cases its <;> simp at m ⊢
   exact⟨SeqAt.RcAt.lists_lengths f.isList d.isList hsz c,SeqAt.RcNeAt.lists_lengths f.isList d.isList hsz c⟩
def z1h{k:Nat}(hr:Zf k X.A):YD X (compareOp .Eq) (Z4z X.K false):=by
 intro pins s σ H x y v u Q I c d h;obtain⟨a,b,xs,rfl,rfl,f,q⟩:=h;cases c;cases d;have i:=hr.units;rcases f with⟨ha,hb⟩|⟨ha,hb⟩;exact (z4p (A:=X.A) I 00 ha hb).1 _ _ _ _ ⟨.bl _,H,I,rfl,q⟩;exact (z4q (A:=X.A) I 00 ha hb).1 _ _ _ _ ⟨.bl _,H,I,rfl,q⟩
def z8H{k:Nat}(hr:Zf k X.A):YD X (compareOp .NotEq) (Z4z X.K true):=by
 intro pins s σ H x y v u Q I c d h;obtain⟨a,b,xs,rfl,rfl,f,q⟩:=h;cases c;cases d;have i:=hr.units;rcases f with⟨ha,hb⟩|⟨ha,hb⟩;exact (z4p (A:=X.A) I 00 ha hb).2 _ _ _ _ ⟨.bl _,H,I,rfl,q⟩;exact (z4q (A:=X.A) I 00 ha hb).2 _ _ _ _ ⟨.bl _,H,I,rfl,q⟩
end L2
namespace HT
def z6N{ws:List Value}(p:IsTup s.heap t ([]:List Value).toArray)(o:IsTup s.heap b ws.toArray)(h:Q (.ref b) s):wpAny 09 A (binaryOp .Add (.ref t) (.ref b)) Q E s:=by
 obtain⟨⟨cls,dd,data,sl⟩,j,l,n,hd⟩:=id p;obtain⟨⟨i,f,data2,d⟩,c,a,m,hd2⟩:=id o;simp only at l hd a hd2;subst l hd a hd2;exact concat_meets ⟨_,j,rfl⟩ ⟨_,c,rfl⟩ noFill_tuple_add seq_tuple_add PySem.F.slot_tuple_add PySem.F.entry_tuple_add (PySem.F.args_tuple_add_2 _ _)
  (tuple_addW0 t b _ ws.toArray n m dd f sl d rfl) ⟨j,c,h⟩
end HT
namespace L2
noncomputable def Z2e:R2:=λx y H Q=>∃ a b xs c,x=.ref a/\y=.ref b/\H a=some (.tup xs)/\H b=some (.tup c)/\xs.length+c.length<=sizeLine/\∀ (p:Addr) (H':Hp),zC H H'->H' p=some (.tup (xs ++ c))->Q (.ref p) H'
def Q6:YD X (binaryOp .Add) Z2e:=by
 intro pins s σ H x y v u Q I f i h;obtain⟨a,b,xs,c,rfl,rfl,ha,d,n,q⟩:=h;cases hx:xs with
 | nil =>
   subst hx;cases f;cases i;obtain⟨_,its,m,o⟩:([]:List V).length<=sizeLine/\∃ its:List Value,Vals [] its/\yw s.heap a its.toArray:=I.hok a _ ha;obtain⟨_,j,t,r⟩:c.length<=sizeLine/\∃ its:List Value,Vals c its/\yw s.heap b its.toArray:=I.hok b _ d;cases m;exact HT.z6N o.tup r.tup ⟨.ref b,H,I,rfl,q b H (zC.refl _) d⟩
 | cons z zs =>
   refine z9N pins s σ H _ _ v u Q I f i ⟨a,b,xs,c,rfl,rfl,zR.of ha,zR.of d,by rw[hx];simp,n,λe=>?_,λ_ p l=>q p _ (zC.new l) zB⟩;subst e;exact q a H (zC.refl _) (by rw[Z58];exact ha)
noncomputable def Z1l(K:FR):V->Option Int->Option Int->Hp->VK->Prop:=λx lo hi H Q=>∃ a xs,x=.ref a/\zR K H a xs/\
 ¬ (HT.yr xs.length 0 lo=0/\HT.yr xs.length xs.length hi=xs.length)/\∀ (p:Addr) (H':Hp),zC H H'->H p=none->H' p=some (.tup (yT xs lo hi))->Q (.ref p) H'
def QI:SlR X (Z1l X.K):=λpins s σ H x v h i lo hi sl Q I c b pl pu ⟨a,xs,e,f,d,q⟩=>Z3o pins s σ H x v h i lo hi sl Q I c b pl pu ⟨a,xs,e,f,d,z7Y q⟩
section
variable{κ:Type}[DecidableEq κ]
noncomputable def Qn(kvs:List (κ×V))(k:κ):Option V:=(kvs.find? λa=>decide (a.1=k)).map (·.2)
noncomputable def putK(kvs:List (κ×V))(k:κ)(v:V):List (κ×V) :=
 if (kvs.any λa=>decide (a.1=k))=true then kvs.map (λa=>if a.1=k then (a.1,v) else a) else kvs ++ [(k,v)]
def YO{k:κ}(e:p.1=k):Qn (p :: r) k=some p.2:=by simp[Qn,Z5y,e]
def YG{k:κ}(e:¬ p.1=k):Qn (p :: r) k=Qn r k:=by simp[Qn,Z5y,e]
theorem z1B(k:κ):∀ kvs:List (κ×V),(kvs.any λa=>decide (a.1=k))=(Qn kvs k).isSome
 | []=>rfl
 | p :: r=>by
   rw[List.any_cons];by_cases e:p.1=k;simp only[YO e,decide_eq_true e,Bool.true_or,Option.isSome_some];rw[YG e,decide_eq_false e,Bool.false_or];exact z1B k r
def xV(kvs:List (κ×V))(k:κ)(v:V):(putK kvs k v).length<=kvs.length+1:=by
 unfold putK;split;rw[ZB];lia;rw[Z10,Z07,Z4K];lia
def Xo.z5i(r:Xo o u):o.isSome=u.isSome:=by
 cases o with
 | none=>cases u with
   | none=>rfl
   | some _=>exact (show False from r).elim
 | some _=>cases u with
   | none=>exact (show False from r).elim
   | some _=>rfl
def KV.val(r:KV kvs vs)(k:κ):Xo (Qn kvs k) (valueAt vs k):=by
 unfold KV at r
 induction r with
 | nil=>exact True.intro
 | @cons p q ps qs h t ih =>
   obtain⟨c,d⟩:=h;by_cases e:p.1=k;have a:q.1=k:=c.symm.trans e;have b:valueAt (q :: qs) k=some q.2:=by simp[valueAt,Z5y,a]
   rw[YO e,b];exact d;have a:¬ q.1=k:=λz=>e (c.trans z);have b:valueAt (q :: qs) k=valueAt qs k:=by simp[valueAt,Z5y,a]
   rw[YG e,b];exact ih
def KV.any(r:KV kvs vs)(k:κ):(kvs.any λa=>decide (a.1=k))=vs.any λa=>decide (a.1=k):=by
 unfold KV at r
 induction r with
 | nil=>rfl
 | cons h t ih=>rw[List.any_cons,List.any_cons,ih,h.1]
def KV.repl(r:KV kvs vs)(k:κ)(d:RelV y u) :
 KV (kvs.map λa=>if a.1=k then (a.1,y) else a) (vs.map λa=>if a.1=k then (a.1,u) else a):=by
 unfold KV at r ⊢
 induction r with
 | nil=>exact .nil
 | @cons p q ps qs h t ih =>
   rw[Z1d,Z1d];refine .cons ?_ ih;obtain⟨b,c⟩:=h;by_cases e:p.1=k;rw[if_pos e,if_pos (b.symm.trans e)];exact⟨b,d⟩;rw[if_neg e,if_neg (λz=>e (b.trans z))];exact⟨b,c⟩
def KV.put(r:KV kvs vs)(k:κ)(a:RelV y u):KV (putK kvs k y) (stored vs k u):=by
 unfold putK stored;rw[r.any k];by_cases e:(vs.any λb=>decide (b.1=k))=true;rw[if_pos e,if_pos e];exact r.repl k a;rw[if_neg e,if_neg e];exact Paired.snoc r ⟨rfl,a⟩
def KV.length{kvs:List (κ×V)}{vs:List (κ×Value)}(r:KV kvs vs):kvs.length=vs.length:=Paired.length r
end
def z3O{k:Key}(r:RelV (kV k) u):(Zz P w).is k u=true:=by
 cases k with
 | inl i=>obtain⟨t,e⟩:=(show ∃ t,u=Value.int i t from r);subst e;exact z0X P w i t
 | inr x=>obtain⟨t,e⟩:=(show ∃ t,u=Value.str x t from r);subst e;exact z0I P w x t
theorem jH:∀ {a:List Key}{us:List Value},Vals (a.map kV) us->ItemsAre (Zz P w) a us
 | [],_,r=>by rw[Z3N] at r;cases r;exact .nil
 | k :: a,_,r=>by
   rw[Z1d] at r;cases r with
   | cons h t=>exact .cons (z3O h) (jH t)
noncomputable abbrev KT(H:Hp):List (List Key×V)->List (List Key×Addr×Value)->Prop:=Paired λp q=>p.1=q.1/\H q.2.1=some (.tup (p.1.map kV))/\RelV p.2 q.2.2
def KT.val(r:KT H kvs xs)(k:List Key):Xo (Qn kvs k) ((atKey xs k).map (·.2)):=by
 induction r with
 | nil=>exact True.intro
 | @cons p q ps qs h t ih =>
   obtain⟨c,_,d⟩:=h;by_cases e:p.1=k;have a:q.1=k:=c.symm.trans e;have b:atKey (q :: qs) k=some q.2:=by simp[atKey,Z5y,a]
   rw[YO e,b];exact d;have a:¬ q.1=k:=λz=>e (c.trans z);have b:atKey (q :: qs) k=atKey qs k:=by simp[atKey,Z5y,a]
   rw[YG e,b];exact ih
def KT.repl(r:KT H kvs xs)(k:List Key)(f:RelV y u) :
 KT H (kvs.map λb=>if b.1=k then (b.1,y) else b) (xs.map (putAt k u)):=by
 induction r with
 | nil=>exact .nil
 | @cons p q ps qs h t ih =>
   rw[Z1d,Z1d];refine .cons ?_ ih;obtain⟨a,c,d⟩:=h;unfold putAt;by_cases e:p.1=k;rw[if_pos e,if_pos (a.symm.trans e)];exact⟨a,c,f⟩;rw[if_neg e,if_neg (λz=>e (a.trans z))];exact⟨a,c,d⟩
def KT.put(r:KT H kvs xs)(k:List Key)(d:H b=some (.tup (k.map kV)))(a:RelV y u) :
 KT H (putK kvs k y) (storedH xs k b u):=by
 have e:(kvs.any λc=>decide (c.1=k))=(atKey xs k).isSome:=by
  rw[z1B,(r.val k).z5i,Option.isSome_map]
 unfold putK storedH;rw[e];by_cases q:(atKey xs k).isSome=true;rw[if_pos q,if_pos q];exact r.repl k a;rw[if_neg q,if_neg q];exact Paired.snoc r ⟨rfl,d,a⟩
def KT.keeps(r:KT H kvs xs)(c:∀ b a,H b=some (.tup a)->H' b=some (.tup a)):KT H' kvs xs :=
 Paired.z9D r λ_ _ z=>⟨z.1,c _ _ z.2.1,z.2.2⟩
def Z1h(ok:xZ P w H h)(e:Rd H a u):Zg P w H h a u:=e.ok ok
def z8h(ok:xZ P w H h)(e:Rd H a (.dK kvs)):kvs.length<=sizeLine/\(a == sysModules)=false/\∃ vs,KV kvs vs/\h.DictOf (Zz P w) a vs :=
 show Zg P w H h a (.dK kvs) from Z1h ok e
def Z1B(ok:xZ P w H h)(e:H a=some (.dK kvs)):kvs.length<=sizeLine/\(a == sysModules)=false/\∃ vs,KV kvs vs/\h.DictOf (Zz P w) a vs:=z8h ok (.inl e)
def z2m(ok:xZ P w H h)(e:H a=some (.tup (ks.map kV))):(tupleKind (Zz P w)).is h ks a:=by
 obtain⟨_,its,r,o,b,d,n,c⟩:=(show Zg P w H h a (.tup (ks.map kV)) from ok a _ e);exact⟨o,its.toArray,n,b,congrArg Prod.fst d,c,by simpa using jH r⟩
def z7D(ok:xZ P w H h)(e:Rd H a (.dT kvs)):kvs.length<=sizeLine/\(a == sysModules)=false/\
 ∃ xs,KT H kvs xs/\h.DictOfH (tupleKind (Zz P w)) a xs:=by
 obtain⟨z,y,xs,r,o,d,i,j,f,n,c,s⟩:=(show Zg P w H h a (.dT kvs) from Z1h ok e);refine⟨z,y,xs,r,o,d,i,j,f,n,c,λx b=>?_,s⟩;have all:∀ {l:List (List Key×V)}{m:List (List Key×Addr×Value)},KT H l m->∀ x∈m,(tupleKind (Zz P w)).is h x.1 x.2.1:=by
  intro l m q
  induction q with
  | nil=>intro x b;exact nomatch b
  | @cons p q ps qs hq t ih =>
    intro x b;rcases Z08.mp b with e | b;subst e;exact z2m ok (by rw[← hq.1];exact hq.2.1);exact ih x b
 exact all r x b
def Z5r(ok:xZ P w H h)(e:H a=some (.dT kvs)):kvs.length<=sizeLine/\(a == sysModules)=false/\
 ∃ xs,KT H kvs xs/\h.DictOfH (tupleKind (Zz P w)) a xs:=z7D ok (.inl e)
noncomputable def Qt(H:Hp)(a:Addr)(y:V)(r:Option V):Prop :=
 (∃ kvs k,Rd H a (.dK kvs)/\y=kV k/\r=Qn kvs k)\/∃ kvs k b,Rd H a (.dT kvs)/\y=.ref b/\H b=some (.tup (k.map kV))/\r=Qn kvs k
noncomputable def U7(H:Hp)(a:Addr)(y v:V)(H':Hp):Prop :=
 (∃ kvs k,H a=some (.dK kvs)/\y=kV k/\kvs.length<sizeLine/\H'=upd H a (.dK (putK kvs k v)))\/
 ∃ kvs k b,H a=some (.dT kvs)/\y=.ref b/\H b=some (.tup (k.map kV))/\kvs.length<sizeLine/\H'=upd H a (.dT (putK kvs k v))
def Qt.k{k:Key}(e:H a=some (.dK kvs)):Qt H a (kV k) (Qn kvs k):=.inl ⟨kvs,k,.inl e,rfl,rfl⟩
def U7.k{k:Key}(e:H a=some (.dK kvs))(b:kvs.length<sizeLine):U7 H a (kV k) v (upd H a (.dK (putK kvs k v))):=.inl ⟨kvs,k,e,rfl,b,rfl⟩
def Inv.big{σ:St}(I:Inv X pins σ H s):sysModules<s.heap.objs.size:=by
 have h:mainGlobals<s.heap.objs.size:=(I.mod.glob.keeps I.bk).lt;exact Nat.lt_trans 01 h
def z6j{X:Cx}{σ:St}{A:Around}(j:A.units+1<cLine)(I:Inv X pins σ H s)(g:Qt H a y (some v))(i:RelV y u)(h:∀ d s',Inv X pins σ H s'->RelV v d->Q d s') :
 wpAny 06 A (getItem 027 u) Q E s:=by
 rcases g with⟨kvs,k,e,ey,l⟩|⟨kvs,k,b,e,ey,eb,l⟩;subst ey;obtain⟨z,hd,vs,rel,dd⟩:=z8h I.hok e;obtain⟨d,hw,c⟩:=Xo.some_of (v:=v) (o:=valueAt vs k) (by rw[l];exact rel.val k);exact wpAny_getItem_of (z3O i) dd.mapOf hw (h d _ (I.tok _) c);subst ey;cases (show u=Value.ref b from i);obtain⟨z,hd,xs,rel,dd⟩:=z7D I.hok e;obtain⟨d,hw,c⟩:=Xo.some_of (v:=v) (o:=(atKey xs k).map (·.2)) (by rw[l];exact rel.val k)
 obtain⟨p,m,f⟩:=Option.map_eq_some_iff.mp hw;refine wpAny_getItem_heap (tupleKind_room_in1 j) (z2m I.hok eb) dd m ?_;rw[f];exact h d _ (I.tok _) c
def JG{X:Cx}{σ:St}{h':Heap}(I:Inv X pins σ H s)(c:Mut (H a))(d:Heap.SameBut a s.heap h')(he:∃ q,h'.get? a=some q)(new:Zg X.prog X.w (upd H a ob) h' a ob) :
 Inv X pins σ (upd H a ob) { s with heap:=h',toks:=t' } :=
 I.write (x:=a) (e:=a) c (.inl rfl) (λb q f z=>(d.2 b f).trans z) he new
def z7J(z:kvs.length<=sizeLine)(hd:(a == sysModules)=false)(rel:KV kvs vs)(dd:h'.DictOf (Zz P w) a vs) :
 Zg P w H' h' a (.dK kvs):=⟨z,hd,vs,rel,dd⟩
def z5s{X:Cx}{σ:St}{A:Around}(t:A.units+1<cLine)(I:Inv X pins σ H s)(g:U7 H a y v H')(o:RelV y u)(p:RelV v r)(h:∀ s',Inv X pins σ H' s'->Q () s') :
 wpAny 06 A (setItem 027 u r) Q E s:=by
 rcases g with⟨kvs,k,e,ey,l,eH⟩|⟨kvs,k,b,e,ey,eb,l,eH⟩;subst ey eH;obtain⟨z,hd,vs,rel,dd⟩:=Z1B I.hok e;have m:vs.length<=sizeLine:=by rw[← rel.length];exact z
 have j:(putK kvs k v).length<=sizeLine:=by have:=xV kvs k v;lia
 refine wpAny_setItem_pairs (hsz:=m) (z3O o) dd λh' d i=>h _ ?_;have he:∃ q,h'.get? a=some q:=let ⟨q,_,_,f,_⟩:=d;⟨q,f⟩;exact JG I (by rw[e];exact True.intro) i he (z7J j hd (rel.put k p) d);subst ey eH;cases (show u=Value.ref b from o);obtain⟨z,hd,xs,rel,dd⟩:=Z5r I.hok e;have m:xs.length<=sizeLine:=by rw[← Paired.length rel];exact z
 have j:(putK kvs k v).length<=sizeLine:=by have:=xV kvs k v;lia
 refine wpAny_setItem_heap (hsz:=m) (tupleKind_room_in1 t) (z2m I.hok eb) dd λh' d i=>h _ ?_;obtain⟨q,C,F,f,D,G,B,_,J⟩:=d;refine JG I (by rw[e];exact True.intro) i ⟨q,f⟩ ⟨j,hd,_,(rel.put k eb p).keeps λc K n=>?_,q,C,F,f,D,G,B,J⟩;rw[zD (zX n e (λz=>nomatch z))];exact n
noncomputable def Z2V(i:Expr):Prop:=∀ b a,subscripted i false b a=operate [b,a] (getItem b a)
def z3M{pos:Pos}{id:String}(n:typeLookup (.type T) "__getitem__"=pure (some (.builtin id)))(m:Z2V slice)(h:wpAny 09 A (eval value env) (λo c=>wpAny 09 A (eval slice env) (λi a=>a.TypeIs o T/\wpAny 09 A (getItem o i) Q E a) E c) E s) :
 wpAny 09 A (eval (.Subscript value slice pos) env) Q E s:=by
 refine Subscript_ (wpAny_mono h (λo c f=>wpAny_mono f (λi a b=>?_) λ_ _ x=>x) λ_ _ x=>x);obtain⟨l,b⟩:=b;unfold subscriptTail;refine wpAny_bind ?_;rw[getitemInPython_of_ne l.not_modules];refine wpAny_bind (wpAny_specialOf l n ?_);have fin:wpAny 09 A (subscripted slice false o i) (λr d=>wpAny 09 A (letTemporaryGo value o r >>= λ_=>pure r) Q E d) E a:=by
  rw[m o i];exact wpAny_operating (wpAny_mono b (λr d j=>wpAny_bind (wpAny_letTemporaryGo (wpAny_pure j))) λ_ _ x=>x)
 first
  | exact wpAny_pure (wpAny_bind fin)
  | exact wpAny_bind (wpAny_pure (wpAny_bind fin))
  | exact wpAny_bind fin
def z1u{σ:St}(I:Inv X pins σ H s)(g:Qt H a y o):s.TypeIs 027 "dict":=by
 rcases g with⟨kvs,k,e,_,_⟩|⟨kvs,k,b,e,_,_,_⟩;obtain⟨_,_,vs,_,dd⟩:=z8h I.hok e;exact dd.typeIs;obtain⟨_,_,xs,_,dd⟩:=z7D I.hok e;exact dd.typeIs
noncomputable def Z1o(b ty:TE):TE:=λσ H Q=>b σ H λx H1=>ty σ H1 λy H2=>∃ a v,x=.ref a/\Qt H2 a y (some v)/\Q v H2
noncomputable def Z4p(b ty tv:TE):TS:=λD σ H=>tv σ H λv H1=>b σ H1 λx H2=>ty σ H2 λy H3=>∃ a H4,x=.ref a/\U7 H3 a y v H4/\D.nx σ H4
def Zl{pos:Pos}(c:X.A.units+1<cLine)(m:PE X o td)(hi:PE X i ty)(j:Z2V i):PE X (.Subscript o i pos) (Z1o td ty):=by
 intro pins s σ H Q I h;refine z3M PySem.F.slot_dict_getitem.lookup j (Zj (m pins s σ H _ I h) λu s1 ⟨x,H1,I1,f,q1⟩=>Zj (hi pins s1 σ H1 _ I1 q1) λp s2 d=>?_);obtain⟨y,H2,I2,l,a,v,ex,g,q2⟩:=d;subst ex;obtain rfl:u=Value.ref a:=f;exact⟨z1u I2 g,z6j c I2 g l λn s3 I3 b=>⟨v,H2,I3,b,q2⟩⟩
def yV{pos:Pos}{tv:TE}(b:X.A.units+1<cLine)(m:PE X o td)(hi:PE X i ty)(j:PE X value tv)(c:swapsWith value (some (.Subscript o i pos')) pos.line X.env=pure false) :
 PS X (.Assign [.Subscript o i pos'] value pos) (Z4p td ty tv):=by
 intro pins s σ H D I h;refine wpAny_Assign_Subscript (Zj (j pins s σ H _ I h) λr s1 ⟨v,H1,I1,l,q1⟩=>Zj (m pins s1 σ H1 _ I1 q1) λu s2 ⟨x,H2,I2,d,q2⟩=>Zj (hi pins s2 σ H2 _ I2 q2) λn s3 ⟨y,H3,I3,f,a,H4,ex,g,q3⟩=>?_) c;subst ex;obtain rfl:u=Value.ref a:=d;exact z5s b I3 g f l λs4 I4=>⟨σ,H4,I4,q3⟩
def z8b(h:Heap)(a:sysModules<h.objs.size):Zg P w H (h.push { cls:=.type "dict",data:=.dict #[] }) h.objs.size (.dK []) :=
 ⟨Z15 _,beq_eq_false_iff_ne.mpr (Z32 (Z14 a)),[],.nil,Heap.DictOf.new h⟩
noncomputable def z3f:List (TE×TE)->St->Hp->(List (V×V)->Hp->Prop)->Prop
 | [],_,H,Q=>Q [] H
 | (tk,tv) :: r,σ,H,Q=>tk σ H λx H1=>tv σ H1 λy H2=>z3f r σ H2 λps H3=>Q ((x,y) :: ps) H3
noncomputable abbrev VV:List (V×V)->List (Value×Value)->Prop:=Paired λp q=>RelV p.1 q.1/\RelV p.2 q.2
noncomputable def PPs(X:Cx)(pos:Pos)(keys:List (Option Expr))(values:List Expr)(a:List (TE×TE)):Prop :=
 ∀ (pins:List 014) (s:Shared) (σ:St) (H:Hp) (Q:List (V×V)->Hp->Prop),Inv X pins σ H s->z3f a σ H Q->
   wpAny 06 X.A (evalPairs (pairTrees keys values X.env pos)) (λvs s'=>∃ ps H',Inv X pins σ H' s'/\VV ps vs/\Q ps H') X.xe s
def Z0S{pos:Pos}:PPs X pos [] [] []:=λpins s σ H Q I h=>pairTrees_nil_walk ⟨[],H,I,.nil,h⟩
def V3{X:Cx}{pos:Pos}{k v:Expr}{c:List (Option Expr)}{vs:List Expr}{b tv:TE}{a:List (TE×TE)}(j:PE X k b)(i:PE X v tv)(hr:PPs X pos c vs a) :
 PPs X pos (some k :: c) (v :: vs) ((b,tv) :: a):=λpins s σ H Q I h =>
 pairTrees_cons_walk (Zj (j pins s σ H _ I h) λu s1 ⟨x,H1,I1,d,q1⟩=>Zj (i pins s1 σ H1 _ I1 q1) λl s2 ⟨y,H2,I2,f,q2⟩ =>
  Zj (hr pins s2 σ H2 _ I2 q2) λws s3 ⟨ps,H3,I3,rel,q3⟩=>⟨(x,y) :: ps,H3,I3,.cons ⟨d,f⟩ rel,q3⟩)
noncomputable def qS(kvs more:List (Key×V)):List (Key×V):=more.foldl (λacc a=>putK acc a.1 a.2) kvs
def KV.merge:∀ {more:List (Key×V)}{rs:List (Key×Value)}{kvs:List (Key×V)}{vs:List (Key×Value)},KV more rs->KV kvs vs->KV (qS kvs more) (merged vs rs):=by
 intro more rs kvs vs r;unfold KV at r
 induction r generalizing kvs vs with
 | nil=>intro q;exact q
 | @cons p q ps qs h t ih =>
   intro a;have e:KV (putK kvs p.1 p.2) (stored vs q.1 q.2):=by
    have:=a.put p.1 h.2;rw[← h.1];exact this
   exact ih e
theorem XE:∀ (more kvs:List (Key×V)),(qS kvs more).length<=kvs.length+more.length
 | [],kvs=>by show kvs.length<=kvs.length+0;lia
 | p :: r,kvs=>by
   have a:=XE r (putK kvs p.1 p.2);have b:=xV kvs p.1 p.2;show (qS (putK kvs p.1 p.2) r).length<=_;rw[Z07];lia
theorem Ua:∀ {kvs:List (Key×V)}{ws:List (Value×Value)},VV (kvs.map λd=>(kV d.1,d.2)) ws->∃ rs,Carries (Zz P w) ws rs/\KV kvs rs
 | [],_,r=>by rw[Z3N] at r;cases r;exact⟨[],True.intro,.nil⟩
 | p :: kvs,_,r=>by
   rw[Z1d] at r;cases r with
   | @cons a b as bs h t =>
     obtain⟨rs,c,q⟩:=Ua (P:=P) (w:=w) t;obtain⟨b1,b2⟩:=b;exact⟨(p.1,b2) :: rs,⟨z3O h.1,rfl,c⟩,.cons ⟨rfl,h.2⟩ q⟩
noncomputable def Z5i(a:List (TE×TE)):TE:=λσ H Q=>∀ p,H p=none->z3f a σ (upd H p (.dK [])) λps H2=>H2 p=some (.dK [])/\∃ kvs:List (Key×V),ps=kvs.map (λb=>(kV b.1,b.2))/\kvs.length<=15/\Q (.ref p) (upd H2 p (.dK (qS [] kvs)))
def Z0G{X:Cx}{pos:Pos}{keys:List (Option Expr)}{values:List Expr}{b:List (TE×TE)}(h:PPs X pos keys values b)(f:keys.all (·.isSome)=true)(r:keys.length=values.length)(h0:keys≠[])
 (i:keys.length<=15):PE X (.Dict keys values pos) (Z5i b):=by
 intro pins s σ H Q I q;have hn:=I.hok.fresh (Z02 s.heap.objs.size);have I1:=I.laid (a:=s.heap.objs.size) (o:=.dK []) (h':=s.heap.push { cls:=.type "dict",data:=.dict #[] }) (t':=s.toks) (λ_ _ q=>Z00 _ q) (Z02 _) (z8b s.heap I.big);refine wpAny_Dict_walk (knd:=Zz X.prog X.w) f r h0 i (Zj (h pins _ σ _ _ I1 (q _ hn)) λws s2 j=>?_);obtain⟨ps,H2,I2,rel,e,kvs,t,lk,q2⟩:=j;subst t;obtain⟨rs,c,v⟩:=Ua (P:=X.prog) (w:=X.w) rel;obtain⟨z,hd,m,p,dd⟩:=Z1B I2.hok e;cases p;refine⟨rs,c,dd,λh' d l=>⟨.ref s.heap.objs.size,_,?_,rfl,q2⟩⟩;have n:(qS [] kvs).length<=sizeLine:=by
  have u:=XE kvs [];rw[Z4K] at u;rw[sizeLine_eq];lia
 have he:∃ q,h'.get? s.heap.objs.size=some q:=let ⟨q,_,_,hq,_⟩:=d;⟨q,hq⟩;exact JG I2 (by rw[e];exact True.intro) l he (z7J n hd (v.merge .nil) d)
def z9M{pos:Pos}:PE X (.UnaryOp .USub (.Constant (.int 1) j pos') pos) (tC (.int (-1))):=λpins s σ H Q I h=>z4o Ji zI pins s σ H Q I ⟨_,rfl,h⟩
def Z0n{g:TG}{pos:Pos}(b:∀ x:Value,foldedSetIterable iter X.env x=pure x)(a:PassesOwn 06 X.A X.env X.xe)(d:X.calm=true)(hi:PI X tg iter wi)(f:PG X tg g)(c:Qg X body tb) :
 PS X (.For tg iter body [] pos) (Z2k wi g tb):=Z2U a d hi f c b
end L2
namespace Pw
noncomputable def qs:Nat->(Nat->Rat)->Rat
 | 0,_=>0
 | n+1,f=>qs n f+f n
theorem zT{g:Nat->Rat}:∀ {n:Nat},(∀ i,i<n->f i=g i)->qs n f=qs n g
 | 0,_=>rfl
 | n+1,h=>by
   show qs n f+f n=qs n g+g n;rw[zT (n:=n) λi hi=>h i 00,h n 00]
theorem yc(f g:Nat->Rat):∀ n,qs n (λi=>f i+g i)=qs n f+qs n g
 | 0=>by show (0:Rat)=0+0;grind
 | n+1=>by
   show qs n _+(f n+g n)=(qs n f+f n)+(qs n g+g n);rw[yc f g n];grind
theorem Zc(c:Rat)(f:Nat->Rat):∀ n,qs n (λi=>c * f i)=c * qs n f
 | 0=>by show (0:Rat)=c * 0;grind
 | n+1=>by
   show qs n _+c * f n=c * (qs n f+f n);rw[Zc c f n];grind
theorem Qo:∀ n,qs n (λ_=>0)=0
 | 0=>rfl
 | n+1=>by show qs n _+0=(0:Rat);rw[Qo n];grind
theorem Jo(f:Nat->Nat->Rat)(m:Nat):∀ n,qs n (λi=>qs m (λj=>f i j))=qs m (λj=>qs n (λi=>f i j))
 | 0=>(Qo m).symm
 | n+1=>by
   show qs n _+qs m _=qs m (λj=>qs n (λi=>f i j)+f n j);rw[yc,Jo f m n]
theorem vV:∀ {n:Nat},(∀ i,i<n->0<=f i)->0<=qs n f
 | 0,_=>by show (0:Rat)<=0;grind
 | n+1,h=>by
   have a:=vV (n:=n) λi hi=>h i 00;have b:=h n 00;show 0<=qs n f+f n;grind
theorem z1y{g:Nat->Rat}:∀ {n:Nat},(∀ i,i<n->f i<=g i)->qs n f<=qs n g
 | 0,_=>by show (0:Rat)<=0;grind
 | n+1,h=>by
   have a:=z1y (n:=n) λi hi=>h i 00;have b:=h n 00;show qs n f+f n<=qs n g+g n;grind
theorem Xj{k:Nat}:∀ {n:Nat},k<n->(∀ i,i<n->i≠k->f i=0)->qs n f=f k
 | n+1,hk,h=>by
   show qs n f+f n=f k;by_cases e:k=n;subst e;rw[zT (g:=λ_=>0) λi hi=>h i 00 00,Qo];grind;rw[Xj (n:=n) 00 λi hi hn=>h i 00 hn,h n 00 00];grind
noncomputable def val(A:Int×Int):Rat:=(A.1:Rat) / (A.2:Rat)
def ZL{d:Int}(h:d≠0):(d:Rat)≠0:=by simpa using h
def div_eq{a b c d:Rat}(f:b≠0)(hd:d≠0):a / b=c / d↔a * d=c * b:=by
 constructor;intro h;grind;intro h;grind
def Z3k{n:Int}(h:Fr A n d):val A=(n:Rat) / (d:Rat):=by
 unfold val;rw[div_eq (ZL h.pos) (ZL h.ne)]
 exact_mod_cast h.w
def val_inj(a:Canon A)(b:Canon B)(h:val A=val B):A=B:=by
 have ha:=(Fr.of a).pos;have c:=(Fr.of b).pos;unfold val at h;rw[div_eq (ZL ha) (ZL c)] at h;exact Qi a b (by exact_mod_cast h)
def val_mk(h:b≠0):val (mk a b)=(a:Rat) / (b:Rat):=Z3k (Fr.made h)
def YS(h:b≠0):Canon (mk a b):=(QL h).1
def z6e(ha:A.2≠0)(a:B.2≠0):val (z7n A B)=val A+val B:=by
 unfold z7n;rw[val_mk (Int.mul_ne_zero ha a)];unfold val;have b:=ZL ha;have c:=ZL a;rw[Rat.intCast_add,Z1f,Z1f,Z1f];grind
def z5V(ha:A.2≠0)(a:B.2≠0):val (z3P A B)=val A - val B:=by
 unfold z3P;rw[val_mk (Int.mul_ne_zero ha a)];unfold val;have b:=ZL ha;have c:=ZL a;rw[Z4o,Z1f,Z1f,Z1f];grind
def UA(ha:A.2≠0)(a:B.2≠0):val (uW A B)=val A * val B:=by
 unfold uW;rw[val_mk (Int.mul_ne_zero ha a)];unfold val;have b:=ZL ha;have c:=ZL a;rw[Z1f,Z1f];grind
def Vb(ha:A.2≠0)(a:B.2≠0):Canon (z3P A B):=YS (Int.mul_ne_zero ha a)
def QY(ha:A.2≠0)(a:B.2≠0):Canon (uW A B):=YS (Int.mul_ne_zero ha a)
def Z5(h:Canon A):A.2≠0:=by have:=h.1;lia
def z9J:Canon (0,1):=⟨01,01⟩
def Z4U:val (1,1)=1:=by unfold val;show ((1:Int):Rat) / ((1:Int):Rat)=1;rw[Rat.intCast_one];grind
noncomputable def Z3v(A B:Int×Int)(c m:Int):Int×Int:=z7n (uW A B) (uW (z3P (1,1) A) (mk c m))
def z0L(a:Canon A)(b:Canon B)(hm:m≠0):val (Z3v A B c m)=val A * val B+(1 - val A) * ((c:Rat) / (m:Rat)):=by
 have ha:=Z5 a;have d:=Z5 b;unfold Z3v;rw[z6e (Z5 (QY ha d)) (Z5 (QY (Z5 (Vb 01 ha)) (Z5 (YS hm)))),UA ha d,UA (Z5 (Vb 01 ha)) (Z5 (YS hm)),z5V 01 ha,Z4U,val_mk hm]
noncomputable def y9(ps:LI)(A:Int×Int)(Bs:LI)(page:Int):LI :=
 if outs ps page=[] then Bs else (List.range Bs.length).map λt=>Z3v A 025 ((outs ps page).count (t:Int):Nat) ((outs ps page).length:Nat)
noncomputable def ZK(Bs:LI):Prop:=∀ B∈Bs,Canon B
def ZK.getD(h:ZK Bs)(t:Nat):Canon 025:=by
 rw[Z05];cases e:Bs[t]? with
 | none=>exact z9J
 | some B=>exact h B (Z1q e)
def xO(h:outs ps page≠[]):(((outs ps page).length:Nat):Int)≠0:=by
 have:=Z4N.mpr h;lia
theorem vB:∀ {l:List Int},(∀ x∈l,0<=x/\x<n)->qs n (λt=>((l.count (t:Int):Nat):Rat))=((l.length:Nat):Rat)
 | [],_=>by
   rw[zT (g:=λ_=>0) λi _=>05,Qo];simp
 | x :: l,h=>by
   have b:=vB (l:=l) λy a=>h y (Z06 _ a);have d:=h x Z09;rw[zT (g:=λt=>((l.count (t:Int):Nat):Rat)+(if (t:Int)=x then 1 else 0)) λt _=>?_,yc,b,Xj (k:=x.toNat) 00 λi _ hi=>?_];rw[if_pos 00];simp;rw[if_neg 00];rw[List.count_cons];by_cases c:(t:Int)=x;rw[if_pos c,if_pos (by simp[c])];simp;rw[if_neg c,if_neg (by simpa using λz=>c z.symm)];simp;grind
def Yd{f:Nat->Int×Int}{d:Int×Int}(h:t<n):((List.range n).map f).getD t d=f t:=by
 rw[Z05,Z17,List.getElem?_range h];rfl
def z1p{x:Int}(ok:∀ p∈ps,0<=p.2/\p.2<pages)(h:x∈outs ps page):0<=x/\x<pages:=by
 unfold outs at h;obtain⟨p,a,rfl⟩:=Z18.mp h;exact ok p (List.mem_filter.mp a).1
def z6F(ok:∀ p∈ps,0<=p.2/\p.2<(n:Int))(a:Canon A)(b:ZK Bs)(hn:Bs.length=n)(d:qs n (λt=>val 025)=1) :
 qs n (λt=>val ((y9 ps A Bs page).getD t (0,1)))=1:=by
 unfold y9;split;exact d;rename_i h;have hm:=xO h;have f:=vB (n:=n) (l:=outs ps page) λx i=>z1p ok i;have c:=ZL hm;rw[zT (g:=λt=>val A * val 025+((1 - val A) / ((((outs ps page).length:Nat):Int):Rat)) * (((outs ps page).count (t:Int):Nat):Rat)) λt j=>?_,yc,Zc,Zc,f,d];have e:((((outs ps page).length:Nat):Int):Rat)=(((outs ps page).length:Nat):Rat):=rfl;rw[e] at c ⊢;grind;rw[Yd 00,z0L a (b.getD t) hm];have e:((((outs ps page).count (t:Int):Nat):Int):Rat)=(((outs ps page).count (t:Int):Nat):Rat):=rfl;rw[e];grind
def VE:∀ ws:List Int,qs ws.length (λt=>((ws.getD t 0:Int):Rat))=((ws.sum:Int):Rat):=by
 intro ws;have key:∀ k,k<=ws.length->qs k (λt=>((ws.getD t 0:Int):Rat))=(((ws.take k).sum:Int):Rat):=by
  intro k
  induction k with
  | zero=>intro _;simp[qs]
  | succ k ih =>
    intro a;show qs k _+_=_;have e:ws[k]?=some ws[k]:=05;rw[ih 00,List.take_succ,List.sum_append,Rat.intCast_add,e];show _+((ws.getD k 0:Int):Rat)=_;rw[Z05,e];simp
 have:=key ws.length (Z02 _);rwa [Z12 (Z02 _)] at this
end Pw
namespace L2
def Inv.z9R{X:Cx}{pins:List 014}{σ:St}{H:Hp}{s:Shared}{h':Heap}{ch:List Addr}{t':Nat}(I:Inv X pins σ H s)(k:∀ b ob,b∉ch->s.heap.get? b=some ob->h'.get? b=some ob)(f:∀ b∈ch,Xu X pins H b):Inv X pins σ H { s with heap:=h',toks:=t' }:=by
 have d:∀ b u,H b=some u->b∉ch:=λb u q z=>by rw[(f b z).1] at q;cases q
 refine I.step (g':=s.gens) (d':=s.drawn) (ch:=ch) (λb l=>?_) (λb ob _ _ a q _=>k b ob a q) (λb ob _ _ a q _=>⟨ob.slots,k b ob a q⟩) (λ_ _ _ _ n=>n)
  (λb ob a q=>⟨ob,k b ob a q⟩) (λ_ _ q=>q) (λ_ _ _ q=>q) (λb ps q=>⟨#[],by rw[q];simp⟩) (λm hm=>?_) (λb u q=>?_) I.bare
 have z:=f b l;exact⟨z.2.2.2.1,z.2.1,z.2.2.2.2.1,z.2.2.2.2.2⟩;obtain⟨ob,h,i,j,r⟩:=hm;exact⟨ob,h,i,k _ ob (λz=>(f _ z).2.1 rfl) j,r⟩;refine (I.hok b u q).stay (λc v a z=>k c v ?_ z) (λ_ z=>z) λ_ _ z=>z;rcases a with z | z;rw[z];exact d b u q;exact d c _ z
def Inv.z2S{X:Cx}{pins:List 014}{σ:St}{H:Hp}{s:Shared}{h':Heap}{ch:List Addr}{T:Addr}{o:HO}{t':Nat}(I:Inv X pins σ H s)(k:∀ b ob,b∉ch->s.heap.get? b=some ob->h'.get? b=some ob)(h:∀ b∈ch,Xu X pins H b)
 (j:s.heap.objs.size<=T) (new:Zg X.prog X.w (upd H T o) h' T o):Inv X pins σ (upd H T o) { s with heap:=h',toks:=t' }:=by
 have hn:H T=none:=I.hok.fresh j;have neT:∀ b ob,s.heap.get? b=some ob->b≠T:=λb ob q=>Z14 (Z0X (Z0k q) j);have d:∀ b u,H b=some u->b∉ch:=λb u q z=>by rw[(h b z).1] at q;cases q
 refine I.step (g':=s.gens) (d':=s.drawn) (ch:=ch) (λb f=>?_) (λb ob _ _ a q _=>k b ob a q) (λb ob _ _ a q _=>⟨ob.slots,k b ob a q⟩)
  (λb ob _ q n=>by rw[zD (neT b ob q)];exact n) (λb ob a q=>⟨ob,k b ob a q⟩)
  (λb xs q=>by rw[zD (zh q hn)];exact q) (λb ob u q=>by rw[zD (zh q hn)];exact q) (λb ps q=>⟨#[],by rw[zD (zh q hn),q];simp⟩) (λm hm=>?_) (λb u q=>?_) I.bare
 have z:=h b f;exact⟨z.2.2.2.1,z.2.1,z.2.2.2.2.1,z.2.2.2.2.2⟩;obtain⟨ob,l,p,t,r⟩:=hm;exact⟨ob,l,p,k _ ob (λz=>(h _ z).2.1 rfl) t,r⟩;by_cases f:b=T;subst f;rw[zB] at q;cases q;exact new;rw[zD f] at q;refine (I.hok b u q).stay (λc v a z=>?_) (λc z=>by rw[zD (zh z hn)];exact z) λc xs z=>by rw[zD (zh z hn)];exact z
 rcases a with i | i;subst i;exact k _ v (d _ u q) z;exact k c v (d c _ i) z
noncomputable def z8G(prog:Program)(w:World)(A:Around)(I:Addr)(wr:List Addr)(n:Nat)(Pt:Nat->Array Value->Prop)(St:Nat->Heap->Prop)(Mid:Nat->Addr->Heap->Prop):Prop :=
 ∀ (i:Nat) (s:Shared) (Q:Option Value->Shared->Prop) (E:Value->Shared->Prop),i<n->St i s.heap->
   (∀ (T:Addr) (x y:Value) (h':Heap) (a:Nat),Pt i #[x,y]->s.heap.objs.size<=T->h'.get? T=some { cls:=.type "tuple",data:=.seq #[x,y] }->Mid i T h'->(∀ b o,b∉wr->s.heap.get? b=some o->h'.get? b=some o)->Q (some (.ref T)) { s with heap:=h',toks:=a })->
   wpAny 09 A (pyNext (.ref I)) Q E s
def z2z{St:Nat->Heap->Prop}(D:Draws prog w A.in1 it fp n Pp St)(e:Addr)(d:e≠it)(c:e∉fp) :
 z8G prog w A e [e,it] n (λi vals=>∃ t x,Pp i x/\vals=#[.int i t,x]) (λi h=>(∃ old,IsEnum h e it i old)/\St i h) (λi T h=>(∃ x,IsEnumOut h e it ((i:Int)+1) x T)/\St (i+1) h/\T≠e/\T≠it):=λi s Q E hi a q=>by
 obtain⟨⟨old,he⟩,j⟩:=a;refine wpAny_pyNext_enum_itemD D he j hi d c λx m r p u f v hsz B=>?_;have C:e<s.heap.objs.size:=Z0k he;have F:it<s.heap.objs.size:=by obtain⟨_,y⟩:=D.live _ _ j;exact Z0k y
 exact q _ _ _ m (r+1) ⟨_,_,p,rfl⟩ (Z02 _) v ⟨⟨_,u⟩,f,Z40 C,Z40 F⟩ λb o l y=>B b o (λz=>l (by simp[z])) (λz=>l (by simp[z])) y
noncomputable def ItP(go:Nat->Hp->Prop)(pr:Nat->Hp->V->V->Prop)(stop:Nat->Hp->Prop):It:=⟨go,λi H x H'=>∃ T u v,x=.ref T/\H T=none/\H'=upd H T (.tup [u,v])/\pr i H u v,stop⟩
def Ux{wr:List Addr}(hI:I∈fp)(hw:∀ b∈wr,b∈fp)(obj:∀ i h,tn i h->∀ b∈fp,∃ o,h.get? b=some o/\∀ v,o.data≠.cell v)(keep:∀ i h h',tn i h->(∀ b∈fp,∀ o,h.get? b=some o->h'.get? b=some o)->tn i h')(self:∀ (A:Around) (i:Nat) (s:Shared) (Q:Value->Shared->Prop) (E:Value->Shared->Prop),tn i s.heap->Q (.ref I) s->wpAny (model P w) A (pyIter (.ref I)) Q E s)(it:∀ (X:Cx),X.prog=P->X.w=w->X.K=K->X.calm=true->∀ (i:Nat) (pins:List 014) (s:Shared) (σ:St) (H:Hp),Inv X pins σ H s->(∀ b∈fp,Xu X pins H b)->tn i s.heap->go i H->
  ∃ c n Pt St Mid,(WalksT P w X.A I c wr n Pt St Mid/\z8G P w X.A I wr n Pt St Mid)/\i<n/\St i s.heap/\(∀ h',St (i+1) h'->tn (i+1) h')/\∀ vals,Pt i vals->∃ u v x y,vals=#[x,y]/\RelV u x/\RelV v y/\pr i H u v)(O:∀ (X:Cx),X.prog=P->X.w=w->X.K=K->X.calm=true->∀ (i:Nat) (pins:List 014) (s:Shared) (σ:St) (H:Hp),Inv X pins σ H s->(∀ b∈fp,Xu X pins H b)->tn i s.heap->stop i H->
  ∃ c n Pt St Mid,WalksT P w X.A I c wr n Pt St Mid/\St n s.heap) :
 Turn P w K (.Tuple elts ek epos) (ItP go pr stop) fp I tn where
 mem:=hI
 obj:=obj
 keep:=keep
 self:=self
 item:=by
  intro X l a m M i pins s σ H E I0 hf st C;obtain⟨c,n,Pt,St,Mid,⟨W,WN⟩,hi,j,t,L⟩:=it X l a m M i pins s σ H I0 hf st C;subst l a m;refine WN i s _ _ hi j λT x0 y0 h1 N S F G f D=>⟨.ref T,rfl,?_⟩;refine W.go elts ek epos i T _ _ _ f λR B p=>?_;obtain⟨u,v,x,y,J,Y,rv,z⟩:=L _ S;cases J;have Z:∀ b∈wr,Xu X pins H b:=λb d=>hf b (hw b d);have r:T∉wr:=W.apart i T _ f;have hn:H T=none:=I0.hok.fresh F;have I2:Inv X pins σ (upd H T (.tup [u,v])) { s with heap:=R,toks:=N } :=
   I0.z2S (ch:=wr) (λb ob d q=>p b ob d (D b ob d q)) Z F ⟨by show 2<=sizeLine;decide,[x0,y0],.cons Y (.cons rv .nil),⟨_,p T _ r G,rfl,_,rfl⟩⟩
  refine⟨.ref T,_,I2,rfl,⟨T,u,v,rfl,hn,rfl,z⟩,t _ B,λb d=>?_⟩;obtain⟨ob,eb,_⟩:=obj i _ st b d;rw[zD (Z14 (Z0X (Z0k eb) F))];exact (hf b d).1
 done:=by
  intro X l a m M i pins s σ H E I0 hf st C;obtain⟨c,n,Pt,St,Mid,W,j⟩:=O X l a m M i pins s σ H I0 hf st C;subst l a m;exact W.done s _ _ j λh1 N U=>⟨rfl,I0.z9R U λb d=>hf b (hw b d)⟩
def z3o(d:s.heap.IsTupleIter j t i)(h:s.heap.IsTuple t its)(f:its[i]?=some y)(q:∀ c,c.IsTupleIter j t (i+1)->Heap.SameBut j s.heap c->Q y { s with heap:=c }):wpAny 09 A (Builtin.SmallTypes.nextOf (.ref j)) Q E s:=by
 obtain⟨n,b,m,a⟩:=id d;obtain⟨o,gt,ct,p,l⟩:=h;unfold Builtin.SmallTypes.nextOf;refine wpAny_bind (wpAny_callSpecial?_slot (name:=Str.ofString "__next__") d.typeIs slot_tupleiter_next (wpAny_call_entry slot_tupleiter_next d.typeIs entry_tupleiter_next ?_ (args_tupleiter_next _)));show wpAny _ _ (field (.ref j) 0 >>= _) _ _ s;refine wpAny_bind (wpAny_field b a (x:=.ref t) rfl ?_);show wpAny _ _ (if (Value.ref t == Value.none)=true then _ else _) _ _ s;rw[if_neg (show ¬ ((Value.ref t == Value.none)=true) from Z0d)];show wpAny _ _ (field (.ref j) 1 >>= _) _ _ s;refine wpAny_bind (wpAny_field b a (x:=.int i 0) rfl ?_);show wpAny _ _ (seqItems? (.ref t) >>= _) _ _ s;refine wpAny_bind (wpAny_seqItems gt l ?_);simp only[Z31,f];refine wpAny_bind (wpAny_setField b a 05 (wpAny_pure ⟨y,rfl,wpAny_pure (q _ ?_ (Heap.SameBut.update ..))⟩));exact⟨_,Heap.get?_update_self _ b (Obj.isFreed_of_fields (Obj.data_mapFields a _)),(Obj.cls_mapFields ..).trans m,by rw[Obj.data_mapFields a];simp[rawInt]⟩
def z1P(h:A.handled=none)(d:s.heap.IsTupleIter j t i)(n:s.heap.IsTuple t its)(l:its[i]?=none)(q:∀ c e,Heap.ExtBut j s.heap c->(∃ o,c.get? e=some o/\o.cls=.type "StopIteration")->E (.ref e) { s with heap:=c }):wpAny 09 A (Builtin.SmallTypes.nextOf (.ref j)) Q E s:=by
 obtain⟨r,b,y,f⟩:=id d;obtain⟨u,gt,ct,v,p⟩:=n;unfold Builtin.SmallTypes.nextOf;refine wpAny_bind (wpAny_callSpecial?_slot (name:=Str.ofString "__next__") d.typeIs slot_tupleiter_next (wpAny_call_entry slot_tupleiter_next d.typeIs entry_tupleiter_next ?_ (args_tupleiter_next _)));show wpAny _ _ (field (.ref j) 0 >>= _) _ _ s;refine wpAny_bind (wpAny_field b f (x:=.ref t) rfl ?_);show wpAny _ _ (if (Value.ref t == Value.none)=true then _ else _) _ _ s;rw[if_neg (show ¬ ((Value.ref t == Value.none)=true) from Z0d)];show wpAny _ _ (field (.ref j) 1 >>= _) _ _ s;refine wpAny_bind (wpAny_field b f (x:=.int i 0) rfl ?_);show wpAny _ _ (seqItems? (.ref t) >>= _) _ _ s;refine wpAny_bind (wpAny_seqItems gt p ?_);simp only[Z31,l];refine wpAny_bind (wpAny_rule (wpAny_bind (wpAny_setField b f 05 ?_)));show wpAny _ _ (newExc (.type "StopIteration") [] >>= _) _ _ _;refine wpAny_bind ?_;simp only[newExc,newTuple];refine wpAny_bind (wpAny_newObj_type ?_ (by size_fits));refine wpAny_bind (m:=firstArgMember _ _) (wpAny_of_eq (a:=Value.none) (by first | rfl | (simp only[firstArgMember];rfl)) ?_)
 refine wpAny_newObj_type ?_ (by size_fits);simp only[raiseNew];refine wpAny_bind (wpAny_handled ?_)
 first | rw[show A.in1.handled=none from h] | rw[h]
 refine wpAny_bind (wpAny_pure (wpAny_throw ?_));exact q _ _ (((Heap.SameBut.update ..).extBut.push _).push _) ⟨_,Z0r _ rfl,rfl⟩
def Z3H(p:A.handled=none)(it l:Addr)(d:l≠it)(its:Array Value) :
 Draws prog w A it [it,l] its.size (λi v=>its[i]?=some v) (λi h=>h.IsTupleIter it l i/\h.IsTuple l its) where
 live:=λ_ _ st=>by
  obtain⟨o,c,_⟩:=st.1;exact⟨o,c⟩
 frame:=λ_ _ _ st f=>by
  obtain⟨o,c,r⟩:=st.2;exact⟨st.1.at λo e=>f it 05 o e,o,f l 05 o c,r⟩
 item:=λi s Q E hi st j=>by
  obtain⟨s1,o,c,r⟩:=st;exact z3o s1 ⟨o,c,r⟩ (y:=its[i]) (by simp[hi]) λm a b=>j _ m s.toks (by simp[hi]) ⟨a,o,b.extBut l o d c,r⟩ b
 done:=λs Q E st n=>z1P p st.1 st.2 05 n
noncomputable def z6k(K:FR)(a:Addr):It:=ItP (λi H=>∃ xs x,zN K H a xs/\xs[i]?=some x) (λi H u v=>u=.int i/\∀ xs,zN K H a xs->xs[i]?=some v) (λi H=>∃ xs,zN K H a xs/\xs.length=i)
def z2C{e:Addr}(c:e≠it)(F:a≠e)(d:a≠it):Turn P w K (.Tuple elts ek epos) (z6k K a) [e,it] e (λi h=>(∃ old,IsEnum h e it i old)/\h.IsListIter it a i):=by
 have f:e∉[it,a]:=λz=>by
  rcases Z08.mp z with z | z;exact c z;exact F (Z01.mp z).symm
 refine Ux (wr:=[e,it]) 05 (λb D=>D) (λi h st b D=>?_) (λi h h' st k=>?_) (λA i s Q E st q=>?_) ?_ ?_;obtain⟨⟨old,g⟩,o,Y,oc,od⟩:=st;rcases Z08.mp D with z | z;subst z;exact⟨_,g,λv z=>by cases z⟩
 have z:=Z01.mp z;subst z;exact⟨o,Y,λv z=>by rw[od] at z;cases z⟩;obtain⟨⟨old,g⟩,g2⟩:=st;exact⟨⟨old,k e 05 _ g⟩,g2.at λo z=>k it 05 o z⟩;obtain⟨⟨old,g⟩,g2⟩:=st;exact wpAny_pyIter_enum g q;intro X M G m B i pins s σ H I0 hf st C;obtain⟨xs,x,j,n⟩:=C;rw[← m] at j;obtain⟨its,r,p,O⟩:=I0.list j;obtain⟨u,J,S⟩:=r.get n;have R:=r.length;have U:i<xs.length:=(Z16.mp n).1;refine⟨_,_,_,_,_,⟨WalksT.enumerateD (Draws.list (prog:=P) (w:=w) (A:=X.A.in1) (I0.ok.hd B) it a d its.toArray) e c f 05,z2z (Draws.list (prog:=P) (w:=w) (A:=X.A.in1) (I0.ok.hd B) it a d its.toArray) e c f⟩,by rw[Z04];lia,⟨st.1,st.2,p.isList⟩,λh' z=>⟨z.1,z.2.1⟩,?_⟩;rintro vals ⟨t,y,L,rfl⟩;refine⟨.int i,x,_,y,rfl,⟨t,rfl⟩,?_,rfl,λN I=>?_⟩;have:its[i]?=some y:=by simpa using L
 rw[J] at this;cases this;exact S;have l:zN X.K H a N:=by rw[m];exact I
 rw[I0.QH l j];exact n;intro X M G m B i pins s σ H I0 hf st C;obtain⟨xs,j,n⟩:=C;rw[← m] at j;obtain⟨its,r,p,O⟩:=I0.list j;have R:=r.length;have T:its.toArray.size=i:=by rw[Z04];lia
 refine⟨_,_,_,_,_,WalksT.enumerateD (Draws.list (prog:=P) (w:=w) (A:=X.A.in1) (I0.ok.hd B) it a d its.toArray) e c f 05,?_⟩;rw[T];exact⟨st.1,st.2,p.isList⟩
noncomputable def Z4H(K:FR)(b:TA):TI:=λσ H R=>b σ H λvs H1=>∃ a xs,vs=[.ref a]/\zN K H1 a xs/\R (z6k K a) H1
def Z2T{pos:Pos}(m:Gl X "enumerate")(hm:X.mg "enumerate"=none)(ha:PA X [a] ta)(i:starEach [a] X.env=[(false,eval a X.env)]:=by rfl):PI X (.Tuple elts ek epos) (.Call (.Name "enumerate" p) [a] [] pos) (Z4H X.K ta):=by
 intro pins s σ H R I h;refine Call_ (yP I m hm boot_enumerate (Z27 (Zj (ha pos pins s σ H _ I h) λus s1 ⟨vs,H1,I1,j,q1⟩=>?_) i rfl));obtain⟨l,xs,rfl,n,q⟩:=q1;obtain⟨u,rfl,r⟩:=vals1 j;cases r;obtain⟨its,w,pl,v⟩:=id (I1.list n);have c:l<s1.heap.objs.size:=by obtain⟨o,z,_⟩:=pl.isList;exact Z0k z
 refine call_enumerate_list pl.isList λf he hit hsz t=>?_;have I2:Inv X pins σ H1 { s1 with heap:=f }:=I1.kept (t':=s1.toks) t;have nx:∀ b,s1.heap.objs.size<=b->Xu X pins H1 b:=λb d=>I1.z0g d (I1.hok.fresh d);refine wpAny_pyIter_enum he ⟨_,[s1.heap.objs.size+1,s1.heap.objs.size],_,_,H1,rfl,I2,z2C (Nat.succ_ne_self _) (Z14 (Nat.lt_succ_of_lt c)) (Z14 c),⟨⟨_,he⟩,hit⟩,λb d=>?_,q⟩;rcases Z08.mp d with z | z;subst z;exact nx _ (Nat.le_succ _);have z:=Z01.mp z;subst z;exact nx _ (Z02 _)
noncomputable def ZH(K:FR)(mg:SV)(nm:Str)(st:Stmt)(ps:List Str):Prop:=∃ (f:Addr) (fd:FuncData),vc K nm nm st f fd/\mg nm=some 034/\Binds K fd ps []
noncomputable def Def(P:Program)(w:World)(K:FR)(mg:SV)(base:Heap)(k:Nat)(nm:Str)(ps:List Str)(sp:Sp):Prop :=
 ∃ (f:Addr) (fd:FuncData),PySem.W.keepIn K 034=true/\mg nm=some 034/\Binds K fd ps []/\Zu P w K mg base Yn k f fd ps sp
def ZH.def{mg:SV}{k:Nat}{st:Stmt}{sp:Sp}(S:ZH K mg nm st ps)(h:∀ f fd,vc K nm nm st f fd->Zu P w K mg base Yn k f fd ps sp):Def P w K mg base k nm ps sp:=by
 obtain⟨f,fd,F,m,b⟩:=S;exact⟨f,fd,F.kp,m,b,h f fd F⟩
def Def.imp{mg:SV}{k:Nat}{sp:Sp}(D:Def P w K mg base k nm ps sp)(h:∀ vs H Q E,sp' vs H Q E->sp vs H Q E):Def P w K mg base k nm ps sp':=by
 obtain⟨f,fd,a,b,c,F⟩:=D;exact⟨f,fd,a,b,c,F.imp h⟩
def Z0{k:Nat}{sp:Sp}{e:Expr}{pos:Pos}(i:Gl X nm)(he:starEach (e :: es) X.env=019 :: starEach es X.env)(d:(backTo pos (starEach es X.env)).any (·.1)=false)(h:(nm == ("__debug__":Str))=false)(D:Def X.prog X.w X.K X.mg X.base k nm ps sp)(hr:Zf k X.A)(ha:PA X (e :: es) t) :
 PE X (.Call (.Name nm p) (e :: es) [] pos) (uu sp [] E0 t):=by
 obtain⟨f,fd,a,b,c,F⟩:=D;exact Jt F hr i b a c .nil XI ha h he d
def jB(he:∀ whole,isTrue a X.env whole=(do let v ←whole;standAt a.pos;holding [v] (truthy v)))(ha:PE X a ta):PT X a (λσ H Q=>ta σ H λx H'=>∃ k,Z2K X.K x H' k/\Q k H'):=z7T ha he
def VU{pos:Pos}(c:Gl X "enumerate")(b:starEach [a] X.env=[(false,eval a X.env)])(e:X.K=K)(hm:X.mg "enumerate"=none)(ha:PA X [a] ta):PI X (.Tuple elts ek epos) (.Call (.Name "enumerate" p) [a] [] pos) (Z4H K ta):=e ▸ Z2T c hm ha b
def Uz{g:TG}(Pv:Nat->List V->St->Hp->Prop)(h0:Pv 0 [] σ0 H0)(r:∀ i c σ H,Pv i c σ H->zN K H a xs/\H D=some (.lst c))(n:∀ i x c σ H T G,xs[i]?=some x->i<xs.length->Pv i c σ H->H T=none->zC H G->G T=some (.tup [.int i,x])->g (.ref T) σ G λd H3=>tt d H3 λb H4=>if b=true then
  te d H4 λy H5=>H5 D=some (.lst c)/\c.length<sizeLine/\∃ h,h<xs.length - i/\Wt Pv xs.length (i+1) h (c ++ [y]) d (upd H5 D (.lst (c ++ [y]))) else ∃ h,h<xs.length - i/\Wt Pv xs.length (i+1) h c d H4)(hd:∀ c σ H,Pv xs.length c σ H->Q (.ref D) H):Q4 (z6k K a) D g tt te Q σ0 H0:=by
 refine⟨Wt Pv xs.length,⟨xs.length,rfl,Z15 _,h0⟩,?_⟩;rintro i m c f H' ⟨rfl,hi,p⟩;obtain⟨j,o⟩:=r i c f H' p;refine⟨o,?_⟩;by_cases hlt:i<xs.length;refine .inr ⟨⟨xs,xs[i],j,by simp[hlt]⟩,λx H2 y=>?_⟩;obtain⟨T,u,v,rfl,l,rfl,rfl,q⟩:=y;exact n i v c f H' T _ (q xs j) hlt p l (zC.new l) zB;have e:i=xs.length:=00
 subst e;exact .inl ⟨⟨xs,j,rfl⟩,hd c f H' p⟩
structure Txt(mg:SV):Prop where
 abs:mg "abs"=none
 isi:mg "isinstance"=none
 tup:mg "tuple"=none
 int:mg "int"=none
 bool:mg "bool"=none
 lst:mg "list"=none
 enu:mg "enumerate"=none
 len:mg "len"=none
 range:mg "range"=none
 srt:mg "sorted"=none
 sum:mg "sum"=none
 zip:mg "zip"=none
 max:mg "max"=none
noncomputable def JZ(K:FR)(H:Hp)(p:Addr)(A:Int×Int):Prop:=zR K H p [.int A.1,.int A.2]
def JZ.of(h:Xw K H p A):JZ K H p A:=zR.of h
def JZ.same(h:JZ K H p A)(s:zC H H'):JZ K H' p A:=s.z1S h
noncomputable def VM:Sp:=λvs H Q _=>∃ x y:Int,vs=[.int x,.int y]/\y≠0/\Sz 8000 x/\Sz 8000 y/\∀ (p:Addr) (H':Hp),zC H H'->H' p=some (.tup [.int (Pw.mk x y).1,.int (Pw.mk x y).2])->Q (.ref p) H'
set_option genInjectivity false in
structure Gv(K:FR)(H:Hp)(w lp ls:Addr)(pages:Int)(ps:LI)(A:Int×Int)(Bs:LI)(us:List V):Prop where
 web:xA K H w pages ps
 few:ps.length<=100
 lk:∀ p∈ps,0<=p.1/\p.1<pages/\0<=p.2/\p.2<pages
 leap:Xw K H lp A
 ca:Pw.Canon A
 sa:Vz 100 A
 leaps:H ls=some (.tup us)
 row:yK K H Bs us
 cb:Pw.ZK Bs
 sb:∀ B∈Bs,Vz 600 B
 len:(Bs.length:Int)=pages
 plo:1<=pages
 phi:pages<=13
def Gv.same{ls:Addr}(g:Gv K H w lp ls pages ps A Bs us)(s:zC H H'):Gv K H' w lp ls pages ps A Bs us :=
 { g with web:=g.web.same s,leap:=s _ _ g.leap,leaps:=s _ _ g.leaps,row:=g.row.same s }
def z1I{x:Str}{pos:Pos}{g:TG}(B:swapsWith 011 (some (.Name x pos')) pos2.line X.env=pure true)(Q:X.N.Nodup)(E:X.N[i]?=some x)(r:X.env.scope.names.lookup x=some .local)(f:X.calm=true)(hi:PI X tg iter wi)(j:closureFor scope X.env=pure cl)(A:∀ x c,cl.lookup x=some c->X.env.cells.lookup x=some c)(d:∀ y∈scope.names,y.2≠.cell)(l:scope.kind=.function)(b:∀ y∈scope.names,y.2=.local->scope.names.lookup y.1=some .local)(n:∀ x,((relabel scope X.env).names.lookup x=some .cell\/(relabel scope X.env).names.lookup x=some .free)->∃ c,cl.lookup x=some c)(p:U5 X (relabel scope X.env) N' ks)(M:∀ C s H fp,PG 010 tg g)(O:∀ C s H fp,PTs 010 ifs tt)(he:∀ C s H fp,PE 010 elt te)(K:∀ x,foldedSetIterable iter X.env x=pure x:=by intro _;rfl):PS X (.Assign [.Name x pos'] 011 pos2) (z2a (Vs wi ks g tt te) (Zo i)):=by
 intro pins s σ H DD I h;rw[exec_Assign_Name_used _ _ _ _ B];refine wpAny_bind (wpAny_standAt (wpAny_bind ?_));show wpAny _ _ (do let _ ←comprehension 011 scope X.env _ (newList []) false (eval iter X.env) (some (assign (.Name x pos') X.env))) _ _ s;refine wpAny_bind (wpAny_mono (z3J (use:=some (assign (.Name x pos') X.env)) (QQ:=λ_ s'=>SP X pins DD .next s') f hi j A d l b n p M O he K I (show Vs wi ks g tt te σ H λv H1=>DD.nx (σ.set i (some v)) H1 from h) λ{C D H5 S w} q ⟨m,hn⟩ J nL cL t=>?_) (λ_ s' R=>wpAny_pure (wpAny_pure R)) λ_ _ z=>z);refine wpAny_assign_Name (U8 (v:=.ref D) J Q E (.inl r) rfl (λL I7 u=>?_) (.inr r));obtain⟨a,G,ha⟩:=u;have P:C≠a:=λz=>by
  rcases ha with e | e;exact nL (z.trans e);exact cL _ _ e z.symm
 exact⟨m,hn.at' λo e=>(G.2 _ P).trans e,λF sb=>⟨_,H5,t _ L I7 F sb,q⟩⟩
def z3V{x:Str}{pos:Pos}{g:TG}(i:Nat)(N':List Str)(t:List (Option Nat))(o:swapsWith 011 (some (.Name x pos')) pos2.line X.env=pure true)(B:X.N.Nodup)(p:X.N[i]?=some x)(q:X.env.scope.names.lookup x=some .local)(c:X.calm=true)(hi:PI X tg iter wi)(d:∀ y∈scope.names,y.2=.free->X.env.scope.names.lookup y.1=some .cell)(a:∀ y∈scope.names,y.2≠.cell)(f:scope.kind=.function)(b:∀ y∈scope.names,y.2=.local->scope.names.lookup y.1=some .local)(m:U5 X (relabel scope X.env) N' t)(v:∀ cl C s H fp,PG 010 tg g)(z:∀ cl C s H fp,PTs 010 ifs tt)(he:∀ cl C s H fp,PE 010 elt te)(u:∀ x,foldedSetIterable iter X.env x=pure x:=by intro _;rfl):PS X (.Assign [.Name x pos'] 011 pos2) (z2a (Vs wi t g tt te) (Zo i)):=by
 intro pins s σ H D I h;obtain⟨cl,E,A,r⟩:=UH (scope:=scope) (env:=X.env) λy j hf=>I.ok.has y.1 (.inl (d y j hf));refine z1I o B p q c hi E A a f b (λx l=>?_) m (v cl) (z cl) (he cl) u pins s σ H D I h;have key:∀ k,(x,k)∈(relabel scope X.env).names->k=.cell\/k=.free->(x,NameKind.free)∈scope.names:=λk hm F=>by
  unfold relabel at hm;obtain⟨⟨n,w⟩,j,e⟩:=Z18.mp hm;dsimp only at e;split at e;rename_i hc;cases e;have:w=.free:=by simp at hc;exact hc.1.1
  rw[← this];exact j;cases e;rcases F with rfl | rfl;exact absurd rfl (a _ j);exact j
 rcases l with l | l;exact r x (key _ (Z3L l) (.inl rfl));exact r x (key _ (Z3L l) (.inr rfl))
def mem_getD{Bs:LI}(h:t<Bs.length):Bs.getD t (0,1)∈Bs:=by
 rw[Z05,Z03 h];exact Z1z h
end L2
namespace Pw
def cpos{d:Int}(h:0<d):(0:Rat)<(d:Rat):=by
 have:((0:Int):Rat)<(d:Rat):=Rat.intCast_lt_intCast.mpr h;simpa using this
def cnn{d:Int}(h:0<=d):(0:Rat)<=(d:Rat):=by
 have:((0:Int):Rat)<=(d:Rat):=Z23.mpr h;simpa using this
def xR{a b c:Rat}(h:a<=b)(d:0<=c):a * c<=b * c:=Rat.mul_le_mul_of_nonneg_right h d
def yL{a b:Rat}(ha:0<=a)(c:0<=b):0<=a * b:=by
 have:=xR ha c;grind
def z6B{a b:Rat}(ha:0<=a)(c:0<b):0<=a / b:=by
 rw[Rat.div_def];exact yL ha (Rat.le_of_lt (Rat.inv_pos.mpr c))
def z4W{a b c:Rat}(d:0<c)(h:a * c<=b * c):a<=b:=Rat.le_of_mul_le_mul_right h d
def z3r(h:0<A.2)(a:0<=A.1):0<=val A:=z6B (cnn a) (cpos h)
def Z0F(h:0<A.2)(a:A.1<=A.2):val A<=1:=by
 have b:=cpos h;refine z4W b ?_;unfold val;have:(A.1:Rat)<=(A.2:Rat):=Z23.mpr a;have e:(A.1:Rat) / (A.2:Rat) * (A.2:Rat)=A.1:=by have:=ZL (d:=A.2) 00;grind
 rw[e];grind
noncomputable def Z2q(w d:Int):Int:=(w.fdiv (Int.gcd w d:Int)) * d
def Z0B(hw:0<w)(hd:0<d):Z2q w d=(Int.lcm w d:Int):=by
 unfold Z2q;have j:=z9L (a:=w) (b:=d) 00;obtain⟨u,c⟩:=Int.gcd_dvd_left w d;have f:w.fdiv (Int.gcd w d:Int)=u:=by
  conv=>lhs;lhs;rw[c]
  rw[Z36 _ 00,Int.mul_ediv_cancel_left _ 00]
 rw[f];have key:(Int.gcd w d:Int) * (Int.lcm w d:Int)=w * d:=by
  have:=Int.gcd_mul_lcm w d;have i:((Int.gcd w d * Int.lcm w d:Nat):Int)=(((w * d).natAbs:Nat):Int):=by rw[this,Int.natAbs_mul]
  have h:(((w * d).natAbs:Nat):Int)=w * d:=Int.natAbs_of_nonneg (Z51 (Int.mul_pos hw hd));rw[← h,← i];push_cast;rfl
 refine Int.eq_of_mul_eq_mul_left (a:=(Int.gcd w d:Int)) 00 ?_;rw[key]
 conv=>rhs;rw[c]
 rw[Int.mul_assoc]
structure Yw(As:LI)(L:Int):Prop where
 pos:0<L
 dvd:∀ A∈As,A.2∣L
 least:∀ M:Int,0<M->(∀ A∈As,A.2∣M)->L∣M
def Yw.nil:Yw [] 1:=⟨01,05,λM _ _=>Int.one_dvd M⟩
def Yw.snoc(h:Yw As L)(c:0<A.2):Yw (As ++ [A]) (Z2q L A.2):=by
 rw[Z0B h.pos c];refine⟨?_,λB a=>?_,λM d hd=>?_⟩;have:=Int.lcm_pos (m:=L) (n:=A.2) (by have:=h.pos;lia) 00;lia;rcases Z20.mp a with a | a;exact Int.dvd_trans (h.dvd B a) (Int.dvd_lcm_left _ _);rw[Z01.mp a];exact Int.dvd_lcm_right _ _;have b:=h.least M d λB a=>hd B (Z54 _ a)
 have f:=hd A 05;obtain⟨m,rfl⟩:∃ m:Nat,M=m:=⟨M.toNat,00⟩;exact Int.natCast_dvd_natCast.mpr (Int.lcm_dvd b f)
def Yw.le(h:Yw As L)(a:0<M)(hd:∀ A∈As,A.2∣M):L<=M:=Int.le_of_dvd a (h.least M a hd)
noncomputable def yx(As:LI)(L:Int):List Int:=As.map λA=>A.1 * (L.fdiv A.2)
def Jh{L:Int}(b:0<A.2)(a:0<L)(h:A.2∣L):((A.1 * (L.fdiv A.2):Int):Rat)=val A * (L:Rat):=by
 obtain⟨u,rfl⟩:=h;have e:(A.2 * u).fdiv A.2=u:=by rw[Z36 _ 00,Int.mul_ediv_cancel_left _ 00]
 rw[e];unfold val;have:=ZL (d:=A.2) 00;rw[Z1f,Z1f];grind
theorem z3T:∀ n,qs n (λi=>((f i:Int):Rat))=((((List.range n).map f).sum:Int):Rat)
 | 0=>by simp[qs]
 | n+1=>by
   show qs n _+_=_;rw[z3T n,Z5w,Z13,List.sum_append,Rat.intCast_add];simp
end Pw
namespace L2
noncomputable def Sq(b:Bool)(K:FR)(H:Hp)(a:Addr)(xs:List V):Prop:=if b=true then zN K H a xs else zR K H a xs
noncomputable def ItB(b:Bool)(K:FR)(a:Addr):It:=if b=true then Itl K a else Itt K a
noncomputable def Z6w(K:FR)(c:TE):TI:=λσ H R=>c σ H λx H1=>∃ (b:Bool) (a:Addr),x=.ref a/\(∃ xs,Sq b K H1 a xs)/\R (ItB b K a) H1
def Sq.same(h:Sq b K H a xs)(s:zC H H'):Sq b K H' a xs:=by
 cases b;exact s.z1S h;exact s.seq h
def z6Y(n:PE X l tl):PI X tg l (Z6w X.K tl):=by
 intro pins s σ H R I h;refine Zj (n pins s σ H _ I h) λv s1 f=>?_;obtain⟨x,H1,I1,j,q1⟩:=f;obtain⟨b,a,e,⟨xs,c⟩,q⟩:=q1;subst e;cases j;cases b with
 | true =>
   have c:zN X.K H1 a xs:=c;have q:R (Itl X.K a) H1:=q;obtain⟨its,i,p,m⟩:=I1.list c;refine wpAny_pyIter_list p.isList ?_;refine⟨s1.heap.objs.size,[s1.heap.objs.size],_,_,H1,rfl,I1.kept (t':=s1.toks) λb o e=>Z00 _ e,jv a _,⟨_,Z0r _ rfl,rfl,rfl⟩,λb d=>?_,q⟩;have e:b=s1.heap.objs.size:=by simpa using d
   subst e;exact I1.z0g (Z02 _) (I1.hok.fresh (Z02 _))
 | false =>
   have c:zR X.K H1 a xs:=c;have q:R (Itt X.K a) H1:=q;obtain⟨its,i,p,m⟩:=I1.tuple c;refine wpAny_pyIter_tuple (show s1.heap.IsTuple a its.toArray from p) ?_;refine⟨s1.heap.objs.size,[s1.heap.objs.size],_,_,H1,rfl,I1.kept (t':=s1.toks) λb o e=>Z00 _ e,Um a _,⟨_,Z0r _ rfl,rfl,rfl⟩,λb d=>?_,q⟩;have e:b=s1.heap.objs.size:=by simpa using d
   subst e;exact I1.z0g (Z02 _) (I1.hok.fresh (Z02 _))
def z7b{g:TG}(Pv:Nat->List V->St->Hp->Prop)(h0:Pv 0 [] σ0 H0)(j:∀ i c σ H,Pv i c σ H->Sq b K H a xs/\H D=some (.lst c))(h:∀ i x c σ H,xs[i]?=some x->i<xs.length->Pv i c σ H->g x σ H λd H3=>tt d H3 λb H4=>if b=true then
  te d H4 λy H5=>H5 D=some (.lst c)/\c.length<sizeLine/\∃ f,f<xs.length - i/\Wt Pv xs.length (i+1) f (c ++ [y]) d (upd H5 D (.lst (c ++ [y]))) else ∃ f,f<xs.length - i/\Wt Pv xs.length (i+1) f c d H4)(hd:∀ c σ H,Pv xs.length c σ H->Q (.ref D) H):Q4 (ItB b K a) D g tt te Q σ0 H0:=by
 cases b;exact xC Pv h0 j h hd;exact Z3 Pv h0 j h hd
def z9H{xs:List V}{g:TG}{tb:TS}{D:Ends}(Pv:Nat->St->Hp->Prop)(h0:Pv 0 σ H)(j:∀ i σ H,i<=xs.length->Pv i σ H->Sq b K H a xs)(h:∀ i x σ H,xs[i]?=some x->Pv i σ H->g x σ H λc H2=>tb { D with nx:=Pv (i+1),ct:=Pv (i+1),bk:=D.nx } c H2)(hd:∀ σ H,Pv xs.length σ H->D.nx σ H) :
 ∃ W:Nat->Nat->St->Hp->Prop,(∃ m,W 0 m σ H)/\∀ i m σ H,W i m σ H->
   ((ItB b K a).stop i H/\D.nx σ H)\/((ItB b K a).go i H/\∃ N:St->Hp->Prop,(∀ d H',N d H'->∃ f,f<m/\W (i+1) f d H')/\∀ x H',(ItB b K a).yld i H x H'->g x σ H' λc H2=>tb { D with nx:=N,ct:=N,bk:=D.nx } c H2):=by
 cases b;exact z9I Pv h0 j h hd;exact Qx Pv h0 j h hd
set_option genInjectivity false in
structure Rw(Rs:LI)(n:Nat)(D C:Int):Prop where
 len:Rs.length=n
 canon:Pw.ZK Rs
 dpos:0<D
 cpos:1<=C
 dvd:∀ R∈Rs,R.2∣D
 bnd:∀ R∈Rs,-(C * R.2)<=R.1/\R.1<=C * R.2
 sz:Sz 2000 (C * D)
set_option genInjectivity false in
structure Pr(A:Int×Int)(Bs:LI)(S:Int):Prop where
 a0:0<A.1
 a1:A.1<=A.2
 nn:∀ B∈Bs,0<=B.1
 one:Pw.qs Bs.length (λt=>Pw.val 025)=1
 spos:0<S
 ssz:Sz 700 S
 sdvd:∀ B∈Bs,B.2∣S
end L2
namespace Pw
def z8S{n:Int}(h:Fr A n d):A.2∣d:=by
 have w:=h.w;have:A.2∣A.1 * d:=⟨n,by rw[w];exact Int.mul_comm ..⟩;exact V2 this h.canon.2
theorem z7h:∀ {n k:Nat},k<n->(∀ i,i<n->0<=f i)->f k<=qs n f
 | n+1,k,hk,h=>by
   show f k<=qs n f+f n;by_cases e:k=n;subst e;have:=vV (n:=k) (f:=f) λi hi=>h i 00;grind;have a:=z7h (n:=n) (k:=k) 00 λi hi=>h i 00;have b:=h n 00;grind
noncomputable def Z3x(ps:LI)(A:Int×Int)(Bs Rs:LI)(n t:Nat):Rat:=qs n (λi=>val (Rs.getD i (0,1)) * val ((y9 ps A Bs i).getD t (0,1)))
end Pw
namespace L2
def z3H{k:Nat}{g:Int}(d:0<L)(f:0<g)(z:Sz k L):Sz k (L.fdiv g):=by
 have b:L.natAbs<2 ^ k:=z;show (L.fdiv g).natAbs<2 ^ k;rw[Z36 _ 00];have a:0<=L / g:=Int.ediv_nonneg 00 00;have c:L / g<=L:=Int.ediv_le_self _ 00;lia
def z8f{k:Nat}{x:Int}(h0:0<=x)(h:x<=y)(z:Sz k y):Sz k x:=by
 have a:y.natAbs<2 ^ k:=z;show x.natAbs<2 ^ k;lia
def Z1Z{x:Int}(a:0<y):0<(Int.gcd x y:Int)/\(Int.gcd x y:Int)<=y :=
 ⟨Pw.z9L 00,Int.le_of_dvd a (Int.gcd_dvd_right ..)⟩
noncomputable def JP(K:FR):Sp:=λvs H Q _=>∃ (b:Bool) (a:Addr) (us:List V) (As:LI) (M:Int),vs=[.ref a]/\Sq b K H a us/\yK K H As us/\(∀ A∈As,0<A.2)/\0<M/\Sz 8000 M/\(∀ A∈As,A.2∣M)/\∀ L,Pw.Yw As L->Q (.int L) H
noncomputable def Qz(K:FR):Sp:=λvs H Q _=>∃ (b:Bool) (a:Addr) (us:List V) (As:LI) (L:Int),vs=[.ref a,.int L]/\Sq b K H a us/\yK K H As us/\As.length<=100/\(∀ A∈As,0<A.2/\Vz 8000 A)/\0<L/\Sz 8000 L/\
 ∀ (p:Addr) (H':Hp),zC H H'->H p=none->H' p=some (.lst ((Pw.yx As L).map V.int))->Q (.ref p) H'
def Yw.Z1k{k:Nat}(h:Pw.Yw As L)(a:0<M)(hd:∀ A∈As,A.2∣M)(z:Sz k M):Sz k L:=z8f (Z51 h.pos) (h.le a hd) z
theorem z2V{k:Nat}:∀ {ns:List Int},(∀ n∈ns,Sz k n)->Sz (k+ns.length) ns.sum
 | [],_=>by show (0:Int).natAbs<2 ^ (k+0);exact Nat.two_pow_pos _
 | n :: ns,h=>by
   have a:=z2V (ns:=ns) λm hm=>h m (Z06 _ hm);have b:=h n Z09;rw[List.sum_cons];exact ((b.mono 00).add a).mono (by rw[Z07];lia)
def Xf{ns:List Int}(h:i<ns.length):ns[i]?=some (ns.getD i 0):=by
 rw[Z05,Z03 h];rfl
def ZK.pos(h:Pw.ZK As):∀ A∈As,0<A.2:=λA a=>(h A a).1
end L2
namespace Pw
noncomputable abbrev Yq:=Nat->Rat
noncomputable def expand(r:Yq)(D:List Nat->Rat):List Nat->Rat
 | []=>0
 | c :: cs=>r c * D cs - expand r (λl=>D (c :: l)) cs
noncomputable def det:List Yq->List Nat->Rat
 | [],_=>1
 | r :: rs,cols=>expand r (det rs) cols
def yF(h:∀ l,D l=E l):∀ cs,expand r D cs=expand r E cs:=λcs=>by
 have:D=E:=funext h;rw[this]
theorem Y9(r:Yq):∀ cs,expand r (λ_=>0) cs=0
 | []=>rfl
 | c :: cs=>by
   show r c * 0 - expand r (λl=>0) cs=0;rw[Y9 r cs];grind
theorem Yt(r:Yq)(a b:Rat):∀ (cs:List Nat) (D E:List Nat->Rat),expand r (λl=>a * D l+b * E l) cs=a * expand r D cs+b * expand r E cs
 | [],D,E=>by show (0:Rat)=a * 0+b * 0;grind
 | c :: cs,D,E=>by
   show r c * (a * D cs+b * E cs) - expand r (λl=>a * D (c :: l)+b * E (c :: l)) cs=a * (r c * D cs - expand r (λl=>D (c :: l)) cs)+b * (r c * E cs - expand r (λl=>E (c :: l)) cs);rw[Yt r a b cs];grind
theorem yH(r s:Yq)(a b:Rat):∀ (cs:List Nat) (D:List Nat->Rat),expand (λc=>a * r c+b * s c) D cs=a * expand r D cs+b * expand s D cs
 | [],D=>by show (0:Rat)=a * 0+b * 0;grind
 | c :: cs,D=>by
   show (a * r c+b * s c) * D cs - expand _ (λl=>D (c :: l)) cs=a * (r c * D cs - expand r (λl=>D (c :: l)) cs)+b * (s c * D cs - expand s (λl=>D (c :: l)) cs);rw[yH r s a b cs];grind
theorem yJ(r:Yq):∀ (cs:List Nat) (D:List Nat->Rat),expand r (expand r D) cs=0
 | [],D=>rfl
 | c :: cs,D=>by
   show r c * expand r D cs - expand r (λl=>r c * D l - expand r (λl=>D (c :: l)) l) cs=0;have e:expand r (λl=>r c * D l - expand r (λl=>D (c :: l)) l) cs=r c * expand r D cs+(-1) * expand r (expand r (λl=>D (c :: l))) cs:=by
    rw[← Yt];exact yF (λl=>by grind) cs
   rw[e,yJ r cs];grind
def Vq(r s:Yq)(cs:List Nat)(D:List Nat->Rat):expand r (expand s D) cs=-expand s (expand r D) cs:=by
 have h:=yJ (λc=>1 * r c+1 * s c) cs D;have e:expand (λc=>1 * r c+1 * s c) (expand (λc=>1 * r c+1 * s c) D) cs=expand (λc=>1 * r c+1 * s c) (λl=>1 * expand r D l+1 * expand s D l) cs:=yF (λl=>yH r s 1 1 l D) cs;rw[e,yH,Yt,Yt,yJ,yJ] at h;grind
theorem yD{s:Yq}:∀ {cs:List Nat}{D:List Nat->Rat},(∀ c∈cs,r c=s c)->expand r D cs=expand s D cs
 | [],D,_=>rfl
 | c :: cs,D,h=>by
   show r c * D cs - expand r _ cs=s c * D cs - expand s _ cs;rw[h c Z09,yD λx a=>h x (Z06 _ a)]
theorem xo:∀ {cs:List Nat}{D:List Nat->Rat},(∀ c∈cs,r c=0)->expand r D cs=0
 | [],D,_=>rfl
 | c :: cs,D,h=>by
   show r c * D cs - expand r _ cs=0;rw[h c Z09,xo λx a=>h x (Z06 _ a)];grind
noncomputable def Vg(rs:List Yq)(u:Yq):Prop:=∀ cols,det (u :: rs) cols=0
theorem Vg.mem:∀ {rs:List Yq}{r:Yq},r∈rs->Vg rs r
 | s :: rs,r,h=>λcols=>by
   rcases Z08.mp h with rfl | h;exact yJ _ _ _;show expand r (expand s (det rs)) cols=0;rw[Vq];have:expand s (expand r (det rs)) cols=expand s (λ_=>0) cols:=yF (Vg.mem h) cols
   rw[this,Y9];grind
def Vg.cons{rs:List Yq}{u s:Yq}(h:Vg rs u):Vg (s :: rs) u:=λcols=>by
 show expand u (expand s (det rs)) cols=0;rw[Vq];have:expand s (expand u (det rs)) cols=expand s (λ_=>0) cols:=yF h cols;rw[this,Y9];grind
def Vg.lin(a b:Rat)(d:Vg rs u)(h:Vg rs v):Vg rs (λc=>a * u c+b * v c):=λcols=>by
 have f:expand u (det rs) cols=0:=d cols;have i:expand v (det rs) cols=0:=h cols;show expand _ (det rs) cols=0;rw[yH,f,i];grind
section
variable(A:Nat->Yq)
noncomputable def Rk:Nat->List Yq
 | 0=>[]
 | k+1=>A k :: Rk k
noncomputable def Kk:Nat->List Nat
 | 0=>[]
 | k+1=>k :: Kk k
noncomputable def dd(k:Nat):Rat:=det (Rk A k) (Kk k)
noncomputable def BB(k:Nat)(v:Yq)(j:Nat):Rat:=det (v :: Rk A k) (j :: Kk k)
def xX(k:Nat):dd A (k+1)=BB A k (A k) k:=rfl
def z4a:dd A 0=1:=rfl
theorem z1M:∀ {k c:Nat},c∈Kk k↔c<k
 | 0,c=>by simp[Kk]
 | k+1,c=>by
   show c∈k :: Kk k↔_;rw[Z08,z1M];lia
theorem Jy:∀ {k i:Nat},i<k->A i∈Rk A k
 | k+1,i,h=>by
   show A i∈A k :: Rk A k;by_cases e:i=k;subst e;exact Z09;exact Z06 _ (Jy 00)
def jX(k:Nat)(u v:Yq)(a b:Rat)(j:Nat):BB A k (λc=>a * u c+b * v c) j=a * BB A k u j+b * BB A k v j:=yH u v a b _ _
def QS{k:Nat}(b:u j=v j)(h:∀ c,c<k->u c=v c):BB A k u j=BB A k v j:=yD λc a=>by
 rcases Z08.mp a with rfl | a;exact b;exact h c (z1M.mp a)
def XZ{k:Nat}(h:∀ c,c<k->w c=0)(j:Nat):BB A k w j=w j * dd A k:=by
 show w j * det (Rk A k) (Kk k) - expand w _ (Kk k)=w j * dd A k;rw[xo λc a=>h c (z1M.mp a)];unfold dd;grind
def Z2H{k:Nat}(h:i<k)(j:Nat):BB A k (A i) j=0:=Vg.mem (Jy A h) _
def reduced(k:Nat)(hd:∀ l,l<=k->dd A l≠0):∀ v:Yq,∃ w:Yq,Vg (Rk A k) (λc=>v c - w c)/\∀ c,c<k->w c=0:=by
 induction k with
 | zero =>
   intro v;refine⟨v,λcols=>?_,λc s=>00⟩;exact xo λc _=>by grind
 | succ k b =>
   intro v;have b:=b λl u=>hd l 00;obtain⟨x,nx,n⟩:=b v;obtain⟨y,d,f⟩:=b (A k);have m:=hd k 00;have a:=hd (k+1) 00;have p:dd A (k+1)=y k * dd A k:=by
    have o:BB A k (A k) k=BB A k y k:=by
     have:=d (k :: Kk k);have h:BB A k (λc=>1 * A k c+(-1) * y c) k=0:=by
      rw[QS A (v:=λc=>A k c - y c) (by grind) (λc _=>by grind)];exact this
     rw[jX] at h;grind
    rw[xX,o,XZ A f]
   have t:y k≠0:=λz=>a (by rw[p,z];grind);refine⟨λc=>x c - x k / y k * y c,?_,λc s=>?_⟩;have n1:Vg (Rk A (k+1)) (λc=>v c - x c):=nx.cons;have i:Vg (Rk A (k+1)) (λc=>A k c - y c):=d.cons;have j:Vg (Rk A (k+1)) (A k):=Vg.mem (Jy A 00);have r:=Vg.lin 1 (-1) j i;have q:=Vg.lin 1 (x k / y k) n1 r;intro cols;have:=q cols;rw[← this];exact yD λc _=>by grind
   show x c - x k / y k * y c=0;by_cases e:c=k;subst e;grind;rw[n c 00,f c 00];grind
def uf{k:Nat}{w:Yq}(hn:Vg (Rk A k) (λc=>v c - w c))(b:∀ c,c<k->w c=0)(j:Nat):BB A k v j=w j * dd A k:=by
 have a:BB A k (λc=>1 * v c+(-1) * w c) j=0:=by
  rw[QS A (v:=λc=>v c - w c) (by grind) (λc _=>by grind)];exact hn _
 rw[jX,XZ A b] at a;grind
def z3N{k:Nat}(hd:∀ l,l<=k+1->dd A l≠0)(v:Yq)(j:Nat):BB A (k+1) v j * dd A k=dd A (k+1) * BB A k v j - BB A k v k * BB A k (A k) j:=by
 obtain⟨x,nx,d⟩:=reduced A k (λl q=>hd l 00) v;obtain⟨y,b,f⟩:=reduced A k (λl q=>hd l 00) (A k);have n:=hd k 00;have a:=hd (k+1) 00;have h:dd A (k+1)=y k * dd A k:=by rw[xX];exact uf A b f k
 have t:y k≠0:=λz=>a (by rw[h,z];grind);have n1:Vg (Rk A (k+1)) (λc=>v c - x c):=nx.cons;have i:Vg (Rk A (k+1)) (λc=>A k c - y c):=b.cons;have m:Vg (Rk A (k+1)) (A k):=Vg.mem (Jy A 00);have p:=Vg.lin 1 (-1) m i;have o:=Vg.lin 1 (x k / y k) n1 p;have r:Vg (Rk A (k+1)) (λc=>v c - (x c - x k / y k * y c)):=λcols=>by
  have:=o cols;rw[← this];exact yD λc _=>by grind
 have s:∀ c,c<k+1->x c - x k / y k * y c=0:=λc u=>by
  by_cases e:c=k;subst e;grind;rw[d c 00,f c 00];grind
 rw[uf A r s j,uf A nx d j,uf A nx d k,uf A b f j,h];grind
end
noncomputable def ZY(q:Rat):Prop:=∃ n:Int,q=(n:Rat)
def ZY.mul(a:ZY p)(b:ZY q):ZY (p * q):=by
 obtain⟨x,rfl⟩:=a;obtain⟨y,rfl⟩:=b;exact⟨x * y,by rw[Z1f]⟩
def ZY.sub(a:ZY p)(b:ZY q):ZY (p - q):=by
 obtain⟨x,rfl⟩:=a;obtain⟨y,rfl⟩:=b;exact⟨x - y,by rw[Z4o]⟩
theorem uX:∀ {cs:List Nat}{D:List Nat->Rat},(∀ c∈cs,ZY (r c))->(∀ l,ZY (D l))->ZY (expand r D cs)
 | [],D,_,_=>⟨0,rfl⟩
 | c :: cs,D,h,hD=>((h c Z09).mul (hD cs)).sub (uX (λx a=>h x (Z06 _ a)) λl=>hD (c :: l))
theorem z4j:∀ {rs:List Yq},(∀ r∈rs,∀ c,ZY (r c))->∀ cols,ZY (det rs cols)
 | [],_,_=>⟨1,rfl⟩
 | r :: rs,h,cols=>uX (λc _=>h r Z09 c) (z4j λx a=>h x (Z06 _ a))
theorem jE{V:Rat}(d:0<=U)(f:0<=V)(hr:∀ c,-U<=r c/\r c<=U):∀ {cs:List Nat}{D:List Nat->Rat},(∀ l,l.length+1=cs.length->-V<=D l/\D l<=V)->-(((cs.length:Nat):Rat) * (U * V))<=expand r D cs/\expand r D cs<=((cs.length:Nat):Rat) * (U * V)
 | [],D,_=>by
   show -(((0:Nat):Rat) * (U * V))<=0/\(0:Rat)<=((0:Nat):Rat) * (U * V);simp
 | c :: cs,D,hD=>by
   obtain⟨i1,i2⟩:=jE d f hr (cs:=cs) (D:=λl=>D (c :: l)) λl s=>hD (c :: l) (by simp only[Z07];lia);obtain⟨j,m⟩:=hr c;obtain⟨i,h⟩:=hD cs (by simp only[Z07]);have key:-(U * V)<=r c * D cs/\r c * D cs<=U * V:=by
    have q:=yL (a:=U - r c) (b:=V - D cs) (by grind) (by grind);have o:=yL (a:=U+r c) (b:=V+D cs) (by grind) (by grind);have p:=yL (a:=U - r c) (b:=V+D cs) (by grind) (by grind);have n:=yL (a:=U+r c) (b:=V - D cs) (by grind) (by grind);constructor <;> grind
   have e:(((c :: cs).length:Nat):Rat)=((cs.length:Nat):Rat)+1:=by rw[Z07];push_cast;rfl
   show -_<=r c * D cs - expand r _ cs/\r c * D cs - expand r _ cs<=_;rw[e];grind
def pow_succ'(Y:Nat)(m:Nat):((Y ^ (m+1):Nat):Rat)=((Y ^ m:Nat):Rat) * (Y:Rat):=by rw[Nat.pow_succ];push_cast;rfl
def Z1n(m:Nat):(0:Rat)<=((m:Nat):Rat):=by
 have:=cnn (d:=(m:Int)) 00;exact this
def Z1y(h:a<=b):((a:Nat):Rat)<=((b:Nat):Rat):=by
 have:((a:Int):Rat)<=((b:Int):Rat):=Z23.mpr 00;exact this
theorem z3s(a:13 * U<=Y):∀ {rs:List Yq},(∀ r∈rs,∀ c,-((U:Nat):Rat)<=r c/\r c<=((U:Nat):Rat))->∀ cols:List Nat,cols.length<=13->-((Y ^ rs.length:Nat):Rat)<=det rs cols/\det rs cols<=((Y ^ rs.length:Nat):Rat)
 | [],_,cols,_=>by
   show -(((Y ^ 0:Nat)):Rat)<=1/\(1:Rat)<=((Y ^ 0:Nat):Rat);rw[Nat.pow_zero];exact⟨01,01⟩
 | r :: rs,h,cols,hc=>by
   have i:=z3s a (rs:=rs) λx f=>h x (Z06 _ f);have b:=Z1n (Y ^ rs.length);have j:=Z1n U;obtain⟨b1,b2⟩:=jE (r:=r) j b (h r Z09) (cs:=cols) (D:=det rs) λl o=>i l 00;have k1:((cols.length:Nat):Rat) * (((U:Nat):Rat) * ((Y ^ rs.length:Nat):Rat))<=((Y ^ (rs.length+1):Nat):Rat):=by
    rw[pow_succ'];have m:((cols.length:Nat):Rat) * ((U:Nat):Rat)<=((Y:Nat):Rat):=by
     have:((cols.length * U:Nat):Rat)<=((Y:Nat):Rat):=Z1y (Z0Y (Z5t U hc) a);have d:((cols.length * U:Nat):Rat)=((cols.length:Nat):Rat) * ((U:Nat):Rat):=(by push_cast;rfl);rw[← d];exact this
    have n:=xR m b;grind
   show -(((Y ^ (rs.length+1):Nat)):Rat)<=expand r (det rs) cols/\expand r (det rs) cols<=((Y ^ (rs.length+1):Nat):Rat);grind
noncomputable def eV(i:Nat):Yq:=λc=>if c=i then -1 else 0
noncomputable def vv(A:Nat->Yq)(k i:Nat):Yq:=if i<k then eV i else A i
noncomputable def yn(f:Nat->Nat->Int)(k:Nat)(d:Int)(i j:Nat):Int:=if i=k then f k j else (f k k * f i j - f i k * f k j).fdiv d
structure Stg(A:Nat->Yq)(n k:Nat)(f:Nat->Nat->Int)(d:Int):Prop where
 d:(d:Rat)=dd A k
 f:∀ i j,i<n->j<=n->(f i j:Rat)=if j<k then (if i=j then dd A k else 0) else BB A k (vv A k i) j
def z2J{k:Nat}:∀ c,c<k->eV k c=0:=λc a=>by unfold eV;rw[if_neg 00]
def z4C{m d:Int}(hd:d≠0):(m * d).fdiv d=m:=Int.mul_fdiv_cancel _ hd
def Z1Y(a:∀ i c,ZY (A i c))(k i:Nat):∀ c,ZY (vv A k i c):=λc=>by
 unfold vv;split;unfold eV;split;exact⟨-1,rfl⟩;exact⟨0,rfl⟩;exact a i c
theorem JM{A:Nat->Yq}{p:Yq->Prop}(h:∀ i,p (A i)):∀ k,∀ r∈Rk A k,p r
 | 0,r,hr=>by simp[Rk] at hr
 | k+1,r,hr=>by
   rcases Z08.mp hr with rfl | hr;exact h k;exact JM h k r hr
def Z1M{k:Nat}(b:∀ i c,ZY (A i c))(a:∀ c,ZY (v c))(j:Nat):ZY (BB A k v j) :=
 z4j (λr hr=>by
  rcases Z08.mp hr with rfl | hr;exact a;exact JM (p:=λr=>∀ c,ZY (r c)) b k r hr) _
def Stg.exact{A:Nat->Yq}{n k:Nat}{f:Nat->Nat->Int}{d:Int}(h:Stg A n k f d)(u:∀ i c,ZY (A i c))(w:k<n)(hd:∀ l,l<=k+1->dd A l≠0){i j:Nat}(hi:i<n)(v:j<=n)(s:i≠k) :
 ∃ m:Int,f k k * f i j - f i k * f k j=m * d/\(m:Rat)=if j<k+1 then (if i=j then dd A (k+1) else 0) else BB A (k+1) (vv A (k+1) i) j:=by
 have p:=h.f k k w 00;have a:=h.f i j hi v;have o:=h.f i k hi 00;have b:=h.f k j w v;have r:vv A k k=A k:=by unfold vv;rw[if_neg 00]
 have t:vv A (k+1) i=vv A k i:=by
  unfold vv;by_cases e:i<k;rw[if_pos e,if_pos 00];rw[if_neg e,if_neg 00]
 rw[if_neg 00,r] at p;rw[if_neg 00] at o;have q:(f k k:Rat)=dd A (k+1):=by rw[xX];exact p
 rw[r] at b;have y:=hd k 00;have fin:∀ m:Int,(((f k k * f i j - f i k * f k j:Int)):Rat)=(m:Rat) * (d:Rat)->f k k * f i j - f i k * f k j=m * d:=λm e=>by
  have:(((f k k * f i j - f i k * f k j:Int)):Rat)=((m * d:Int):Rat):=by rw[e,Z1f]
  exact_mod_cast this
 by_cases c1:j<k;rw[if_pos c1,if_neg 00] at b;rw[if_pos c1] at a;rw[if_pos (by lia:j<k+1)];by_cases e:i=j;rw[if_pos e] at a ⊢;refine⟨f k k,fin _ ?_,q⟩;rw[Z4o,Z1f,Z1f,b,a,h.d];grind;rw[if_neg e] at a ⊢;refine⟨0,fin _ ?_,05⟩;rw[Z4o,Z1f,Z1f,b,a,Rat.intCast_zero];grind;by_cases c2:j=k;subst c2;rw[if_pos (by lia:j<j+1),if_neg s];exact⟨0,by rw[Int.mul_comm (f i j)];lia,05⟩;rw[if_neg c1] at a b;rw[if_neg (by lia:¬ j<k+1),t];obtain⟨m,hm⟩:=Z1M u (k:=k+1) (Z1Y u k i) j;refine⟨m,fin m ?_,hm.symm⟩;rw[Z4o,Z1f,Z1f,q,a,o,b,h.d,← hm];exact (z3N A hd (vv A k i) j).symm
def Stg.next{k:Nat}{f:Nat->Nat->Int}{d:Int}(h:Stg A n k f d)(w:∀ i c,ZY (A i c))(v:k<n)(hd:∀ l,l<=k+1->dd A l≠0):Stg A n (k+1) (yn f k d) (f k k):=by
 have b:=h.f k k v 00;have o:vv A k k=A k:=by unfold vv;rw[if_neg 00]
 rw[if_neg 00,o] at b;have s:=hd k 00;have r:d≠0:=λz=>s (by rw[← h.d,z];rfl);refine⟨by rw[xX];exact b,λi j hi u=>?_⟩;unfold yn;by_cases e:i=k;subst e;rw[if_pos rfl];have a:=h.f i j hi u;rw[o] at a;by_cases c1:j<i;rw[if_pos c1,if_neg 00] at a;rw[if_pos 00,if_neg 00,a];rw[if_neg c1] at a;by_cases c2:j=i;subst c2;rw[if_pos 00,if_pos rfl,a,xX];rw[if_neg 00,a];have q:vv A (i+1) i=eV i:=by unfold vv;rw[if_pos 00]
 rw[q];have:=z3N A hd (eV i) j;rw[XZ A z2J,XZ A z2J] at this;have t:eV i j=0:=by unfold eV;rw[if_neg c2]
 have p:eV i i=-1:=by unfold eV;rw[if_pos rfl]
 rw[t,p] at this;generalize BB A (i+1) (eV i) j=x at *;generalize BB A i (A i) j=y at *;generalize dd A (i+1)=z at *;have B:(x - y) * dd A i=0:=by grind
 grind;rw[if_neg e];obtain⟨m,t,p⟩:=h.exact w v hd hi u e;rw[t,z4C r];exact p
structure Sgn(n k:Nat)(f:Nat->Nat->Int):Prop where
 off:∀ i j,i<n->k<=j->j<n->i≠j->f i j<=0
 col:∀ j,k<=j->j<n->0<qs n (λi=>if k<=i then (f i j:Rat) else 0)
 rhs:∀ i,i<n->0<=f i n
theorem QM{g:Nat->Rat}:∀ {n k:Nat},k<n->qs n (λi=>if k<=i then g i else 0)=g k+qs n (λi=>if k+1<=i then g i else 0)
 | n+1,k,h=>by
   show qs n _+(if k<=n then g n else 0)=g k+(qs n _+(if k+1<=n then g n else 0));by_cases e:k=n;subst e;rw[if_pos 00,if_neg 00,zT (g:=λ_=>0) λi hi=>by rw[if_neg 00],zT (f:=λi=>if k+1<=i then g i else 0) (g:=λ_=>0) λi hi=>by rw[if_neg 00]];grind;rw[if_pos 00,if_pos 00,QM (n:=n) 00];grind
def Sgn.pivot{k:Nat}(h:Sgn n k f)(a:k<n):0<f k k:=by
 have b:=h.col k 00 a;rw[QM a] at b;have d:qs n (λi=>if k+1<=i then (f i k:Rat) else 0)<=qs n (λ_=>0):=z1y λi hi=>by
  split;have:=h.off i k hi 00 a 00;have:(f i k:Rat)<=((0:Int):Rat):=Z23.mpr this;simpa using this;grind
 rw[Qo] at d;have c:(0:Rat)<(f k k:Rat):=by grind
 have:((0:Int):Rat)<(f k k:Rat):=by simpa using c
 exact Rat.intCast_lt_intCast.mp this
def z2q{x:Int}(hd:0<d)(h:x * d<=0):x<=0:=by
 refine Int.not_lt.mp λz=>?_;have:=Int.mul_pos z hd;lia
def Sgn.next{k:Nat}(h:Sgn n k f)(b:k<n)(hd:0<d)(ex:∀ i j,i<n->j<=n->i≠k->f k k * f i j - f i k * f k j=yn f k d i j * d):Sgn n (k+1) (yn f k d):=by
 have m:=h.pivot b;refine⟨λi j hi p c l=>?_,λj p c=>?_,λi hi=>?_⟩;by_cases e:i=k;subst e;unfold yn;rw[if_pos rfl];exact h.off i j hi 00 c l;refine z2q hd ?_;rw[← ex i j hi 00 e];have a1:=h.off i j hi 00 c l;have a2:=h.off i k hi 00 b e;have a3:=h.off k j b 00 c 00;have b1:f k k * f i j<=0:=Int.mul_nonpos_of_nonneg_of_nonpos (Z51 m) a1;have b2:0<=f i k * f k j:=Int.mul_nonneg_of_nonpos_of_nonpos a2 a3;lia;have o:=cpos hd;have e:qs n (λi=>if k+1<=i then (yn f k d i j:Rat) else 0) * (d:Rat)=(f k k:Rat) * qs n (λi=>if k<=i then (f i j:Rat) else 0) - (f k j:Rat) * qs n (λi=>if k<=i then (f i k:Rat) else 0):=by
  rw[QM (g:=λi=>(f i j:Rat)) b,QM (g:=λi=>(f i k:Rat)) b,Rat.mul_comm,← Zc,Rat.mul_add,Rat.mul_add,← Zc,← Zc];have q:qs n (λi=>(d:Rat) * (if k+1<=i then (yn f k d i j:Rat) else 0))=qs n (λi=>(f k k:Rat) * (if k+1<=i then (f i j:Rat) else 0)+(-1) * ((f k j:Rat) * (if k+1<=i then (f i k:Rat) else 0))):=zT λi hi=>by
   split;have:=ex i j hi 00 00;have:((f k k * f i j - f i k * f k j:Int):Rat)=((yn f k d i j * d:Int):Rat):=by rw[this]
   rw[Z4o,Z1f,Z1f,Z1f] at this;grind;grind
  rw[q,yc,Zc (-1)];grind
 have a3:=h.off k j b 00 c 00;have r:(f k j:Rat)<=0:=by
  have:(f k j:Rat)<=((0:Int):Rat):=Z23.mpr a3;simpa using this
 have s1:=h.col j 00 c;have s2:=h.col k 00 b;have t:=Rat.mul_pos (cpos m) s1;have s:=yL (a:=-(f k j:Rat)) (by grind) (Rat.le_of_lt s2);have:0<qs n (λi=>if k+1<=i then (yn f k d i j:Rat) else 0) * (d:Rat):=by rw[e];grind
 refine Rat.not_le.mp λz=>?_;have:=xR z (Rat.le_of_lt o);grind;by_cases e:i=k;subst e;unfold yn;rw[if_pos rfl];exact h.rhs i hi;have a2:=h.off i k hi 00 b e;have a1:=h.rhs i hi;have a3:=h.rhs k b;have b1:0<=f k k * f i n:=Z4j (Z51 m) a1;have b2:f i k * f k n<=0:=Int.mul_nonpos_of_nonpos_of_nonneg a2 a3;have:=ex i n hi (Z02 _) e;refine Int.not_lt.mp λz=>?_;have:=Int.mul_neg_of_neg_of_pos z hd;lia
noncomputable def fF(f0:Nat->Nat->Int):Nat->(Nat->Nat->Int)×Int
 | 0=>(f0,1)
 | k+1=>(yn (fF f0 k).1 k (fF f0 k).2,(fF f0 k).1 k k)
noncomputable def aV(f0:Nat->Nat->Int)(i:Nat):Yq:=λc=>(f0 i c:Rat)
def z8p(f0:Nat->Nat->Int):∀ i c,ZY (aV f0 i c):=λi c=>⟨f0 i c,rfl⟩
theorem jx(s0:Sgn n 0 f0):∀ k,k<=n->Stg (aV f0) n k (fF f0 k).1 (fF f0 k).2/\Sgn n k (fF f0 k).1/\0<(fF f0 k).2/\∀ l,l<=k->0<dd (aV f0) l
 | 0,_=>by
   refine⟨⟨rfl,λi j hi r=>?_⟩,s0,by show (0:Int)<1;decide,λl o=>?_⟩;rw[if_neg 00];have e:vv (aV f0) 0 i=aV f0 i:=by unfold vv;rw[if_neg 00]
   rw[e,XZ _ (λc s=>00),z4a];show (f0 i j:Rat)=(f0 i j:Rat) * 1;grind;rw[show l=0 by lia,z4a];decide
 | k+1,hk=>by
   obtain⟨st,p,dp,dl⟩:=jx s0 k 00;have pv:=p.pivot 00;have h:((fF f0 k).1 k k:Rat)=dd (aV f0) (k+1):=by
    have:=st.f k k 00 00;rw[if_neg 00] at this;have e:vv (aV f0) k k=aV f0 k:=(by unfold vv;rw[if_neg 00]);rw[e] at this;rw[xX];exact this
   have d:∀ l,l<=k+1->0<dd (aV f0) l:=λl o=>by
    by_cases e:l=k+1;subst e;rw[← h];exact cpos pv;exact dl l 00
   have b:∀ l,l<=k+1->dd (aV f0) l≠0:=λl o z=>by
    have:=d l o;rw[z] at this;exact absurd this 01
   refine⟨st.next (z8p f0) 00 b,p.next 00 dp λi j hi r a=>?_,pv,d⟩;obtain⟨m,q,_⟩:=st.exact (z8p f0) 00 b hi r a;rw[q];unfold yn;rw[if_neg a,q,z4C 00]
def z5L(s0:Sgn n 0 f0)(hi:i<n):qs n (λj=>(f0 i j:Rat) * ((fF f0 n).1 j n:Rat))=((fF f0 n).2:Rat) * (f0 i n:Rat):=by
 obtain⟨st,p,dp,dl⟩:=jx s0 n (Z02 _);have o:∀ j,j<n->((fF f0 n).1 j n:Rat)=BB (aV f0) n (eV j) n:=λj a=>by
  have:=st.f j n a (Z02 _);rw[if_neg 00] at this;have e:vv (aV f0) n j=eV j:=by unfold vv;rw[if_pos a]
  rw[e] at this;exact this
 have h0:=Z2H (aV f0) hi n;have part:∀ m,m<=n->BB (aV f0) n (λc=>if c<m then aV f0 i c else 0) n=(-1) * qs m (λj=>(f0 i j:Rat) * BB (aV f0) n (eV j) n):=by
  intro m
  induction m with
  | zero =>
    intro _;rw[XZ _ (λc h=>05)];simp[qs]
  | succ m ih =>
    intro hm;have e:BB (aV f0) n (λc=>if c<m+1 then aV f0 i c else 0) n=BB (aV f0) n (λc=>1 * (if c<m then aV f0 i c else 0)+(-(f0 i m:Rat)) * eV m c) n:=by
     have pt:∀ c:Nat,(if c<m+1 then aV f0 i c else 0)=1 * (if c<m then aV f0 i c else 0)+(-(f0 i m:Rat)) * eV m c:=λc=>by
      unfold eV;by_cases c1:c<m;rw[if_pos 00,if_pos c1,if_neg 00];grind;by_cases b:c=m;subst b;rw[if_pos 00,if_neg 00,if_pos rfl];show (f0 i c:Rat)=_;grind;rw[if_neg 00,if_neg c1,if_neg b];grind
     exact QS _ (pt n) λc _=>pt c
    rw[e,jX,ih 00];show _=(-1) * (qs m _+_);grind
 have split:BB (aV f0) n (aV f0 i) n=BB (aV f0) n (λc=>1 * (if c<n then aV f0 i c else 0)+(-(f0 i n:Rat)) * eV n c) n:=by
  have pt:∀ c:Nat,c<=n->aV f0 i c=1 * (if c<n then aV f0 i c else 0)+(-(f0 i n:Rat)) * eV n c:=λc h=>by
   unfold eV;by_cases c1:c<n;rw[if_pos c1,if_neg 00];grind;have b:c=n:=00
   subst b;rw[if_neg 00,if_pos rfl];show (f0 i c:Rat)=_;grind
  exact QS _ (pt n (Z02 _)) λc h=>pt c 00
 rw[split,jX,part n (Z02 _),XZ _ z2J] at h0;have l:eV n n=-1:=by unfold eV;rw[if_pos rfl]
 rw[l,← st.d] at h0;rw[zT λj a=>by rw[o j a]];grind
def le_pow{k:Nat}(a:1<=Y)(h:m<=k):Y ^ m<=Y ^ k:=Z37 a h
theorem z2t:∀ k,(Kk k).length=k
 | 0=>rfl
 | k+1=>by show (k :: Kk k).length=_;rw[Z07,z2t k]
theorem z1Z(A:Nat->Yq):∀ k,(Rk A k).length=k
 | 0=>rfl
 | k+1=>by show (A k :: Rk A k).length=_;rw[Z07,z1Z A k]
def Z5n{k:Nat}(s0:Sgn n 0 f0)(hn:n<=12)(v:1<=U)(t:13 * U<=Y)(B:∀ i j,(f0 i j).natAbs<=U)(D:k<=n):(∀ i j,i<n->j<=n->((fF f0 k).1 i j).natAbs<=Y ^ 13)/\(fF f0 k).2.natAbs<=Y ^ 13:=by
 obtain⟨st,E,dp,dl⟩:=jx s0 k D;have o:∀ i c,-((U:Nat):Rat)<=aV f0 i c/\aV f0 i c<=((U:Nat):Rat):=λi c=>by
  have h:=B i c;have a:((-(U:Int):Int):Rat)<=(f0 i c:Rat):=Z23.mpr 00;have b:(f0 i c:Rat)<=(((U:Int)):Rat):=Z23.mpr 00;rw[Rat.intCast_neg] at a;exact⟨a,b⟩
 have one:(1:Rat)<=((U:Nat):Rat):=Z1y v;have C:∀ i c,-((U:Nat):Rat)<=eV i c/\eV i c<=((U:Nat):Rat):=λi c=>by
  unfold eV;split <;> grind
 have s:1<=Y:=00
 have toInt:∀ {x:Int}{m:Nat},m<=13->-((Y ^ m:Nat):Rat)<=(x:Rat)/\(x:Rat)<=((Y ^ m:Nat):Rat)->x.natAbs<=Y ^ 13:=λ{x m} hm h=>by
  have F:=le_pow s hm;obtain⟨a,b⟩:=h;have l:((-((Y ^ m:Nat):Int):Int):Rat)<=(x:Rat):=by rw[Rat.intCast_neg];exact a
  have q:(x:Rat)<=((((Y ^ m:Nat):Int)):Rat):=b;have a1:=Z23.mp l;have a2:=Z23.mp q;generalize Y ^ 13=z at *;generalize Y ^ m=y at *;lia
 have u:-((Y ^ k:Nat):Rat)<=dd (aV f0) k/\dd (aV f0) k<=((Y ^ k:Nat):Rat):=by
  have:=z3s t (rs:=Rk (aV f0) k) (λr hr=>JM (p:=λr=>∀ c,-((U:Nat):Rat)<=r c/\r c<=((U:Nat):Rat)) o k r hr) (Kk k) (by rw[z2t];lia);rwa [z1Z] at this
 refine⟨λi j hi A=>?_,toInt (m:=k) 00 (by rw[st.d];exact u)⟩;have e:=st.f i j hi A;split at e;split at e;exact toInt (m:=k) 00 (by rw[e];exact u);have w:(fF f0 k).1 i j=0:=by exact_mod_cast e
 rw[w];simp;refine toInt (m:=k+1) 00 ?_;rw[e];have:=z3s t (rs:=vv (aV f0) k i :: Rk (aV f0) k) (λr hr=>by
  rcases Z08.mp hr with rfl | hr;unfold vv;split;exact C i;exact o i;exact JM (p:=λr=>∀ c,-((U:Nat):Rat)<=r c/\r c<=((U:Nat):Rat)) o k r hr) (j :: Kk k) (by rw[Z07,z2t];lia)
 rwa [Z07,z1Z] at this
noncomputable def yi(x:Rat):Rat:=if x<0 then -x else x
def z4F(x:Rat):0<=yi x:=by unfold yi;split <;> grind
def z7i(x y:Rat):yi (x+y)<=yi x+yi y:=by unfold yi;split <;> split <;> split <;> grind
def z5m{x:Rat}(h:yi x<=0):x=0:=by unfold yi at h;split at h <;> grind
def z7w{x:Rat}(d:0<=c):yi (x * c)<=yi x * c:=by
 unfold yi;split <;> split;grind;rename_i h1 h2;have:=yL (a:=x) (b:=c) (by grind) d;grind;rename_i h1 h2;have:=yL (a:=-x) (b:=c) (by grind) d;grind;grind
def z4t(f:Nat->Rat):∀ n,yi (qs n f)<=qs n (λi=>yi (f i))
 | 0=>by show yi 0<=0;unfold yi;grind
 | n+1=>by
   have a:=z4t f n;have b:=z7i (qs n f) (f n);show yi (qs n f+f n)<=qs n _+yi (f n);grind
def z7m{W:Nat->Nat->Rat}{x:Nat->Rat}(p:∀ i t,i<n->t<n->a * B t<=W i t)(h:∀ i,i<n->qs n (λt=>W i t)=1)(f:qs n B=1)(c:qs n x=qs n y) :
 qs n (λt=>yi (qs n (λi=>x i * W i t) - qs n (λi=>y i * W i t)))<=(1 - a) * qs n (λi=>yi (x i - y i)):=by
 have m:∀ t,t<n->yi (qs n (λi=>x i * W i t) - qs n (λi=>y i * W i t))<=qs n (λi=>yi (x i - y i) * (W i t - a * B t)):=λt o=>by
  have e:qs n (λi=>x i * W i t) - qs n (λi=>y i * W i t)=qs n (λi=>(x i - y i) * (W i t - a * B t)):=by
   have l:qs n (λi=>(x i - y i) * (W i t - a * B t))=qs n (λi=>(x i * W i t+(-1) * (y i * W i t))+((-(a * B t)) * x i+(a * B t) * y i)):=zT λi _=>by grind
   rw[l,yc,yc,yc,Zc,Zc,Zc,c];grind
  rw[e];have q:=z4t (λi=>(x i - y i) * (W i t - a * B t)) n;have r:qs n (λi=>yi ((x i - y i) * (W i t - a * B t)))<=qs n (λi=>yi (x i - y i) * (W i t - a * B t)):=z1y λi hi=>z7w (by have:=p i t hi o;grind);grind
 have b:=z1y m;rw[Jo (λt i=>yi (x i - y i) * (W i t - a * B t))] at b;have d:qs n (λi=>qs n (λt=>yi (x i - y i) * (W i t - a * B t)))=qs n (λi=>(1 - a) * yi (x i - y i)):=zT λi hi=>by
  rw[Zc];have j:qs n (λt=>W i t - a * B t)=1 - a:=by
   have:qs n (λt=>W i t - a * B t)=qs n (λt=>W i t+(-a) * B t):=zT λt _=>by grind
   rw[this,yc,Zc,h i hi,f];grind
  rw[j];grind
 rw[d,Zc] at b;exact b
def unique{W:Nat->Nat->Rat}{x:Nat->Rat}(ha:0<a)(p:∀ i t,i<n->t<n->a * B t<=W i t)(m:∀ i,i<n->qs n (λt=>W i t)=1)(l:qs n B=1)(c:qs n x=qs n y)(j:∀ t,t<n->qs n (λi=>x i * W i t)=x t)(q:∀ t,t<n->qs n (λi=>y i * W i t)=y t):∀ t,t<n->x t=y t:=by
 have h:=z7m p m l c;rw[zT (g:=λt=>yi (x t - y t)) λt b=>by rw[j t b,q t b]] at h;have h0:0<=qs n (λt=>yi (x t - y t)):=vV λt _=>z4F _;have d:qs n (λt=>yi (x t - y t))<=0:=by
  refine Rat.not_lt.mp λz=>?_;have:=Rat.mul_pos ha z;grind
 intro t b;have o:=z7h (f:=λt=>yi (x t - y t)) b λi _=>z4F _;have:=z5m (x:=x t - y t) (Rat.le_trans o d);grind
noncomputable def mp(ps:LI)(j:Nat):Int:=(max 1 (outs ps (j:Int)).length:Nat)
noncomputable def cn(ps:LI)(j i:Nat):Int:=((outs ps (j:Int)).count (i:Int):Nat)
noncomputable def fac(ps:LI)(A:Int×Int)(j i:Nat):Int:=if j=i then A.2 * mp ps j - (A.2 - A.1) * cn ps j i else -((A.2 - A.1) * cn ps j i)
noncomputable def Uh(ps:LI)(A:Int×Int)(ss:List Int)(n i j:Nat):Int:=if i<n then (if j<n then fac ps A j i else if j=n then ss.getD i 0 else 0) else 0
def UB(ps:LI)(j i:Nat):((ps.count ((j:Int),(i:Int)):Nat):Int)=cn ps j i:=by
 unfold cn outs;congr 1
 induction ps with
 | nil=>rfl
 | cons p ps ih =>
   obtain⟨a,b⟩:=p;rw[List.count_cons];by_cases h:a=(j:Int);subst h;rw[List.filter_cons_of_pos 05,Z1d,List.count_cons,ih];simp;rw[List.filter_cons_of_neg (by simpa using h),ih];simp[h]
def JW(lk:∀ p∈ps,0<=p.2/\p.2<(n:Int))(j:Nat):qs n (λi=>(cn ps j i:Rat))=(((outs ps (j:Int)).length:Nat):Rat):=vB λx a=>z1p lk a
structure YA(ps:LI)(A:Int×Int)(ss:List Int)(n:Nat):Prop where
 lk:∀ p∈ps,0<=p.2/\p.2<(n:Int)
 a0:0<A.1
 a1:A.1<=A.2
 len:ss.length=n
 nn:∀ s∈ss,0<=s
 pos:0<ss.sum
def z1c(ps:LI)(A:Int×Int)(j i:Nat):(fac ps A j i:Rat)=(if i=j then (A.2:Rat) * (mp ps j:Rat) else 0)+(-((A.2:Rat) - (A.1:Rat))) * (cn ps j i:Rat):=by
 unfold fac;by_cases e:j=i;subst e;rw[if_pos rfl,if_pos rfl,Z4o,Z1f,Z1f,Z4o];grind;rw[if_neg e,if_neg (λz=>e z.symm),Rat.intCast_neg,Z1f,Z4o];grind
def Z1p(ps:LI)(j:Nat):1<=mp ps j/\(((outs ps (j:Int)).length:Nat):Int)<=mp ps j:=by unfold mp;lia
def YA.sgn(h:YA ps A ss n):Sgn n 0 (Uh ps A ss n):=by
 refine⟨λi j hi _ c d=>?_,λj _ c=>?_,λi hi=>?_⟩;unfold Uh fac;rw[if_pos hi,if_pos c,if_neg (λz=>d z.symm)];have:0<=(A.2 - A.1) * cn ps j i:=Z4j (by have:=h.a1;lia) (by unfold cn;lia);lia;rw[zT (g:=λi=>(if i=j then (A.2:Rat) * (mp ps j:Rat) else 0)+(-((A.2:Rat) - (A.1:Rat))) * (cn ps j i:Rat)) λi hi=>?_,yc,Zc,JW h.lk,Xj c λi _ hi=>by rw[if_neg hi]];rw[if_pos rfl];obtain⟨m,l⟩:=Z1p ps j;have f:(((outs ps (j:Int)).length:Nat):Rat)<=(mp ps j:Rat):=by
  have:((((outs ps (j:Int)).length:Nat):Int):Rat)<=(mp ps j:Rat):=Z23.mpr l;exact this
 have a1:(A.1:Rat)<=(A.2:Rat):=Z23.mpr h.a1;have p:=Rat.mul_pos (cpos h.a0) (cpos (show (0:Int)<mp ps j by lia));have o:=yL (a:=(A.2:Rat) - (A.1:Rat)) (b:=(mp ps j:Rat) - (((outs ps (j:Int)).length:Nat):Rat)) (by grind) (by grind);grind;rw[if_pos (Z15 _)];unfold Uh;rw[if_pos hi,if_pos c];exact z1c ps A j i;unfold Uh;rw[if_pos hi,if_neg 00,if_pos rfl];exact h.nn _ (Z1q (L2.Xf (by have:=h.len;lia)))
section
variable(ps:LI)(A:Int×Int)(ss:List Int)(n:Nat)
noncomputable def xS(j:Nat):Int:=(fF (Uh ps A ss n) n).1 j n
noncomputable def dS:Int:=(fF (Uh ps A ss n) n).2
noncomputable def vS(j:Nat):Int:=mp ps j * xS ps A ss n j
noncomputable def VS:Int:=((List.range n).map (vS ps A ss n)).sum
noncomputable def shL:LI:=(List.range n).map λj=>mk (vS ps A ss n j) (VS ps A ss n)
end
def YA.Z6d(h:YA ps A ss n)(a:j<n):0<=xS ps A ss n j:=((jx h.sgn n (Z02 _)).2.1).rhs j a
def YA.d_pos(h:YA ps A ss n):0<dS ps A ss n:=(jx h.sgn n (Z02 _)).2.2.1
def YA.Z4O(h:YA ps A ss n)(a:j<n):0<=vS ps A ss n j:=Z4j (by have:=(Z1p ps j).1;lia) (h.Z6d a)
def YA.row(h:YA ps A ss n)(hi:i<n):(A.2:Rat) * (vS ps A ss n i:Rat)=((A.2:Rat) - (A.1:Rat)) * qs n (λj=>(cn ps j i:Rat) * (xS ps A ss n j:Rat))+(dS ps A ss n:Rat) * (ss.getD i 0:Rat):=by
 have a:=z5L h.sgn hi;have f:Uh ps A ss n i n=ss.getD i 0:=by unfold Uh;rw[if_pos hi,if_neg 00,if_pos rfl]
 rw[f] at a;have l:qs n (λj=>(Uh ps A ss n i j:Rat) * ((fF (Uh ps A ss n) n).1 j n:Rat))=qs n (λj=>(if j=i then (A.2:Rat) * (vS ps A ss n i:Rat) else 0)+(-((A.2:Rat) - (A.1:Rat))) * ((cn ps j i:Rat) * (xS ps A ss n j:Rat))):=zT λj b=>by
  have c:Uh ps A ss n i j=fac ps A j i:=by unfold Uh;rw[if_pos hi,if_pos b]
  rw[c,z1c];show _ * (xS ps A ss n j:Rat)=_;by_cases e:j=i;subst e;rw[if_pos rfl,if_pos rfl];unfold vS;rw[Z1f];grind;rw[if_neg e,if_neg (λz=>e z.symm)];grind
 rw[l,yc,Zc,Xj hi λj _ b=>by rw[if_neg b],if_pos rfl] at a;have d:((fF (Uh ps A ss n) n).2:Rat)=(dS ps A ss n:Rat):=rfl;rw[d] at a;grind
def z0a:(VS ps A ss n:Rat)=qs n (λj=>(vS ps A ss n j:Rat)):=(z3T n).symm
noncomputable def dg(ps:LI)(A:Int×Int)(ss:List Int)(n j:Nat):Rat:=if outs ps (j:Int)=[] then (vS ps A ss n j:Rat) else 0
def Z1t(j:Nat):(((outs ps (j:Int)).length:Nat):Rat) * (xS ps A ss n j:Rat)=(vS ps A ss n j:Rat)+(-1) * dg ps A ss n j:=by
 unfold dg vS;by_cases e:outs ps (j:Int)=[];rw[if_pos e,e];simp;grind;rw[if_neg e];have:mp ps j=(((outs ps (j:Int)).length:Nat):Int):=by
  unfold mp;have:=Z4N.mpr e;lia
 rw[this,Z1f];have a:((((outs ps (j:Int)).length:Nat):Int):Rat)=(((outs ps (j:Int)).length:Nat):Rat):=rfl;rw[a];grind
def YA.all(h:YA ps A ss n):(A.1:Rat) * (VS ps A ss n:Rat)+((A.2:Rat) - (A.1:Rat)) * qs n (λj=>dg ps A ss n j)=(dS ps A ss n:Rat) * (ss.sum:Rat):=by
 have a:qs n (λi=>(A.2:Rat) * (vS ps A ss n i:Rat))=qs n (λi=>((A.2:Rat) - (A.1:Rat)) * qs n (λj=>(cn ps j i:Rat) * (xS ps A ss n j:Rat))+(dS ps A ss n:Rat) * (ss.getD i 0:Rat)):=zT λi hi=>h.row hi;rw[Zc,yc,Zc,Zc,Jo (λi j=>(cn ps j i:Rat) * (xS ps A ss n j:Rat)),← z0a] at a;have b:qs n (λj=>qs n (λi=>(cn ps j i:Rat) * (xS ps A ss n j:Rat)))=qs n (λj=>(vS ps A ss n j:Rat)+(-1) * dg ps A ss n j):=zT λj d=>by
  have:qs n (λi=>(cn ps j i:Rat) * (xS ps A ss n j:Rat))=qs n (λi=>(xS ps A ss n j:Rat) * (cn ps j i:Rat)):=zT λi _=>Rat.mul_comm ..;rw[this,Zc,JW h.lk,← Z1t];grind
 have c:qs n (λi=>(ss.getD i 0:Rat))=(ss.sum:Rat):=by
  have:=VE ss;rwa [h.len] at this
 rw[b,c,yc,Zc,← z0a] at a;grind
def Z4v(h:YA ps A ss n)(a:j<n):0<=dg ps A ss n j/\dg ps A ss n j<=(vS ps A ss n j:Rat):=by
 have:=cnn (h.Z4O a);unfold dg;split <;> grind
def YA.z4k(h:YA ps A ss n):0<VS ps A ss n:=by
 have i:=h.all;have d:=z1y λj f=>(Z4v h (j:=j) f).2;rw[← z0a] at d;have a1:(A.1:Rat)<=(A.2:Rat):=Z23.mpr h.a1;have m:=Rat.mul_pos (cpos h.d_pos) (cpos h.pos);have l:=yL (a:=(A.2:Rat) - (A.1:Rat)) (b:=(VS ps A ss n:Rat) - qs n (λj=>dg ps A ss n j)) (by grind) (by grind);have a2:=cpos (show 0<A.2 by have:=h.a0;have:=h.a1;lia);have o:0<(A.2:Rat) * (VS ps A ss n:Rat):=by grind
 have c:(0:Rat)<(VS ps A ss n:Rat):=by
  refine Rat.not_le.mp λz=>?_;have:=xR z (Rat.le_of_lt a2);grind
 have:((0:Int):Rat)<(VS ps A ss n:Rat):=by simpa using c
 exact Rat.intCast_lt_intCast.mp this
structure ZU(ps:LI)(A:Int×Int)(Bs:LI)(n:Nat)(Ss:LI):Prop where
 len:Ss.length=n
 canon:ZK Ss
 nn:∀ S∈Ss,0<=S.1
 one:qs n (λt=>val (Ss.getD t (0,1)))=1
 stay:∀ t,t<n->Z3x ps A Bs Ss n t=val (Ss.getD t (0,1))
def VQ(ca:Canon A)(cb:ZK Bs)(hn:Bs.length=n)(a:t<n):val ((y9 ps A Bs (j:Nat)).getD t (0,1))=if outs ps (j:Int)=[] then val 025 else val A * val 025+(1 - val A) * ((cn ps j t:Rat) / (((outs ps (j:Int)).length:Nat):Rat)):=by
 unfold y9;split;rfl;rename_i h;rw[Yd 00,z0L ca (cb.getD t) (xO h)];rfl
def z7k{Bs:LI}{ss:List Int}{L:Int}(h:YA ps A ss n)(ca:Canon A)(cb:ZK Bs)(hn:Bs.length=n)(G:0<L)(s:∀ t,t<n->(ss.getD t 0:Rat)=val 025 * (L:Rat))(one:qs n (λt=>val 025)=1):ZU ps A Bs n (shL ps A ss n):=by
 have u:=h.z4k;have C:=cpos u;have D:=ZL (d:=VS ps A ss n) 00;have vs:∀ t,t<n->val ((shL ps A ss n).getD t (0,1))=(vS ps A ss n t:Rat) / (VS ps A ss n:Rat):=λt a=>by
  unfold shL;rw[Yd a,val_mk 00]
 refine⟨by unfold shL;simp,λS p=>?_,λS p=>?_,?_,λt a=>?_⟩;obtain⟨t,_,rfl⟩:=Z18.mp p;exact YS 00;obtain⟨t,a,rfl⟩:=Z18.mp p;exact z5e u (h.Z4O (Z25.mp a));rw[zT (g:=λt=>(1 / (VS ps A ss n:Rat)) * (vS ps A ss n t:Rat)) λt a=>by rw[vs t a];grind,Zc,← z0a];grind;rw[vs t a];unfold Z3x;have w:0<A.2:=ca.1;have y:=ZL (Z5 ca);have q:val A * (A.2:Rat)=(A.1:Rat):=by unfold val;grind
 have c:(ss.sum:Rat)=(L:Rat):=by
  have z:qs n (λi=>(ss.getD i 0:Rat))=(ss.sum:Rat):=by
   have:=VE ss;rwa [h.len] at this
  rw[← z,zT (g:=λt=>(L:Rat) * val 025) λt a=>by rw[s t a];grind,Zc,one];grind
 have o:=h.all;rw[c] at o;have f:=h.row a;rw[s t a] at f;have key:qs n (λj=>(vS ps A ss n j:Rat) * val ((y9 ps A Bs (j:Nat)).getD t (0,1)))=(val A * val 025) * (VS ps A ss n:Rat)+(1 - val A) * qs n (λj=>(cn ps j t:Rat) * (xS ps A ss n j:Rat))+((1 - val A) * val 025) * qs n (λj=>dg ps A ss n j):=by
  have E:qs n (λj=>(vS ps A ss n j:Rat) * val ((y9 ps A Bs (j:Nat)).getD t (0,1)))=qs n (λj=>((val A * val 025) * (vS ps A ss n j:Rat)+(1 - val A) * ((cn ps j t:Rat) * (xS ps A ss n j:Rat)))+((1 - val A) * val 025) * dg ps A ss n j):=zT λj r=>by
   rw[VQ ca cb hn a];have m:=Z1t (ps:=ps) (A:=A) (ss:=ss) (n:=n) j;unfold dg at m ⊢;by_cases e:outs ps (j:Int)=[];rw[if_pos e,if_pos e];have:cn ps j t=0:=by unfold cn;rw[e];rfl
   rw[this];simp;grind;rw[if_neg e] at m ⊢;rw[if_neg e];have F:(((outs ps (j:Int)).length:Nat):Rat)≠0:=ZL (xO e);generalize (((outs ps (j:Int)).length:Nat):Rat)=l at *;have:(vS ps A ss n j:Rat)=l * (xS ps A ss n j:Rat):=by grind
   rw[this];grind
  rw[E,yc,yc,Zc,Zc,Zc,← z0a]
 have B:qs n (λi=>val ((shL ps A ss n).getD i (0,1)) * val ((y9 ps A Bs (i:Nat)).getD t (0,1)))=(1 / (VS ps A ss n:Rat)) * qs n (λj=>(vS ps A ss n j:Rat) * val ((y9 ps A Bs (j:Nat)).getD t (0,1))):=by
  rw[← Zc];exact zT λj r=>by rw[vs j r];grind
 rw[B,key];generalize qs n (λj=>(cn ps j t:Rat) * (xS ps A ss n j:Rat))=Cq at *;generalize qs n (λj=>dg ps A ss n j)=Dq at *;generalize val 025=b at *;generalize (vS ps A ss n t:Rat)=v at *;generalize (VS ps A ss n:Rat)=V at *;generalize (dS ps A ss n:Rat)=d at *;generalize val A=α at *;generalize (A.2:Rat)=a2 at *;generalize (A.1:Rat)=a1 at *;subst q;have k1:a2 * v=a2 * ((1 - α) * Cq+(α * V+(1 - α) * Dq) * b):=by grind
 have k2:v=(1 - α) * Cq+(α * V+(1 - α) * Dq) * b:=by grind
 rw[k2];grind
end Pw
namespace L2
noncomputable def Z5X(r:V->List V->Hp->VK->Prop)(to:TE)(t:TA):TE:=λσ H Q=>to σ H λx H1=>(∃ (p:Addr) (xs:List V),x=.ref p/\H1 p=some (.tup xs))/\t σ H1 λxs H2=>r x xs H2 Q
def z3p{e:Expr}{to:TE}{cpos:Pos}{id:String}(c:attributeBase o name X.env (eval o X.env)=eval o X.env)(f:((backTo cpos (starEach (e :: es) X.env)).all (λx=>!x.1) && (backToKw cpos (keywordEach [] X.env)).all (λx=>x.1.isSome) && decide ((e :: es).length+([]:List Keyword).length+(if ([]:List Keyword).isEmpty then 0 else 1)<30))=true)(d:(apos.endLine == cpos.line)=true)(u:starEach (e :: es) X.env=019 :: starEach es X.env)(b:(backTo cpos (starEach es X.env)).any (·.1)=false)(A:PlainAttrs "tuple")(slot:Slot "tuple" name id)(i:typeOf (.builtin id)=pure (.type "method_descriptor"))(hm:MtM X id r)(B:PE X o to)(ha:PA X (e :: es) t):PE X (.Call (.Attribute o name apos) (e :: es) [] cpos) (Z5X r to t):=by
 intro pins s σ H Q I h;refine wpAny_Call_method_late c f d rfl (Zj (B pins s σ H _ I h) λv s1 n=>?_);obtain⟨x,H1,I1,w,ty,q1⟩:=n;obtain⟨p,xs,rfl,q⟩:=ty;cases w;obtain⟨_,its,_,ob,m,j,n1,C⟩:xs.length<=sizeLine/\∃ its:List Value,Vals xs its/\yw s1.heap p its.toArray:=I1.hok p _ q;refine⟨"tuple",id,A,slot,i,⟨ob,m,congrArg Prod.fst j⟩,λa z=>by cases z;exact⟨ob,m,congrArg Prod.snd j⟩,?_⟩;have l:=ha cpos pins s1 σ H1 _ I1 q1;rw[u] at l ⊢;refine Calls.callWith_builtin (by show (false || (backTo cpos (starEach es X.env)).any (·.1))=false;rw[b] <;> rfl) (Calls.evalArgs_plain ?_)
 exact Zj l λus s2 ⟨vs,H2,I2,y,q2⟩=>hm pins s2 σ H2 (.ref p) vs (.ref p) us Q I2 rfl y q2
noncomputable def Z5c(K:FR):V->List V->Hp->VK->Prop:=λo xs H Q=>∃ (t q:Addr) (us:List V) (ps:LI) (p:Int×Int),o=.ref t/\xs=[.ref q]/\H t=some (.tup us)/\Zm K H ps us/\zR K H q [.int p.1,.int p.2]/\Q (.int ((ps.count p:Nat):Int)) H
open Classical in
def z5j{k:Nat}(hr:Zf k X.A):MtM X "tuple.count" (Z5c X.K):=by
 intro pins s σ H x vs v C Q I N S h;obtain⟨t,q,us,ps,p,rfl,rfl,O,f,T,k⟩:=h;cases N;obtain⟨u,rfl,R⟩:=S.one;cases R;obtain⟨its,r,pl,hz⟩:=I.tuple (zR.of O);obtain⟨⟨c,dd,U,sl⟩,e,J,n,hd⟩:=pl;have J:c=.type "tuple":=J;have hd:U=.seq its.toArray n:=hd;subst J hd;have Z:=hr.units;have Y:X.A.in1.units<=X.A.units+8:=by
  first | exact Nat.le_add_right _ _ | (simp[Around.in1]) | (unfold Around.in1;simp)
 have G:X.A.in1.units+20<cLine:=00
 refine call_meets F.slot_tuple_count ⟨_,e,rfl⟩ F.entry_tuple_count (F.args_tuple_count_2 _ _) (SeqAt.tuple_countAt t its.toArray n dd sl (.ref q) (λy=>decide (∃ a,y=.ref a/\zR X.K H a [.int p.1,.int p.2]))) ⟨e,λy m=>?_,?_⟩;have m:y∈its:=by simpa using m
 obtain⟨i,hi,rfl⟩:=Z4P m;have L:=r.length;obtain⟨a,d,e1,P,j⟩:=f.get (i:=i) (v:=us[i]) 05;obtain⟨w,D,l⟩:=r.get (i:=i) (x:=us[i]) 05;rw[P] at l;cases l;have D:its[i]=.ref a:=by
  have:=D;rw[Z03 hi] at this;exact Z19 this
 rw[D];have key:=z8C I 20 (X.A.in1) (Xn d) (Xn p) 027 (.ref q) 027 (.ref q) (by unfold Xn;simp only[QD,xP];decide) G (by unfold Xn;simp only[Den];exact⟨a,_,rfl,j,z4u _ _ _ _⟩) (by unfold Xn;simp only[Den];exact⟨q,_,rfl,T,z4u _ _ _ _⟩) rfl rfl;have M:UO (Xn d) (Xn p)=decide (∃ b,Value.ref a=.ref b/\zR X.K H b [.int p.1,.int p.2]):=by
  unfold Xn;simp only[UO];rw[Z1a];by_cases hh:d=p;subst hh;rw[decide_eq_true (show (d.1,d.2)=(d.1,d.2) from rfl),decide_eq_true ⟨a,rfl,j⟩];rw[decide_eq_false (λz=>hh z),decide_eq_false];rintro⟨b,E,B⟩;cases E;have:=I.yY j B;simp at this;exact hh (Prod.ext this.1 this.2)
 rw[← M];exact key;refine⟨.int _,H,I.tok _,⟨_,rfl⟩,?_⟩;have cnt:∀ {ps:LI}{us:List V}{its:List Value},Zm X.K H ps us->Vals us its->its.countP (λy=>decide (∃ a,y=.ref a/\zR X.K H a [.int p.1,.int p.2]))=ps.count p:=by
  intro ps
  induction ps with
  | nil =>
    intro us its f r;have L:=f.len;have:us=[]:=Z35.mp L;subst this;cases r;rfl
  | cons d ps ih =>
    intro us its f r;obtain⟨a,C,rfl,j,o⟩:=yd f;cases r with
    | cons ra rr =>
      cases ra;rw[List.countP_cons,List.count_cons,ih o rr];congr 1;by_cases hh:d=p;subst hh;rw[if_pos (decide_eq_true ⟨a,rfl,j⟩),if_pos 05];rw[if_neg,if_neg (by simpa using hh)];intro z;obtain⟨b,E,B⟩:=of_decide_eq_true z;cases E;have:=I.yY j B;simp at this;exact hh (Prod.ext this.1 this.2)
 show Q (.int ((List.countP _ its.toArray.toList:Nat):Int)) H;rw[List.toList_toArray,cnt f r];exact k
noncomputable def ZN(f:Nat->Int)(m:Nat):List V:=((List.range m).map f).map V.int
def Zk(f:Nat->Int)(m:Nat):(ZN f m).length=m:=by unfold ZN;simp
def YK(h:j<m):(ZN f m)[j]?=some (.int (f j)):=by
 unfold ZN;rw[Z17,Z17,List.getElem?_range h];rfl
def yX(f:Nat->Int)(m:Nat):ZN f (m+1)=ZN f m ++ [.int (f m)]:=by
 unfold ZN;rw[Z5w,Z13,Z13];rfl
def qq{g:Nat->Int}(h:∀ j,j<m->f j=g j):ZN f m=ZN g m:=by
 unfold ZN;congr 1;exact List.map_congr_left λj a=>h j (Z25.mp a)
noncomputable def Xq(H:Hp)(n m:Nat)(f:Nat->Nat->Int)(us:List V):Prop:=us.length=n/\∀ i,i<n->∃ q,us[i]?=some (.ref q)/\H q=some (.lst (ZN (f i) m))
def Xq.same(h:Xq H n m f us)(s:zC H H'):Xq H' n m f us :=
 ⟨h.1,λi hi=>by
  obtain⟨q,a,b⟩:=h.2 i hi;exact⟨q,a,s _ _ b⟩⟩
def Xq.snoc(h:Xq H n m f us)(d:H q=some (.lst (ZN (f n) m))):Xq H (n+1) m f (us ++ [.ref q]):=by
 refine⟨by rw[Z10,h.1];rfl,λi hi=>?_⟩;by_cases e:i=n;subst e;exact⟨q,by rw[← h.1];simp,d⟩;obtain⟨c,a,b⟩:=h.2 i 00;exact⟨c,by rw[Z39 (by rw[h.1];lia)];exact a,b⟩
def Xq.put{xs:List V}(h:Xq H n m f us)(c:∀ i,i<n->us[i]?≠some (.ref D)):Xq (upd H D o) n m f us :=
 ⟨h.1,λi hi=>by
  obtain⟨q,a,b⟩:=h.2 i hi;exact⟨q,a,by rw[zD (λz=>c i hi (by rw[a,z]))];exact b⟩⟩
noncomputable def Jd(K:FR):Sp:=λvs H Q _=>∃ (w:Addr) (pages:Int) (j:Nat) (ps:LI),vs=[.ref w,.int j]/\xA K H w pages ps/\ps.length<=100/\∀ H',zC H H'->Q (.int (Pw.mp ps j)) H'
noncomputable def z1j(K:FR):Sp:=λvs H Q _=>∃ (w lp:Addr) (pages:Int) (j i:Nat) (ps:LI) (A:Int×Int),vs=[.ref w,.ref lp,.int j,.int i]/\xA K H w pages ps/\ps.length<=100/\Xw K H lp A/\Vz 150 A/\∀ H',zC H H'->Q (.int (Pw.fac ps A j i)) H'
noncomputable def uE(K:FR):Sp:=λvs H Q _=>∃ (w lp:Addr) (pages:Int) (i:Nat) (st:Int) (ps:LI) (A:Int×Int),vs=[.ref w,.ref lp,.int i,.int st]/\xA K H w pages ps/\1<=pages/\pages<=13/\ps.length<=100/\Xw K H lp A/\Vz 150 A/\
 ∀ (p:Addr) (H':Hp),zC H H'->H p=none->H' p=some (.lst (ZN (λj=>Pw.fac ps A j i) pages.toNat ++ [.int st]))->Q (.ref p) H'
noncomputable def vZ(K:FR):Sp:=λvs H Q _=>∃ (e c:Addr) (k m:Nat) (d:Int) (f g:Nat->Int),vs=[.ref e,.ref c,.int k,.int d]/\H e=some (.lst (ZN f m))/\H c=some (.lst (ZN g m))/\k<m/\m<=20/\d≠0/\Sz 8000 d/\(∀ j,j<m->Sz 8000 (f j)/\Sz 8000 (g j))/\
 ∀ (p:Addr) (H':Hp),zC H H'->H p=none->H' p=some (.lst (ZN (λj=>(g k * f j - f k * g j).fdiv d) m))->Q (.ref p) H'
noncomputable def z1A(K:FR):Sp:=λvs H Q _=>∃ (e:Addr) (us:List V) (n z:Nat) (f0:Nat->Nat->Int),vs=[.ref e]/\H e=some (.lst us)/\Xq H n (n+1) f0 us/\Pw.Sgn n 0 f0/\1<=n/\n<=12/\z<=150/\(∀ i j,(f0 i j).natAbs<=2 ^ z)/\
 ∀ (t l:Addr) (H':Hp),zC H H'->H' t=some (.tup [.ref l,.int (Pw.fF f0 n).2])->H' l=some (.lst (ZN (λi=>(Pw.fF f0 n).1 i n) n))->Q (.ref t) H'
def z6w{k:Nat}(s0:Pw.Sgn n 0 f0)(hn:n<=12)(f:∀ i j,(f0 i j).natAbs<=2 ^ z)(d:k<=n):(∀ i j,i<n->j<=n->Sz ((z+4) * 13+1) ((Pw.fF f0 k).1 i j))/\Sz ((z+4) * 13+1) (Pw.fF f0 k).2:=by
 obtain⟨b,a⟩:=Pw.Z5n (U:=2 ^ z) (Y:=2 ^ (z+4)) s0 hn (Nat.two_pow_pos _) (by rw[Nat.pow_add];lia) f d;have e:(2 ^ (z+4)) ^ 13=2 ^ ((z+4) * 13):=(Nat.pow_mul ..).symm;rw[e] at a;have lt:2 ^ ((z+4) * 13)<2 ^ ((z+4) * 13+1):=Nat.pow_lt_pow_right 01 00;refine⟨λi j hi c=>?_,Z24 a lt⟩;have:=b i j hi c;rw[e] at this;exact Z24 this lt
def z7j(few:ps.length<=100)(h:Pw.YA ps A ss n)(sa:Sz z A.2)(c:∀ s∈ss,s<=2 ^ z):∀ i j,(Pw.Uh ps A ss n i j).natAbs<=2 ^ (z+7):=by
 intro i j;have a0:=h.a0;have a1:=h.a1;have f:A.2.natAbs<2 ^ z:=sa;have m:(2:Nat) ^ (z+7)=2 ^ z * 128:=by rw[Nat.pow_add]
 unfold Pw.Uh;split;split;have q:=Pw.YF ps (j:Int);have o:=List.count_le_length (a:=(i:Int)) (l:=Pw.outs ps (j:Int));have hm:1<=Pw.mp ps j/\Pw.mp ps j<=100:=by unfold Pw.mp;lia
 have b:0<=Pw.cn ps j i/\Pw.cn ps j i<=100:=by unfold Pw.cn;lia
 have k1:0<=A.2 * Pw.mp ps j:=Z4j 00 00;have k2:A.2 * Pw.mp ps j<=A.2 * 100:=Int.mul_le_mul_of_nonneg_left hm.2 00;have k3:0<=(A.2 - A.1) * Pw.cn ps j i:=Z4j 00 b.1;have p:(A.2 - A.1) * Pw.cn ps j i<=(A.2 - A.1) * 100:=Int.mul_le_mul_of_nonneg_left b.2 00;unfold Pw.fac;split <;> lia;split;have d:Pw.YA ps A ss n:=h;by_cases hi:i<ss.length;have hm:ss.getD i 0∈ss:=Z1q (Xf hi);have b1:=c _ hm;have b2:=h.nn _ hm;have:((2:Int) ^ z)=((2 ^ z:Nat):Int):=by push_cast;rfl
 rw[this] at b1;lia;rw[Z05,List.getElem?_eq_none 00];simp;simp;simp
noncomputable def z0c(K:FR):Sp:=λvs H Q _=>∃ (w lp ls:Addr) (pages:Int) (ps:LI) (A:Int×Int) (Bs:LI) (us:List V) (S:Int) (z:Nat),vs=[.ref w,.ref lp,.ref ls]/\Gv K H w lp ls pages ps A Bs us/\Pr A Bs S/\pages<=12/\z<=140/\Vz z A/\Sz z S/\
 ∀ (p:Addr) (H':Hp) (ss:List Int) (L:Int),Pw.YA ps A ss pages.toNat->0<L->(∀ t,t<pages.toNat->(ss.getD t 0:Rat)=Pw.val 025 * (L:Rat))->(∀ j,j<pages.toNat->Sz ((z+11) * 13+8) (Pw.vS ps A ss pages.toNat j))->zC H H'->H' p=some (.lst (ZN (Pw.vS ps A ss pages.toNat) pages.toNat))->Q (.ref p) H'
noncomputable def uR(K:FR):Sp:=λvs H Q _=>∃ (w lp ls:Addr) (pages:Int) (ps:LI) (A:Int×Int) (Bs:LI) (us:List V) (S:Int) (z:Nat),vs=[.ref w,.ref lp,.ref ls]/\Gv K H w lp ls pages ps A Bs us/\Pr A Bs S/\pages<=12/\z<=140/\Vz z A/\Sz z S/\
 ∀ (t:Addr) (H':Hp) (Ss:LI) (V':Int) (a:List V),Pw.ZU ps A Bs pages.toNat Ss->0<V'->Sz ((z+11) * 13+20) V'->(∀ S∈Ss,S.2∣V')->zC H H'->H' t=some (.tup a)->yK K H' Ss a->Q (.ref t) H'
end L2
namespace Pw
def Z3y(ca:Canon A)(cb:ZK Bs)(hn:Bs.length=n)(pr:L2.Pr A Bs S)(i:t<n):val A * val 025<=val ((y9 ps A Bs (j:Nat)).getD t (0,1)):=by
 rw[VQ ca cb hn i];have a0:=z3r ca.1 (by have:=pr.a0;lia);have a1:=Z0F ca.1 pr.a1;have b:=L2.mem_getD (Bs:=Bs) (t:=t) 00;have b0:=z3r (cb _ b).1 (pr.nn _ b);split;have:=yL (a:=1 - val A) (by grind) b0;grind;rename_i h;have c:(0:Rat)<(((outs ps (j:Int)).length:Nat):Rat):=cpos (d:=(((outs ps (j:Int)).length:Nat):Int)) (by have:=Z4N.mpr h;lia);have f:=z6B (cnn (d:=cn ps j t) (by unfold cn;lia)) c;have:=yL (a:=1 - val A) (by grind) f;grind
def ZU.unique(lk:∀ p∈ps,0<=p.2/\p.2<(n:Int))(ca:Canon A)(cb:ZK Bs)(hn:Bs.length=n)(pr:L2.Pr A Bs S)(h:ZU ps A Bs n Ss)(h':ZU ps A Bs n Ts):Ss=Ts:=by
 have one:=pr.one;rw[hn] at one;have u:=Pw.unique (n:=n) (W:=λi t=>val ((y9 ps A Bs i).getD t (0,1))) (B:=λt=>val 025) (a:=val A) (x:=λt=>val (Ss.getD t (0,1))) (y:=λt=>val (Ts.getD t (0,1)))
  (by
   have f:=cpos ca.1;have c:=cpos pr.a0;unfold val;rw[Rat.div_def];exact Rat.mul_pos c (Rat.inv_pos.mpr f))
  (λi t _ b=>Z3y ca cb hn pr b) (λi _=>z6F lk ca cb hn one) one (by rw[h.one,h'.one]) (λt b=>h.stay t b) (λt b=>h'.stay t b)
 refine List.ext_getElem (by rw[h.len,h'.len]) λi c d=>?_;have:=u i (by have:=h.len;lia);rw[Z05,Z03 c,Z05,Z03 d] at this;exact val_inj (h.canon _ (Z1z c)) (h'.canon _ (Z1z d)) this
def ZU.le1(h:ZU ps A Bs n Ss):∀ S∈Ss,S.1<=S.2:=by
 intro S b;obtain⟨i,hi,rfl⟩:=Z4P b;have c:=h.canon _ (Z1z hi);have a:=z7h (n:=n) (k:=i) (f:=λt=>val (Ss.getD t (0,1))) (by have:=h.len;lia) λt o=>by
  have:=L2.mem_getD (Bs:=Ss) (t:=t) (by have:=h.len;lia);exact z3r (h.canon _ this).1 (h.nn _ this)
 rw[h.one] at a;rw[Z05,Z03 hi] at a;have a:val Ss[i]<=1:=a;have d:=cpos c.1;have j:=xR a (Rat.le_of_lt d);have l:=ZL (Z5 c);have e:val Ss[i] * (Ss[i].2:Rat)=(Ss[i].1:Rat):=by unfold val;grind
 rw[e] at j;have m:(Ss[i].1:Rat)<=(Ss[i].2:Rat):=by grind
 exact Z23.mp m
end Pw
namespace L2
theorem z1T:∀ {ns:List Int}{s:Int},(∀ n∈ns,0<=n)->s∈ns->s<=ns.sum
 | n :: ns,s,h,a=>by
   have b:=Pw.z7G λm hm=>h m (Z06 _ hm);have c:=h n Z09;rw[List.sum_cons];rcases Z08.mp a with rfl | a;lia;have:=z1T (λm hm=>h m (Z06 _ hm)) a
   lia
def Rw.Z6A(h:Pw.ZU ps A Bs n Ss)(d:0<V')(i:z<=140)(b:Sz ((z+11) * 13+20) V')(c:∀ S∈Ss,S.2∣V'):Rw Ss n V' 1 where
 len:=h.len
 canon:=h.canon
 dpos:=d
 cpos:=01
 dvd:=c
 bnd:=λR a=>by
  have f:=h.nn R a;have l:=h.le1 R a;have j:=(h.canon R a).1;lia
 sz:=by rw[Int.one_mul];exact b.mono 00
end L2
namespace Pw
def Z2E(hn:1<=n)(h:∀ t,t<n->B t=1 / (n:Rat)):qs n B=1:=by
 have a:((n:Nat):Rat)≠0:=ZL (d:=(n:Int)) 00;have key:∀ m,qs m (λ_=>1 / (n:Rat))=(m:Rat) * (1 / (n:Rat)):=λm=>by
  induction m with
  | zero=>show (0:Rat)=((0:Nat):Rat) * _;simp
  | succ m ih =>
    show qs m _+_=_;rw[ih];have:((m+1:Nat):Rat)=(m:Rat)+1:=(by push_cast;rfl);rw[this];grind
 rw[zT h,key];grind
def Z0H(h:ms.Perm ps)(j i:Nat):cn ms j i=cn ps j i:=by
 rw[← UB,← UB,h.count_eq]
end Pw
namespace L2
def Z4W(few:ps.length<=100)(lk:∀ p∈ps,0<=p.2/\p.2<(n:Int))(ca:Pw.Canon A)(cb:Pw.ZK Bs)(hn:Bs.length=n)(n12:n<=12)(pr:Pr A Bs S)(sz:Sz z A.2)(sS:Sz z S) :
 ∃ (Ss:LI) (V':Int),Pw.ZU ps A Bs n Ss/\0<V'/\Sz ((z+11) * 13+20) V'/\∀ R∈Ss,R.2∣V':=by
 have b:(Pw.yx Bs S).length=n:=by unfold Pw.yx;rw[ZB];exact hn
 have u:∀ t,t<n->((Pw.yx Bs S).getD t 0:Rat)=Pw.val 025 * (S:Rat):=λt l=>by
  have q:t<Bs.length:=00
  have i:Bs[t]?=some Bs[t]:=05
  have G:(Pw.yx Bs S).getD t 0=Bs[t].1 * (S.fdiv Bs[t].2):=by
   unfold Pw.yx;rw[Z05,Z17,i];rfl
  have F:Bs.getD t (0,1)=Bs[t]:=by rw[Z05,i];rfl
  have v:=Z1z q;rw[G,F,Pw.Jh (cb _ v).1 pr.spos (pr.sdvd _ v)]
 have one:=pr.one;rw[hn] at one;have a:∀ s∈Pw.yx Bs S,0<=s:=λs o=>by
  obtain⟨B,f,rfl⟩:=Z18.mp o;have c:=(cb B f).1;exact Z4j (pr.nn B f) (by rw[Z36 _ 00];exact Int.ediv_nonneg (Z51 pr.spos) 00)
 have d:(Pw.yx Bs S).sum=S:=by
  have r:=Pw.VE (Pw.yx Bs S);rw[b,Pw.zT (g:=λt=>(S:Rat) * Pw.val 025) λt l=>by rw[u t l];grind,Pw.Zc,one] at r;have:(S:Rat)=((Pw.yx Bs S).sum:Rat):=by rw[← r];grind
  exact_mod_cast this.symm
 have h:Pw.YA ps A (Pw.yx Bs S) n:=⟨lk,pr.a0,pr.a1,b,a,by rw[d];exact pr.spos⟩;have sle:∀ s∈Pw.yx Bs S,s<=2 ^ z:=λs o=>by
  have J:s<=(Pw.yx Bs S).sum:=z1T a o;have I:S.natAbs<2 ^ z:=sS;have:((2:Int) ^ z)=((2 ^ z:Nat):Int):=by push_cast;rfl
  rw[this];lia
 have C:=z7j few h sz sle;obtain⟨H,K⟩:=z6w h.sgn 00 C (k:=n) (Z02 _);have D:∀ j,j<n->Sz ((z+11) * 13+8) (Pw.vS ps A (Pw.yx Bs S) n j):=λj E=>by
  have y:=Pw.YF ps (j:Int);have w:Sz 7 (Pw.mp ps j):=yk 7 (by unfold Pw.mp;lia);exact (w.mul (H j _ E (Z02 _))).mono 00
 refine⟨Pw.shL ps A (Pw.yx Bs S) n,Pw.VS ps A (Pw.yx Bs S) n,Pw.z7k h ca cb hn pr.spos u one,h.z4k,?_,λR i=>?_⟩;refine (z2V (k:=(z+11) * 13+8) λm hm=>?_).mono (by rw[ZB,Z29];lia);obtain⟨t,l,rfl⟩:=Z18.mp hm;exact D t (Z25.mp l);obtain⟨t,_,rfl⟩:=Z18.mp i;exact Pw.z8S (Pw.Fr.made (by have:=h.z4k;lia))
def zG(h:∀ R:St->Hp->Prop,R=u D->t { D with nx:=R } σ H):xj t u D σ H:=h _ rfl
structure z8v(z TI TO i1 i2:Addr)(f1 f2:List Addr):Prop where
 a1:TI≠z
 a2:TO≠z
 a3:i1≠z
 a4:i2≠z
 a5:TI≠TO
 a6:TI≠i1
 a7:TI≠i2
 a8:TO≠i1
 a9:TO≠i2
 b0:i1≠i2
 b1:z∉f1
 b2:z∉f2
 b3:TO∉f1
 b4:TO∉f2
 b5:i2∉f1
 b6:i1∉f2
def Draws.but{St:Nat->Heap->Prop}(D:Draws prog w A it f n Pp St)(a:c∉f)(x:Heap.ExtBut c h h')(st:St i h):St i h' :=
 D.frame i h h' st λb d o e=>x b o (λy=>a (y ▸ d)) e
def z5h{prog:Program}{w:World}{A:Around}{E:Value->Shared->Prop}{s:Shared}{z TI TO i1 i2:Addr}{f1 f2:List Addr}{n1 U k:Nat}{P1 P2:Nat->Value->Prop}{S1 S2:Nat->Heap->Prop}{a b:Value}{Q:Value->Shared->Prop}(D1:Draws prog w A i1 f1 n1 P1 S1)(D2:Draws prog w A i2 f2 U P2 S2)(Z:z8v z TI TO i1 i2 f1 f2)
 (D:IsZip s.heap z TI TO .none) (gI:IsPair s.heap TI (.ref i1) (.ref i2)) (gO:IsPair s.heap TO a b) (g1:S1 k s.heap) (g2:S2 k s.heap) (l1:k<n1) (l2:k<U)
 (q:∀ x y l tk,P1 k x->P2 k y->IsZip l z TI TO (rawInt s.heap.objs.size)->IsPair l TO x y->S1 (k+1) l->S2 (k+1) l->IsPair l s.heap.objs.size x y->
  (∀ c o,c≠z->c≠TO->c≠i1->c≠i2->s.heap.get? c=some o->l.get? c=some o)->Q 023 { s with heap:=l,toks:=tk }) :
 wpAny 09 A (Builtin.«zip.__next__» ⟨[.ref z],[]⟩) (λfin s'=>∃ v,fin=.done (.ret v)/\Q v s') E s:=by
 show wpAny _ _ (field (.ref z) 2 >>= _) _ _ _;refine wpAny_bind (wpAny_field D rfl (x:=.bool false) rfl ?_);show wpAny _ _ (field (.ref z) 3 >>= _) _ _ _;refine wpAny_bind (wpAny_field D rfl (x:=.ref TI) rfl (wpAny_bind (wpAny_seqItems gI rfl ?_)));show wpAny _ _ (Builtin.SmallTypes.ownedTupleIsFree (.ref z) >>= _) _ _ _;refine wpAny_bind ?_;unfold Builtin.SmallTypes.ownedTupleIsFree;refine wpAny_bind (wpAny_field D rfl (x:=.none) rfl (wpAny_pure ?_));simp only[if_true];refine wpAny_bind (wpAny_rule (wpAny_bind (wpAny_field D rfl (x:=.ref TO) rfl (wpAny_bind (wpAny_setField_rec D 05 λp1 n t1=>?_)))));replace n:IsZip p1 z TI TO .ellipsis:=n;refine wpAny_bind ?_;simp only[List.zipIdx_cons,List.zipIdx_nil,Z5x,List.forIn_nil];refine wpAny_bind (wpAny_bind (wpAny_onRaise ?_));show wpAny _ _ (Builtin.SmallTypes.nextOf (.ref i1) >>= _) _ _ _;refine wpAny_bind (D1.item k _ _ _ l1 (Draws.but D1 Z.b1 t1.extBut g1) λx p2 tk2 px N B=>wpAny_pure ?_);have r:IsPair p2 TO a b:=B.extBut _ _ Z.a8 (t1.extBut _ _ Z.a2 gO);refine wpAny_bind (wpAny_seqItems r rfl (wpAny_bind (wpAny_updateSeq_pair r λp3 i t3=>?_)));replace i:IsPair p3 TO x b:=i;refine wpAny_bind (wpAny_letGo (wpAny_pure ?_));refine wpAny_bind (wpAny_bind (wpAny_onRaise ?_));show wpAny _ _ (Builtin.SmallTypes.nextOf (.ref i2) >>= _) _ _ _;refine wpAny_bind (D2.item k _ _ _ l2 (Draws.but D2 Z.b4 t3.extBut (Draws.but D2 Z.b6 B.extBut (Draws.but D2 Z.b2 t1.extBut g2))) λy p4 I py S F=>wpAny_pure ?_);have p:IsPair p4 TO x b:=F.extBut _ _ Z.a9 i;refine wpAny_bind (wpAny_seqItems p rfl (wpAny_bind (wpAny_updateSeq_pair p λd h C=>?_)));replace h:IsPair d TO x y:=h;refine wpAny_bind (wpAny_letGo (wpAny_pure (wpAny_pure ?_)));refine wpAny_bind (wpAny_seqItems h rfl (wpAny_bind (wpAny_newTuple ?_)));have sz:d.objs.size=s.heap.objs.size:=by rw[C.1,F.1,t3.1,B.1,t1.1]
 have t:IsZip d z TI TO .ellipsis:=C.extBut _ _ Z.a2.symm (F.extBut _ _ Z.a4.symm (t3.extBut _ _ Z.a2.symm (B.extBut _ _ Z.a3.symm n)));have P:∀ c o,c≠z->c≠TO->c≠i1->c≠i2->s.heap.get? c=some o->d.get? c=some o:=λc o m H R O e=>C.extBut _ _ H (F.extBut _ _ O (t3.extBut _ _ H (B.extBut _ _ R (t1.extBut _ _ m e))));have J:S1 (k+1) d:=Draws.but D1 Z.b3 C.extBut (Draws.but D1 Z.b5 F.extBut (Draws.but D1 Z.b3 t3.extBut N));have M:S2 (k+1) d:=Draws.but D2 Z.b4 C.extBut S;have X:z<d.objs.size:=Z0k t;show wpAny _ _ (Builtin.SmallTypes.ownedTupleHandOut (.ref z) (.ref d.objs.size) >>= _) _ _ _;refine wpAny_bind ?_;unfold Builtin.SmallTypes.ownedTupleHandOut;have K:IsZip (d.push { cls:=.type "tuple",data:=.seq #[x,y] }) z TI TO .ellipsis:=Z00 _ t;refine wpAny_bind (wpAny_setField_rec K 05 λp7 j Y=>?_);replace j:IsZip p7 z TI TO (rawInt d.objs.size):=j;refine wpAny_setField_rec j 05 λG f T=>?_;replace f:IsZip G z TI TO (rawInt d.objs.size):=f;have up:∀ c o,c≠z->d.get? c=some o->G.get? c=some o:=λc o m e=>T.extBut _ _ m (Y.extBut _ _ m (Z00 _ e));have u:IsPair G d.objs.size x y:=T.extBut _ _ (Z40 X) (Y.extBut _ _ (Z40 X) (Z0r _ rfl));rw[sz] at f u;refine wpAny_pure ⟨_,rfl,?_⟩;show Q (.ref d.objs.size) _;rw[sz];exact q x y G I px py f (up _ _ Z.a2 h) (D1.frame _ _ _ J λb L o e=>up _ o (λy=>Z.b1 (y ▸ L)) e) (D2.frame _ _ _ M λb L o e=>up _ o (λy=>Z.b2 (y ▸ L)) e) u λc o m H R O e=>up c o m (P c o m H R O e)
def z8w{TI TO:Addr}{f2:List Addr}{k:Nat}(D1:Draws prog w A i1 f1 n1 P1 S1)(D2:Draws prog w A i2 f2 n2 P2 S2)(Z:z8v z TI TO i1 i2 f1 f2)(m:IsZip s.heap z TI TO .none)(P:IsPair s.heap TI (.ref i1) (.ref i2))(K:IsPair s.heap TO a b)(g1:S1 k s.heap)(g2:S2 k s.heap)(S:k=n1\/(k<n1/\k=n2))(q:∀ r e G,(∀ c o,c≠z->c≠TO->c≠i1->c≠i2->s.heap.get? c=some o->r.get? c=some o)->(∃ o,r.get? e=some o/\o.cls=.type "StopIteration")->E (.ref e) { s with heap:=r,toks:=G }) :
 wpAny 09 A (Builtin.«zip.__next__» ⟨[.ref z],[]⟩) Q E s:=by
 show wpAny _ _ (field (.ref z) 2 >>= _) _ _ _;refine wpAny_bind (wpAny_field m rfl (x:=.bool false) rfl ?_);show wpAny _ _ (field (.ref z) 3 >>= _) _ _ _;refine wpAny_bind (wpAny_field m rfl (x:=.ref TI) rfl (wpAny_bind (wpAny_seqItems P rfl ?_)));show wpAny _ _ (Builtin.SmallTypes.ownedTupleIsFree (.ref z) >>= _) _ _ _;refine wpAny_bind ?_;unfold Builtin.SmallTypes.ownedTupleIsFree;refine wpAny_bind (wpAny_field m rfl (x:=.none) rfl (wpAny_pure ?_));simp only[if_true];refine wpAny_bind (wpAny_rule (wpAny_bind (wpAny_field m rfl (x:=.ref TO) rfl (wpAny_bind (wpAny_setField_rec m 05 λJ h t1=>?_)))));replace h:IsZip J z TI TO .ellipsis:=h;refine wpAny_bind ?_;simp only[List.zipIdx_cons,List.zipIdx_nil,Z5x,List.forIn_nil];refine wpAny_bind (wpAny_bind (wpAny_onRaise ?_));show wpAny _ _ (Builtin.SmallTypes.nextOf (.ref i1) >>= _) _ _ _;rcases S with e |⟨y,e⟩;subst e;refine wpAny_bind (D1.done _ _ _ (Draws.but D1 Z.b1 t1.extBut g1) λv e i he=>?_)
 obtain⟨t,d,f⟩:=he;have l:IsZip v z TI TO .ellipsis:=i _ _ Z.a3.symm h;have u:e≠z:=λx=>by subst x;rw[l] at d;cases d;simp at f
 exact wpAny_setField_rec l 05 λD _ t3=>q D e _ (λc o n _ B _ x=>t3.extBut _ _ n (i _ _ B (t1.extBut _ _ n x))) ⟨t,t3.extBut _ _ u d,f⟩;subst e;refine wpAny_bind (D1.item k _ _ _ y (Draws.but D1 Z.b1 t1.extBut g1) λx v L T M i=>wpAny_pure ?_);have p:IsPair v TO a b:=i.extBut _ _ Z.a8 (t1.extBut _ _ Z.a2 K);refine wpAny_bind (wpAny_seqItems p rfl (wpAny_bind (wpAny_updateSeq_pair p λD I t3=>?_)));refine wpAny_bind (wpAny_letGo (wpAny_pure (wpAny_bind (wpAny_bind (wpAny_onRaise ?_)))));show wpAny _ _ (Builtin.SmallTypes.nextOf (.ref i2) >>= _) _ _ _;refine wpAny_bind (D2.done _ _ _ (Draws.but D2 Z.b4 t3.extBut (Draws.but D2 Z.b6 i.extBut (Draws.but D2 Z.b2 t1.extBut g2))) λH e F he=>?_);obtain⟨t,d,f⟩:=he;have j:IsZip H z TI TO .ellipsis:=F _ _ Z.a4.symm (t3.extBut _ _ Z.a2.symm (i.extBut _ _ Z.a3.symm h));have u:e≠z:=λx=>by subst x;rw[j] at d;cases d;simp at f
 exact wpAny_setField_rec j 05 λN _ C=>q N e _ (λc o n R B O x=>C.extBut _ _ n (F _ _ O (t3.extBut _ _ R (i.extBut _ _ B (t1.extBut _ _ n x))))) ⟨t,C.extBut _ _ u d,f⟩
noncomputable def ZSt(z TI TO i1 i2:Addr)(S1 S2:Nat->Heap->Prop)(i:Nat)(h:Heap):Prop:=IsZip h z TI TO .none/\IsPair h TI (.ref i1) (.ref i2)/\(∃ a b,IsPair h TO a b)/\S1 i h/\S2 i h
noncomputable def Z5s(z TI TO i1 i2:Addr)(S1 S2:Nat->Heap->Prop)(i:Nat)(T:Addr)(h:Heap):Prop:=IsZip h z TI TO (rawInt T)/\IsPair h TI (.ref i1) (.ref i2)/\(∃ a b,IsPair h TO a b)/\S1 (i+1) h/\S2 (i+1) h/\T≠z/\T≠TO/\T≠i1/\T≠i2
def Z1e{TI TO:Addr}{f2:List Addr}(D1:Draws prog w A.in1 i1 f1 n1 P1 S1)(D2:Draws prog w A.in1 i2 f2 n2 P2 S2)(Z:z8v z TI TO i1 i2 f1 f2) :
 z8G prog w A z [z,TO,i1,i2] (min n1 n2) (λi vals=>∃ x y,P1 i x/\P2 i y/\vals=#[x,y]) (ZSt z TI TO i1 i2 S1 S2) (Z5s z TI TO i1 i2 S1 S2):=λi s Q E hi st q=>by
 obtain⟨f,l,⟨a,b,j⟩,g1,g2⟩:=st;have h:s.TypeIs (.ref z) "zip":=⟨_,f,rfl⟩;have gt:∀ {c:Addr}{o:Obj},s.heap.get? c=some o->s.heap.objs.size≠c:=λe=>Z40 (Z0k e);unfold pyNext;refine wpAny_bind (wpAny_attempt (wpAny_callSpecial?_slot (name:=Str.ofString "__next__") h F.slot_zip_next (wpAny_call_entry F.slot_zip_next h F.entry_zip_next
  (z5h D1 D2 Z f l j g1 g2 (Z0X hi (Nat.min_le_left ..)) (Z0X hi (Nat.min_le_right ..)) λx y m n p py a1 a2 a3 a4 a5 kp=>wpAny_pure ?_) (F.args_zip_next_1 _))))
 exact q _ _ _ m n ⟨_,_,p,py,rfl⟩ (Z02 _) a5 ⟨a1,kp _ _ Z.a1 Z.a5 Z.a6 Z.a7 l,⟨_,_,a2⟩,a3,a4,gt f,gt j,(by obtain⟨_,e⟩:=D1.live _ _ g1;exact gt e),(by obtain⟨_,e⟩:=D2.live _ _ g2;exact gt e)⟩
  λc o d e=>kp c o (λy=>d (by simp[y])) (λy=>d (by simp[y])) (λy=>d (by simp[y])) (λy=>d (by simp[y])) e
def walkZ{TI TO:Addr}{f2:List Addr}(D1:Draws prog w A.in1 i1 f1 n1 P1 S1)(D2:Draws prog w A.in1 i2 f2 n2 P2 S2)(Z:z8v z TI TO i1 i2 f1 f2) :
 WalksT prog w A z ([z,TI,TO,i1,i2] ++ (f1 ++ f2)) [z,TO,i1,i2] (min n1 n2) (λi vals=>∃ x y,P1 i x/\P2 i y/\vals=#[x,y]) (ZSt z TI TO i1 i2 S1 S2) (Z5s z TI TO i1 i2 S1 S2) where
 sub:=λc d=>by
  simp at d ⊢;rcases d with rfl | rfl | rfl | rfl <;> simp
 frame:=λi h h' st l=>by
  obtain⟨m,p,⟨a,b,n⟩,g1,g2⟩:=st;exact⟨l z 05 _ m,l TI 05 _ p,⟨a,b,l TO 05 _ n⟩,D1.frame _ _ _ g1 λb r o e=>l b (by simp[r]) o e,D2.frame _ _ _ g2 λb r o e=>l b (by simp[r]) o e⟩
 item:=λi s Q E hi st f=>Z1e D1 D2 Z i s Q E hi st λT x y h' u pt j B mid kp=>f T #[x,y] h' u pt j ⟨_,B,rfl,_,rfl⟩ mid kp
 go:=λelts k pos i T s Q E hm f=>by
  obtain⟨m,p,⟨a,b,n⟩,g1,g2,_⟩:=hm;exact wpAny_letOwnedTupleGo_zip m λh' q t=>f h' ⟨q,t.extBut _ _ Z.a1 p,⟨a,b,t.extBut _ _ Z.a2 n⟩,Draws.but D1 Z.b1 t.extBut g1,Draws.but D2 Z.b2 t.extBut g2⟩ λc o d e=>t.extBut _ _ (λx=>d (by simp[x])) e
 apart:=λi T h hm j=>by
  obtain⟨_,_,_,_,_,t1,v,t3,D⟩:=hm;simp at j;rcases j with y | y | y | y;exact t1 y;exact v y;exact t3 y;exact D y
 done:=λs Q E st f=>by
  obtain⟨m,p,⟨a,b,n⟩,g1,g2⟩:=st;have j:s.TypeIs (.ref z) "zip":=⟨_,m,rfl⟩;unfold pyNext;refine wpAny_bind (wpAny_attempt (wpAny_callSpecial?_slot (name:=Str.ofString "__next__") j F.slot_zip_next (wpAny_call_entry F.slot_zip_next j F.entry_zip_next (z8w D1 D2 Z m p n g1 g2 00 λh' e u l he=>?_) (F.args_zip_next_1 _))));obtain⟨o,C,d⟩:=he;refine wpAny_bind (wpAny_isInstance (T:="StopIteration") (b:=true) ⟨o,C,d⟩ isSubtype_stop (wpAny_pure ?_));exact f _ _ λc o d e=>l c o (λx=>d (by simp[x])) (λx=>d (by simp[x])) (λx=>d (by simp[x])) (λx=>d (by simp[x])) e
 self:=λi s Q E st f=>wpAny_pyIter_zip st.1 f
noncomputable def xu(b:Bool)(h:Heap)(it a:Addr)(i:Nat):Prop:=if b=true then h.IsListIter it a i else h.IsTupleIter it a i
noncomputable def vX(b:Bool)(h:Heap)(a:Addr)(its:Array Value):Prop:=if b=true then h.IsList a its else h.IsTuple a its
def Je(b:Bool)(c:A.handled=none)(it l:Addr)(a:l≠it)(its:Array Value) :
 Draws prog w A it [it,l] its.size (λi v=>its[i]?=some v) (λi h=>xu b h it l i/\vX b h l its):=by
 cases b;exact Z3H c it l a its;exact Draws.list c it l a its
def Inv.z5S{X:Cx}{σ:St}(I:Inv X pins σ H s)(h:Sq b X.K H a xs):∃ its:List Value,Vals xs its/\vX b s.heap a its.toArray:=by
 cases b;obtain⟨its,r,p,_⟩:=I.tuple h;exact⟨its,r,p⟩;obtain⟨its,r,p,_⟩:=I.list h;exact⟨its,r,p.isList⟩
def Inv.J2{X:Cx}{σ:St}(I:Inv X pins σ H s)(h:Sq b X.K H a xs)(h':Sq b X.K H a ys):xs=ys:=by
 cases b;exact I.yY h h';exact I.QH h h'
def xu.at(x:xu b h it a i)(k:∀ o,h.get? it=some o->h'.get? it=some o):xu b h' it a i:=by
 cases b;obtain⟨o,e,r⟩:=x;exact⟨o,k o e,r⟩;obtain⟨o,e,r⟩:=x;exact⟨o,k o e,r⟩
def xu.obj(x:xu b h it a i):∃ o,h.get? it=some o/\∀ v,o.data≠.cell v:=by
 cases b;obtain⟨o,e,c,d⟩:=x;exact⟨o,e,λv z=>by rw[d] at z;cases z⟩;obtain⟨o,e,c,d⟩:=x;exact⟨o,e,λv z=>by rw[d] at z;cases z⟩
noncomputable def Z2u(b1 b2:Bool)(K:FR)(a b:Addr):It:=ItP (λi H=>∃ xs c x y,Sq b1 K H a xs/\Sq b2 K H b c/\xs[i]?=some x/\c[i]?=some y) (λi H u v=>(∀ xs,Sq b1 K H a xs->xs[i]?=some u)/\∀ c,Sq b2 K H b c->c[i]?=some v) (λi H=>∃ xs c,Sq b1 K H a xs/\Sq b2 K H b c/\min xs.length c.length=i)
noncomputable def z8F(z TI TO i1 i2 a b:Addr):Prop:=z8v z TI TO i1 i2 [i1,a] [i2,b]/\a≠i1/\b≠i2
def z5l{TI TO:Addr}(Z:z8F z TI TO i1 i2 l1 l2):Turn P w K (.Tuple elts ek epos) (Z2u b1 b2 K l1 l2) [z,TI,TO,i1,i2] z (λi h=>IsZip h z TI TO .none/\IsPair h TI (.ref i1) (.ref i2)/\(∃ a b,IsPair h TO a b)/\xu b1 h i1 l1 i/\xu b2 h i2 l2 i):=by
 obtain⟨Z,n1,S⟩:=Z;refine Ux (wr:=[z,TO,i1,i2]) 05 (λb r=>?_) (λi h st b r=>?_) (λi h h' st k=>?_) (λA i s Q E st q=>?_) ?_ ?_;simp at r ⊢;rcases r with y | y | y | y <;> simp[y];obtain⟨g1,g2,⟨x,y,g3⟩,j,l⟩:=st;simp at r;rcases r with y | y | y | y | y;exact⟨_,y ▸ g1,λv z=>by cases z⟩
 exact⟨_,y ▸ g2,λv z=>by cases z⟩;exact⟨_,y ▸ g3,λv z=>by cases z⟩;rw[y];exact j.obj;rw[y];exact l.obj;obtain⟨g1,g2,⟨x,y,g3⟩,j,l⟩:=st;exact⟨k z 05 _ g1,k TI 05 _ g2,⟨x,y,k TO 05 _ g3⟩,j.at λo e=>k i1 05 o e,l.at λo e=>k i2 05 o e⟩;exact wpAny_pyIter_zip st.1 q;intro X hP O n t i pins s σ H I0 hf st L;obtain⟨xs,C,x,y,m,c,B,G⟩:=L;rw[← n] at m c;obtain⟨its,D,p⟩:=I0.z5S m;obtain⟨its',f,M⟩:=I0.z5S c;obtain⟨u,U,ru⟩:=D.get B;obtain⟨u',J,I⟩:=f.get G;have hl:=D.length;have R:=f.length;have hix:i<xs.length:=(Z16.mp B).1;have Y:i<C.length:=(Z16.mp G).1;obtain⟨g1,g2,g3,j,l⟩:=st;have D1:=Je (prog:=P) (w:=w) (A:=X.A.in1) b1 (I0.ok.hd t) i1 l1 n1 its.toArray;have D2:=Je (prog:=P) (w:=w) (A:=X.A.in1) b2 (I0.ok.hd t) i2 l2 S its'.toArray;refine⟨_,_,_,_,_,⟨walkZ D1 D2 Z,Z1e D1 D2 Z⟩,by rw[Z04,Z04];lia,⟨g1,g2,g3,⟨j,p⟩,⟨l,M⟩⟩,λh' q=>⟨q.1,q.2.1,q.2.2.1,q.2.2.2.1.1,q.2.2.2.2.1⟩,?_⟩;rintro vals ⟨v,v',hv,N,rfl⟩;have F:its[i]?=some v:=by simpa using hv
 have T:its'[i]?=some v':=by simpa using N
 rw[U] at F;rw[J] at T;cases F;cases T;exact⟨x,y,_,_,rfl,ru,I,λC d=>by rw[← n] at d;rw[I0.J2 d m];exact B,λC d=>by rw[← n] at d;rw[I0.J2 d c];exact G⟩;intro X hP O n t i pins s σ H I0 hf st L;obtain⟨xs,C,m,c,B⟩:=L;rw[← n] at m c;obtain⟨its,D,p⟩:=I0.z5S m;obtain⟨its',f,M⟩:=I0.z5S c;have hl:=D.length;have R:=f.length;obtain⟨g1,g2,g3,j,l⟩:=st;have F:min its.toArray.size its'.toArray.size=i:=by rw[Z04,Z04];lia
 refine⟨_,_,_,_,_,walkZ (Je (prog:=P) (w:=w) (A:=X.A.in1) b1 (I0.ok.hd t) i1 l1 n1 its.toArray) (Je (prog:=P) (w:=w) (A:=X.A.in1) b2 (I0.ok.hd t) i2 l2 S its'.toArray) Z,?_⟩;rw[F];exact⟨g1,g2,g3,⟨j,p⟩,⟨l,M⟩⟩
noncomputable def itO(b:Bool)(l:Addr):Obj:=if b=true then { cls:=.type "list_iterator",data:=.fields #[.ref l,.int 0 0] } else { cls:=.type "tuple_iterator",data:=.fields #[.ref l,.int 0 0] }
noncomputable def zH(b1 b2:Bool)(h:Heap)(a b:Addr):Heap:=((((h.push (itO b1 a)).push (itO b2 b)).push { cls:=.type "tuple",data:=.seq #[.ref h.objs.size,.ref (h.objs.size+1)] }).push { cls:=.type "tuple",data:=.seq #[.none,.none] }).push { cls:=.type "zip",data:=.fields #[.none,.bool false,.bool false,.ref (h.objs.size+2),.ref (h.objs.size+3)] }
def jU(a:vX b s.heap l its)(q:Q 023 { s with heap:=s.heap.push (itO b l) }):wpAny 09 A (pyIter (.ref l)) Q E s:=by
 cases b;exact wpAny_pyIter_tuple a q;exact wpAny_pyIter_list a q
def vX.push(x:vX b h l its)(o:Obj):vX b (h.push o) l its:=by
 cases b;obtain⟨u,e,r⟩:=x;exact⟨u,Z00 _ e,r⟩;obtain⟨u,e,r⟩:=x;exact⟨u,Z00 _ e,r⟩
def z8N(b1 b2:Bool)(a b:Addr)(xs o:Array Value) :
 Meets (Builtin.«zip.__new__» ⟨[.type "zip",.ref a,.ref b],[]⟩) (λ_ R s=>vX b1 s.heap a xs/\vX b2 s.heap b o/\R (.ok (.ret (.ref (s.heap.objs.size+4)))) { s with heap:=zH b1 b2 s.heap a b }) :=
 .of_wp λprog w A R s h=>by
  obtain⟨l,g,d,n,os⟩:=s;obtain⟨i,f,h⟩:=h;have m:=sub_zip;have j:vX b1 (Shared.heap ⟨l,g,d,n,os⟩) a xs:=i;have c:vX b2 (Shared.heap ⟨l.push (itO b1 a),g,d,n,os⟩) b o:=f.push _;wp_walk using jU j,jU c;refine⟨_,rfl,?_⟩;simp only[Z5h];exact h
def z5K(h:vX b1 s.heap l1 xs)(f:vX b2 s.heap l2 ys)(q:∀ a,IsZip a (s.heap.objs.size+4) (s.heap.objs.size+2) (s.heap.objs.size+3) .none->IsPair a (s.heap.objs.size+2) 023 (.ref 021)->IsPair a (s.heap.objs.size+3) .none .none->xu b1 a s.heap.objs.size l1 0->xu b2 a 021 l2 0->
  (∀ c o,s.heap.get? c=some o->a.get? c=some o)->Q (.ref (s.heap.objs.size+4)) { s with heap:=a }):wpAny 09 A (call (.type "zip") [.ref l1,.ref l2]) Q E s:=by
 refine callType_new F.called_zip 01 (F.typeCall_zip_2 _ _) (F.newCall_zip_2 _ _) (λobj=>F.args_object_init_3 obj _ _) F.entry_zip_new (z8N b1 b2 l1 l2 xs ys) ⟨h,f,?_⟩;generalize hn:s.heap.objs.size=n at q;have p:(s.heap.push (itO b1 l1)).objs.size=n+1:=by rw[Z5h,hn]
 have m:((s.heap.push (itO b1 l1)).push (itO b2 l2)).objs.size=n+2:=by rw[Z5h,p]
 have j:(((s.heap.push (itO b1 l1)).push (itO b2 l2)).push { cls:=.type "tuple",data:=.seq #[.ref s.heap.objs.size,.ref 021] }).objs.size=n+3:=by rw[Z5h,m]
 have r:((((s.heap.push (itO b1 l1)).push (itO b2 l2)).push { cls:=.type "tuple",data:=.seq #[.ref s.heap.objs.size,.ref 021] }).push { cls:=.type "tuple",data:=.seq #[.none,.none] }).objs.size=n+4:=by rw[Z5h,j]
 have d:∀ b l,(itO b l).isFreed=false:=λb l=>by cases b <;> rfl
 have i:(zH b1 b2 s.heap l1 l2).get? (n+4)=some { cls:=.type "zip",data:=.fields #[.none,.bool false,.bool false,.ref (s.heap.objs.size+2),.ref (s.heap.objs.size+3)] }:=by rw[← r];exact Z0r _ rfl
 have t:(zH b1 b2 s.heap l1 l2).get? (n+3)=some { cls:=.type "tuple",data:=.seq #[.none,.none] }:=by rw[← j];exact Z00 _ (Z0r _ rfl)
 have g3:(zH b1 b2 s.heap l1 l2).get? (n+2)=some { cls:=.type "tuple",data:=.seq #[.ref s.heap.objs.size,.ref 021] }:=by rw[← m];exact Z00 _ (Z00 _ (Z0r _ rfl))
 have g2:(zH b1 b2 s.heap l1 l2).get? (n+1)=some (itO b2 l2):=by rw[← p];exact Z00 _ (Z00 _ (Z00 _ (Z0r _ (d _ _))))
 have g1:(zH b1 b2 s.heap l1 l2).get? n=some (itO b1 l1):=by rw[← hn];exact Z00 _ (Z00 _ (Z00 _ (Z00 _ (Z0r _ (d _ _)))))
 rw[hn] at i g3;have i1:xu b1 (zH b1 b2 s.heap l1 l2) n l1 0:=by
  cases b1;exact⟨_,g1,rfl,rfl⟩;exact⟨_,g1,rfl,rfl⟩
 have i2:xu b2 (zH b1 b2 s.heap l1 l2) (n+1) l2 0:=by
  cases b2;exact⟨_,g2,rfl,rfl⟩;exact⟨_,g2,rfl,rfl⟩
 show _/\_;exact⟨⟨_,i,rfl⟩,q _ i g3 t i1 i2 λc o x=>Z00 _ (Z00 _ (Z00 _ (Z00 _ (Z00 _ x))))⟩
noncomputable def Z5b(K:FR)(d:TA):TI:=λσ H R=>d σ H λvs H1=>∃ b1 b2 a b xs c,vs=[.ref a,.ref b]/\Sq b1 K H1 a xs/\Sq b2 K H1 b c/\R (Z2u b1 b2 K a b) H1
def z2p{n d f:Addr}(p:d<n)(o:f<n):z8F (n+4) (n+2) (n+3) n (n+1) d f:=by
 have m:∀ c x y:Addr,c≠x->c≠y->c∉[x,y]:=λc x y a b h=>by
  rcases Z08.mp h with h | h;exact a h;exact b (Z01.mp h)
 have ne:∀ n i j:Nat,i≠j->n+i≠n+j:=λn i j h e=>h (Nat.add_left_cancel e);have nl:∀ n l i:Nat,l<n->n+i≠l:=λn l i h e=>by lia
 have nr:∀ n l i:Nat,l<n->l≠n+i:=λn l i h e=>by lia
 exact⟨⟨ne n 2 4 01,ne n 3 4 01,ne n 0 4 01,ne n 1 4 01,ne n 2 3 01,ne n 2 0 01,ne n 2 1 01,ne n 3 0 01,ne n 3 1 01,ne n 0 1 01,
  m _ _ _ (ne n 4 0 01) (nl n d 4 p),m _ _ _ (ne n 4 1 01) (nl n f 4 o),m _ _ _ (ne n 3 0 01) (nl n d 3 p),m _ _ _ (ne n 3 1 01) (nl n f 3 o),m _ _ _ (ne n 1 0 01) (nl n d 1 p),m _ _ _ (ne n 0 1 01) (nl n f 0 o)⟩,nr n d 0 p,nr n f 1 o⟩
def z0q{pos:Pos}(B:Gl X "zip")(w:starEach [a,b] X.env=[(false,eval a X.env),(false,eval b X.env)])(d:starEach [b] X.env=[(false,eval b X.env)])(G:X.K=K)(hm:X.mg "zip"=none)(ha:PA X [a,b] ta) :
 PI X (.Tuple elts ek epos) (.Call (.Name "zip" p) [a,b] [] pos) (Z5b K ta):=by
 subst G;intro pins s σ H R I h;refine Call_ (yP I B hm boot_zip (Z27 (Zj (ha pos pins s σ H _ I h) λus s1 ⟨vs,H1,I1,A,q1⟩=>?_) (by rw[w,d]) (by rw[d];rfl)));obtain⟨b1,b2,l,L,xs,J,rfl,C,r,q⟩:=q1;obtain⟨u,v,rfl,D,c⟩:=vals2 A;cases D;cases c;obtain⟨its,M,pl⟩:=I1.z5S C;obtain⟨its',c,j⟩:=I1.z5S r;have lt:∀ {b:Bool}{l:Addr}{its:Array Value},vX b s1.heap l its->l<s1.heap.objs.size:=λ{b l its} x=>by
  cases b;obtain⟨o,z,_⟩:=x;exact Z0k z;obtain⟨o,z,_⟩:=x;exact Z0k z
 have m:=lt pl;have i:=lt j;refine z5K pl j λt g1 g2 g3 y E F=>?_;have I2:Inv X pins σ H1 { s1 with heap:=t }:=I1.kept (t':=s1.toks) F;have nx:∀ b,s1.heap.objs.size<=b->Xu X pins H1 b:=λb f=>I1.z0g f (I1.hok.fresh f);generalize s1.heap.objs.size=n at *;refine wpAny_pyIter_zip g1 ⟨_,[n+4,n+2,n+3,n,n+1],_,_,H1,rfl,I2,z5l (z2p m i),⟨g1,g2,⟨_,_,g3⟩,y,E⟩,λb f=>?_,q⟩;simp at f;rcases f with rfl | rfl | rfl | rfl | rfl <;> exact nx _ (by first | exact Nat.le_add_right _ _ | exact Z02 _)
def zC.kpd(k:zC H H'):Kp l H H':=λb o e _=>k b o e
def z1z(Pv:St->Hp->Prop)(μ:St->Hp->Nat)(h0:Pv σ H)(f:∀ σ H,Pv σ H->c σ H λb H1=>if b=true then ∃ N:St->Hp->Prop,(∀ a H',N a H'->∃ d,d<μ σ H/\d=μ a H'/\Pv a H')/\tb { D with nx:=N,ct:=N,bk:=D.nx } σ H1 else D.nx σ H1):Jx c tb D σ H :=
 ⟨λm σ H=>m=μ σ H/\Pv σ H,⟨_,rfl,h0⟩,λm σ H ⟨e,p⟩=>by subst e;exact f σ H p⟩
def wN{Pv:St->Hp->Prop}{μ:St->Hp->Nat}{n:Nat}:∀ a H',(Pv a H'/\μ a H'<n)->∃ b,b<n/\b=μ a H'/\Pv a H':=λ_ _ ⟨p,l⟩=>⟨_,l,rfl,p⟩
def Inv.Z2s{σ:St}(I:Inv X pins σ H s)(h:H a=some (.lst xs)):∃ its:List Value,Vals xs its/\s.heap.PlainList a its.toArray:=by
 obtain⟨_,its,n,r,e⟩:xs.length<=sizeLine/\∃ (its:List Value) (n:Nat),Vals xs its/\s.heap.get? a=some { cls:=.type "list",data:=.seq its.toArray n }:=I.hok a _ h;exact⟨its,r,n,e⟩
theorem jK:∀ {ns:List Int}{its:List Value},Vals (ns.map V.int) its->∃ xs:Array (Int×Tok),its.toArray=intItems xs/\xs.toList.map (·.1)=ns
 | [],its,r=>by cases r;exact⟨#[],by simp[intItems],rfl⟩
 | n :: ns,its,r=>by
   obtain⟨v,vs,rfl⟩:∃ v vs,its=v :: vs:=by cases r;exact⟨_,_,rfl⟩
   have hr:RelV (.int n) v/\Vals (ns.map V.int) vs:=by
    cases r with
    | cons rx rs=>exact⟨rx,rs⟩
   obtain⟨⟨t,rfl⟩,rs⟩:=hr;obtain⟨xs,c,a⟩:=jK rs;refine⟨((n,t) :: xs.toList).toArray,?_,?_⟩;have b:vs=xs.toList.map (λp:Int×Tok=>Value.int p.1 p.2):=by
    have:=congrArg Array.toList c;simpa[intItems] using this
   simp[intItems,b];simp[a]
noncomputable def Z4g:List V->Hp->VK->Prop:=λvs H Q=>∃ (p:Addr) (ns:List Int),vs=[.ref p]/\H p=some (.lst (ns.map V.int))/\ns≠[]/\∀ m,m∈ns->(∀ x∈ns,x<=m)->Q (.int m) H
def z6f(E:X.calm=true):ZE X (.builtin "max") Z4g:=by
 intro pins s σ H xs us Q I r h;obtain⟨p,ns,rfl,o,hn,q⟩:=h;obtain⟨u,rfl,A⟩:=vals1 r;cases A;obtain⟨its,C,pl⟩:=I.Z2s o;obtain⟨a,D,d⟩:=jK C;rw[D] at pl;have hsz:a.size=ns.length:=by rw[← d,ZB,Z11]
 have h0:0<a.size:=by
  rw[hsz];exact Z4N.mpr hn
 refine max_intList (I.ok.hd E) pl.isList h0 λv h' G m F=>?_;obtain⟨t,rfl⟩:=intItems_at m;refine⟨.int (numAt a (argBest (λi j=>decide (numAt a i > numAt a j)) (a.size - 1))),H,I.kept F,⟨t,rfl⟩,q _ ?_ λx l=>?_⟩;have f:=(Array.getElem?_eq_some_iff.mp m).1;generalize argBest (λi j=>decide (numAt a i > numAt a j)) (a.size - 1)=k at *;have b:k<a.size:=by simpa[intItems] using f
 rw[← d];unfold numAt;rw[Z55 b];exact Z18.mpr ⟨a[k],Array.getElem_mem_toList b,rfl⟩;rw[← d] at l;obtain⟨y,n,rfl⟩:=Z18.mp l;obtain⟨j,z,B⟩:=Z4P n;have c:j<a.size:=by simpa using z
 have w:numAt a j=y.1:=by
  unfold numAt;rw[Z55 c];show (a[j]).1=y.1;rw[← B,Array.getElem_toList]
 rw[← w];exact (argBest_gt (numAt a) (a.size - 1)).2 j 00
def z5k:typeLookup (.type "list_reverseiterator") "__len__"=pure none:=by rw[typeLookup_type,builtinLookup_eq_fast];kernel_rfl
def z7P:typeLookup (.type "list_reverseiterator") "__length_hint__"=pure (some (.builtin "list_reverseiterator.__length_hint__")):=by rw[typeLookup_type,builtinLookup_eq_fast];kernel_rfl
noncomputable def z9y(K:FR):List V->Hp->VK->Prop:=λxs H Q=>∃ (l:Addr) (vs:List V) (ps:LI),xs=[.ref l]/\zR K H l vs/\Zm K H ps vs/\ps.length<64/\∀ (us:List V) (ms:LI) (D:Addr),ms.Perm ps->ms.Pairwise yj->Zm K H ms us->H D=none->Q (.ref D) (upd H D (.lst us))
def uq:ZE X (.builtin "sorted") (z9y X.K):=by
 intro pins s σ H xs us Q I r h;obtain⟨l,xs,ps,rfl,hl,E,N,q⟩:=h;obtain⟨u,rfl,rfl⟩:=vals1 r;have hlen:xs.length=ps.length:=by have:=Zh.length E;rw[ZB] at this;exact this
 refine qE I (.inr hl) 00 (ltP ps) (z4h ps) (λvs s' J A kp=>?_) λp D pm up Z=>?_;have d:vs.length=ps.length:=by rw[← J.length,hlen]
 have tup:∀ {s2:Shared},(∀ b o,b≠X.env.locals->s.heap.get? b=some o->s2.heap.get? b=some o)->∀ {i:Nat},i<vs.length->∃ a o n t1 f,vs.getD i Value.none=.ref a/\s2.heap.get? a=some o/\o.cls=.type "tuple"/\o.data=.seq #[.int (ps.getD i (0,0)).1 t1,.int (ps.getD i (0,0)).2 f] n:=λ{s2} k {i} hi=>by
  obtain⟨a,e,L⟩:=z2O E (show i<ps.length by lia);have G:=vj J hi;rw[e] at G;obtain⟨its,ri,⟨o,m,z,n,hd⟩,_⟩:=I.tuple L;obtain⟨u1,u2,rfl,⟨t1,rfl⟩,⟨f,rfl⟩⟩:=vals2 ri;exact⟨a,o,n,t1,f,G,k a o (I.Z1G L) m,z,by simpa using hd⟩
 refine⟨tuples' true,λR O=>?_,λi j C s2 hi P k z=>?_⟩;have build:∀ (ws:List Value),(∀ v∈ws,∃ a o n x t1 y f,v=.ref a/\s'.heap.get? a=some o/\o.cls=.type "tuple"/\o.data=.seq #[.int x t1,.int y f] n)->∃ fs:List Value,fs.length=ws.length/\KatTups s'.heap ws fs/\∀ v∈fs,∃ x t,v=.int x t:=by
  intro ws
  induction ws with
  | nil=>intro _;exact⟨[],rfl,KatTups.nil,λv h=>by simp at h⟩
  | cons w ws ih =>
    intro h;obtain⟨fs,e,t,a⟩:=ih λv d=>h v (Z06 _ d);obtain⟨b,o,n,x,t1,y,f,rfl,m,z,hd⟩:=h w Z09;refine⟨.int x t1 :: fs,by simp[e],KatTups.cons m z hd rfl t,λv d=>?_⟩;rcases Z08.mp d with rfl | d;exact⟨_,_,rfl⟩;exact a v d
 obtain⟨fs,e,kt,M⟩:=build vs λv d=>by
  obtain⟨i,hi,rfl⟩:=List.mem_iff_getElem.mp d;obtain⟨a,o,n,t1,f,e,m,z,hd⟩:=tup kp hi;have:vs.getD i Value.none=vs[i]:=by simp[hi]
  rw[this] at e;exact⟨a,o,n,_,t1,_,f,e,m,z,hd⟩
 refine kat_kind (T:=.type "int") kt 00 (λv d=>?_) 01 O;obtain⟨x,t,rfl⟩:=M v d;exact Looks.of_pure rfl;unfold kas_ask;obtain⟨a,o,n,t1,f,e,m,_,hd⟩:=tup k hi;obtain⟨a',o',n',U,t2',Y,F,_,B⟩:=tup k P;rw[e,Y];refine kat_lt m hd F B (kat_cons ?_);have c:C (xw (ps.getD i (0,0)) (ps.getD j (0,0))) s2:=z;generalize ps.getD i (0,0)=x at *;generalize ps.getD j (0,0)=y at *;refine wpAny_eqBool_int ?_;by_cases h1:x.1=y.1;rw[show (x.1 == y.1)=true by simp[h1]];refine kat_yes (kat_cons (wpAny_eqBool_int ?_));by_cases A:x.2=y.2;rw[show (x.2 == y.2)=true by simp[A]];refine kat_yes (kat_nil ?_);have:xw x y=false:=by simp only[xw,decide_eq_false_iff_not];lia
 rw[this] at c;simpa using c;rw[show (x.2 == y.2)=false by simp[A]];refine kat_no (kat_one _ _ ?_);have:xw x y=decide (x.2<y.2):=by simp only[xw,decide_eq_decide];lia
 rw[this] at c;exact lt_int c;rw[show (x.1 == y.1)=false by simp[h1]];refine kat_no (oneLt_int ?_);have:xw x y=decide (x.1<y.1):=by simp only[xw,decide_eq_decide];lia
 rw[this] at c;exact c;rw[hlen] at pm up;have S:∀ i∈p,i<ps.length:=λi hi=>Z25.mp (pm.mem_iff.mp hi);exact q _ _ D (vU pm) (xB qh pm up λi j h=>z4I h) (vC E S) Z
noncomputable def Z0t(K:FR):List V->Hp->VK->Prop:=λxs H Q=>∃ (l:Addr) (vs:List V) (ps:LI),xs=[.ref l]/\zR K H l vs/\Zm K H ps vs/\ps.length<64/\∀ (us:List V) (ms:LI) (D:Addr) (H':Hp),ms.Perm ps->ms.Pairwise yj->Zm K H' ms us->zC H H'->H D=none->H' D=some (.lst us)->Q (.ref D) H'
def Xx:ZE X (.builtin "sorted") (Z0t X.K):=λpins s σ H xs us Q I r ⟨l,vs,ps,e,h,f,i,q⟩=>uq pins s σ H xs us Q I r ⟨l,vs,ps,e,h,f,i,λus ms D a b c d=>q us ms D _ a b (Zm.kl (zC.new d).kl c) (zC.new d) d zB⟩
def z5c{β:Type}(f:Nat->β->Sem (ForInStep β))(I:List Nat->β->Shared->Prop)(Q:β->Shared->Prop)(turn:∀ x rest c s,I (x :: rest) c s->wpAny M A (f x c) (λr s'=>match r with | .yield b'=>I rest b' s' | .done b'=>Q b' s') E s)(fin:∀ c s,I [] c s->Q c s)(c:β)(h:I (List.range' a (b - a)) c s):wpAny M A (forIn [a:b] c f) Q E s:=by
 rw[Std.Legacy.Range.forIn_eq_forIn_range'];have hsz:([a:b]:Std.Legacy.Range).size=b - a:=by simp[Std.Legacy.Range.size]
 show wpAny M A (forIn (List.range' a ([a:b]:Std.Legacy.Range).size 1) c f) Q E s;rw[hsz];exact wpAny_forIn_list f I Q turn fin _ c h
def UZ(l:Addr)(items:Array Value)(n:Nat)(dd:Option Addr)(sl:Array (Option Value))(x:Value)(e:Value->Bool)(j:Nat)(u:j<items.size)(hit:e items[j]=true)(p:∀ m (hm:m<items.size),m<j->e items[m]=false) :
 Meets (Builtin.«tuple.index» ⟨[.ref l,x],[]⟩)
  (λA R s=>s.heap.get? l=some { cls:=.type "tuple",dict:=dd,data:=.seq items n,slots:=sl }/\(∀ y,y∈items->SeqAt.EqAt A.in1 s y x (e y))/\R (.ok (.ret (.int j s.toks))) { s with toks:=s.toks+1 }) :=
 .of_wp λprog w A R s h=>by
  obtain⟨q,g,d,r,os⟩:=s;obtain⟨t,he,h⟩:=h;wp_walk using AutoSeq1.wpAny_loadPart' t,z5c _ (λrest b s'=>b.1=none/\s'=⟨q,g,d,r,os⟩/\∃ i,i<=j/\rest=List.range' i (items.size - i)) _
  case turn =>
   rintro i rest b s' ⟨v,rfl,o,hi,f⟩;have a:o<items.size:=00
   rw[show items.size - o=(items.size - (o+1))+1 by lia,List.range'_succ] at f;obtain⟨rfl,rfl⟩:=Z5u f;rw[Z55 a];dsimp only;refine wpAny_bind (he _ (Array.getElem_mem a) prog w _ _ ?_);by_cases hij:i=j;subst hij;rw[hit];wp_walk;exact⟨_,rfl,h⟩;rw[p i a 00];wp_walk;exact⟨rfl,rfl,i+1,00,rfl⟩
  case fin =>
   rintro c s' ⟨_,_,i,hi,f⟩;have:=congrArg List.length f;rw[List.length_range'] at this;simp at this;lia
  case h =>
   exact⟨rfl,rfl,0,Z15 _,05⟩
noncomputable def isP(K:FR)(H:Hp)(p:Int×Int)(y:Value):Prop:=∃ a,y=.ref a/\zR K H a [.int p.1,.int p.2]
open Classical in
def UG{X:Cx}{σ:St}{ps:LI}{its:List Value}(I:Inv X pins σ H s)(m:Zm X.K H ps us)(r:Vals us its)(hi:i<its.length)(q:i<ps.length):decide (isP X.K H p its[i])=decide (ps[i]=p):=by
 obtain⟨a,d,j,l,h⟩:=m.get (i:=i) (v:=us[i]'(by rw[r.length];exact hi)) 05;obtain⟨w,f,c⟩:=r.get (i:=i) (x:=us[i]'(by rw[r.length];exact hi)) 05;rw[l] at c;cases c;have f:its[i]=.ref a:=by
  rw[Z03 hi] at f;exact Z19 f
 have o:ps[i]=d:=by
  rw[Z03 q] at j;exact Z19 j
 rw[f,o];by_cases hh:d=p;subst hh;rw[decide_eq_true (show d=d from rfl),decide_eq_true ⟨a,rfl,h⟩];rw[decide_eq_false hh,decide_eq_false];rintro⟨b,t,n⟩;cases t;have:=I.yY h n;simp at this;exact hh (Prod.ext this.1 this.2)
open Classical in
def z9i{X:Cx}{σ:St}{k:Nat}{its:List Value}(hr:Zf k X.A)(I:Inv X pins σ H s)(h:Zm X.K H ps us)(r:Vals us its)(z:zR X.K H q [.int p.1,.int p.2]):∀ y∈its.toArray,SeqAt.EqAt X.A.in1 s y (.ref q) (decide (isP X.K H p y)):=by
 have C:=hr.units;have B:X.A.in1.units<=X.A.units+8:=by
  first | exact Nat.le_add_right _ _ | (simp[Around.in1]) | (unfold Around.in1;simp)
 have j:X.A.in1.units+20<cLine:=00
 intro y f;have f:y∈its:=by simpa using f
 obtain⟨i,hi,rfl⟩:=Z4P f;have D:=r.length;have o:=h.len;rw[UG I h r hi 00];obtain⟨a,d,l,t,n⟩:=h.get (i:=i) (v:=us[i]' 00) 05;obtain⟨w,c,b⟩:=r.get (i:=i) (x:=us[i]' 00) 05;rw[t] at b;cases b;have c:its[i]=.ref a:=by
  rw[Z03 hi] at c;exact Z19 c
 have u:ps[i]' 00=d:=by
  rw[Z03 00] at l;exact Z19 l
 rw[c,u];have key:=z8C I 20 (X.A.in1) (Xn d) (Xn p) 027 (.ref q) 027 (.ref q) (by unfold Xn;simp only[QD,xP];decide) j (by unfold Xn;simp only[Den];exact⟨a,_,rfl,n,z4u _ _ _ _⟩) (by unfold Xn;simp only[Den];exact⟨q,_,rfl,z,z4u _ _ _ _⟩) rfl rfl;have m:UO (Xn d) (Xn p)=decide (d=p):=by
  unfold Xn;simp only[UO];rw[Z1a]
 rw[← m];exact key
open Classical in
def Z0c{X:Cx}{σ:St}{its:List Value}(I:Inv X pins σ H s)(a:Zm X.K H ps us)(r:Vals us its):its.toArray.any (λy=>decide (isP X.K H p y))=decide (p∈ps):=by
 have d:=r.length;have b:=a.len;rw[show its.toArray.any (λy=>decide (isP X.K H p y))=its.any (λy=>decide (isP X.K H p y)) by simp];by_cases hm:p∈ps;rw[decide_eq_true hm,List.any_eq_true];obtain⟨i,hi,e⟩:=Z4P hm;refine⟨its[i]' 00,Z1z _,?_⟩;rw[UG I a r 00 hi,e];simp;rw[decide_eq_false hm,List.any_eq_false];intro y c;obtain⟨i,hi,rfl⟩:=Z4P c;rw[UG I a r hi 00,decide_eq_false];simp;rintro rfl;exact hm (Z1z _)
noncomputable def Z6c(K:FR)(neg:Bool):R2:=λx y H Q=>∃ (q t:Addr) (us:List V) (ps:LI) (p:Int×Int),x=.ref q/\y=.ref t/\zR K H q [.int p.1,.int p.2]/\zR K H t us/\Zm K H ps us/\Q (.bl (if neg then !decide (p∈ps) else decide (p∈ps))) H
open Classical in
def jP{k:Nat}(hr:Zf k X.A):YD X (compareOp .NotIn) (Z6c X.K true):=by
 intro pins s σ H x y v u Q I b c h;obtain⟨q,t,us,ps,p,rfl,rfl,d,f,a,k⟩:=h;cases b;cases c;obtain⟨its,r,pl,i⟩:=I.tuple f;refine SeqAt.notIn_tupleAt (λy=>decide (isP X.K H p y)) pl (z9i hr I a r d) ⟨.bl _,H,I,rfl,?_⟩;rw[Z0c I a r];exact k
noncomputable def Z5o(K:FR):V->List V->Hp->VK->Prop:=λo xs H Q=>∃ (t q:Addr) (us:List V) (ps:LI) (p:Int×Int),o=.ref t/\xs=[.ref q]/\H t=some (.tup us)/\Zm K H ps us/\zR K H q [.int p.1,.int p.2]/\p∈ps/\Q (.int ((ps.idxOf p:Nat):Int)) H
open Classical in
def jd{k:Nat}(hr:Zf k X.A):MtM X "tuple.index" (Z5o X.K):=by
 intro pins s σ H x vs v w Q I l D h;obtain⟨t,q,us,ps,p,rfl,rfl,B,b,E,hm,k⟩:=h;cases l;obtain⟨u,rfl,C⟩:=D.one;cases C;obtain⟨its,r,pl,J⟩:=I.tuple (zR.of B);have L:=r.length;have o:=b.len;have heq:=z9i hr I b r E;obtain⟨⟨c,dd,G,sl⟩,e,j,n,hd⟩:=pl;have j:c=.type "tuple":=j;have hd:G=.seq its.toArray n:=hd;subst j hd;have hi:ps.idxOf p<ps.length:=List.idxOf_lt_length_of_mem hm;have d:ps.idxOf p<its.length:=00
 refine call_meets F.slot_tuple_index ⟨_,e,rfl⟩ F.entry_tuple_index (F.args_tuple_index_2 _ _) (UZ t its.toArray n dd sl (.ref q) (λy=>decide (isP X.K H p y)) (ps.idxOf p) (by rw[Z04];lia) ?_ (λm a f=>?_)) ⟨e,heq,.int _,H,I.tok _,⟨_,rfl⟩,k⟩;rw[List.getElem_toArray];show decide (isP X.K H p (its[ps.idxOf p]))=true;rw[UG I b r d hi,List.getElem_idxOf];simp;rw[List.getElem_toArray];rw[Z04] at a;show decide (isP X.K H p (its[m]))=false;rw[UG I b r a 00,decide_eq_false];intro z;have:=List.not_of_lt_findIdx (p:=(· == p)) (xs:=ps) (i:=m) f
 rw[z] at this;simp at this
noncomputable def ZC(K:FR)(H:Hp)(a:Addr)(n:Int)(ps:LI):Prop:=∃ (t:Addr) (us:List V),H a=some (.tup [.int n,.ref t])/\H t=some (.tup us)/\Zm K H ps us
def ZC.kl{n:Int}(h:ZC K H a n ps)(k:KL H H'):ZC K H' a n ps:=by
 obtain⟨t,us,b,c,p⟩:=h;exact⟨t,us,k.tup b,k.tup c,Zm.kl k p⟩
def ZC.same{n:Int}(h:ZC K H a n ps)(k:zC H H'):ZC K H' a n ps:=h.kl k.kl
def Z3j{ns:LI}(p:ms.Perm ns)(c:ms.Pairwise yj)(d:ns.Pairwise yj):ms=ns:=p.eq_of_pairwise (λa b _ _ x y=>by
 simp only[yj] at x y;exact Prod.ext 00 00) c d
def VZ{α:Type}[BEq α][LawfulBEq α](l:List α)(a:α)(h:a∈l):l.eraseIdx (l.idxOf a)=l.erase a:=by
 rw[List.erase_eq_eraseIdx_of_idxOf rfl]
def Z4b{xs:List V}{i:Nat}(h:i<xs.length):yT xs none (some (i:Int))=xs.take i:=by
 unfold yT;rw[HT.yG,HT.Z4,List.drop_zero,Nat.sub_zero,Nat.min_eq_left 00]
def Z0J{xs:List V}{i:Nat}(h:i<xs.length):yT xs (some ((i:Int)+1)) none=xs.drop (i+1):=by
 unfold yT;rw[show (i:Int)+1=((i+1:Nat):Int) from rfl,HT.yG,HT.Z4,Nat.min_eq_left 00];exact Z12 (by rw[Z3K];lia)
theorem Zm.take:∀ {ps:LI}{vs:List V}(i:Nat),Zm K H ps vs->Zm K H (ps.take i) (vs.take i)
 | [],vs,i,h=>by
   simp only[Zm,Z3N,Zh] at h;subst h;rw[List.take_nil,List.take_nil];exact Y4
 | p :: ps,vs,0,h=>by rw[List.take_zero,List.take_zero];exact Y4
 | p :: ps,vs,i+1,h=>by
   obtain⟨a,r,rfl,b,hr⟩:=yd h;rw[List.take_succ_cons,List.take_succ_cons];exact YL b (Zm.take i hr)
theorem Zm.drop:∀ {ps:LI}{vs:List V}(i:Nat),Zm K H ps vs->Zm K H (ps.drop i) (vs.drop i)
 | [],vs,i,h=>by
   simp only[Zm,Z3N,Zh] at h;subst h;rw[List.drop_nil,List.drop_nil];exact Y4
 | p :: ps,vs,0,h=>by rw[List.drop_zero,List.drop_zero];exact h
 | p :: ps,vs,i+1,h=>by
   obtain⟨a,r,rfl,b,hr⟩:=yd h;rw[List.drop_succ_cons,List.drop_succ_cons];exact Zm.drop i hr
def xr(ps:LI)(h:p∈ps):ps.take (ps.idxOf p) ++ ps.drop (ps.idxOf p+1)=ps.erase p:=by
 rw[← VZ _ _ h,List.eraseIdx_eq_take_drop_succ]
noncomputable def Jf(K:FR):Sp:=λvs H Q _=>∃ (a:Addr) (n x y:Int) (ps:LI),vs=[.ref a,.int x,.int y]/\ZC K H a n ps/\ps.length<=62/\∀ (b:Addr) (H':Hp) (ms:LI),zC H H'->H b=none->ZC K H' b n ms->ms.Perm (ps ++ [(x,y)])->ms.Pairwise yj->Q (.ref b) H'
noncomputable def vD(K:FR):Sp:=λvs H Q _=>∃ (a:Addr) (n x y:Int) (ps:LI),vs=[.ref a,.int x,.int y]/\ZC K H a n ps/\ps.length<=100/\((x,y)∉ps->∀ H',zC H H'->Q .Zn H')/\((x,y)∈ps->∀ (b:Addr) (H':Hp),zC H H'->ZC K H' b n (ps.erase (x,y))->Q (.ref b) H')
end L2
namespace Pw
def Z3Y(a:t<n):val ((List.replicate n (1,(n:Int))).getD t (0,1))=1 / (n:Rat):=by
 rw[Z05,List.getElem?_replicate,if_pos a];rfl
def QX(hn:1<=n):ZK (List.replicate n (1,(n:Int))):=λB a=>by
 rw[(List.mem_replicate.mp a).2];exact⟨by show (0:Int)<(n:Int);lia,by show Int.gcd 1 (n:Int)=1;simp⟩
end Pw
namespace L2
def Z2j(hn:n<=12):Sz 4 (n:Int)/\Sz 4 ((n:Int) - 1):=⟨by unfold Sz;omega,by unfold Sz;omega⟩
noncomputable def Xh(K:FR):Sp:=λvs H Q _=>∃ (wa:Addr) (n:Nat) (r:List V),vs=[.ref wa]/\H wa=some (.tup (.int (n:Int) :: r))/\1<=n/\n<=12/\
 ∀ (q:Addr) (H':Hp) (us:List V),zC H H'->H' q=some (.tup us)->yK K H' (List.replicate n (1,(n:Int))) us->Q (.ref q) H'
structure uF(K:FR)(H:Hp)(w lp ls:Addr)(n:Nat)(ps:LI)(A:Int×Int)(Bs:LI)(us:List V)(S:Int):Prop where
 g:Gv K H w lp ls (n:Int) ps A Bs us
 pr:Pr A Bs S
 n12:n<=12
 sA:Vz 140 A
 sS:Sz 140 S
def uF.same{ls:Addr}(h:uF K H w lp ls n ps A Bs us S)(s:zC H H'):uF K H' w lp ls n ps A Bs us S:=⟨h.g.same s,h.pr,h.n12,h.sA,h.sS⟩
def Z1E(ok:Pw.ZU ps A Bs n Ss)(v0:0<V')(b:Sz ((140+11) * 13+20) V')(d:∀ S∈Ss,S.2∣V'):∀ S∈Ss,Vz 1983 S:=λS a=>by
 have c:=(ok.canon S a).1;have h:=ok.nn S a;have j:=ok.le1 S a;have i:S.2<=V':=Int.le_of_dvd v0 (d S a);have f:V'.natAbs<2 ^ 1983:=b;exact⟨by show S.1.natAbs<2 ^ 1983;lia,by show S.2.natAbs<2 ^ 1983;lia⟩
noncomputable def z7K(K:FR):Sp:=λvs H Q _=>∃ (w lp ls:Addr) (n:Nat) (ps:LI) (A:Int×Int) (Bs:LI) (us:List V) (S:Int),vs=[.ref w,.ref lp,.ref ls]/\uF K H w lp ls n ps A Bs us S/\
 ∀ (t:Addr) (H':Hp) (Ss:LI) (a:List V),Pw.ZU ps A Bs n Ss->(∀ S∈Ss,Vz 1983 S)->zC H H'->H' t=some (.tup a)->yK K H' Ss a->Q (.ref t) H'
def Def.sh{mg:SV}{k:Nat}(D:Def P w K mg base k "shares" ["web","leap","leaps"] (uR K)):Def P w K mg base k "shares" ["web","leap","leaps"] (z7K K):=by
 obtain⟨f,fd,F,m,b,G⟩:=D;refine⟨f,fd,F,m,b,G.imp λvs H Q E h=>?_⟩;obtain⟨wa,lp,ls,n,ps,A,Bs,us,S,rfl,i,k⟩:=h;refine⟨wa,lp,ls,(n:Int),ps,A,Bs,us,S,140,rfl,i.g,i.pr,by have:=i.n12;lia,01,i.sA,i.sS,λt H' Ss V' d ok v0 c a s e f=>?_⟩;rw[Z31] at ok;exact k t H' Ss d ok (Z1E ok v0 c a) s e f
def Z2z(n1:1<=n):Pw.qs (List.replicate n ((1:Int),(n:Int))).length (λt=>Pw.val ((List.replicate n ((1:Int),(n:Int))).getD t (0,1)))=1:=by
 rw[Z5a];exact Pw.Z2E n1 λt a=>Pw.Z3Y a
def Ju(n1:1<=n)(n12:n<=12)(a0:0<A.1)(a1:A.1<=A.2):Pr A (List.replicate n ((1:Int),(n:Int))) (n:Int) :=
 ⟨a0,a1,λB a=>by rw[(List.mem_replicate.mp a).2];show (0:Int)<=1;decide,Z2z n1,00,(Z2j n12).1.mono 01,λB a=>by rw[(List.mem_replicate.mp a).2];exact Int.dvd_refl _⟩
def yZ(hw:ZC K H w (n:Int) ps)(few:ps.length<=100)(lk:∀ p∈ps,0<=p.1/\p.1<(n:Int)/\0<=p.2/\p.2<(n:Int))(fA:Xw K H lp A)(ca:Pw.Canon A)(a0:0<A.1)(a1:A.1<=A.2)(sa:Vz 41 A)(n1:1<=n)(n12:n<=12)(e:H ev=some (.tup us))(f:yK K H (List.replicate n ((1:Int),(n:Int))) us):uF K H w lp ev n ps A (List.replicate n ((1:Int),(n:Int))) us (n:Int) :=
 ⟨⟨hw,few,lk,fA,ca,sa.mono 01,e,f,Pw.QX n1,λB a=>by
  rw[(List.mem_replicate.mp a).2];exact⟨(yk 1 01:Sz 600 (1:Int)),(Z2j n12).1.mono 01⟩,by rw[Z5a],00,00⟩,Ju n1 n12 a0 a1,n12,sa.mono 01,(Z2j n12).1.mono 01⟩
noncomputable def Z5g(a:TA):TE:=λσ H Q=>a σ H λvs H1=>∃ n:Nat,vs=[.int (n:Int)]/\n<=100000/\∀ (p:Addr) (H':Hp),zC H1 H'->H1 p=none->H' p=some (.lst ((List.range n).map λ(k:Nat)=>V.int (k:Int)))->Q (.ref p) H'
def z6D:∀ {n:Nat}{its:List Value},its.length=n->(∀ (j:Nat) (v:Value),its[j]?=some v->∃ t,v=Value.int (0+(j:Int) * 1) t)->Vals ((List.range n).map λ(k:Nat)=>V.int (k:Int)) its:=by
 intro n its c h;have key:∀ (its:List Value) (b:Nat),(∀ (j:Nat) (v:Value),its[j]?=some v->∃ t,v=Value.int ((b+j:Nat):Int) t)->Vals ((List.range' b its.length).map λ(k:Nat)=>V.int (k:Int)) its:=by
  intro its
  induction its with
  | nil=>intro b _;exact .nil
  | cons v its ih =>
    intro b h;rw[Z07,List.range'_succ,Z1d];obtain⟨t,rfl⟩:=h 0 v rfl;refine .cons ⟨t,rfl⟩ (ih (b+1) λj v a=>?_);obtain⟨t,e⟩:=h (j+1) v (by simpa using a);exact⟨t,by rw[e];congr 2;lia⟩
 have:=key its 0 λj v a=>by
  obtain⟨t,e⟩:=h j v a;exact⟨t,by rw[e];congr 1;lia⟩
 rw[c,← List.range_eq_range'] at this;exact this
def z3Z{X:Cx}{a:Expr}{E:TA}{p i pos pos':Pos}(L:X.calm=true)(l:Gl X "list")(y:X.mg "list"=none)(z:Gl X "range")(B:X.mg "range"=none)(ha:PA X [a] E)
 (D:starEach [.Call (.Name "range" i) [a] [] pos'] X.env=[(false,eval (.Call (.Name "range" i) [a] [] pos') X.env)]:=by rfl) (m:starEach [a] X.env=[(false,eval a X.env)]:=by rfl) :
 PE X (.Call (.Name "list" p) [.Call (.Name "range" i) [a] [] pos'] [] pos) (Z5g E):=by
 intro pins s σ H Q I h;refine wpAny_Call_Name_kw (yP I l y boot_list ?_ 01 01);refine Z27 ?_ D rfl;rw[D];show wpAny _ _ (spliced ((false,eval (.Call (.Name "range" i) [a] [] pos') X.env) :: backTo pos [])) _ _ s;refine Calls.spliced_cons ?_;refine wpAny_Call_Name_kw (yP I z B boot_range ?_ 01 01);refine Z27 (Zj (ha pos' pins s σ H _ I h) λus s1 ⟨vs,H1,I1,G,q1⟩=>?_) m rfl;obtain⟨n,rfl,hn,q⟩:=q1;obtain⟨u,rfl,K⟩:=vals1 G;obtain⟨t,rfl⟩:=K;refine call_range_1 ?_;refine Calls.spliced_nil ?_;have w:(n:Int)<2 ^ 62:=00
 have r:Builtin.Range.small 0 (n:Int) 1=true:=small_one 01 01 00 w;refine call_list_range (s:={ s1 with heap:=s1.heap.push { cls:=.type "range",data:=.fields #[.int 0 s1.toks,.int (n:Int) t,.int 1 (s1.toks+1)] },toks:=s1.toks+1+1 }) (n:=n) (I1.ok.hd L) (IsRange.new ..) r (by rw[rangeSize_one];split <;> lia) 00 λh' F acc c kp C d=>?_;have hsz:(s1.heap.push { cls:=.type "range",data:=.fields #[.int 0 s1.toks,.int (n:Int) t,.int 1 (s1.toks+1)] }).objs.size=s1.heap.objs.size+1:=size_push' _ _;rw[show ({ s1 with heap:=s1.heap.push { cls:=.type "range",data:=.fields #[.int 0 s1.toks,.int (n:Int) t,.int 1 (s1.toks+1)] },toks:=s1.toks+1+1 }:Shared).heap.objs.size=s1.heap.objs.size+1 from hsz] at C ⊢;have A:∀ b o,s1.heap.get? b=some o->h'.get? b=some o:=λb o e=>kp b o (Z00 _ e);have f:H1 (s1.heap.objs.size+1)=none:=I1.hok.fresh (Nat.le_succ _);refine⟨.ref _,_,I1.laid (t':=F) (o:=.lst ((List.range n).map λ(k:Nat)=>V.int (k:Int))) A (Nat.le_succ _) ⟨?_,acc.toList,c,?_,?_⟩,rfl,q _ _ (zC.new f) f zB⟩;rw[ZB,Z29,sizeLine_eq];lia;refine z6D (by rw[Z11];exact d.1) λj v J=>d.2 j v (by rw[← Z42];exact J);rw[C]
end L2
namespace Pw
def Z0p{k:Nat}(lk:∀ p∈ps,0<=p.2/\p.2<(n:Int))(a:∀ p∈ms,0<=p.2/\p.2<(n:Int))(h:qs n (λi=>(cn ps j i:Rat))=qs n (λi=>(cn ms k i:Rat))):(outs ps (j:Int)).length=(outs ms (k:Int)).length:=by
 rw[JW lk,JW a] at h
 exact_mod_cast h
def z7B(ca:Canon A)(cb:ZK Bs)(hn:Bs.length=n)(lk:∀ p∈ps,0<=p.2/\p.2<(n:Int))(b:∀ p∈ms,0<=p.2/\p.2<(n:Int))(h:∀ i,i<n->cn ps j i=cn ms j i)(c:t<n) :
 val ((y9 ps A Bs (j:Nat)).getD t (0,1))=val ((y9 ms A Bs (j:Nat)).getD t (0,1)):=by
 have d:=Z0p (j:=j) (k:=j) lk b (zT λi hi=>by rw[h i hi]);rw[VQ ca cb hn c,VQ ca cb hn c,h t c,d];by_cases ho:outs ps (j:Int)=[];have a:outs ms (j:Int)=[]:=Z35.mp (by rw[← d,ho];rfl);rw[if_pos ho,if_pos a];have a:outs ms (j:Int)≠[]:=λz=>ho (Z35.mp (by rw[d,z];rfl));rw[if_neg ho,if_neg a]
def ZU.ways(hw:∀ j t,j<n->t<n->val ((y9 ps A Bs (j:Nat)).getD t (0,1))=val ((y9 ms A Bs (j:Nat)).getD t (0,1)))(h:ZU ps A Bs n Ss):ZU ms A Bs n Ss:=by
 refine⟨h.len,h.canon,h.nn,h.one,λt a=>?_⟩;rw[← h.stay t a];unfold Z3x;exact zT λj b=>by rw[hw j t b a]
def ZU.perm(ca:Canon A)(cb:ZK Bs)(hn:Bs.length=n)(lk:∀ p∈ps,0<=p.2/\p.2<(n:Int))(pm:ms.Perm ps)(h:ZU ps A Bs n Ss):ZU ms A Bs n Ss :=
 h.ways λj t c b=>z7B ca cb hn lk (λp a=>lk p (pm.mem_iff.mp a)) (λi _=>(Z0H pm j i).symm) b
end Pw
namespace L2
noncomputable def oiL(ord:List Nat):List Int:=ord.map λ(k:Nat)=>(k:Int)
end L2
namespace Pw
noncomputable def Xs:List Int->Nat->List (List Int)
 | _,0=>[[]]
 | [],_+1=>[]
 | x :: r,m+1=>(Xs r m).map (x :: ·) ++ Xs r (m+1)
def QT(l:List Int):Xs l 0=[[]]:=by cases l <;> rfl
theorem Jk:∀ {l:List Int}{m:Nat}{r:List Int},r∈Xs l m->r.length=m
 | l,0,r,h=>by rw[QT] at h;rw[Z01.mp h];rfl
 | [],m+1,r,h=>by simp[Xs] at h
 | x :: l,m+1,r,h=>by
   simp only[Xs,Z20,Z18] at h;rcases h with⟨q,hq,rfl⟩| h;rw[Z07,Jk hq];exact Jk h
theorem Yu:∀ {l:List Int}{m:Nat}{r:List Int},r∈Xs l m↔r.Sublist l/\r.length=m
 | l,0,r=>by
   rw[QT,Z01];constructor;rintro rfl;exact⟨List.nil_sublist _,rfl⟩;rintro⟨_,h⟩;exact Z35.mp h
 | [],m+1,r=>by
   constructor;intro h;simp[Xs] at h;rintro⟨h,a⟩;rw[List.sublist_nil.mp h] at a;simp at a
 | x :: l,m+1,r=>by
   simp only[Xs,Z20,Z18];constructor;rintro (⟨q,c,rfl⟩| h);obtain⟨b,a⟩:=Yu.mp c;exact⟨b.cons_cons x,by rw[Z07,a]⟩;obtain⟨b,a⟩:=Yu.mp h;exact⟨b.cons x,a⟩;rintro⟨h,a⟩;cases h with
   | cons _ h=>exact .inr (Yu.mpr ⟨h,a⟩)
   | cons_cons _ h =>
     rename_i q;exact .inl ⟨q,Yu.mpr ⟨h,by simpa using a⟩,rfl⟩
theorem VO:∀ (l:List Int) (m:Nat),(Xs l m).length<=2 ^ l.length
 | l,0=>by rw[QT];exact Nat.one_le_two_pow
 | [],m+1=>by simp[Xs]
 | x :: l,m+1=>by
   simp only[Xs,Z10,ZB,Z07];have a:=VO l m;have b:=VO l (m+1);rw[Nat.pow_succ];lia
noncomputable def xD(l:List Int)(m j:Nat):List (List Int):=((List.range j).map λt=>(Xs (l.drop (t+1)) m).map (l.getD t 0 :: ·)).flatten
def Vh(l:List Int)(m j:Nat):xD l m (j+1)=xD l m j ++ (Xs (l.drop (j+1)) m).map (l.getD j 0 :: ·):=by
 unfold xD;rw[Z5w,Z13,List.flatten_append];simp
theorem Uy:∀ (l:List Int) (m:Nat),xD l m l.length=Xs l (m+1)
 | [],m=>rfl
 | x :: l,m=>by
   simp only[Xs];rw[← Uy l m];unfold xD;rw[Z07,List.range_succ_eq_map,Z1d,Z52,Z59];congr 1
def z2b(l:List Int)(m j:Nat):(xD l m j).length<=j * 2 ^ l.length:=by
 induction j with
 | zero=>simp[xD]
 | succ j ih =>
   rw[Vh,Z10,ZB];have a:=VO (l.drop (j+1)) m;have b:2 ^ (l.drop (j+1)).length<=2 ^ l.length:=Z37 01 (by rw[Z3K];lia);rw[Nat.succ_mul];lia
end Pw
namespace L2
noncomputable def Z1(H:Hp)(Fs:List (List Int))(us:List V)(X:Addr):Prop:=us.length=Fs.length/\∀ (i:Nat) (row:List Int),Fs[i]?=some row->∃ r:Addr,us[i]?=some (V.ref r)/\r≠X/\H r=some (.lst (row.map V.int))
def Z1.nil(H:Hp)(X:Addr):Z1 H [] [] X:=⟨rfl,λi row e=>by simp at e⟩
def Z1.keep(h:Z1 H Fs us X)(s:∀ b o,H b=some o->b≠X->H' b=some o):Z1 H' Fs us X :=
 ⟨h.1,λi row e=>by obtain⟨r,a,n,b⟩:=h.2 i row e;exact⟨r,a,n,s _ _ b n⟩⟩
def Z1.append(h:Z1 H Fs us X)(g:Z1 H Gs vs X):Z1 H (Fs ++ Gs) (us ++ vs) X:=by
 refine⟨by rw[Z10,Z10,h.1,g.1],λi row e=>?_⟩;by_cases hi:i<Fs.length;rw[Z39 hi] at e;obtain⟨r,a,n,b⟩:=h.2 i row e;exact⟨r,by rw[Z39 (by rw[h.1];exact hi)];exact a,n,b⟩;rw[Z53 00] at e;obtain⟨r,a,n,b⟩:=g.2 _ row e;exact⟨r,by rw[Z53 (by rw[h.1];lia),h.1];exact a,n,b⟩
def Z1.one{row:List Int}(n:r≠X)(e:H r=some (.lst (row.map V.int))):Z1 H [row] [.ref r] X:=⟨rfl,λi b a=>by
 cases i with
 | zero=>cases a;exact⟨r,rfl,n,e⟩
 | succ i=>simp at a⟩
def Z0U{xs:List V}{g:TG}{tb:TS}{DD:Ends}(Pv:Nat->St->Hp->Prop)(h0:Pv 0 σ H)(o:∀ i σ H,Pv i σ H->zN K H a xs)(l:∀ i x σ H T G,xs[i]?=some x->i<xs.length->Pv i σ H->H T=none->zC H G->G T=some (.tup [.int i,x])->g (.ref T) σ G λb H2=>tb { DD with nx:=Pv (i+1),ct:=Pv (i+1),bk:=DD.nx } b H2)(hd:∀ σ H,Pv xs.length σ H->DD.nx σ H) :
 ∃ W:Nat->Nat->St->Hp->Prop,(∃ m,W 0 m σ H)/\∀ i m σ H,W i m σ H->
   ((z6k K a).stop i H/\DD.nx σ H)\/((z6k K a).go i H/\∃ N:St->Hp->Prop,(∀ c H',N c H'->∃ f,f<m/\W (i+1) f c H')/\∀ x H',(z6k K a).yld i H x H'->g x σ H' λb H2=>tb { DD with nx:=N,ct:=N,bk:=DD.nx } b H2):=by
 refine⟨λi m σ H=>m=xs.length - i/\i<=xs.length/\Pv i σ H,⟨xs.length,05,Z15 _,h0⟩,?_⟩;rintro i m σ H ⟨rfl,hi,p⟩;have d:=o i σ H p;by_cases hlt:i<xs.length;refine .inr ⟨⟨xs,xs[i],d,by simp[hlt]⟩,Pv (i+1),λc H' j=>⟨xs.length - (i+1),00,rfl,hlt,j⟩,λx H' y=>?_⟩;obtain⟨T,u,v,rfl,h,rfl,rfl,n⟩:=y;exact l i v σ H T _ (n xs d) hlt p h (zC.new h) zB;have e:i=xs.length:=00
 subst e;exact .inl ⟨⟨xs,d,rfl⟩,hd σ H p⟩
def ZH.bot{mg:SV}{st:Stmt}{sp:Sp}(S:ZH K mg nm st ps)(h:∀ vs H Q E,¬ sp vs H Q E)(k:Nat):Def P w K mg base k nm ps sp :=
 S.def λf fd F=>⟨λvs H Q E z=>absurd z (h vs H Q E),λA outer s H args us vs Q E _ _ _ _ z=>absurd z (h vs H Q E)⟩
end L2
namespace Pw
noncomputable def z2H(Ss:LI)(x y:Nat):Bool:=decide ((Ss.getD y (0,1)).1 * (Ss.getD x (0,1)).2<(Ss.getD x (0,1)).1 * (Ss.getD y (0,1)).2)
noncomputable def toL(x:Nat)(row:List Int):LI:=row.map λr=>(r,(x:Int))
noncomputable def uI(ps:LI)(A:Int×Int)(Bs:LI)(n x y:Nat)(row:List Int):Prop:=∃ ms Ss,ms.Perm (ps ++ toL x row)/\ZU ms A Bs n Ss/\z2H Ss x y=true
def z8Q{x:Nat}{row:List Int}(ca:Canon A)(cb:ZK Bs)(f:Bs.length=n)(pr:L2.Pr A Bs S)(lk:∀ p∈ms,0<=p.2/\p.2<(n:Int))(pm:ms.Perm (ps ++ toL x row))(ok:ZU ms A Bs n Ss):uI ps A Bs n x y row↔z2H Ss x y=true:=by
 constructor;rintro⟨c,Ss',b,a,h⟩;have d:ms.Perm c:=pm.trans b.symm;have:Ss=Ss':=ZU.unique lk ca cb f pr ok (ZU.perm ca cb f (λp i=>lk p (d.symm.mem_iff.mp i)) d a);rw[this];exact h;intro h;exact⟨ms,Ss,pm,ok,h⟩
end Pw
namespace L2
noncomputable def z1w(K:FR):Sp:=λvs H Q _=>∃ (w C:Addr) (n:Int) (x:Nat) (ps:LI) (row:List Int),vs=[.ref w,.ref C,.int (x:Int)]/\ZC K H w n ps/\H C=some (.lst (row.map V.int))/\ps.length+row.length<=60/\∀ (b:Addr) (H':Hp) (ms:LI),zC H H'->ZC K H' b n ms->ms.Perm (ps ++ Pw.toL x row)->Q (.ref b) H'
noncomputable def z4m(K:FR):Sp:=λvs H Q _=>∃ (w lp ls:Addr) (n x y:Nat) (ps:LI) (A:Int×Int) (Bs:LI) (us:List V) (S:Int),vs=[.ref w,.ref lp,.ref ls,.int (x:Int),.int (y:Int)]/\uF K H w lp ls n ps A Bs us S/\x<n/\y<n/\∀ (H':Hp) (Ss:LI),Pw.ZU ps A Bs n Ss->zC H H'->Q (.bl (Pw.z2H Ss x y)) H'
def uF.links{ls:Addr}{x:Nat}{row:List Int}(h:uF K H w lp ls n ps A Bs us S)(few:ps.length+row.length<=60)(d:x<n)(hr:∀ r∈row,0<=r/\r<(n:Int))(hw:ZC K H w2 (n:Int) ms)(pm:ms.Perm (ps ++ Pw.toL x row)):uF K H w2 lp ls n ms A Bs us S:=by
 have hf:ms.length<=100:=by rw[pm.length_eq,Z10];unfold Pw.toL;rw[ZB];lia
 have b:∀ p∈ms,0<=p.1/\p.1<(n:Int)/\0<=p.2/\p.2<(n:Int):=λp c=>by
  rcases Z20.mp (pm.mem_iff.mp c) with z | z;exact h.g.lk p z;obtain⟨r,a,rfl⟩:=Z18.mp z;have:=hr r a;show 0<=r/\r<(n:Int)/\0<=(x:Int)/\(x:Int)<n;lia
 exact⟨{ h.g with web:=hw,few:=hf,lk:=b },h.pr,h.n12,h.sA,h.sS⟩
end L2
namespace Pw
noncomputable def YU(P:List Int->Prop)(l:List Int):Option (List Int)->Prop
 | none=>∀ m row,row∈Xs l m->¬ P row
 | some row=>∃ m i:Nat,(Xs l m)[i]?=some row/\P row/\(∀ b r,b<m->r∈Xs l b->¬ P r)/\∀ (a:Nat) r,a<i->(Xs l m)[a]?=some r->¬ P r
def YU.uniq:∀ {c d:Option (List Int)},YU P l c->YU P l d->c=d
 | none,none,_,_=>rfl
 | none,some row,h,⟨m,i,e,p,_⟩=>absurd p (h m row (Z1q e))
 | some row,none,⟨m,i,e,p,_⟩,h=>absurd p (h m row (Z1q e))
 | some c,some d,⟨m,i,e,p,h1,h2⟩,⟨m',i',e',p',h1',h2'⟩=>by
   have a:¬ m<m':=λz=>h1' m c z (Z1q e) p;have b:¬ m'<m:=λz=>h1 m' d z (Z1q e') p';obtain rfl:m=m':=00
   have a:¬ i<i':=λz=>h2' i c z e p;have b:¬ i'<i:=λz=>h2 i' d z e' p';obtain rfl:i=i':=00
   exact e.symm.trans e'
def YU.sub{row:List Int}(h:YU P l (some row)):row.Sublist l/\P row:=by
 obtain⟨m,i,e,p,_⟩:=h;exact⟨(Yu.mp (Z1q e)).1,p⟩
end Pw
namespace L2
open Pw
noncomputable def Xp(H0:Hp)(us:List V):Prop:=∀ r,V.ref r∈us->H0 r=none
def Xp.append(h:Xp H0 us)(g:Xp H0 vs):Xp H0 (us ++ vs):=λr hr=>by
 rcases Z20.mp hr with z | z;exact h r z;exact g r z
def Xp.nil(H0:Hp):Xp H0 []:=λr hr=>by simp at hr
def Xp.one(h:H0 q=none):Xp H0 [.ref q]:=λr hr=>by
 have:=Z01.mp hr;injection this with this;rw[this];exact h
noncomputable def Z4t(H0 H:Hp)(D:Addr)(Fs:List (List Int)):Prop:=∃ us,H D=some (.lst us)/\us.length=Fs.length/\(∀ (i:Nat) (row:List Int),Fs[i]?=some row->∃ r:Addr,us[i]?=some (V.ref r)/\H r=some (.lst (row.map V.int)))/\Xp H0 us
def Z1.Z4D(h:Z1 H Fs us X)(e:H D=some (.lst us))(n:Xp H0 us):Z4t H0 H D Fs :=
 ⟨us,e,h.1,λi row e=>by obtain⟨r,a,_,b⟩:=h.2 i row e;exact⟨r,a,b⟩,n⟩
noncomputable def VY(K:FR)(m:Nat):Sp:=λvs H Q _=>∃ (p:Addr) (l:List Int),vs=[.ref p,.int (m:Int)]/\H p=some (.lst (l.map V.int))/\l.length<=12/\∀ (D:Addr) (H':Hp),zC H H'->H D=none->Z4t H H' D (Pw.Xs l m)->Q (.ref D) H'
noncomputable def Z5j(K:FR)(M:Nat):Sp:=λvs H Q E=>∃ m,m<M/\VY K m vs H Q E
noncomputable def JT(K:FR)(M:Nat):Sp:=λvs H Q E=>∃ m,m<=M/\VY K m vs H Q E
noncomputable def Z3f(G:Hp)(a:V)(o:Option (List Int)):Prop:=(o=none/\a=.Zn)\/∃ b row,o=some row/\a=.ref b/\G b=some (.lst (row.map V.int))
def ZZ(h:Q [] H):VB σ H Q:=h
open Pw
def Z2r(i:Nat):yT xs none (some (i:Int))=xs.take i:=by
 unfold yT;rw[HT.yG,HT.Z4,List.drop_zero,Nat.sub_zero];by_cases h:i<=xs.length;rw[Nat.min_eq_left h];rw[Nat.min_eq_right 00,Z12 (Z02 _),Z12 00]
def Z3i(P R:Hp->Prop)(d:∀ T U:Hp->Prop,(∀ H1,P H1->T H1)->(∀ H1,R H1->U H1)->c σ H λb H1=>if b=true then T H1 else U H1)(f:∀ H1,P H1->t D σ H1)(a:∀ H1,R H1->u D σ H1):Z0h c t u D σ H:=d (t D σ) (u D σ) f a
noncomputable def FnAt(K:FR)(n:Str)(st:Stmt):Prop:=∃ f fd,PySem.W.nsIn K mainGlobals n=some (some 034)/\vc K n n st f fd
def FnAt.of{n:Str}{st:Stmt}{kV:Value}(a:PySem.W.nsIn K mainGlobals n=some (some 034))(l:K.lookup f=some ⟨oc,od,.func (PySem.W.fnOf n n (ZT st) (Zs st) (zo st) .none kV doc pm an cdv ct),osl⟩)(c:PySem.W.codeIn K cdv n=true)(k:PySem.W.keepIn K 034=true):FnAt K n st:=⟨_,_,a,z2F l c k⟩
def FnAt.fnd{h:Heap}{mg:SV}{n:Str}{st:Stmt}(ps:List Str)(x:FnAt K n st)(XK:K.In h)(G:h.Ns mainGlobals mg)(b:∀ (kV doc pm:Value) (an:Option Addr) (cdv ct:Value) (us:List Value),us.length=ps.length->bindArgs (PySem.W.fnOf n n (ZT st) (Zs st) (zo st) .none kV doc pm an cdv ct) ⟨us,[]⟩=pure (ps.zip us)):ZH K mg n st ps:=by
 obtain⟨f,fd,a,F⟩:=x;exact⟨f,fd,F,Z45 XK G a,F.binds b⟩
noncomputable def z7p(ns:List Nat):List V:=ns.map λ(k:Nat)=>V.int (k:Int)
noncomputable abbrev z5W(p:Pos):Arguments:={ posonlyargs:=[],args:=[{ arg:="page",annotation:=none,pos:=p }],vararg:=none,kwonlyargs:=[],kw_defaults:=[],kwarg:=none,defaults:=[] }
noncomputable abbrev Jr:Scope:={ kind:=.function,names:=[("page",.local),("numbers",.free)],isGenerator:=false,isCoroutine:=false }
noncomputable abbrev z5v(p1 p2 p3 p4:Pos):Expr:=.UnaryOp .USub (.Subscript (.Name "numbers" p1) (.Name "page" p2) p3) p4
def z7a{x:Int}{tx:Tok}(d:A.depth<recursionLimit)(B:s.heap.get? f=some (kla_obj "<lambda>" qual (z5W p) (z5v p1 p2 p3 p4) Jr [("numbers",cN)] pm c' ctv))(l:s.heap.CodeRec (.ref c') qual)(lim:s.heap.NoLimit)(c:s.heap.IsCell cN (some (.ref nl)))(C:s.heap.IsList nl its)(hi:0<=i)(j:i<2 ^ 63)(v:its[i.toNat]?=some (.int x tx))(h:∀ h' z t',(∀ b o,s.heap.get? b=some o->h'.get? b=some o)->Q (.int (-x) t') { s with heap:=h',toks:=z }) :
 wpAny 09 A (call 034 [.int i t]) Q E s:=by
 refine wpAny_call (kla_callFunE d B rfl rfl rfl rfl l ?_);show wpAny 09 A.in1 (pure [(("page":Str),Value.int i t)]) _ _ s;refine wpAny_pure (wpAny_newFunctionEnv (show ∀ x∈Jr.names,x.2≠.cell by decide) (λy u=>by rcases Z01.mp u with rfl;rfl) (λa r m=>?_) rfl);have kp:∀ b o,s.heap.get? b=some o->a.get? b=some o:=λb o e=>m.extBut b o (Z14 (Z0k e)) (Z00 _ e);refine⟨lim.keeps kp,kla_codeExpr ?_⟩;obtain⟨oc,n,q⟩:=c;refine UnaryOp_ (Subscript_ (wpAny_Name (wpAny_loadName_free rfl rfl rfl ⟨oc,kp _ _ n,q⟩ (wpAny_Name (wpAny_loadName_local rfl rfl r rfl ?_)))));exact item_listR (C.at λo e=>kp _ _ e) hi j v (neg_int (h a _ _ kp)) rfl
noncomputable def z5r(a:Addr)(o:Obj):HO:=.ext λh=>h.get? a=some o
noncomputable def Vm(c:Addr)(qual:Str):HO:=.ext λh=>h.CodeRec (.ref c) qual
noncomputable def Tab(P:Addr)(pos:Pos)(qual:Str)(H:Hp):Prop:=H P=some (.XH #[])\/∃ a,H P=some (.XH #[rawInt pos.line,rawInt pos.col,.ref a])/\H a=some (Vm a qual)
noncomputable def Bm(base:Heap)(mg:SV):Prop:=∃ bm ob,mg "__builtins__"=some (.ref bm)/\bm≠builtinsNs/\bm≠mainGlobals/\base.get? bm=some ob/\ob.cls=.type "module"/\ob.dict=some builtinsNs/\ob.data=.plain
def jy(e:h.get? a=some o):Zg P w H h a (z5r a o):=⟨e,⟨o,e⟩,λc d b k=>k o b⟩
def z2P(e:h.CodeRec 027 q):Zg P w H h a (Vm a q):=by
 obtain⟨c,o,vs,t,b,f,d,v⟩:=id e;cases b;refine⟨e,⟨o,f⟩,λj l i k=>?_⟩;obtain⟨c,o,vs,t,b,f,d,v⟩:=i;cases b;exact⟨_,o,vs,t,rfl,k o f,d,v⟩
def z7q{X:Cx}{σ:St}{pos:Pos}(I:Inv X pins σ H s)(B:Bm X.base X.mg)(C:CodeHd X.base c P)(l:X.env.code=.ref c)(T:Tab P pos qual H)(hq:X.env.qual ++ "<lambda>"=qual)(F:closureFor Jr X.env=pure [(("numbers":Str),cN)])(h:∀ f a i pm H' s',Inv X pins σ H' s'->(∀ b o,b≠P->H b=some o->H' b=some o)->(∀ b,H b=none->b≠f->b≠a->H' b=none)->H f=none->H' f=some (z5r f (kla_obj "<lambda>" qual (z5W p) (z5v p1 p2 p3 p4) Jr [("numbers",cN)] pm a i))->H' a=some (Vm a qual)->Tab P pos qual H'->(∀ b o,b≠P->s.heap.get? b=some o->s'.heap.get? b=some o)->Q 034 s') :
 wpAny 06 X.A (eval (.Lambda (z5W p) (z5v p1 p2 p3 p4) Jr pos) X.env) Q X.xe s:=by
 refine kla_eval rfl ?_;rw[hq];have hg:s.heap.Ns mainGlobals X.mg:=I.mod.glob.keeps I.bk;have tr:∃ u,H P=some u:=by
  rcases T with T |⟨_,T,_⟩;exact⟨_,T⟩;exact⟨_,T⟩
 have hgP:mainGlobals≠P:=λq=>by
  obtain⟨o,es,ep,e,_⟩:=I.mod.glob;obtain⟨u,N⟩:=tr;rw[q] at e;rw[(I.bs _ _ e).2] at N;cases N
 have S:s.heap.BuiltinsAt X.mg P:=by
  obtain⟨bm,ob,b1,b2,b3,b4,b5⟩:=B;refine⟨bm,ob,b1,b2,b3,λq=>?_,I.bk _ _ b4,b5⟩;obtain⟨u,N⟩:=tr;rw[q] at b4;rw[(I.bs _ _ b4).2] at N;cases N
 rcases T with T |⟨a,T,Tc⟩;have R:s.heap.get? P=some (tabObj #[]):=I.hok P _ T;refine kla_makeFunction (ps:=#[]) F I.ok.glob hg l (C.keeps I.bk) R trivial rfl hgP S λa i h' Z hx m O K htb=>?_
 generalize hobj:kla_obj "<lambda>" qual (z5W p) (z5v p1 p2 p3 p4) Jr [("numbers",cN)] ((X.mg "__name__").getD .none) a i=ob;have nP:P<s.heap.objs.size:=Z0k R;have fc:H a=none:=I.hok.fresh m;have sz:s.heap.objs.size<=h'.objs.size:=Z0Y m (Nat.le_of_lt O);have L:H h'.objs.size=none:=I.hok.fresh sz;have cP:a≠P:=λq=>by subst q;exact Z34 _ (Z0X nP m)
 have fP:h'.objs.size≠P:=λq=>by rw[← q] at nP;exact Z34 _ (Z0X nP sz)
 have fc2:a≠h'.objs.size:=Z14 O;have keep:∀ b o,b≠P->s.heap.get? b=some o->(h'.push ob).get? b=some o:=λb o S e=>Z00 _ (hx b o S e);have r:h'.get? P=some (tabObj #[rawInt pos.line,rawInt pos.col,.ref a]):=by simpa using htb
 generalize eH:upd (upd (upd H P (.XH #[rawInt pos.line,rawInt pos.col,.ref a])) a (Vm a qual)) h'.objs.size (z5r h'.objs.size ob)=H';have G:H' h'.objs.size=some (z5r h'.objs.size ob):=by rw[← eH,zB]
 have D:H' a=some (Vm a qual):=by rw[← eH,zD fc2,zB]
 have E:H' P=some (.XH #[rawInt pos.line,rawInt pos.col,.ref a]):=by rw[← eH,zD fP.symm,zD cP.symm,zB]
 have U:∀ b,b≠P->b≠a->b≠h'.objs.size->H' b=H b:=λb y Y h3=>by rw[← eH,zD h3,zD Y,zD y]
 have j:∀ b o,b≠P->H b=some o->H' b=some o:=λb o y e=>by rw[U b y (zh e fc) (zh e L)];exact e
 have hok:xZ X.prog X.w H' (h'.push ob):=λb u e=>by
  by_cases b1:b=h'.objs.size;subst b1;rw[G] at e;cases e;exact jy (Z0r _ (by rw[← hobj];rfl));by_cases b2:b=a;subst b2;rw[D] at e;cases e;obtain⟨c,o,vs,t,ec,eo,d,v⟩:=K;cases ec;exact z2P ⟨_,o,vs,t,rfl,Z00 _ eo,d,v⟩;by_cases b3:b=P;subst b3;rw[E] at e;cases e;exact Z00 _ r;rw[U b b3 b2 b1] at e;refine (I.hok b u e).stay (λx v hx1 q=>keep x v ?_ q) (λx q=>j x _ ?_ q) λx xs q=>j x _ ?_ q;rintro rfl;rcases hx1 with z | z;exact b3 z.symm;rw[T] at z;cases z;rintro rfl;rw[T] at q;cases q;rintro rfl;rw[T] at q;cases q
 have un:Un X.fs [] H H' s.heap (h'.push ob):=by
  have nn:∀ b,H b=none->b≠P:=λb n q=>by subst q;rw[T] at n;cases n
  refine⟨λb o e n _ _=>keep b o (nn b n) e,λb o e n _ _=>⟨o.slots,keep b o (nn b n) e⟩,λb o e n _=>?_,λb o e _=>?_,λb xs e=>j b _ ?_ e,λb o u e=>j b _ ?_ e,λb ps e=>?_⟩;have lb:=Z0k e;rw[U b (nn b n) (Z14 (Z0X lb m)) (Z14 (Z0X lb sz))];exact n;by_cases z:b=P;subst z;exact⟨_,Z00 _ r⟩;exact⟨o,keep b o z e⟩;rintro rfl;rw[T] at e;cases e;rintro rfl;rw[T] at e;cases e;by_cases z:b=P;subst z;rw[T] at e;cases e;exact⟨#[rawInt pos.line,rawInt pos.col,.ref a],by rw[E];simp⟩;exact⟨#[],by rw[j b _ z e];simp⟩
 subst hobj;exact h _ a i _ H' _ (I.un (t':=Z) un hok) j (λb n y Y=>by rw[U b (λq=>by subst q;rw[T] at n;cases n) Y y];exact n) L G D (.inr ⟨a,E,D⟩) keep;have R:s.heap.get? P=some (tabObj #[rawInt pos.line,rawInt pos.col,.ref a]):=I.hok P _ T;refine kla_makeFunctionHit (ps:=#[rawInt pos.line,rawInt pos.col,.ref a]) (cv:=.ref a) F I.ok.glob hg l (C.keeps I.bk) R trivial (by simp[codeAmong,rawInt]) S λi h' Z kp sz=>?_;generalize hobj:({ cls:=.type "function",data:=.func (kla_fn "<lambda>" qual (z5W p) (z5v p1 p2 p3 p4) Jr [("numbers",cN)] ((X.mg "__name__").getD .none) 027 i) }:Obj)=ob;have L:H h'.objs.size=none:=I.hok.fresh sz;have M:∀ b o,s.heap.get? b=some o->(h'.push ob).get? b=some o:=λb o e=>Z00 _ (kp b o e);have j:∀ b o,H b=some o->upd H h'.objs.size (z5r h'.objs.size ob) b=some o:=λb o e=>by rw[zD (zh e L)];exact e
 have J:=I.laid (t':=Z) (o:=z5r h'.objs.size ob) M sz (jy (Z0r _ (by rw[← hobj];rfl)));subst hobj;exact h _ a i _ _ _ J (λb o _ e=>j b o e) (λb n y _=>by rw[zD y];exact n) L zB (j _ _ Tc) (.inr ⟨a,j _ _ T,j _ _ Tc⟩) λb o _ e=>M b o e
noncomputable def Z2n(vs:List Value)(n:Nat):Prop:=vs.length=n/\∀ (j:Nat) (x:Value),vs[j]?=some x->∃ t,x=.int (j:Int) t
def JB{prog:Program}{w:World}{A:Around}{E:Value->Shared->Prop}{s:Shared}{r:Addr}{n:Nat}{t u v:Tok}{Q:Value->Shared->Prop}(m:A.handled=none)(hr:IsRange s.heap r 0 (n:Int) 1 t u v)(hn:n<=1000)
 (h:∀ h' j acc c,(∀ b o,b≠s.heap.objs.size->(s.heap.push { cls:=.type "list",data:=.seq ([]:List Value).toArray }).get? b=some o->h'.get? b=some o)->h'.get? s.heap.objs.size=some { cls:=.type "list",dict:=none,data:=.seq acc c,slots:=#[] }->ItemsOf (λi v=>∃ t,v=.int (0+i * 1) t) acc n->Q 023 { s with heap:=h',toks:=j }) :
 wpAny 09 A.in1 (Builtin.List.listExtendWith 023 (.ref r) 023)
  (λfin s'=>match fin with | .done f=>(match (Except.ok f:Result) with | .ok (.ret v)=>Q v s' | .ok _=>False | .error e=>E e s') | .again c'=>c'.quiet=true/\codeAny 09 A c' (λr s'=>match r with | .ok (.ret v)=>Q v s' | .ok _=>False | .error e=>E e s') s') (λe s'=>match (Except.error e:Result) with | .ok (.ret v)=>Q v s' | .ok _=>False | .error e=>E e s') { s with heap:=s.heap.push { cls:=.type "list",data:=.seq ([]:List Value).toArray } }:=by
 have d:Builtin.Range.small 0 (n:Int) 1=true:=small_one 01 01 00 00;exact wpAny_extend_range (R:=λr s'=>match r with | .ok (.ret v)=>Q v s' | .ok _=>False | .error e=>E e s') (s:={ s with heap:=s.heap.push { cls:=.type "list",data:=.seq ([]:List Value).toArray } }) (n:=n) m (Z00 _ hr) d (by rw[rangeSize_one];split <;> lia) 00 s.heap.objs.size _ 0 (Z0r _ rfl) λh' j acc c kp l a=>h h' j acc c kp l a
def z0R(p:A.handled=none)(hr:IsRange s.heap r 0 (n:Int) 1 t u v)(hn:n<=1000)(h:∀ h' f vs,Z2n vs n->(∀ b o,s.heap.get? b=some o->h'.get? b=some o)->Q vs { s with heap:=h',toks:=f }):wpAny 09 A (collect (.ref r)) Q E s:=by
 unfold collect;refine wpAny_bind (wpAny_runValue (codeAny_builtin F.entry_proto_collect ?_));rw[Around.under_plainId F.plain_proto_collect _];show wpAny _ A.in1 (newList [] >>= λl=>again (.builtin "list.__iadd__" ⟨[l,.ref r],[]⟩)) _ _ s;refine wpAny_bind (wpAny_newObj_type ?_);refine wpAny_pure ⟨plainId_quiet F.plain_list_iadd _,codeAny_builtin F.entry_list_iadd ?_⟩;rw[Around.under_plainId F.plain_list_iadd _];show wpAny _ A.in1 (Builtin.List.listExtendWith 023 (.ref r) 023) _ _ _;refine JB (Q:=λv s'=>wpAny 09 A (match v with | .ref a=>do { let o ←load a;match o.data with | .seq xs _=>pure xs.toList | _=>unsupported "internal:collect" } | _=>unsupported "internal:collect") Q E s') p hr hn λh' f acc c kp i d=>?_
 show wpAny _ A (load s.heap.objs.size >>= _) _ _ _;refine wpAny_bind (wpAny_load i (wpAny_pure ?_));refine h h' f acc.toList ⟨by rw[Z11];exact d.1,λj x m=>?_⟩ λb o e=>kp b o (Z14 (Z0k e)) (Z00 _ e);obtain⟨t,e⟩:=d.2 j x (by rw[← Z42];exact m);exact⟨t,by rw[e];congr 1;lia⟩
def Jw(j:A.handled=none)(hr:IsRange s.heap r 0 (n:Int) 1 t u v)(hn:n<=1000)(h:∀ (g:Heap) (D:Addr) (c:Nat) (vs:List Value),Z2n vs n->(∀ b o,s.heap.get? b=some o->g.get? b=some o)->(∀ b o,s.heap.get? b=some o->b<D)->g.get? D=some (seqObj "list" vs.toArray 0)->
  wpAny 09 A.in1.in1 (ksk_tree D 034 false) (λfin s'=>fin=.done (.ret .none)/\Q (.ref D) s') E { s with heap:=g,toks:=c }) :
 wpAny 09 A (call (.builtin "sorted") [.ref r] [(Str.ofString "key",.ref f)]) Q E s:=by
 refine call_function_entry_kw kind_sorted plain_sorted entry_sorted (ksk_s1 _ _) ?_;unfold Builtin.«sorted»;refine wpAny_bind (m:=checkCount "sorted" 1 1 _) (wpAny_pure ?_);refine wpAny_bind (z0R j hr hn λg c vs d kp=>?_);have few:vs.length<=sizeLine:=by rw[d.1,sizeLine_eq];lia
 refine wpAny_bind (wpAny_newList ?_ few);have a:(g.push (seqObj "list" vs.toArray 0)).get? g.objs.size=some (seqObj "list" vs.toArray 0):=Z0r _ rfl;have lt:∀ b o,s.heap.get? b=some o->b<g.objs.size:=λb o e=>Z0k (kp b o e);refine wpAny_bind (wpAny_holding (wpAny_call_entry_kw slot_list_sort ⟨_,a,rfl⟩ entry_list_sort ?body (ksk_l1 _ _)))
 case body =>
  show wpAny 09 A.in1.in1 (Builtin.«list.sort» ⟨[.ref g.objs.size],[(Str.ofString "key",.ref f)]⟩) _ _ _;rw[ksk_t1];refine wpAny_mono (h (g.push (seqObj "list" vs.toArray 0)) g.objs.size c vs d (λb o e=>Z00 _ (kp b o e)) lt a) (λfin s' hf=>?_) λ_ _ e=>e;obtain⟨rfl,i⟩:=hf;exact⟨_,rfl,wpAny_pure ⟨_,rfl,i⟩⟩
def ints_snoc{ns:List Int}{k:Int}(h:IntsAre vs ns):IntsAre (vs ++ [.int k t]) (ns ++ [k]):=ksk_snoc h
theorem z0z{Fin:List Value->Nat->Shared->Prop}(z:Z2n vs n)(C:∀ q∈news,q.1<D)(u:D<kS)(turn:∀ (i:Nat) (H:Tok) (h:Heap) (d:Nat) (R:Value->Shared->Prop),i<n->Fr h₀ L h m->News h₀ L h news->(∀ h' y t',(∀ b o,h.get? b=some o->h'.get? b=some o)->R (.int (key i) t') { s with heap:=h',toks:=y })->wpAny 09 A (call 034 [.int (i:Int) H]) R (λ_ _=>False) { s with heap:=h,toks:=d })(fin:∀ a e h d,Fr h₀ L h m->News h₀ L h ((kS,seqObj "list" (List.toArray a) e) :: (D,seqObj "list" #[] e1) :: news)->IntsAre a ((List.range n).map key)->Fin a e { s with heap:=h,toks:=d }) :
 ∀ (r:List Value) (j:Nat) (a:List Value) (e:Nat) (h:Heap) (d:Nat),r=vs.drop j->j<=n->Fr h₀ L h m->News h₀ L h ((kS,seqObj "list" (List.toArray a) e) :: (D,seqObj "list" #[] e1) :: news)->IntsAre a ((List.range j).map key)->KatKeys prog w A h₀ L m kS 034 Fin r a e { s with heap:=h,toks:=d }
 | [],j,a,e,h,d,hr,hj,F,N,hi=>by
   have:j=n:=by
    have:=congrArg List.length hr;rw[Z3K,z.1] at this;simp at this;lia
   subst this;exact KatKeys.nil (fin a e h d F N hi)
 | v :: r,j,a,e,h,d,hr,hj,F,N,hi=>by
   have l:j<n:=by
    have:=congrArg List.length hr;rw[Z3K,z.1,Z07] at this;lia
   have hd:vs.drop j=vs[j]'(by rw[z.1];exact l) :: vs.drop (j+1):=List.drop_eq_getElem_cons (by rw[z.1];exact l);rw[hd] at hr;injection hr with e1' e2';obtain⟨t,E⟩:=z.2 j v (by rw[e1'];simp);subst E;refine KatKeys.cons (turn j t h d _ l F (λp B=>N p (.tail _ (.tail _ B))) λh' y t' kp=>?_);refine KatBack.intro (F.kept kp) (N.grown kp) (.head λp B=>?_) λG c F2 N2=>?_;rcases Z08.mp B with rfl | B;exact Z14 u;exact Z14 (Nat.lt_trans (C p B) u);refine z0z z C u turn fin r (j+1) _ c G y e2' l F2 N2 ?_;rw[Z5w,Z13];exact ints_snoc hi
noncomputable def ltK(key:Nat->Int)(i j:Nat):Bool:=decide (key i<key j)
def Z0I(key:Nat->Int):Srt.Ord (ltK key):=by
 refine⟨λi j h=>?_,λi j k a b=>?_⟩ <;> simp only[ltK,decide_eq_true_eq,decide_eq_false_iff_not] at * <;> lia
noncomputable def Stb(key:Nat->Int)(p:List Nat):Prop:=∀ k,1<=k->k<p.length->key (p.getD (k - 1) 0)<key (p.getD k 0)\/(key (p.getD (k - 1) 0)=key (p.getD k 0)/\p.getD (k - 1) 0<=p.getD k 0)
def z5F{ps:List (Int×Value)}{kz:List Int}{vs:List Value}(h:ps.Perm (kz.zip vs))(a:kz.length=vs.length)(b:vs.length<2):ps.map Prod.snd=vs:=by
 rcases vs with _ |⟨y,_ |⟨z,r⟩⟩;have e:kz=[]:=List.eq_nil_of_length_eq_zero a;subst e;rw[show ps=[] from List.perm_nil.mp h];rfl;obtain⟨k,rfl⟩:=List.length_eq_one_iff.mp a;rw[show ps=[(k,y)] from List.perm_singleton.mp h];rfl;simp at b;lia
def z5A{X:Cx}{σ:St}(I:Inv X pins σ H s)(hc:X.calm=true)(hr:IsRange s.heap r 0 (n:Int) 1 t u v)(Y:n<64)(turn:∀ (i:Nat) (S:Tok) (h:Heap) (K:Nat) (R:Value->Shared->Prop),i<n->(∀ b o,b≠X.env.locals->s.heap.get? b=some o->h.get? b=some o)->(∀ h' E t',(∀ b o,h.get? b=some o->h'.get? b=some o)->R (.int (key i) t') { s with heap:=h',toks:=E })->
  wpAny 06 X.A.in1.in1 (call 034 [.int (i:Int) S]) R (λ_ _=>False) { s with heap:=h,toks:=K })(q:∀ (p:List Nat) (D:Addr),p.Perm (List.range n)->Stb key p->H D=none->Q (.ref D) (upd H D (.lst (p.map λ(i:Nat)=>V.int (i:Int))))) :
 wpAny 06 X.A (call (.builtin "sorted") [.ref r] [(Str.ofString "key",.ref f)]) (EP X pins σ Q) X.xe s:=by
 refine Jw (I.ok.hd hc) hr 00 λg D K vs y kpg J hoL=>?_;obtain⟨m,hn,_⟩:=id I.loc;have F0:Fr X.base X.env.locals s.heap m:=⟨hn,I.bk,Z0Y I.ok.bsz I.ok.above⟩;have F:=F0.kept kpg;have N:News X.base X.env.locals g (yE X.base s.heap X.env.locals):=News.grown z0f kpg;have d:∀ {h':Heap}{r:List 014},Fr X.base X.env.locals h' m->News X.base X.env.locals h' r->(∀ p∈yE X.base s.heap X.env.locals,p∈r)->∀ b o,b≠X.env.locals->s.heap.get? b=some o->h'.get? b=some o:=λ{h' r} F' N' sub b o hb e=>by
  cases z:X.base.get? b with
  | some u =>
    have:=I.bk b u z;rw[e] at this;cases this;exact F'.keep b _ z
  | none=>exact (N' (b,o) (sub _ (Vn hb z e))).1
 have hLD:X.env.locals<D:=by obtain⟨o,_,_,ho,_⟩:=hn;exact J _ _ ho
 have L:∀ p∈yE X.base s.heap X.env.locals,p.1<D:=λp G=>J _ _ (xH G).2.2;have Z:X.base.get? D=none:=by
  cases z:X.base.get? D with
  | none=>rfl
  | some o=>exact absurd (J D o (I.bk _ _ z)) (Z34 _)
 have hHD:H D=none:=by
  cases z:H D with
  | none=>rfl
  | some u =>
    obtain⟨o,e⟩:=Zg.there (I.hok D u z);exact absurd (J _ _ e) (Z34 _)
 have B:∀ (i:Nat) (S:Tok) (h:Heap) (K:Nat) (R:Value->Shared->Prop),i<n->Fr X.base X.env.locals h m->News X.base X.env.locals h (yE X.base s.heap X.env.locals)->(∀ h' E t',(∀ b o,h.get? b=some o->h'.get? b=some o)->R (.int (key i) t') { s with heap:=h',toks:=E })->
  wpAny 06 X.A.in1.in1 (call 034 [.int (i:Int) S]) R (λ_ _=>False) { s with heap:=h,toks:=K }:=λi S h K R hi F' N' k=>turn i S h K R hi (d F' N' λp G=>G) k
 have fin:∀ {p:List Nat}{T:Heap}{O c:Nat}{out:List Value},p.Perm (List.range n)->Stb key p->Fr X.base X.env.locals T m->(∀ b o,b≠X.env.locals->s.heap.get? b=some o->T.get? b=some o)->T.get? D=some (seqObj "list" out.toArray c)->out=(p.map λi=>vs.getD i Value.none)->
  EP X pins σ Q (.ref D) { s with heap:=T,toks:=O }:=λ{p T O c out} pm st F3 kp3 hD3 eo=>by
  have rel:Vals (p.map λ(i:Nat)=>V.int (i:Int)) out:=by
   subst eo;have key:∀ (l:List Nat),(∀ i∈l,i<n)->Vals (l.map λ(i:Nat)=>V.int (i:Int)) (l.map λi=>vs.getD i Value.none):=by
    intro l
    induction l with
    | nil=>intro _;exact .nil
    | cons a l ih =>
      intro hl';have ha:a<vs.length:=(by rw[y.1];exact hl' a Z09);obtain⟨t,et⟩:=y.2 a vs[a] (by simp[ha]);have e2:vs.getD a Value.none=vs[a]:=(by simp[ha]);rw[Z1d,Z1d,e2,et];exact .cons ⟨t,rfl⟩ (ih λi hi=>hl' i (Z06 _ hi))
   exact key _ λi hi=>Z25.mp (pm.mem_iff.mp hi)
  refine⟨.ref D,_,I.z2E (t':=O) hn F3 kp3 hHD (λo e=>Z34 _ (J D o e)) hD3 rel ?_,rfl,q p D pm st hHD⟩;rw[ZB,pm.length_eq,Z29,sizeLine_eq];lia
 by_cases h2:2<=n;have h2':2<=vs.length:=by rw[y.1];exact h2
 refine kat_keyed F N hoL (Z40 hLD) Z (λp G=>Z14 (L p G)) h2' (by rw[y.1];exact Y) λkS e1 h' F' N' l0 l1=>?_;refine z0z (s:=s) (n:=n) (key:=key) (D:=D) y L l0 B (λU e h K F2 N2 hi=>?_) vs 0 [] 0 h' K rfl (Z15 _) F' N' .nil;have hkl:U.length=n:=by rw[hi.length];simp
 rw[ksk_kind (keys:=List.toArray U) (kz:=(List.range n).map key) (by simpa using hi) (by simpa using (by lia:2<=U.length))];refine wpAny_pure ?_;show (kas_sort vs.length).kasWp (kas_ask X.prog X.w X.A.in1.in1 oneType' U) (λp s3=>KatFin X.base X.env.locals m kS D U e e1 (p.toList.map λi=>vs.getD i Value.none) _ s3) _;rw[y.1];refine Srt.JH (n:=n) (P:=λs'=>s'={ s with heap:=h,toks:=K }) (ltK key) (λi j C s2 hi' hj p2 hc'=>?_) (kas_sort n) _ (Srt.jM 00) rfl λs2 p2=>?_;subst p2;unfold kas_ask;have gi:∀ {i:Nat},i<n->∃ t,U.getD i Value.none=.int (key i) t:=λ{i} hi2=>by
  obtain⟨t,et⟩:=hi.get i (key i) (by simp[hi2]);exact⟨t,by rw[Z05,et];rfl⟩
 obtain⟨t1,e1⟩:=gi hi';obtain⟨t2,e2⟩:=gi hj;rw[e1,e2];exact kat_lt_int (hc' _ rfl);subst p2;obtain⟨pm,st⟩:=Srt.z0M (Z0I key) (n:=n) 00;generalize Srt.run (ltK key) (kas_sort n)=p at *;have hpl:p.toList.length=n:=by rw[pm.length_eq,Z29]
 refine KatFin.intro F2 N2 (.head λx M=>?_) λT c3 F3 N3=>KasFin.intro F3 N3 (.tail (Z40 l0) (.head λx M=>Z14 (L x M))) λh4 c4 F4 N4=>⟨rfl,?_⟩;rcases Z08.mp M with rfl | M;exact Z14 l0;exact Z14 (l1 x M);refine fin pm (λk k1 k2=>?_) F4 (d F4 N4 λx M=>.tail _ (.tail _ M)) (N4 (D,listOf (List.toArray (p.toList.map λi=>vs.getD i Value.none)) c4) (.tail _ (.head _))).1 rfl
 have:=st k k1 00;rw[JQ,JQ];obtain⟨a1,a2⟩:=this;simp only[ltK,decide_eq_true_eq,decide_eq_false_iff_not] at a1 a2;lia;refine ksk_sort (s:={ s with heap:=g,toks:=K }) (kz:=(List.range n).map key) F N hoL (Z40 hLD) Z (λp G=>Z14 (L p G)) (by simp[y.1]) (by rw[y.1];exact Y) (λi v k hvi hki h tk2 own F2 N2=>?_) λT O out c3 F3 N3 ko=>⟨rfl,?_⟩;have hi:i<n:=by rw[← y.1];exact (Z16.mp hvi).1
 obtain⟨S,rfl⟩:=y.2 i v hvi;have:k=key i:=by
  rw[Z17,List.getElem?_range hi] at hki;exact (Z19 hki).symm
 subst this;exact B i S h tk2 _ hi F2 (λp G=>N2 p (Z54 _ G)) λh' E t' kp=>⟨h',E,t',rfl,rfl,F2.kept kp,N2.grown kp⟩;obtain⟨ps,G,ho,_⟩:=ko;have eo:out.toList=vs:=by
  rw[ho];exact z5F G (by simp[y.1]) (by rw[y.1];lia)
 refine fin (p:=List.range n) (List.Perm.refl _) (λk k1 k2=>by rw[Z29] at k2;lia) F3 (d F3 N3 λx M=>.tail _ M) (out:=out.toList) (c:=c3) (by rw[Array.toArray_toList];exact (N3 _ (.head _)).1) ?_;rw[eo];have:∀ (l:List Value),(List.range l.length).map (λi=>l.getD i Value.none)=l:=λl=>by
  apply List.ext_getElem;simp;intro i h1 h2;simp at h1 h2 ⊢;simp[h1]
 rw[← y.1];exact (this vs).symm
def z0s(h:env.cells.lookup ("numbers":Str)=some c):closureFor Jr env=pure [(("numbers":Str),c)]:=by
 unfold closureFor;show (do let __s ←forIn [(("page":Str),NameKind.local),(("numbers":Str),NameKind.free)] ([]:List (Str×Addr)) _;pure __s)=_;rw[Z5x];simp only[show (NameKind.local == NameKind.free)=false from rfl,Bool.false_eq_true,if_false,pure_bind];rw[Z5x];simp only[show (NameKind.free == NameKind.free)=true from rfl,if_true,cellOf,h,pure_bind,List.forIn_nil]
def Inv.Z4L{X:Cx}{σ:St}(I:Inv X pins σ H s)(h:zN X.K H a xs):a≠X.env.locals:=by
 rintro rfl;obtain⟨its,_,pl,_⟩:=I.list h;obtain⟨o,e,c,n,d⟩:=pl.isList;obtain⟨m,⟨o',f,i,b,hd,_⟩,_⟩:=I.loc;rw[e] at b;cases b;rw[d] at hd;cases hd
noncomputable def z7x(K:FR)(P:Addr)(pos:Pos)(qual:Str)(i:Nat)(a:TA):TE:=λσ H Q=>a σ H λvs H1=>∃ (n:Nat) (nl:Addr) (ms:List Int),vs=[.int (n:Int)]/\n<64/\σ[i]?=some (some (.ref nl))/\zN K H1 nl (ms.map V.int)/\n<=ms.length/\Tab P pos qual H1/\
 ∀ (p:List Nat) (D:Addr) (H':Hp),p.Perm (List.range n)->Stb (λi=>-(ms.getD i 0)) p->(∀ b o,b≠P->H1 b=some o->H' b=some o)->H1 D=none->H' D=some (.lst (p.map λ(i:Nat)=>V.int (i:Int)))->Tab P pos qual H'->Q (.ref D) H'
def z3g{X:Cx}{a:Expr}{ta:TA}{i:Nat}{P c:Addr}{qual:Str}{p p' q pos pos' l kp p1 p2 p3 p4:Pos}(hr:Zf 2 X.A)(hc:X.calm=true)(B:Bm X.base X.mg)(C:CodeHd X.base c P)(r:X.env.code=.ref c)(hq:X.env.qual ++ "<lambda>"=qual)
 (hgS:Gl X "sorted") (hmS:X.mg "sorted"=none) (hgE:Gl X "range") (hmE:X.mg "range"=none) (hN:X.N[i]?=some ("numbers":Str)) (hK:X.env.scope.names.lookup ("numbers":Str)=some .cell) (ha:PA X [a] ta)
 (hs:starEach [.Call (.Name "range" p') [a] [] pos'] X.env=[(false,eval (.Call (.Name "range" p') [a] [] pos') X.env)]:=by rfl) (hs2:starEach [a] X.env=[(false,eval a X.env)]:=by rfl) :
 PE X (.Call (.Name "sorted" p) [.Call (.Name "range" p') [a] [] pos'] [⟨some "key",.Lambda (z5W q) (z5v p1 p2 p3 p4) Jr l,kp⟩] pos) (z7x X.K P l qual i ta):=by
 intro pins s σ H Q I h;refine wpAny_Call_Name_kw (yP I hgS hmS boot_sorted ?_ 01 01);refine callWith_kw ?_ (by rw[hs];rfl) (by rw[hs];rfl);rw[hs];show wpAny _ _ (spliced ((false,eval (.Call (.Name "range" p') [a] [] pos') X.env) :: backTo pos [])) _ _ s;refine Calls.spliced_cons ?_;refine wpAny_Call_Name_kw (yP I hgE hmE boot_range ?_ 01 01);refine Z27 (Zj (ha pos' pins s σ H _ I h) λus s1 ⟨vs,H1,I1,r1,q1⟩=>?_) hs2 rfl;obtain⟨n,nl,ms,rfl,hn,hσ,hl,hml,T,q⟩:=q1;obtain⟨u,rfl,ru⟩:=vals1 r1;obtain⟨t,rfl⟩:=ru;refine call_range_1 ?_;refine Calls.spliced_nil ?_;refine kws_cons ?_;have J:IsRange (s1.heap.push { cls:=.type "range",data:=.fields #[.int 0 s1.toks,.int (n:Int) t,.int 1 (s1.toks+1)] }) s1.heap.objs.size 0 (n:Int) 1 s1.toks t (s1.toks+1):=IsRange.new ..;have I2:Inv X pins σ H1 { s1 with heap:=s1.heap.push { cls:=.type "range",data:=.fields #[.int 0 s1.toks,.int (n:Int) t,.int 1 (s1.toks+1)] },toks:=s1.toks+1+1 }:=I1.kept λb o e=>Z00 _ e;obtain⟨cN,F⟩:=I2.ok.has "numbers" (.inl hK);have trP:∃ u,H1 P=some u:=by
  rcases T with T |⟨_,T,_⟩;exact⟨_,T⟩;exact⟨_,T⟩
 have rP:s1.heap.objs.size≠P:=λz=>by
  obtain⟨u,hu⟩:=trP;have:=I1.hok.lt hu;rw[← z] at this;exact Z34 _ this
 refine z7q I2 B C r T hq (z0s F) λf c' ctv pm H2 s2 I3 Z hF hf G Y T' keep=>kws_nil ?_;have y:=keep _ _ rP J;have M:zN X.K H2 nl (ms.map V.int):=by
  have ne:∀ {o:HO},H1 nl=some o->(∀ ps,o≠.XH ps)->nl≠P:=λ{o} e no z=>by
   rcases T with T |⟨_,T,_⟩;rw[z,T] at e;cases e;exact no _ rfl;rw[z,T] at e;cases e;exact no _ rfl
  rcases hl with (e |⟨o,e⟩) | e;exact .inl (.inl (Z _ _ (ne e λps z=>by cases z) e))
  exact .inl (.inr ⟨o,Z _ _ (ne e λps z=>by cases z) e⟩);exact .inr e
 obtain⟨its,rv,pl,_⟩:=I3.list M;have ia:=intsAre_of rv;obtain⟨m,hns,L⟩:=I3.loc;obtain⟨u,ru,lk⟩:=L i "numbers" (.ref nl) hN hσ (.inr (.inl hK));obtain rfl:u=.ref nl:=ru;have cell:s2.heap.IsCell cN (some (.ref nl)):=by
  rcases lk with⟨k,_⟩|⟨_,c2,e2,z⟩;have k:X.env.scope.names.lookup ("numbers":Str)=some .local:=k;rw[hK] at k;cases k;rw[F] at e2;cases e2;exact z
 have hfo:s2.heap.get? f=some _:=(I3.hok f _ G).1;have hcr:s2.heap.CodeRec (.ref c') qual:=(I3.hok c' _ Y).1;have S:∀ {b:Addr}{o:HO},H2 b=some o->b≠X.env.locals:=λ{b o} e z=>by rw[z,I3.free] at e;cases e
 refine z5A (key:=λi=>-(ms.getD i 0)) I3 hc y hn (λj tj h tk R hj kp k=>?_) λp D pm st E=>?_;have O:j<ms.length:=Z0X hj hml;obtain⟨tx,hx⟩:=ia.get j ms[j] (by simp[O]);have ex:ms.getD j 0=ms[j]:=by simp[O]
 have bl:∀ b o,X.base.get? b=some o->b≠X.env.locals:=λb o e z=>by
  have h1:=Z0k e;have h2:=Z0Y I3.ok.bsz I3.ok.above;rw[z] at h1;exact absurd (Z0X h1 h2) (Z34 _)
 have U:h.CodeRec (.ref c') qual:=by
  obtain⟨c,o,vs,t,ec,eo,d,v⟩:=hcr;cases ec;exact⟨_,o,vs,t,rfl,kp _ _ (S Y) eo,d,v⟩
 have w:h.IsCell cN (some (.ref nl)):=by
  obtain⟨o,e,d⟩:=cell;exact⟨o,kp _ _ (I3.cne _ _ F) e,d⟩
 refine z7a (s:={ s2 with heap:=h,toks:=tk }) (i:=(j:Int)) (x:=ms[j]) (its:=its.toArray) (hr.in1.in1.depth) (kp _ _ (S G) hfo) U (I3.ok.mod.nolimit.keeps λb o e=>kp b o (bl b o e) (I3.bk b o e)) w (pl.isList.at λo e=>kp _ _ (I3.Z4L M) e) 00 00 (by simpa using hx) λh' tk' t' kp'=>?_;have:=k h' tk' t' kp';rw[ex] at this;exact this;have hD1:H1 D=none:=by
  cases z:H1 D with
  | none=>rfl
  | some o =>
    by_cases e:D=P;subst e;rcases T' with T' |⟨_,T',_⟩;rw[T'] at E;cases E;rw[T'] at E;cases E;rw[Z _ _ e z] at E;cases E
 have up:∀ b o,H2 b=some o->upd H2 D (.lst (p.map λ(i:Nat)=>V.int (i:Int))) b=some o:=λb o e=>by rw[zD (zh e E)];exact e
 refine q p D _ pm st (λb o hb e=>up b o (Z b o hb e)) hD1 zB ?_;rcases T' with T' |⟨c2,T',Tc⟩;exact .inl (up _ _ T');exact .inr ⟨c2,up _ _ T',up _ _ Tc⟩
noncomputable def z7E(P:Addr)(H:Hp):Prop:=H P=some (.XH #[])/\∀ b,b≠P->H b=none\/∃ o xs,H b=some (.frz o (.lst xs))
def z6c{mg:SV}{k:Nat}{x:Str}{sp:Sp}{ns:List Int}(KX:K.In s₁.heap)(D:s₁.heap.Ns mainGlobals mg)(f:s₁.heap.Ns builtinsNs mb)(M:∀ x:Str,x≠"__name__"->mb x=bootBuiltins x)(B:s₁.heap.NoLimit)(hg:s₁.gens=#[])(S:∃ bm ob,mg "__builtins__"=some (.ref bm)/\bm≠builtinsNs/\s₁.heap.get? bm=some ob/\ob.cls=.type "module"/\ob.dict=some builtinsNs/\ob.data=.plain)(t:s₁.heap.get? tb=some (tabObj #[]))(L:K.lookup tb=none)(hC:codeHdIn K c tb=true)(ha:s₁.heap.get? a=some { cls:=.type "list",data:=.seq vs.toArray })(hi:IntsAre vs ns)(hl:ns.length<=sizeLine)(hr:Zf k callerA)(F:∀ base:Heap,K.In base->base.Ns mainGlobals mg->Bm base mg->Zu P w K mg base CX k fa fd [x] sp)(E:∀ (s:Shared) (u:Value),BindsTo s fd ⟨[u],[]⟩ [(x,u)])(O:∀ H:Hp,z7E tb H->zN K H a (ns.map V.int)->sp [.ref a] H (λv _=>v=.bl true) λ_ _ _=>False)(R:∀ H e s',CX [] H s₁ (λ_ _ _=>False) e s'->False) :
 codeAny (model P w) callerA (.call (.ref fa) ⟨[.ref a],[]⟩) (λr s'=>r=.ok (.ret (.bool true))/\OldK s₁.heap s'.heap/\s'.os=s₁.os/\AllBare s'.gens) s₁:=by
 have Y:=jh hi;have G:=hi.length;have at_:a≠tb:=λz=>by rw[z,t] at ha;cases ha
 have core:∀ H:Hp,z7E tb H->zN K H a (ns.map V.int)->xZ P w H s₁.heap->(∀ b,H b≠none->b=a\/b=tb)->(H a≠none->K.lookup a=none)->
  codeAny (model P w) callerA (.call (.ref fa) ⟨[.ref a],[]⟩) (λr s'=>r=.ok (.ret (.bool true))/\OldK s₁.heap s'.heap/\s'.os=s₁.os/\AllBare s'.gens) s₁:=by
  intro H I hS hok Q hK;have i:∀ {b:Addr}{o:Obj},s₁.heap.get? b=some o->H b=none->(UW s₁.heap H).get? b=some o:=λe n=>z6O e n;have N:∀ {b:Addr}{o:Obj},s₁.heap.get? b=some o->(∀ its n,o.data≠.seq its n)->o.cls≠.none->H b=none:=λ{b o} e d1 d2=>by
   cases q:H b with
   | none=>rfl
   | some u =>
     rcases Q b (by rw[q];simp) with j | j;subst j;rw[ha] at e;cases e;exact absurd rfl (d1 _ _);subst j;rw[t] at e;cases e;exact absurd rfl d2
  have T:∀ {b:Addr}{o:Obj}{p:Array DictEntry}{A:Nat},s₁.heap.get? b=some o->o.data=.dict p A->H b=none:=λ{b o p A} e d=>by
   cases q:H b with
   | none=>rfl
   | some u =>
     rcases Q b (by rw[q];simp) with j | j;subst j;rw[ha] at e;cases e;have d':Data.seq vs.toArray _=Data.dict p A:=d;cases d';subst j;rw[t] at e;cases e;have d':Data.fields #[]=Data.dict p A:=d;cases d'
  have l:∀ {b:Addr}{m:SV},s₁.heap.Ns b m->(UW s₁.heap H).Ns b m:=λ{b m} ⟨o,p,A,e,d,r⟩=>⟨o,p,A,i e (T e d),d,r⟩;have C:K.In (UW s₁.heap H):=λb o e=>i (KX b o e) (by
   cases q:H b with
   | none=>rfl
   | some u =>
     rcases Q b (by rw[q];simp) with j | j;subst j;rw[hK (by rw[q];simp)] at e;cases e;subst j;rw[L] at e;cases e)
  have hM:Mod K mg (UW s₁.heap H):=⟨C,l D,⟨mb,l f,M⟩,let ⟨mc,h1,h2⟩:=B;⟨mc,l h1,h2⟩⟩;have U:Bm (UW s₁.heap H) mg:=by
   obtain⟨bm,ob,b1,b2,b3,b4,b5,b6⟩:=S;refine⟨bm,ob,b1,b2,λz=>?_,i b3 (N b3 (λits n z=>by rw[b6] at z;cases z) (by rw[b4];intro z;cases z)),b4,b5,b6⟩;obtain⟨o,p,A,e,d,_⟩:=D;rw[z,e] at b3;cases b3;rw[d] at b6;cases b6
  have e0:z3i P w K mg (UW s₁.heap H) callerA [] s₁ H:=⟨rfl,hM,λb o e=>JU e,Nat.le_of_eq (z5R _ _),trivial,λb f=>absurd (show b∈([]:List Addr) from f) 05,hok,.of_eq hg⟩;refine codeAny_mono ((F _ C (l D) U).run callerA [] s₁ H ⟨[.ref a],[]⟩ [.ref a] [.ref a] _ _ hr e0 (E s₁ 027) (.cons rfl .nil) (O H I hS)) λr s' h=>?_;cases r with
  | error e=>exact (R H e s' h).elim
  | ok fl =>
    cases fl with
    | next=>exact False.elim h
    | brk=>exact False.elim h
    | cont=>exact False.elim h
    | ret u =>
      obtain⟨v,H',os,bare,un,y,r',q⟩:=h;have q':v=.bl true:=q;subst q';obtain rfl:u=Value.bool true:=r';have kept:∀ b o,b≠tb->s₁.heap.get? b=some o->s'.heap.get? b=some o:=λb o f e=>by
       cases q:H b with
       | none=>exact un.keep b o e q (by intro z;exact absurd (show b∈([]:List Addr) from z) 05) 05
       | some u =>
         rcases I.2 b f with z |⟨ob,xs,z⟩;rw[q] at z;cases z;have z2:=un.frzs b ob _ z;obtain⟨Z,_⟩:=hok b _ z;obtain⟨e2,_⟩:=y b _ z2;rw[e] at Z;cases Z;exact e2
      refine⟨rfl,?_,os,bare⟩;obtain⟨more,hm⟩:=un.tbls tb _ I.1;have X:s'.heap.get? tb=some (tabObj (#[] ++ more)):=y tb _ hm;have C1:CodeHd s₁.heap c tb:=codeHd_of_K KX hC;have C2:CodeHd s'.heap c tb:=(codeHd_of_K C hC).keeps λb o e=>kept b o (λz=>by rw[z] at e;have:=(JU e).2;rw[I.1] at this;cases this) (JU e).1;refine OldK.step_table (.refl _) (C1.tab t) (C1.tab t) (C2.tab X) kept λz=>?_;obtain⟨mc,⟨o,p,A,e,d,_⟩,_⟩:=B;rw[← z,t] at e;cases e;cases d
 cases hk:K.lookup a with
 | some o =>
   have e:=KX a o hk;rw[ha] at e;cases e;refine core (λb=>if b=tb then some (.XH #[]) else none) ⟨if_pos rfl,λb f=>.inl (if_neg f)⟩ (.inr ⟨_,vs.toArray,_,hk,rfl,rfl,rfl,by rw[Z04,G];exact hl,by simpa using Y⟩) (λb u z=>?_) (λb z=>?_) λz=>absurd (if_neg at_) z;by_cases f:b=tb;have J:=(if_pos f).symm.trans z;cases J;subst f;exact t;have J:=(if_neg f).symm.trans z;cases J;by_cases f:b=tb;exact .inr f;exact absurd (if_neg f) z
 | none =>
   refine core (λb=>if b=tb then some (.XH #[]) else if b=a then some (.frz { cls:=.type "list",data:=.seq vs.toArray } (.lst (ns.map V.int))) else none) ⟨if_pos rfl,λb f=>?_⟩ (.inl (.inr ⟨{ cls:=.type "list",data:=.seq vs.toArray },?_⟩)) (λb u z=>?_) (λb z=>?_) λ_=>hk;show (if b=tb then _ else _)=none\/∃ o xs,(if b=tb then _ else _)=some _;rw[if_neg f];by_cases hb2:b=a;exact .inr ⟨_,_,if_pos hb2⟩;exact .inl (if_neg hb2);show (if a=tb then _ else _)=some _;rw[if_neg at_];exact if_pos rfl;have z:(if b=tb then some (HO.XH #[]) else if b=a then some (.frz { cls:=.type "list",data:=.seq vs.toArray } (.lst (ns.map V.int))) else none)=some u:=z;by_cases f:b=tb;rw[if_pos f] at z;cases z;subst f;exact t;rw[if_neg f] at z;by_cases hb2:b=a;rw[if_pos hb2] at z;cases z;subst hb2;exact⟨ha,by rw[ZB];exact hl,vs,_,Y,ha⟩;rw[if_neg hb2] at z;cases z;have z:(if b=tb then some (HO.XH #[]) else if b=a then some (.frz { cls:=.type "list",data:=.seq vs.toArray } (.lst (ns.map V.int))) else none)≠none:=z;by_cases f:b=tb;exact .inr f;rw[if_neg f] at z;by_cases hb2:b=a;exact .inl hb2;exact absurd (if_neg hb2) z
def z8t{l:PySem.W.OpenLaw}{k:Nat}{d:DefRec}{K:Params->FR}{CX:World->Q8}{sp:World->Sp}{x:Str}(hn:l.most=some n)(t:n<=sizeLine)(z:d.params.defaults=[])(hr:Zf k callerA)(D:∀ (w:World) (h:Heap),YP w h->(K w.params).In h)(I:∀ (w:World) (h:Heap),YP w h->h.get? tb=some (tabObj #[]))(r:∀ p:Params,(K p).lookup tb=none)(hC:∀ p:Params,codeHdIn (K p) c tb=true)(F:∀ (w:World) (mg:SV) (m:Addr) (h:Heap),(K w.params).In h->h.Ns mainGlobals mg->mg d.name=some (.ref m)->
  ∃ fd:FuncData,(∀ (s:Shared) (u:Value),BindsTo s fd ⟨[u],[]⟩ [(x,u)])/\
    ∀ base:Heap,(K w.params).In base->base.Ns mainGlobals mg->Bm base mg->Zu l.prog w (K w.params) mg base (CX w) k m fd [x] (sp w))(y:∀ (w:World) (H:Hp) (a:Addr) (ns:List Int),ns.length<=n->z7E tb H->zN (K w.params) H a (ns.map V.int)->sp w [.ref a] H (λv _=>v=.bl true) λ_ _ _=>False)(A:∀ (w:World) (H:Hp) (s:Shared) (e:Value) (s':Shared),CX w [] H s (λ_ _ _=>False) e s'->False) :
 PySem.W.WalkO q loose XP YP l.row.toRowW d [] (λf vs=>PySem.call f vs):=by
 refine Att.z0b hn z λw s₀ j mg mb m o pm cd doc a vs ns G Y O hd N B i hints hlen E=>?_;have KX:=D w _ Y;obtain⟨fd,L,M⟩:=F w mg m _ KX G.T.g B;exact z6c KX G.T.g G.T.b G.T.builtins G.T.nolimit E G.T.bmain (I w _ Y) (r w.params) (hC w.params) i hints (Z0Y hlen t) hr M L (λH J C=>y w H a ns hlen J C) λH e s'=>A w H j e s'
def vc.okC{mg:SV}{x:Str}{st:Stmt}{k:Nat}{sp:Sp}(F:vc K x qual st f fd)(S:zE N ps (zo st))(len:∀ vs H Q E,sp vs H Q E->vs.length=ps.length)(a:∀ (cdv:Value) (A:Around) (outer:List Env) (s:Shared) (H:Hp) (vs:List V) (Q:VK) (E:XK),fd.code=cdv->Zf k (A.deeper (envOfC qual (zo st) s.heap.objs.size f cdv))->sp vs H Q E->
  ∃ t,Qg (ZJ Yn P w K mg base N qual (zo st) f cdv A outer s H E).nox (Zs st) t/\t { nx:=λ_ H'=>Q .Zn H',rt:=Q } (start N vs) H):Zu P w K mg base Yn (k+1) f fd ps sp:=by
 obtain⟨oc,od,kV,doc,pm,an,cdv,ct,osl,rfl,lk,c⟩:=F.ex;refine z7S lk c S len λA outer s H vs Q E hr b=>?_;obtain⟨t,h,q⟩:=a cdv A outer s H vs Q E rfl hr b;exact⟨t,h.nox,q⟩
end L2
namespace Pw
theorem Xz{α:Type}{R:α->α->Prop}(as:∀ a b,R a b->¬ R b a):∀ {p q:List α},p.Perm q->p.Pairwise R->q.Pairwise R->p=q
 | [],q,pm,_,_=>by rw[List.nil_perm.mp pm]
 | a :: p,[],pm,_,_=>by simp at pm
 | a :: p,b :: q,pm,hp,hq=>by
   have c:=Z4f.mp hp;have d:=Z4f.mp hq;have:a=b:=by
    rcases Z08.mp (pm.mem_iff.mp Z09:a∈b :: q) with e | ha;exact e;rcases Z08.mp (pm.mem_iff.mpr Z09:b∈a :: p) with e | f;exact e.symm;exact absurd (c.1 b f) (as _ _ (d.1 a ha))
   subst this;rw[Xz as ((List.perm_cons a).mp pm) c.2 d.2]
noncomputable def RkR(Ss:LI)(i j:Nat):Prop:=val (Ss.getD j (0,1))<val (Ss.getD i (0,1))\/(val (Ss.getD i (0,1))=val (Ss.getD j (0,1))/\i<j)
def RkR.asymm(i j:Nat)(h:RkR Ss i j):¬ RkR Ss j i:=λh'=>by
 unfold RkR at h h';rcases h with h |⟨h,l⟩ <;> rcases h' with h' |⟨h',a⟩;exact absurd (Std.lt_trans h h') (Rat.lt_irrefl);rw[h'] at h;exact absurd h Rat.lt_irrefl;rw[h] at h';exact absurd h' Rat.lt_irrefl;lia
def RkR.trans(i j k:Nat)(h:RkR Ss i j)(h':RkR Ss j k):RkR Ss i k:=by
 unfold RkR at *;rcases h with h |⟨h,l⟩ <;> rcases h' with h' |⟨h',a⟩;exact .inl (Std.lt_trans h' h);exact .inl (by rw[← h'];exact h);exact .inl (by rw[h];exact h');exact .inr ⟨h.trans h',00⟩
structure Rkd(Ss:LI)(n:Nat)(p:List Nat):Prop where
 pm:p.Perm (List.range n)
 up:p.Pairwise (RkR Ss)
def Rkd.unique(h:Rkd Ss n p)(h':Rkd Ss n q):p=q:=Xz RkR.asymm (h.pm.trans h'.pm.symm) h.up h'.up
def Z4I(v:Ss.length=n)(pos:∀ S∈Ss,0<S.2)(j:0<L)(r:∀ S∈Ss,S.2∣L)(pm:p.Perm (List.range n))(st:L2.Stb (λi=>-((yx Ss L).getD i 0)) p):Rkd Ss n p:=by
 refine⟨pm,L2.yQ RkR.trans p λk a b ha f=>?_⟩;have o:k+1<p.length:=(Z16.mp f).1;have s:=st (k+1) 00 o;have ga:p.getD (k+1 - 1) 0=a:=by rw[Nat.add_sub_cancel,Z05,ha];rfl
 have u:p.getD (k+1) 0=b:=by rw[Z05,f];rfl
 rw[ga,u] at s;have nd:p.Nodup:=pm.nodup_iff.mpr List.nodup_range;have ne:a≠b:=λe=>by
  subst e;have:=(List.getElem?_inj (show k<p.length by lia) nd).mp (ha.trans f.symm);lia
 have lt:∀ x,x∈p->x<n:=λx h=>Z25.mp (pm.mem_iff.mp h);have key:∀ x,x<n->(((yx Ss L).getD x 0:Int):Rat)=val (Ss.getD x (0,1)) * (L:Rat):=λx h=>by
  have c:x<Ss.length:=00
  have t:(yx Ss L).getD x 0=Ss[x].1 * (L.fdiv Ss[x].2):=by unfold yx;simp[c]
  have q:Ss.getD x (0,1)=Ss[x]:=by simp[c]
  rw[t,q];exact Jh (pos _ (Z1z _)) j (r _ (Z1z _))
 have d:=key a (lt a (Z1q ha));have m:=key b (lt b (Z1q f));have L0:(0:Rat)<(L:Rat):=by exact_mod_cast j
 dsimp only at s;rcases s with s |⟨s,l⟩;refine .inl ?_;have:(yx Ss L).getD b 0<(yx Ss L).getD a 0:=00
 have:(((yx Ss L).getD b 0:Int):Rat)<(((yx Ss L).getD a 0:Int):Rat):=by exact_mod_cast this
 rw[d,m] at this;exact (Rat.mul_lt_mul_right L0).mp this;refine .inr ⟨?_,00⟩;have:(yx Ss L).getD a 0=(yx Ss L).getD b 0:=00
 rw[this,m] at d;refine Rat.le_antisymm (Rat.not_lt.mp λz=>?_) (Rat.not_lt.mp λz=>?_);have:=(Rat.mul_lt_mul_right L0).mpr z;rw[d] at this;exact absurd this Rat.lt_irrefl;have:=(Rat.mul_lt_mul_right L0).mpr z;rw[d] at this;exact absurd this Rat.lt_irrefl
end Pw
namespace L2
noncomputable def Yl:Str:=("ranked":Str) ++ ".<locals>." ++ "<lambda>"
noncomputable def Qk(K:FR)(tb:Addr)(pos:Pos):Sp:=λvs H Q _=>∃ (w lp ls:Addr) (pages:Int) (ps:LI) (A:Int×Int) (Bs:LI) (us:List V) (S:Int) (z:Nat),vs=[.ref w,.ref lp,.ref ls]/\Gv K H w lp ls pages ps A Bs us/\Pr A Bs S/\pages<=12/\z<=140/\Vz z A/\Sz z S/\Tab tb pos Yl H/\
 ∀ (D:Addr) (H':Hp) (Ss:LI) (p:List Nat),Pw.ZU ps A Bs pages.toNat Ss->Pw.Rkd Ss pages.toNat p->Kp tb H H'->H D=none->H' D=some (.lst (z7p p))->Tab tb pos Yl H'->Q (.ref D) H'
noncomputable def xK(K:FR)(nm:Str)(c:Addr):Prop:=∃ f oc od fd sl,PySem.W.nsIn K mainGlobals nm=some (some 034)/\K.lookup f=some ⟨oc,od,.func fd,sl⟩/\fd.code=.ref c
def xK.at{mg:SV}{st:Stmt}(x:xK K nm c)(XK:K.In h)(G:h.Ns mainGlobals mg)(F:vc K nm nm st f fd)(m:mg nm=some 034):fd.code=.ref c:=by
 obtain⟨j,oc,od,i,sl,a,l,e⟩:=x;have:=(Z45 XK G a).symm.trans m;cases this;obtain⟨b,d,kV,doc,pm,an,cdv,ct,osl,n,lk,_⟩:=F.ex;rw[l] at lk;injection lk with lk;injection lk with _ _ h3 _;injection h3 with h3;rw[← h3];exact e
def ZH.Z5R{mg:SV}{k:Nat}{st:Stmt}{sp:Sp}(S:ZH K mg nm st ps)(C:xK K nm c)(XK:K.In h)(G:h.Ns mainGlobals mg)(a:∀ f fd,vc K nm nm st f fd->fd.code=.ref c->Zu P w K mg base Yn k f fd ps sp):Def P w K mg base k nm ps sp:=by
 obtain⟨f,fd,F,m,b⟩:=S;exact⟨f,fd,F.kp,m,b,a f fd F (C.at XK G F m)⟩
structure KU(H H':Hp):Prop where
 tup:∀ b xs,H b=some (.tup xs)->H' b=some (.tup xs)
 frz:∀ b o u,H b=some (.frz o u)->H' b=some (.frz o u)
def KU.refl(H:Hp):KU H H:=⟨λ_ _ h=>h,λ_ _ _ h=>h⟩
def KU.trans(a:KU H H1)(b:KU H1 H2):KU H H2:=⟨λc xs h=>b.tup c xs (a.tup c xs h),λc o u h=>b.frz c o u (a.frz c o u h)⟩
def zC.ku(s:zC H H'):KU H H':=⟨λb _ h=>s b _ h,λb _ _ h=>s b _ h⟩
def Kp.ku(k:Kp p H H')(h:(∃ xs,H p=some (.lst xs))\/∃ ps,H p=some (.XH ps)):KU H H':=by
 refine⟨λb xs e=>k b _ e ?_,λb o u e=>k b _ e ?_⟩ <;>
 · rintro rfl
   rcases h with⟨_,z⟩|⟨_,z⟩ <;> (rw[e] at z;cases z)
def KU.z1S(e:KU H H')(h:zR K H a xs):zR K H' a xs:=by
 rcases h with (h |⟨o,h⟩) | h;exact .inl (.inl (e.tup _ _ h));exact .inl (.inr ⟨o,e.frz _ _ _ h⟩);exact .inr h
theorem Zm.ku(k:KU H H'):∀ {ps:LI}{vs:List V},Zm K H ps vs->Zm K H' ps vs
 | [],vs,h=>by
   simp only[Zm,Z3N,Zh] at h;subst h;exact Y4
 | p :: ps,vs,h=>by
   obtain⟨a,r,rfl,b,hr⟩:=yd h;exact YL (k.z1S b) (Zm.ku k hr)
noncomputable def Kx(S:List Addr)(H H':Hp):Prop:=∀ b o,H b=some o->b∉S->H' b=some o
def Kx.refl(S:List Addr)(H:Hp):Kx S H H:=λ_ _ h _=>h
def Kx.trans(a:Kx S H H1)(b:Kx S H1 H2):Kx S H H2:=λc o h n=>b c o (a c o h n) n
def zC.kx(s:zC H H'):Kx S H H':=λb o h _=>s b o h
def Kp.kx(k:Kp p H H')(h:p∈S):Kx S H H':=λb o e n=>k b o e λz=>n (z ▸ h)
def Kp.kxn(k:Kp p H H')(a:Kx S H0 H)(h:H0 p=none):Kx S H0 H':=λb o e n=>k b o (a b o e n) (zh e h)
def Tab.same{pos:Pos}(t:Tab tb pos q H)(s:zC H H'):Tab tb pos q H':=by
 rcases t with t |⟨c,a,b⟩;exact .inl (s _ _ t);exact .inr ⟨c,s _ _ a,s _ _ b⟩
def Tab.kp{pos:Pos}(t:Tab tb pos q H)(k:Kp l H H')(f:H l=some (.lst xs)):Tab tb pos q H':=by
 have ne:∀ {b:Addr}{o:HO},H b=some o->(∀ xs,o≠.lst xs)->b≠l:=λ{b o} e n z=>by rw[z,f] at e;cases e;exact n _ rfl
 rcases t with t |⟨c,a,d⟩;exact .inl (k _ _ t (ne t λ_ z=>by cases z))
 exact .inr ⟨c,k _ _ a (ne a λ_ z=>by cases z),k _ _ d (ne d λ_ z=>by unfold Vm at z;cases z)⟩
def Tab.XH{pos:Pos}(t:Tab tb pos q H):∃ ps,H tb=some (.XH ps):=by
 rcases t with t |⟨c,a,_⟩;exact⟨_,t⟩;exact⟨_,a⟩
def Tab.ne{pos:Pos}(t:Tab tb pos q H)(h:H b=some o)(n:∀ ps,o≠.XH ps):b≠tb:=λz=>by
 obtain⟨ps,e⟩:=t.XH;rw[z,e] at h;cases h;exact n _ rfl
def Tab.free{pos:Pos}(t:Tab tb pos q H)(h:H b=none):b≠tb:=λz=>by
 obtain⟨ps,e⟩:=t.XH;rw[z,e] at h;cases h
def zN.kx(h:zN K H a xs)(k:Kx S H H')(n:∀ o,H a=some o->(∀ ps,o≠.XH ps)->a∉S):zN K H' a xs:=by
 rcases h with (h |⟨o,h⟩) | h;exact .inl (.inl (k _ _ h (n _ h λ_ z=>by cases z)))
 exact .inl (.inr ⟨o,k _ _ h (n _ h λ_ z=>by cases z)⟩);exact .inr h
def xK.of(a:PySem.W.nsIn K mainGlobals nm=some (some 034))(l:K.lookup f=some ⟨oc,od,.func fd,sl⟩)(e:fd.code=.ref c):xK K nm c:=⟨f,oc,od,fd,sl,a,l,e⟩
noncomputable def jk(K:FR)(C:Addr)(m q:Str)(st:Stmt):Prop:=∃ f fd,Meth K C m f/\vc K m q st f fd
def jk.of{st:Stmt}{kV:Value}(a:PySem.W.findIn K (.ref C) m=some (some 034))(i:PySem.W.isFn K 034=true)(l:K.lookup f=some ⟨oc,od,.func (PySem.W.fnOf m q (ZT st) (Zs st) (zo st) .none kV doc pm an cdv ct),osl⟩)(c:PySem.W.codeIn K cdv q=true)(k:PySem.W.keepIn K 034=true):jk K C m q st:=⟨_,_,⟨a,i,k⟩,z2F l c k⟩
noncomputable def Q5(K:FR)(C:Addr)(m q:Str)(st:Stmt)(ps:List Str):Prop:=∃ (f:Addr) (fd:FuncData),vc K m q st f fd/\Meth K C m f/\Binds K fd ps []
def jk.fnd{st:Stmt}(ps:List Str)(x:jk K C m q st)(b:∀ (kV doc pm:Value) (an:Option Addr) (cdv ct:Value) (us:List Value),us.length=ps.length->bindArgs (PySem.W.fnOf m q (ZT st) (Zs st) (zo st) .none kV doc pm an cdv ct) ⟨us,[]⟩=pure (ps.zip us)):Q5 K C m q st ps:=by
 obtain⟨f,fd,a,F⟩:=x;exact⟨f,fd,F,a,F.binds b⟩
noncomputable def ZO(P:Program)(w:World)(K:FR)(mg:SV)(base:Heap)(CX:Q8)(k:Nat)(C:Addr)(m:Str)(ps:List Str)(sp:Sp):Prop :=
 ∃ (f:Addr) (fd:FuncData),Meth K C m f/\Binds K fd ps []/\Zu P w K mg base CX k f fd ps sp
def Q5.def{mg:SV}{k:Nat}{st:Stmt}{sp:Sp}(S:Q5 K C m q st ps)(h:∀ f fd,vc K m q st f fd->Zu P w K mg base CX k f fd ps sp):ZO P w K mg base CX k C m ps sp:=by
 obtain⟨f,fd,F,a,b⟩:=S;exact⟨f,fd,a,b,h f fd F⟩
def Yx{k:Nat}{sp:Sp}{e:Expr}{pos:Pos}(h:starEach (e :: es) X.env=019 :: starEach es X.env)(d:(backTo pos (starEach es X.env)).any (·.1)=false)(j:eval (.Call (.Attribute o m apos) (e :: es) [] pos) X.env=(do
  let ov ←eval o X.env
  standAt apos.atName
  let (f,first) ←holding [ov] (getMethod ov m pl)
  callWith pos f first (backTo pos (starEach (e :: es) X.env)) (backToKw pos (keywordEach [] X.env))))(he:PE X o ta)(c:Cls X.K C)(D:ZO X.prog X.w X.K X.mg X.base CX k C m ps sp)(hr:Zf k X.A)(i:Passes CX X E)(ha:PA X (e :: es) t) :
 PE X (.Call (.Attribute o m apos) (e :: es) [] pos) (ji C m sp [] E ta t):=by
 obtain⟨f,fd,a,b,F⟩:=D;exact Z0C he c a F hr b .nil i ha h d j
def uy{k:Nat}{sp:Sp}{pos:Pos}(h:eval (.Call (.Attribute o m apos) [] [] pos) X.env=(do
 let ov ←eval o X.env
 standAt apos.atName
 let (f,first) ←holding [ov] (getMethod ov m pl)
 callWith pos f first (backTo pos (starEach [] X.env)) (backToKw pos (keywordEach [] X.env))))(he:PE X o ta)(c:Cls X.K C)(D:ZO X.prog X.w X.K X.mg X.base CX k C m ps sp)(hr:Zf k X.A)(d:Passes CX X E) :
 PE X (.Call (.Attribute o m apos) [] [] pos) (ji C m sp [] E ta VB):=by
 obtain⟨f,fd,a,b,F⟩:=D;exact z8o he c a F hr b .nil d h
noncomputable def MkD(P:Program)(w:World)(K:FR)(mg:SV)(base:Heap)(CX:Q8)(k:Nat)(C:Addr)(x:Str)(ps:List Str)(sp:Sp):Prop :=
 ∃ (f:Addr) (fd:FuncData),Mk K C f/\mg x=some (.ref C)/\Binds K fd ps []/\Zu P w K mg base CX k f fd ps sp
def uU{k:Nat}{sp:Sp}{e:Expr}{pos:Pos}{x:Str}(j:Gl X x)(he:starEach (e :: es) X.env=019 :: starEach es X.env)(d:(backTo pos (starEach es X.env)).any (·.1)=false)(h:(x == ("__debug__":Str))=false)(D:MkD X.prog X.w X.K X.mg X.base CX k C x ps sp)(hr:Zf (k+1) X.A)(i:Passes CX X E)(ha:PA X (e :: es) t) :
 PE X (.Call (.Name x p) (e :: es) [] pos) (z3y C sp [] E t):=by
 obtain⟨f,fd,a,b,c,F⟩:=D;exact z9r a F hr j b c .nil i ha h he d
def Def.Z2X{mg:SV}{k:Nat}{sp:Sp}(D:Def P w K mg base k nm ps sp)(h:mg nm'=mg nm):Def P w K mg base k nm' ps sp:=by
 obtain⟨f,fd,a,b,c,F⟩:=D;exact⟨f,fd,a,h.trans b,c,F⟩
noncomputable abbrev Wb:=Int×LI
def kNL:¬ (("now":Str)="leap"):=03
def kNP:¬ (("now":Str)="past"):=03
def kLP:¬ (("leap":Str)="past"):=03
noncomputable def JA(now lp pd:Addr):List (Str×V):=ya "past" (.ref pd) (ya "leap" (.ref lp) (ya "now" (.ref now) []))
def VX(now lp pd:Addr):JA now lp pd=([("now",V.ref now),("leap",V.ref lp),("past",V.ref pd)]:List (Str×V)):=by
 have a:ya "leap" (V.ref lp) (ya "now" (V.ref now) [])=([("now",V.ref now),("leap",V.ref lp)]:List (Str×V)):=by
  show (if ("now":Str)="leap" then [(("now":Str),V.ref lp)] else (("now":Str),V.ref now) :: ya "leap" (V.ref lp) [])=_;rw[if_neg kNL];rfl
 unfold JA;rw[a];show (if ("now":Str)="past" then _ else (("now":Str),V.ref now) :: (if ("leap":Str)="past" then _ else (("leap":Str),V.ref lp) :: ya "past" (V.ref pd) []))=_;rw[if_neg kNP,if_neg kLP];rfl
def Z9(now lp pd:Addr):(JA now lp pd).lookup ("now":Str)=some (.ref now):=by
 unfold JA;rw[z8,if_neg kNP,z8,if_neg kNL,z8,if_pos rfl]
def QW(now lp pd:Addr):(JA now lp pd).lookup ("leap":Str)=some (.ref lp):=by
 unfold JA;rw[z8,if_neg kLP,z8,if_pos rfl]
def UE(now lp pd:Addr):(JA now lp pd).lookup ("past":Str)=some (.ref pd):=by
 unfold JA;rw[z8,if_pos rfl]
def yb(now lp pd:Addr){m:Str}(a:¬ m="past")(c:¬ m="leap")(b:¬ m="now"):(JA now lp pd).lookup m=none:=by
 unfold JA;rw[z8,if_neg a,z8,if_neg c,z8,if_neg b]
 all_goals rfl
def z4M(now lp pd b:Addr):ya "now" (.ref b) (JA now lp pd)=JA b lp pd:=by
 rw[VX,VX];show (if ("now":Str)="now" then [(("now":Str),V.ref b),("leap",V.ref lp),("past",V.ref pd)] else _)=_;rw[if_pos rfl]
def z4Q(now lp pd:Addr):(JA now lp pd).length<1000:=by rw[VX];show 3<1000;decide
structure U1(K:FR)(C:Addr):Prop where
 cl:Cls K C
 nN:Yy K C "now"
 nL:Yy K C "leap"
 nP:Yy K C "past"
structure Lv(C:Addr)(H:Hp)(p now lp pd:Addr)(us:List V):Prop where
 ob:∃ dx,H p=some (.ins C dx (JA now lp pd))
 pl:H pd=some (.lst us)
def Lv.same(l:Lv C H p now lp pd us)(s:zC H H'):Lv C H' p now lp pd us:=⟨let ⟨dx,h⟩:=l.ob;⟨dx,s _ _ h⟩,s _ _ l.pl⟩
def Lv.kx(l:Lv C H p now lp pd us)(k:Kx S H H')(a:p∉S)(b:pd∉S):Lv C H' p now lp pd us:=⟨let ⟨dx,h⟩:=l.ob;⟨dx,k _ _ h a⟩,k _ _ l.pl b⟩
def Lv.ku(l:Lv C H p now lp pd us)(k:Kx [p,pd] H H'):KU H H':=by
 obtain⟨⟨dx,h⟩,a⟩:=l;refine⟨λb xs e=>k b _ e ?_,λb o u e=>k b _ e ?_⟩ <;>
 · intro z
   rcases Z08.mp z with rfl | z;rw[h] at e;cases e;obtain rfl:=Z01.mp z;rw[a] at e;cases e
noncomputable def UJ(K:FR)(H:Hp)(Ws:List Wb)(us:List V):Prop:=Paired (λ(W:Wb) (u:V)=>∃ a,u=.ref a/\ZC K H a W.1 W.2) Ws us
def ZC.ku{n:Int}(h:ZC K H a n ps)(k:KU H H'):ZC K H' a n ps:=by
 obtain⟨t,us,b,c,p⟩:=h;exact⟨t,us,k.tup _ _ b,k.tup _ _ c,Zm.ku k p⟩
def UJ.ku(h:UJ K H Ws us)(k:KU H H'):UJ K H' Ws us:=Paired.z9D h λW u ⟨a,e,x⟩=>⟨a,e,x.ku k⟩
def UJ.nil:UJ K H [] []:=Paired.nil
def UJ.len(h:UJ K H Ws us):us.length=Ws.length:=(Paired.length h).symm
theorem UJ.snoc(ha:ZC K H a W.1 W.2):∀ {Ws:List Wb}{us:List V},UJ K H Ws us->UJ K H (Ws ++ [W]) (us ++ [.ref a])
 | _,_,Paired.nil=>Paired.cons ⟨a,rfl,ha⟩ Paired.nil
 | _,_,Paired.cons x r=>Paired.cons x (UJ.snoc ha r)
theorem UJ.z3q:∀ {Ws:List Wb}{us:List V},UJ K H (Ws ++ [W]) us->∃ vs a,us=vs ++ [.ref a]/\UJ K H Ws vs/\ZC K H a W.1 W.2
 | [],_,Paired.cons ⟨a,e,x⟩ Paired.nil=>⟨[],a,by rw[e];rfl,Paired.nil,x⟩
 | _ :: Ws,_,Paired.cons y r=>by
   obtain⟨vs,a,rfl,b,c⟩:=UJ.z3q r;exact⟨_ :: vs,a,rfl,Paired.cons y b,c⟩
noncomputable def ZG(K:FR)(C:Addr)(H:Hp)(p pd lp:Addr)(W:Wb)(Ws:List Wb):Prop:=∃ now us,Lv C H p now lp pd us/\ZC K H now W.1 W.2/\UJ K H Ws us
def ZG.same(l:ZG K C H p pd lp W Ws)(s:zC H H'):ZG K C H' p pd lp W Ws:=by
 obtain⟨now,us,a,b,c⟩:=l;exact⟨now,us,a.same s,b.same s,c.ku s.ku⟩
def ZG.kx(l:ZG K C H p pd lp W Ws)(k:Kx S H H')(u:KU H H')(d:p∉S)(f:pd∉S):ZG K C H' p pd lp W Ws:=by
 obtain⟨now,us,a,b,c⟩:=l;exact⟨now,us,a.kx k d f,b.ku u,c.ku u⟩
noncomputable def Yr(C:Addr):Sp:=λvs H Q _=>∃ (p dx wa lp:Addr),vs=[.ref p,.ref wa,.ref lp]/\H p=some (.ins C dx [])/\∀ (pd:Addr) (H':Hp),H pd=none->Lv C H' p wa lp pd []->Kp p H H'->Q .Zn H'
noncomputable def Qs(C:Addr):Sp:=λvs H Q _=>∃ (p b now lp pd:Addr) (us:List V),vs=[.ref p,.ref b]/\Lv C H p now lp pd us/\us.length<=5000/\∀ H',Lv C H' p b lp pd (us ++ [.ref now])->Kx [p,pd] H H'->Q .Zn H'
noncomputable def z0l(K:FR):Sp:=λvs H Q _=>∃ (n x y:Int) (q:Addr),vs=[.int n,.ref q]/\H q=some (.tup [.int x,.int y])/\Q (.bl (decide (0<=x/\x<n/\0<=y/\y<n))) H
noncomputable def j9(K:FR)(C:Addr):Sp:=λvs H Q _=>∃ (p pd lp:Addr) (W:Wb) (Ws:List Wb),vs=[.ref p]/\ZG K C H p pd lp W Ws/\(Ws=[]->∀ H',zC H H'->Q (.bl false) H')/\
 (∀ W0 Ws0,Ws=Ws0 ++ [W0]->∀ H',ZG K C H' p pd lp W0 Ws0->Kx [p,pd] H H'->Q (.bl true) H')
noncomputable def vI(K:FR)(C:Addr):Sp:=λvs H Q _=>∃ (p pd lp:Addr) (W:Wb) (Ws:List Wb),vs=[.ref p]/\ZG K C H p pd lp W Ws/\∀ a,ZC K H a W.1 W.2->Q 027 H
noncomputable abbrev J1(n:Nat):LI:=List.replicate n (1,(n:Int))
noncomputable def jc(K:FR)(C:Addr):Sp:=λvs H Q _=>∃ (p pd lp:Addr) (n:Nat) (ps:LI) (Ws:List Wb) (A:Int×Int),vs=[.ref p]/\ZG K C H p pd lp ((n:Int),ps) Ws/\1<=n/\n<=12/\ps.length<=62/\(∀ q∈ps,0<=q.1/\q.1<(n:Int)/\0<=q.2/\q.2<(n:Int))/\Xw K H lp A/\Pw.Canon A/\0<A.1/\A.1<=A.2/\Vz 41 A/\
 ∀ (t:Addr) (H':Hp) (Ss:LI) (a:List V),Pw.ZU ps A (J1 n) n Ss->(∀ S∈Ss,Vz 1983 S)->zC H H'->H' t=some (.tup a)->yK K H' Ss a->Q (.ref t) H'
noncomputable def MkF(K:FR)(mg:SV)(C:Addr)(x q:Str)(st:Stmt)(ps:List Str):Prop:=∃ (f:Addr) (fd:FuncData),vc K "__init__" q st f fd/\Mk K C f/\mg x=some (.ref C)/\Binds K fd ps []
def MkF.def{mg:SV}{k:Nat}{x:Str}{st:Stmt}{sp:Sp}(S:MkF K mg C x q st ps)(h:∀ f fd,vc K "__init__" q st f fd->Zu P w K mg base CX k f fd ps sp):MkD P w K mg base CX k C x ps sp:=by
 obtain⟨f,fd,F,a,m,b⟩:=S;exact⟨f,fd,a,m,b,h f fd F⟩
noncomputable def QZ:Sp:=λvs H Q _=>∃ i:Int,vs=[.int i]/\Q (.bl true) H
structure OkL(W:Wb):Prop where
 n1:1<=W.1
 n12:W.1<=12
 few:W.2.length<=60
 up:W.2.Pairwise yj
 rng:∀ p∈W.2,0<=p.1/\p.1<W.1/\0<=p.2/\p.2<W.1
structure z0B(K:FR)(x:Str)(C:Addr):Prop where
 ns:PySem.W.nsIn K mainGlobals x=some (some (.ref C))
 cl:Cls K C
 makes:PySem.W.makesIn K C=true
 kp:PySem.W.keepIn K (.ref C)=true
def z0B.of{x:Str}(a:PySem.W.nsIn K mainGlobals x=some (some (.ref C)))(pg:PySem.W.plainGet K C Str.empty=true)(hd:PySem.W.hasDictIn K C=true)(po:PySem.W.plainOver K C=true)(sa:PySem.W.findIn K (.ref C) "__setattr__"=some (some (.builtin "object.__setattr__")))(mk:PySem.W.makesIn K C=true)(kc:PySem.W.keepIn K (.ref C)=true):z0B K x C:=⟨a,⟨pg,hd,po,sa⟩,mk,kc⟩
def z0B.mkf{mg:SV}{x:Str}{st:Stmt}(ps:List Str)(c:z0B K x C)(m:jk K C "__init__" q st)(XK:K.In h)(G:h.Ns mainGlobals mg)(b:∀ (kV doc pm:Value) (an:Option Addr) (cdv ct:Value) (us:List Value),us.length=ps.length->bindArgs (PySem.W.fnOf "__init__" q (ZT st) (Zs st) (zo st) .none kV doc pm an cdv ct) ⟨us,[]⟩=pure (ps.zip us)):MkF K mg C x q st ps:=by
 obtain⟨f,fd,a,F⟩:=m;exact⟨f,fd,F,⟨c.makes,a.at_,a.fn,c.kp⟩,Z45 XK G c.ns,F.binds b⟩
noncomputable def z0O(K:FR)(x y:Str):Prop:=∃ f,PySem.W.nsIn K mainGlobals x=some (some f)/\PySem.W.nsIn K mainGlobals y=some (some f)
def z0O.of{x:Str}(a:PySem.W.nsIn K mainGlobals x=some (some f))(b:PySem.W.nsIn K mainGlobals y=some (some f)):z0O K x y:=⟨f,a,b⟩
def z0O.mg{mg:SV}{x:Str}(a:z0O K x y)(XK:K.In h)(G:h.Ns mainGlobals mg):mg y=mg x:=by
 obtain⟨f,a,b⟩:=a;rw[Z45 XK G a,Z45 XK G b]
noncomputable def VA(K:FR)(x:Str)(i:Int):Prop:=∃ t,PySem.W.nsIn K mainGlobals x=some (some (.int i t))
def VA.of{x:Str}(a:PySem.W.nsIn K mainGlobals x=some (some (.int i t))):VA K x i:=⟨t,a⟩
def VA.mg{mg:SV}{x:Str}(a:VA K x i)(XK:K.In h)(G:h.Ns mainGlobals mg):∃ t,mg x=some (.int i t):=by
 obtain⟨t,a⟩:=a;exact⟨t,Z45 XK G a⟩
def Tab.kx{pos:Pos}(t:Tab tb pos q H)(k:Kx S H H')(h:∀ b∈S,(∃ xs,H b=some (.lst xs))\/∃ C dx fs,H b=some (.ins C dx fs)):Tab tb pos q H':=by
 have ne:∀ {b:Addr}{o:HO},H b=some o->(∀ xs,o≠.lst xs)->(∀ C dx fs,o≠.ins C dx fs)->b∉S:=λ{b o} e n1 f z=>by
  rcases h b z with⟨xs,e'⟩|⟨C,dx,fs,e'⟩;rw[e] at e';cases e';exact n1 _ rfl;rw[e] at e';cases e';exact f _ _ _ rfl
 rcases t with t |⟨c,d,a⟩;exact .inl (k _ _ t (ne t 017 λ_ _ _ z=>by cases z))
 exact .inr ⟨c,k _ _ d (ne d 017 λ_ _ _ z=>by cases z),k _ _ a (ne a (λ_ z=>by unfold Vm at z;cases z) λ_ _ _ z=>by unfold Vm at z;cases z)⟩
noncomputable def jS(K:FR)(C tb:Addr)(pos:Pos):Sp:=λvs H Q _=>∃ (p pd lp:Addr) (n:Nat) (ps:LI) (Ws:List Wb) (A:Int×Int),vs=[.ref p]/\ZG K C H p pd lp ((n:Int),ps) Ws/\1<=n/\n<=12/\ps.length<=62/\(∀ q∈ps,0<=q.1/\q.1<(n:Int)/\0<=q.2/\q.2<(n:Int))/\Xw K H lp A/\Pw.Canon A/\0<A.1/\A.1<=A.2/\Vz 41 A/\Tab tb pos Yl H/\
 ∀ (D:Addr) (H':Hp) (Ss:LI) (r:List Nat),Pw.ZU ps A (J1 n) n Ss->Pw.Rkd Ss n r->Kp tb H H'->H D=none->H' D=some (.lst (z7p r))->Tab tb pos Yl H'->Q (.ref D) H'
structure UnB(fs:List Addr)(H H':Hp)(h B h':Heap):Prop where
 keep:∀ b o,h.get? b=some o->H b=none->b∉fs->B.get? b=some o
 slot:∀ b o,h.get? b=some o->H b=none->b∈fs->∃ sl,h'.get? b=some { o with slots:=sl }
 free:∀ b o,h.get? b=some o->H b=none->H' b=none
 there:∀ b o,h.get? b=some o->b∉fs->∃ o',B.get? b=some o'
 tups:∀ b xs,H b=some (.tup xs)->H' b=some (.tup xs)
 frzs:∀ b o u,H b=some (.frz o u)->H' b=some (.frz o u)
 tbls:∀ b ps,H b=some (.XH ps)->∃ more,H' b=some (.XH (ps ++ more))
def UnB.un{fs:List Addr}(u:UnB fs H H' h B h')(st:B.StaysIn h')(c:∀ b∈fs,H b=none):Un fs [] H H' h h' where
 keep:=λb o q n a _=>st _ _ (u.keep b o q n a)
 slot:=λb o q n a _=>u.slot b o q n a
 free:=λb o q n _=>u.free b o q n
 there:=λb o q _=>by
  by_cases a:b∈fs;obtain⟨sl,e⟩:=u.slot b o q (c b a) a;exact⟨_,e⟩;obtain⟨o',e⟩:=u.there b o q a;exact⟨o',st _ _ e⟩
 tups:=u.tups
 frzs:=u.frzs
 tbls:=u.tbls
noncomputable def Yo(P:Program)(w:World)(C:Addr):Q8:=λouter H s E e s'=>∃ (a t:Addr) (B:Heap) (H':Hp),e=.ref a/\s'.os=s.os/\AllBare s'.gens/\Heap.FlyingW B outer a (.ref C) (.ref t) s'.heap/\xZ P w H' B/\UnB (frs outer) H H' s.heap B s'.heap/\E (.ref C) none H'
def Z0s(x:xZ P w H h)(n:∀ b∈as,H b=none):xZ P w H (hideAll h as):=λa o e =>
 (x a o e).stay (λb u c q=>hideAll_get _ q λz=>by
  have:=n b z;rcases c with rfl | c;rw[this] at e;cases e;rw[this] at c;cases c) (λ_ q=>q) λ_ _ q=>q
def z3K(hf:env.frame=some L)(h:b∈frs (env :: outer)):b=L\/b∈frs outer:=by
 unfold frs at h ⊢;rw[Z57,hf] at h;exact Z08.mp h
def X3{X:Cx}{σ:St}{s1:Shared}(I:Inv X pins σ H1 s1)(c:b∈frs X.stack):∃ o,s1.heap.get? b=some o/\∀ vs,o.data≠.fields vs:=by
 obtain⟨_,o,a,hd⟩:=I.stack.mem c;exact⟨o,a,hd⟩
def jw{mg:SV}{σ:St}{s1:Shared}{e:Addr}(I:Inv 032 pins σ H1 s1)(m:Heap.MadeExcOf s1.heap h2 e (.ref C) vs)(u:E (.ref C) none H1) :
 (ZJ (Yo P w C) P w K mg base N qual scope f cd A outer s H E).xe (.ref e) { s1 with heap:=h2 }:=by
 have i:frs (ZJ (Yo P w C) P w K mg base N qual scope f cd A outer s H E).stack=frs (envOfC qual scope s.heap.objs.size f cd :: outer):=rfl;have c:∀ b o,s.heap.get? b=some o->b∉frs outer->b∉frs (envOfC qual scope s.heap.objs.size f cd :: outer):=λb o q n z=>by
  rcases z3K rfl z with z | z;have:=Z0k q;rw[z] at this;exact absurd this (Z34 _);exact n z
 show wpAny (model P w) (A.deeper 04) (leaving 04 (.ref e)) _ _ _;refine wpAny_leaves_madeW (base:=hideAll s1.heap (frs (envOfC qual scope s.heap.objs.size f cd :: outer))) (h:=s1.heap) (outer:=outer) (L:=s.heap.objs.size) I.ok.frames rfl (λb o q=>of_hideAll _ q) (funFrames_hide I.stack λenv he b a=>List.mem_filterMap.mpr ⟨env,he,a⟩) m λh' t x1 x2 x3 p=>?_;refine⟨e,t,_,H1,rfl,I.os,I.bare,x1,Z0s I.hok λb a=>I.VR b a,⟨λb o q n a=>hideAll_get _ (I.base.keep b o q n a (by simp[ZJ])) (c b o q a),λb o q n a=>?_,λb o q n=>I.base.free b o q n (by simp[ZJ]),λb o q a=>?_,I.base.tups,I.base.frzs,I.base.tbls⟩,u⟩;obtain⟨sl,d⟩:=I.base.slot b o q n a (by simp[ZJ]);obtain⟨o',l,hd⟩:=X3 I (b:=b) (by rw[i];unfold frs;rw[Z57];exact Z06 _ a);rw[d] at l;cases l;obtain⟨j,r⟩:=p b _ (m.keeps _ _ d) hd;exact⟨j,r⟩;obtain⟨o',d⟩:=I.base.there b o q (by simp[ZJ]);exact⟨o',hideAll_get _ d (c b o q a)⟩
def XF{mg:SV}:Passes (Yo P w C) 032 E:=by
 intro pins σ H1 s1 e s2 I h;obtain⟨a,t,B,H2,rfl,os,bare,D,hok,u,G⟩:=h;have i:∀ b o,s.heap.get? b=some o->b∉frs outer->b∉frs (envOfC qual scope s.heap.objs.size f cd :: outer):=λb o q n z=>by
  rcases z3K rfl z with z | z;have:=Z0k q;rw[z] at this;exact absurd this (Z34 _);exact n z
 show wpAny (model P w) (A.deeper 04) (leaving 04 027) _ _ _;refine wpAny_leaves_onW (outer:=outer) (L:=s.heap.objs.size) I.ok.frames rfl D λh' x1 x2=>?_;refine⟨a,t,B,H2,rfl,os.trans I.os,bare,x1,hok,⟨λb o q n d=>u.keep b o (I.base.keep b o q n d (by simp[ZJ])) (I.base.free b o q n (by simp[ZJ])) (i b o q d),λb o q n d=>?_,λb o q n=>?_,λb o q d=>?_,λb xs q=>u.tups b xs (I.base.tups b xs q),λb o p q=>u.frzs b o p (I.base.frzs b o p q),λb ps q=>?_⟩,G⟩;have l:b∈frs (envOfC qual scope s.heap.objs.size f cd :: outer):=by unfold frs;rw[Z57];exact Z06 _ d
 obtain⟨sl,c⟩:=I.base.slot b o q n d (by simp[ZJ]);obtain⟨o',m,hd⟩:=X3 I (b:=b) l;rw[c] at m;cases m;obtain⟨F,y⟩:=u.slot b _ c (I.base.free b o q n (by simp[ZJ])) l;obtain⟨j,r⟩:=x2 b _ y hd;exact⟨j,r⟩;obtain⟨o',c⟩:=I.base.there b o q (by simp[ZJ]);exact u.free b o' c (I.base.free b o q n (by simp[ZJ]));obtain⟨o',c⟩:=I.base.there b o q (by simp[ZJ]);exact u.there b o' c (i b o q d);obtain⟨v,c⟩:=I.base.tbls b ps q;obtain⟨J,m⟩:=u.tbls b _ c;exact⟨v ++ J,by rw[m,Array.append_assoc]⟩
def Z2x:Passes (Yo P w C) X E0:=λ_ _ _ _ _ _ _ h=>by
 obtain⟨_,_,_,_,_,_,_,_,_,_,z⟩:=h;exact z.elim
noncomputable abbrev Z3p:List Value:=[.type "ValueError",.type "Exception",.type "BaseException",.type "object"]
structure JS(K:FR)(mg:SV)(x:Str)(C:Addr):Prop where
 ns:PySem.W.nsIn K mainGlobals x=some (some (.ref C))
 bound:mg x=some (.ref C)
 exc:PySem.W.excIn K C Z3p "ValueError.__new__"=true
 kts:PySem.W.ktsIn K C "BaseException"=true
def z8e(X:K.In h)(q:PySem.W.excIn K C bmB newId=true):∃ bm N nm qn bs hdct sn sub ab col dd k0 k1 k2 k3 k5 mN,h.get? C=some (excClassObj nm qn C N bs bm hdct sn sub ab col dd k0 k1 k2 k3 k5 newId)/\h.Ns N mN/\mN "__init__"=none/\OwnTail h bmB bm:=by
 unfold excIn at q;split at q
 next dd cx sls hl =>
  split at q
  next C0 bms z0 z1 z2 z3 nn z5 hmr hsl =>
   rw[Z3O,Z3O,Z3O,Z3O,Z3O] at q;have i:C0=C:=beq_iff_eq.mp q.1.1.1.1.1;have d:nn=newId:=beq_iff_eq.mp q.1.1.1.1.2;have f:cx.hasDel=false:=by simpa using q.1.1.1.2
   have c:nsIn K cx.ns "__init__"=some none:=beq_iff_eq.mp q.2;have j:sls=#[z0,z1,z2,z3,some (.builtin nn),z5]:=by
    cases sls with
    | mk l =>
      have a:l=_:=hsl;rw[a]
   have b:cx={ cx with mro:=.ref C :: bms,hasDel:=false }:=by
    cases cx with
    | mk =>
      cases i;cases hmr;cases f;rfl
   refine⟨bms,cx.ns,cx.name,cx.qualname,cx.bases,cx.hasDict,cx.slotNames,cx.subclasses,cx.abstract,cx.collection,dd,z0,z1,z2,z3,z5,_,?_,.of_isNs (isNs_of_in X q.1.2),nsMap_none_of_in X q.1.2 c,tail_of_in X q.1.1.2⟩;have m:=X _ _ hl;rw[m,j,d];exact congrArg (λy=>some (Obj.mk (.type "type") dd (.cls y) #[z0,z1,z2,z3,some (.builtin newId),z5])) b
  next=>cases q
 next=>cases q
noncomputable def z7C(E:XK)(C:Addr)(t:TA):TS:=λ_ σ H=>t σ H λvs H1=>vs.length<=10/\E (.ref C) none H1
def ZP{mg:SV}{x:Str}{e:Expr}{cpos pos:Pos}(T:JS K mg x C)(m:Gl 032 x)(ha:PA 032 (e :: es) t)(he:starEach (e :: es) 04=(false,eval e 04) :: starEach es 04)(a:(backTo cpos (starEach es 04)).any (·.1)=false)(d:(x == ("__debug__":Str))=false) :
 PS 032 (.Raise (some (.Call (.Name x np) (e :: es) [] cpos)) none pos) (z7C E C t):=by
 intro pins s1 σ H1 D I h;obtain⟨bm,Nn,nm,qn,bs,hdct,sn,sub,ab,col,dd,k0,k1,k2,k3,k5,mN,hC,u,j,Tl⟩:=z8e (h:=base) I.ok.mod.kin T.exc;have i:(backTo cpos (starEach (e :: es) 04)).any (·.1)=false:=by rw[he];show (false || (backTo cpos (starEach es 04)).any (·.1))=false;rw[a];rfl
 refine wpAny_Raise_call_subU (C:=C) (nm:=nm) (q:=qn) (N:=Nn) (bs:=bs) (bm:=bm) (hdct:=hdct) (sn:=sn) (sub:=sub) (ab:=ab) (col:=col) (dd:=dd) (k0:=k0) (k1:=k1) (k2:=k2) (k3:=k3) (k5:=k5)
  Z48 03 Z48 (mN:=mN) (Tl.hasType Z48.hasBase) (I.ok.hd rfl) i j (xn I m T.bound ⟨rfl,?_⟩ d)
 have r:=ha cpos pins s1 σ H1 _ I h;have c:wpAny (model P w) (A.deeper 04) (spliced (backTo cpos (starEach (e :: es) 04))) _ _ s1:=r;show wpAny (model P w) (A.deeper 04) (evalArgs (.ref C) true (backTo cpos (starEach (e :: es) 04)) []) _ _ s1;rw[he] at c ⊢;refine Calls.evalArgs_plain (wpAny_mono c (λus s2 q=>?_) λ_ _ y=>y);obtain⟨vs,H2,I2,n,lv,p⟩:=q;have l:∀ b o,base.get? b=some o->s2.heap.get? b=some o:=I2.bk;refine⟨rfl,?_,l _ _ hC,u.keeps l,Tl.keeps l,λh' v hm=>jw I2 hm p⟩;show us.length<=sizeLine;rw[← n.length,sizeLine_eq];lia
def vc.okN{mg:SV}{x:Str}{st:Stmt}{k:Nat}{sp:Sp}(F:vc K x qual st f fd)(S:zE N ps (zo st))(len:∀ vs H Q E,sp vs H Q E->vs.length=ps.length)(a:∀ (cdv:Value) (A:Around) (outer:List Env) (s:Shared) (H:Hp) (vs:List V) (Q:VK) (E:XK),Zf k (A.deeper (envOfC qual (zo st) s.heap.objs.size f cdv))->sp vs H Q E->
  ∃ t,Qg (ZJ CX P w K mg base N qual (zo st) f cdv A outer s H E) (Zs st) t/\t { nx:=λ_ H'=>Q .Zn H',rt:=Q } (start N vs) H):Zu P w K mg base CX (k+1) f fd ps sp:=by
 obtain⟨oc,od,kV,doc,pm,an,cdv,ct,osl,rfl,lk,c⟩:=F.ex;exact z7S lk c S len λA outer s H vs Q E hr b=>a cdv A outer s H vs Q E hr b
noncomputable def XW(C:Addr)(X:Cx)(pins:List 014)(Rx:Hp->Prop):Value->Shared->Prop:=λe s2=>∃ a H1 s1,Inv X pins a H1 s1/\Yo X.prog X.w C X.stack H1 s1 (λ_ _ H'=>Rx H') e s2
noncomputable abbrev Cx.Z0v(X:Cx)(C:Addr)(pins:List 014)(Rx:Hp->Prop):Cx:={ X with pn:=X.pn ++ pins,xe:=XW C X pins Rx }
noncomputable abbrev Cx.exc(X:Cx)(a:Addr):Cx:={ X with A:=X.A.mark (some 027),calm:=false,xe:=λ_ _=>False }
def Inv.Z0v{X:Cx}{σ:St}(I:Inv X pins σ H s):Inv (X.Z0v C pins Rx) [] σ H s :=
 ⟨⟨I.ok.mod,I.ok.kind,I.ok.glob,I.ok.blt,I.ok.above,I.ok.inj,I.ok.has,I.ok.cab,I.ok.hd,I.ok.frames,I.ok.stk,I.ok.exf,I.ok.bs,I.ok.bsz,I.ok.noex,I.ok.exfs,I.ok.XN,I.ok.frf⟩,I.os,I.bare,I.base,I.loc,I.cell,I.free,I.freeC,λp a=>I.pin p (by simpa using a),I.hok,I.len⟩
def Inv.Z2c{X:Cx}{σ:St}(I:Inv (X.Z0v C pins Rx) pins' σ H s):Inv X pins σ H s :=
 ⟨⟨I.ok.mod,I.ok.kind,I.ok.glob,I.ok.blt,I.ok.above,I.ok.inj,I.ok.has,I.ok.cab,I.ok.hd,I.ok.frames,I.ok.stk,I.ok.exf,I.ok.bs,I.ok.bsz,I.ok.noex,I.ok.exfs,I.ok.XN,I.ok.frf⟩,I.os,I.bare,I.base,I.loc,I.cell,I.free,I.freeC,λp a=>I.pin p (Z54 _ a),I.hok,I.len⟩
def Inv.exc{X:Cx}{σ:St}(I:Inv X pins σ H s):Inv (X.exc a) pins σ H s :=
 ⟨⟨I.ok.mod,I.ok.kind,I.ok.glob,I.ok.blt,I.ok.above,I.ok.inj,I.ok.has,I.ok.cab,(λz=>Bool.noConfusion z),I.ok.frames,I.ok.stk,I.ok.exf,I.ok.bs,I.ok.bsz,I.ok.noex,I.ok.exfs,I.ok.XN,I.ok.frf⟩,I.os,I.bare,I.base,I.loc,I.cell,I.free,I.freeC,I.pin,I.hok,I.len⟩
def Inv.z4K{X:Cx}{σ:St}(ok:X.Ok)(I:Inv (X.exc a) pins σ H s):Inv X pins σ H s:=⟨ok,I.os,I.bare,I.base,I.loc,I.cell,I.free,I.freeC,I.pin,I.hok,I.len⟩
def Inv.z6a{X:Cx}{σ:St}(I:Inv X pins σ H s):Inv X pins (List.replicate X.N.length none) H s:=I.weak (by rw[Z5a,I.len]) λi v h=>by
 rw[List.getElem?_replicate] at h;split at h <;> cases h
def UnB.on{fs:List Addr}(u:UnB fs H H' h B h2)(i:h2.UpToSlots h5)(fr:∀ b∈fs,∃ o,h.get? b=some o/\∀ vs,o.data≠.fields vs):UnB fs H H' h B h5:=by
 refine⟨u.keep,λb o q n d=>?_,u.free,u.there,u.tups,u.frzs,u.tbls⟩;obtain⟨sl,e⟩:=u.slot b o q n d;obtain⟨o',c,hd⟩:=fr b d;rw[q] at c;cases c;obtain⟨a,f⟩:=i b _ e hd;exact⟨a,f⟩
noncomputable abbrev InB(n x y:Int):Prop:=0<=x/\x<n/\0<=y/\y<n
noncomputable def vp(K:FR)(C Xc:Addr):Sp:=λvs H Q E=>∃ (p pd lp:Addr) (W:Wb) (Ws:List Wb) (x y:Int),vs=[.ref p,.int x,.int y]/\ZG K C H p pd lp W Ws/\(InB W.1 x y->∀ H',zC H H'->Q .Zn H')/\(¬ InB W.1 x y->∀ H',zC H H'->E (.ref Xc) none H')
noncomputable def J8(K:FR)(C Xc:Addr):Sp:=λvs H Q E=>∃ (p pd lp:Addr) (W:Wb) (Ws:List Wb) (x y:Int),vs=[.ref p,.int x,.int y]/\ZG K C H p pd lp W Ws/\Ws.length<=5000/\W.2.length<=60/\
 (InB W.1 x y/\W.2.length<60->∀ (H':Hp) (ms:LI),ms.Perm (W.2 ++ [(x,y)])->ms.Pairwise yj->ZG K C H' p pd lp (W.1,ms) (Ws ++ [W])->Kx [p,pd] H H'->Q .Zn H')/\(¬ (InB W.1 x y/\W.2.length<60)->∀ H',zC H H'->E (.ref Xc) none H')
noncomputable def Uu(K:FR)(C Xc:Addr):Sp:=λvs H Q E=>∃ (p pd lp:Addr) (W:Wb) (Ws:List Wb) (x y:Int),vs=[.ref p,.int x,.int y]/\ZG K C H p pd lp W Ws/\Ws.length<=5000/\W.2.length<=60/\
 (InB W.1 x y/\(x,y)∈W.2->∀ (H':Hp),ZG K C H' p pd lp (W.1,W.2.erase (x,y)) (Ws ++ [W])->Kx [p,pd] H H'->Q .Zn H')/\(¬ (InB W.1 x y/\(x,y)∈W.2)->∀ H',zC H H'->E (.ref Xc) none H')
noncomputable def J9(K:FR)(C Xc:Addr):Sp:=λvs H Q E=>∃ (p pd lp:Addr) (W:Wb) (Ws:List Wb),vs=[.ref p]/\ZG K C H p pd lp W Ws/\Ws.length<=5000/\
 (W.1<12->∀ (H':Hp),ZG K C H' p pd lp (W.1+1,W.2) (Ws ++ [W])->Kx [p,pd] H H'->Q (.int W.1) H')/\(¬ W.1<12->∀ H',zC H H'->E (.ref Xc) none H')
noncomputable def yR{α:Type}(f:Nat->α)(i:Nat)(v:α):Nat->α:=λj=>if j=i then v else f j
def ZW{α:Type}(f:Nat->α)(i:Nat)(v:α):yR f i v i=v:=if_pos rfl
def yq{α:Type}(f:Nat->α)(v:α)(h:j≠i):yR f i v j=f j:=if_neg h
structure UQ(K:FR)(x:Str)(C:Addr):Prop where
 ns:PySem.W.nsIn K mainGlobals x=some (some (.ref C))
 exc:PySem.W.excIn K C Z3p "ValueError.__new__"=true
 kts:PySem.W.ktsIn K C "BaseException"=true
def UQ.of{x:Str}(a:PySem.W.nsIn K mainGlobals x=some (some (.ref C)))(e:PySem.W.excIn K C Z3p "ValueError.__new__"=true)(t:PySem.W.ktsIn K C "BaseException"=true):UQ K x C:=⟨a,e,t⟩
def UQ.xt{mg:SV}{x:Str}(a:UQ K x C)(XK:K.In h)(G:h.Ns mainGlobals mg):JS K mg x C:=⟨a.ns,Z45 XK G a.ns,a.exc,a.kts⟩
noncomputable def lexLe:List Int->List Int->Bool
 | [],_=>true
 | _ :: _,[]=>false
 | x :: xs,y :: ys=>if x=y then lexLe xs ys else decide (x<=y)
def JN(x y:Int)(xs a:List Int):lexLe (x :: xs) (y :: a)=if x=y then lexLe xs a else decide (x<=y):=rfl
section
open PySem.SeqAt
open PySem.AutoSeq1 (wpAny_loadPart')
open PySem.MeetsSeq PySem.MeetsSeq2 PySem.MeetsSeq3
def z0K(l b:Addr)(us vs:Array Value)(n m:Nat)(K J:Option Addr)(L P:Array (Option Value))(ns ms:List Int)(hi:IntsAre us.toList ns)(H:IntsAre vs.toList ms) :
 Meets (Builtin.«tuple.__le__» ⟨[.ref l,.ref b],[]⟩) (λ_ R s=>s.heap.get? l=some ⟨.type "tuple",K,.seq us n,L⟩/\s.heap.get? b=some ⟨.type "tuple",J,.seq vs m,P⟩/\R (.ok (.ret (.bool (lexLe ns ms)))) s) :=
 .of_wp λprog w A R s h=>by
  obtain⟨v,g,r,z,os⟩:=s;obtain⟨N,O,h⟩:=h;have I:=AutoSeq1.sub_tuple_tuple;have S:us.size=ns.length:=by rw[← hi.length];simp
  have T:vs.size=ms.length:=by rw[← H.length];simp
  wp_walk using wpAny_loadPart' N,wpAny_loadPart' O,wpAny_forIn_list _ (λrest b s'=>b.1=none/\s'=⟨v,g,r,z,os⟩/\∃ (xs C:List Value) (f d:List Int),rest=xs.zip C/\IntsAre xs f/\IntsAre C d/\f.length+vs.size=d.length+us.size/\R (.ok (.ret (.bool (lexLe f d)))) ⟨v,g,r,z,os⟩) _
  case turn =>
   rintro⟨y,x⟩ rest b s' ⟨p,rfl,xs,C,f,d,o,D,G,i,j⟩;cases D with
   | nil=>cases o
   | cons a t ix' =>
     cases G with
     | nil=>rw[List.zip_nil_right] at o;cases o
     | cons c u iy' =>
       rw[List.zip_cons_cons] at o;injection o with q1 q2;injection q1 with q3 q4;subst q3 q4;rw[JN] at j;rw[Z07,Z07] at i;obtain⟨e,he,B⟩:=HT.z8c A.in1 ⟨v,g,r,z,os⟩ a t c u;refine wpAny_bind (he prog w _ _ ?_);cases e with
       | true =>
         rw[if_pos (B.mp rfl)] at j;wp_walk;exact⟨rfl,rfl,_,_,_,_,q2,ix',iy',00,j⟩
       | false =>
         rw[if_neg (λq=>Z0d (B.mpr q))] at j;have F:∀ (E:Value->Shared->Prop) (Q:Value->Shared->Prop),Q (.bool (decide (a<=c))) ⟨v,g,r,z,os⟩->wpAny 09 A.in1 (richCompare .LtE (.int a t) (.int c u)) Q E ⟨v,g,r,z,os⟩:=λE Q h=>(PyProof.Rows.le_int h:wpAny 09 A.in1 (compareOp .LtE (.int a t) (.int c u)) Q E _);wp_walk using F;exact⟨_,rfl,by simpa using j⟩
  case fin =>
   rintro⟨b1,b2⟩ s' ⟨p,rfl,xs,C,f,d,o,D,G,i,j⟩;simp only at p;subst p;have M:lexLe f d=decide (us.size<=vs.size):=by
    cases D with
    | nil =>
      rw[Z4K] at i;exact (decide_eq_true 00).symm
    | cons a t ix' =>
      cases G with
      | nil =>
        rw[Z4K,Z07] at i;exact (decide_eq_false 00).symm
      | cons c u iy'=>cases o
   rw[M] at j;wp_walk;exact⟨_,rfl,by simpa[Builtin.Tuple.tupleCompareSizes] using j⟩
  case h =>
   exact⟨rfl,rfl,us.toList,vs.toList,ns,ms,rfl,hi,H,00,h⟩
end
noncomputable def Z4r(K:FR):R2:=λx y H Q=>∃ a b ns ms,x=.ref a/\y=.ref b/\zR K H a (ns.map V.int)/\zR K H b (ms.map V.int)/\Q (.bl (lexLe ns ms)) H
def Z2F(i:X.A.units<cLine):YD X (compareOp .LtE) (Z4r X.K):=by
 intro pins s σ H x y v u Q I l m h;obtain⟨a,b,ns,ms,rfl,rfl,ha,t,q⟩:=h;cases l;cases m;obtain⟨is,o,⟨⟨C,n,E,r⟩,o1,c,n1,f⟩,_⟩:=I.tuple ha;obtain⟨z,p,⟨⟨G,j,D,B⟩,o2,d,w,hd2⟩,_⟩:=I.tuple t;simp only at c f d hd2;subst c f d hd2;exact richCompare_meets_room (op:=.LtE) ⟨_,o1,rfl⟩ ⟨_,o2,rfl⟩ PySem.F.slot_tuple_le PySem.F.entry_tuple_le (PySem.F.args_tuple_le_2 _ _) (z0K a b is.toArray z.toArray n1 w n j r B ns ms (by simpa using intsAre_of o) (by simpa using intsAre_of p))
  ⟨o1,o2,show Value.bool (lexLe ns ms)≠Value.notImplemented/\EP X pins σ Q (.bool (lexLe ns ms)) s from ⟨(λx=>nomatch x),⟨.bl _,H,I,rfl,q⟩⟩⟩ i
def z9s(e:X.K=K)(a:X.A.units<cLine):YD X (compareOp .LtE) (Z4r K):=e ▸ Z2F a
noncomputable def Z4n(K:FR):V->Option Int->Option Int->Hp->VK->Prop:=λx _ _ H Q=>∃ a,x=.ref a/\zR K H a []/\Q 027 H
def z4Z{lo:Option Int}(a:IsTup s.heap t #[])(d:s.heap.IsSliceOf sl vl vu .none)(pl:IsPart vl lo)(pu:IsPart vu hi)(h:Q (.ref t) s):wpAny 09 A (getItem (.ref t) (.ref sl)) Q E s:=by
 obtain⟨os,b,c,hds⟩:=id d;unfold getItem
 try with_reducible refine wpAny_holding ?_
 first | refine wpAny_bind (wpAny_pure ?_) | skip
 refine wpAny_bind (wpAny_sequenceKey a.typeIs 01 ?_);refine wpAny_bind (wpAny_callSpecial?_slot (name:=Str.ofString "__getitem__") a.typeIs Z3P (wpAny_call_entry Z3P a.typeIs entry_tuple_getitem ?_ (args_tuple_getitem _ _)));show wpAny _ _ (Builtin.Tuple.tupleItemsOf (.ref t) >>= _) _ _ s;refine wpAny_bind (tupleItemsOf_ a ?_);refine wpAny_bind (wpAny_typeOf (show s.TypeIs (.ref sl) "slice" from ⟨os,b,c⟩) ?_);rw[if_pos 01];refine wpAny_bind (HT.YQ d pl pu ?_);have f:HT.yr (#[]:Array Value).size 0 lo=0:=Nat.le_zero.mp (HT.z1W 0 0 (Z02 _) lo);have i:HT.yr (#[]:Array Value).size (#[]:Array Value).size hi=0:=Nat.le_zero.mp (HT.z1W 0 0 (Z02 _) hi);rw[f,i];show wpAny _ _ (if (((0:Nat):Int) == 0 && (1:Int) == 1 && (0 - 0:Nat) == (#[]:Array Value).size)=true then _ else _) _ _ s;rw[if_pos (show (((0:Nat):Int) == 0 && (1:Int) == 1 && (0 - 0:Nat) == (#[]:Array Value).size)=true from rfl)];unfold Builtin.Tuple.tupleIsExact;have j:=a.typeIs
 repeat (any_goals (first | assumption | wp_step))
 exact⟨_,rfl,wpAny_pure h⟩
def z9B:SlR X (Z4n X.K):=by
 intro pins s σ H x v i j lo hi sl Q I d c pl pu h;obtain⟨a,rfl,f,q⟩:=h;cases d;obtain⟨its,r,b,l⟩:=I.tuple f;cases r;exact⟨"tuple",_,Z3P.lookup,b.typeIs,z4Z b c pl pu ⟨.ref a,H,I,rfl,q⟩⟩
def Z0l:SlR X (λx lo hi H Q=>Z4n X.K x lo hi H Q\/Z1l X.K x lo hi H Q):=SlR.or z9B QI
noncomputable def Z4R(K:FR):List V->Hp->VK->Prop:=λxs H Q=>∃ a b,xs=[.ref a,.ty "tuple"]/\zR K H a b/\Q (.bl true) H
def vy:ZE X (.builtin "isinstance") (Z4R X.K):=by
 intro pins s σ H xs us Q I r h;obtain⟨a,m,rfl,j,q⟩:=h;obtain⟨u,l,rfl,c,b⟩:=vals2 r;cases b;cases (show u=Value.ref a from c);obtain⟨_,_,⟨o,i,d,_⟩,_⟩:=I.tuple j;exact Z3M PySem.W.kitx_tuple I.XG ⟨o,i,d⟩ (Z2v _) (λz=>nomatch z) λf=>⟨.bl true,H,I.tok f,rfl,q⟩
noncomputable def j8(K:FR):Sp:=λvs H Q _=>∃ (q:Addr) (x y:Int),vs=[.ref q]/\zR K H q [.int x,.int y]/\Q (.bl true) H
noncomputable def ja(K:FR):Sp:=λvs H Q _=>∃ (n x y:Int) (q:Addr),vs=[.int n,.ref q]/\zR K H q [.int x,.int y]/\Q (.bl (decide (0<=x/\x<n/\0<=y/\y<n))) H
def vY{g:TG}(hlen:zs.length<=xs.length)(Pv:Nat->List V->St->Hp->Prop)(h0:Pv 0 [] σ0 H0)(w:∀ i c σ H,Pv i c σ H->Sq b1 K H a xs/\Sq b2 K H b zs/\H D=some (.lst c))(r:∀ i x z c σ H T G,xs[i]?=some x->zs[i]?=some z->i<zs.length->Pv i c σ H->H T=none->zC H G->G T=some (.tup [x,z])->g (.ref T) σ G λd H3=>tt d H3 λb H4=>if b=true then
  te d H4 λy H5=>H5 D=some (.lst c)/\c.length<sizeLine/\∃ j,j<zs.length - i/\Wt Pv zs.length (i+1) j (c ++ [y]) d (upd H5 D (.lst (c ++ [y]))) else ∃ j,j<zs.length - i/\Wt Pv zs.length (i+1) j c d H4)(hd:∀ c σ H,Pv zs.length c σ H->Q (.ref D) H):Q4 (Z2u b1 b2 K a b) D g tt te Q σ0 H0:=by
 refine⟨Wt Pv zs.length,⟨zs.length,rfl,Z15 _,h0⟩,?_⟩;rintro i m c f H' ⟨rfl,hi,p⟩;obtain⟨n,h,s⟩:=w i c f H' p;refine⟨s,?_⟩;by_cases hlt:i<zs.length;have l:i<xs.length:=00
 refine .inr ⟨⟨xs,zs,xs[i],zs[i],n,h,by simp[l],by simp[hlt]⟩,λx H2 y=>?_⟩;obtain⟨T,u,v,rfl,o,rfl,q,t⟩:=y;exact r i u v c f H' T _ (q xs n) (t zs h) hlt p o (zC.new o) zB;have e:i=zs.length:=00
 subst e;exact .inl ⟨⟨xs,zs,n,h,Nat.min_eq_right hlen⟩,hd c f H' p⟩
def sqf(h:zR K H t xs):Sq false K H t xs:=by unfold Sq;rw[if_neg 01];exact h
noncomputable def ZD(c:Nat):Str:=⟨#[c]⟩
noncomputable def Its(x:Str):It:=⟨λi _=>i<x.cps.size,λi H v H'=>H'=H/\∃ c,x.cps[i]?=some c/\v=.str (ZD c),λi _=>x.cps.size<=i⟩
def z5E(x:Str)(t:Tok)(it:Addr):Turn P w K tg (Its x) [it] it (λi h=>h.IsStrIter it "str_ascii_iterator" x t i) where
 mem:=05
 obj:=λi h st b f=>by
  have e:b=it:=by simpa using f
  subst e;obtain⟨o,e,c,d⟩:=st;exact⟨o,e,λv z=>by rw[d] at z;cases z⟩
 keep:=λi h h' st k=>let ⟨o,ho,r⟩:=st;⟨o,k it 05 o ho,r⟩
 item:=by
  intro X l hw m q i pins s σ H E I hf st a;subst l hw m;have a:i<x.cps.size:=a;obtain⟨f0,f1,f2,p,f4,n⟩:=hf it 05;refine wpAny_pyNext_ascii_item st (c:=x.cps[i]) (by simp[a]) λh' j sb=>?_;have I1:Inv X pins σ H { s with heap:=h',toks:=s.toks+1 }:=I.turned (t':=s.toks+1) (λb o f e=>(sb.2 b f).trans e) f0 f1 p f4 n;obtain⟨o,e,c,d⟩:=id j;exact⟨_,rfl,z0x (s:={ s with heap:=h',toks:=s.toks+1 }) e c d 01 ⟨.str (ZD x.cps[i]),H,I1,⟨_,rfl⟩,⟨rfl,_,by simp[a],rfl⟩,j,λb f=>(hf b f).1⟩⟩
 done:=by
  intro X l hw m q i pins s σ H E I hf st a;subst l hw m;have a:x.cps.size<=i:=a;obtain⟨f0,f1,f2,p,f4,n⟩:=hf it 05;exact wpAny_pyNext_ascii_end (I.ok.hd q) st (Array.getElem?_eq_none a) λh' u=>⟨rfl,I.turned (t':=s.toks) (λb o f e=>u b o f e) f0 f1 p f4 n⟩
 self:=λ_ _ _ _ _ st h=>wpAny_pyIter_striter_ascii st h
def z4Y(x:Str)(t:Tok)(it:Addr):Turn P w K tg (Its x) [it] it (λi h=>h.IsStrIter it "str_iterator" x t i) where
 mem:=05
 obj:=λi h st b f=>by
  have e:b=it:=by simpa using f
  subst e;obtain⟨o,e,c,d⟩:=st;exact⟨o,e,λv z=>by rw[d] at z;cases z⟩
 keep:=λi h h' st k=>let ⟨o,ho,r⟩:=st;⟨o,k it 05 o ho,r⟩
 item:=by
  intro X l hw m q i pins s σ H E I hf st a;subst l hw m;have a:i<x.cps.size:=a;obtain⟨f0,f1,f2,p,f4,n⟩:=hf it 05;refine wpAny_pyNext_wide_item st (c:=x.cps[i]) (by simp[a]) λh' j sb=>?_;have I1:Inv X pins σ H { s with heap:=h',toks:=s.toks+1 }:=I.turned (t':=s.toks+1) (λb o f e=>(sb.2 b f).trans e) f0 f1 p f4 n;obtain⟨o,e,c,d⟩:=id j;exact⟨_,rfl,z0x (s:={ s with heap:=h',toks:=s.toks+1 }) e c d 01 ⟨.str (ZD x.cps[i]),H,I1,⟨_,rfl⟩,⟨rfl,_,by simp[a],rfl⟩,j,λb f=>(hf b f).1⟩⟩
 done:=by
  intro X l hw m q i pins s σ H E I hf st a;subst l hw m;have a:x.cps.size<=i:=a;obtain⟨f0,f1,f2,p,f4,n⟩:=hf it 05;exact wpAny_pyNext_wide_end (I.ok.hd q) st (Array.getElem?_eq_none a) λh' u=>⟨rfl,I.turned (t':=s.toks) (λb o f e=>u b o f e) f0 f1 p f4 n⟩
 self:=λ_ _ _ _ _ st h=>wpAny_pyIter_striter_wide st h
noncomputable def Z6b(a:TE):TI:=λσ H R=>a σ H λv H1=>∃ x,v=.str x/\R (Its x) H1
def Z1W(f:PE X l tl):PI X tg l (Z6b tl):=by
 intro pins s σ H R I h;refine Zj (f pins s σ H _ I h) λv s1 a=>?_;obtain⟨z,H1,I1,c,q1⟩:=a;obtain⟨x,rfl,q⟩:=q1;obtain⟨t,rfl⟩:=c;have fp:∀ b∈[s1.heap.objs.size],Xu X pins H1 b:=λb d=>by
  have e:b=s1.heap.objs.size:=by simpa using d
  subst e;exact I1.z0g (Z02 _) (I1.hok.fresh (Z02 _))
 cases ha:x.cps.all (·<128) with
 | true=>exact wpAny_pyIter_ascii ha ⟨s1.heap.objs.size,[s1.heap.objs.size],_,_,H1,rfl,I1.kept (t':=s1.toks) λb o e=>Z00 _ e,z5E x t _,⟨_,Z0r _ rfl,rfl,rfl⟩,fp,q⟩
 | false=>exact wpAny_pyIter_wide ha ⟨s1.heap.objs.size,[s1.heap.objs.size],_,_,H1,rfl,I1.kept (t':=s1.toks) λb o e=>Z00 _ e,z4Y x t _,⟨_,Z0r _ rfl,rfl,rfl⟩,fp,q⟩
def z7A{x:Str}{g:TG}(Pv:Nat->List V->St->Hp->Prop)(h0:Pv 0 [] σ0 H0)(o:∀ i a σ H,Pv i a σ H->H D=some (.lst a))(l:∀ i c a σ H,x.cps[i]?=some c->i<x.cps.size->Pv i a σ H->g (.str (ZD c)) σ H λd H3=>tt d H3 λb H4=>if b=true then
  te d H4 λy H5=>H5 D=some (.lst a)/\a.length<sizeLine/\∃ h,h<x.cps.size - i/\Wt Pv x.cps.size (i+1) h (a ++ [y]) d (upd H5 D (.lst (a ++ [y]))) else ∃ h,h<x.cps.size - i/\Wt Pv x.cps.size (i+1) h a d H4)(hd:∀ a σ H,Pv x.cps.size a σ H->Q (.ref D) H) :
 Q4 (Its x) D g tt te Q σ0 H0:=by
 refine⟨Wt Pv x.cps.size,⟨x.cps.size,rfl,Z15 _,h0⟩,?_⟩;rintro i m a f H' ⟨rfl,hi,p⟩;refine⟨o i a f H' p,?_⟩;by_cases hlt:i<x.cps.size;refine .inr ⟨hlt,λv H2 y=>?_⟩;obtain⟨e,c,n,j⟩:=y;subst e j;exact l i c a f _ n hlt p;have e:i=x.cps.size:=00
 subst e;exact .inl ⟨Z02 _,hd a f H' p⟩
open Builtin Builtin.Str in
def sub_one(x:Str)(c i:Nat)(h:i<x.cps.size):subAt x (ZD c) i=decide (x.cps[i]=c):=by
 unfold subAt ZD;have e:x.cps.extract i (i+(⟨#[c]⟩:Str).length)=#[x.cps[i]]:=by
  apply Z30.mp;show (x.cps.extract i (i+1)).toList=[x.cps[i]];rw[Array.toList_extract];simp[List.extract,List.drop_eq_getElem_cons (show i<x.cps.toList.length by simpa using h)]
 rw[e];by_cases hq:x.cps[i]=c;simp[hq];simp[hq]
def Z2p(x:Str)(c:Nat):(!(Builtin.Str.occurrences x (ZD c) 0 x.length 1).isEmpty)=decide (c∈x.cps.toList):=StrLaws.found_one x c
noncomputable def Yk(P:Program)(w:World)(K:FR)(mg:SV)(base:Heap)(CX:Q8)(k:Nat)(nm:Str)(ps:List Str)(sp:Sp):Prop :=
 ∃ (f:Addr) (fd:FuncData),PySem.W.keepIn K 034=true/\mg nm=some 034/\Binds K fd ps []/\Zu P w K mg base CX k f fd ps sp
def ZH.uP{mg:SV}{k:Nat}{st:Stmt}{sp:Sp}(S:ZH K mg nm st ps)(h:∀ f fd,vc K nm nm st f fd->Zu P w K mg base CX k f fd ps sp):Yk P w K mg base CX k nm ps sp:=by
 obtain⟨f,fd,F,m,b⟩:=S;exact⟨f,fd,F.kp,m,b,h f fd F⟩
def YY{k:Nat}{sp:Sp}{e:Expr}{pos:Pos}(j:Gl X nm)(he:starEach (e :: es) X.env=019 :: starEach es X.env)(d:(backTo pos (starEach es X.env)).any (·.1)=false)(h:(nm == ("__debug__":Str))=false)(D:Yk X.prog X.w X.K X.mg X.base CX k nm ps sp)(hr:Zf k X.A)(i:Passes CX X E)(ha:PA X (e :: es) t) :
 PE X (.Call (.Name nm p) (e :: es) [] pos) (uu sp [] E t):=by
 obtain⟨f,fd,a,b,c,F⟩:=D;exact Jt F hr j b a c .nil i ha h he d
def z4H:∀ l:List (Str×Tok),Vals ((l.map (·.1)).map V.str) (strValues l)
 | []=>.nil
 | (_,t) :: l=>.cons ⟨t,rfl⟩ (z4H l)
theorem Jc:∀ {a:List Str}{us:List Value},Vals (a.map V.str) us->∃ l:List (Str×Tok),us=strValues l/\l.map (·.1)=a
 | [],_,.nil=>⟨[],rfl,rfl⟩
 | y :: a,_,.cons ⟨t,e⟩ r=>by
   obtain⟨l,b,c⟩:=Jc r;subst e b;exact⟨(y,t) :: l,rfl,by rw[Z1d,c]⟩
noncomputable def Z3s:V->List V->Hp->VK->Prop:=λx xs H Q=>∃ (z:Str) (c:Nat),x=.str z/\xs=[.str (ZD c)]/\z.cps.size<=8000/\∀ p H',zC H H'->H p=none->H' p=some (.lst ((Txt.split z (ZD c)).map V.str))->Q (.ref p) H'
def um:MtR X "str.split" Z3s:=by
 intro pins s σ H x xs v us Q I d r h;obtain⟨z,c,rfl,rfl,few,q⟩:=h;obtain⟨t,rfl⟩:=d;obtain⟨u,rfl,t',rfl⟩:=vals1 r;have f:z.length<=8000:=few;have i:=split_le z (ZD c);have a:((ZD c).length == 0)=false:=rfl;have hsz:z.length<=sizeLine:=by rw[sizeLine_eq];lia
 have fin:∀ (l:List (Str×Tok)) (k:Nat),l.map (·.1)=Txt.split z (ZD c)->EP X pins σ Q 023 { s with toks:=k,heap:=s.heap.push { cls:=.type "list",data:=.seq (strValues l).toArray } }:=λl k e =>
  ⟨.ref s.heap.objs.size,_,I.laid (t':=k) (λb o g=>Z00 _ g) (Z02 _) (show Zg X.prog X.w _ _ _ (.lst ((Txt.split z (ZD c)).map V.str)) from
   ⟨by rw[ZB,sizeLine_eq];lia,strValues l,_,by rw[← e];exact z4H l,Z0r _ rfl⟩),rfl,z7Y q _ (I.hok.fresh (Z02 _))⟩
 cases h1:(decide (z.length<(ZD c).length) || decide (Builtin.Str.strKind z<Builtin.Str.strKind (ZD c)));cases hf:(Builtin.Str.occurrences z (ZD c) 0 z.length (z.length+1)).isEmpty;have e:Txt.split z (ZD c)=Builtin.Str.partsBetween z (Builtin.Str.occurrences z (ZD c) 0 z.length (z.length+1)) (ZD c).length:=(if_neg (ne_true_of_eq_false h1)).trans (if_neg (ne_true_of_eq_false hf));refine call_meets Z50 (typeIs_str _ _ _) PySem.F.entry_str_split (PySem.F.args_str_split_2 _ _) (meets_str_split_sep z (ZD c) t t' h1 a hf hsz (by rw[← e,sizeLine_eq];lia)) ?_;show wants (EP X pins σ Q) X.xe _ { s with toks:=_,heap:=s.heap.push { cls:=.type "list",data:=.seq (strsFrom s.toks (Builtin.Str.partsBetween z (Builtin.Str.occurrences z (ZD c) 0 z.length (z.length+1)) (ZD c).length)).toArray } };rw[strsFrom_eq];exact fin (numbered s.toks _) _ ((numbered_texts _ _).trans e.symm);exact call_meets Z50 (typeIs_str _ _ _) PySem.F.entry_str_split (PySem.F.args_str_split_2 _ _) (meets_str_split_not_found z (ZD c) t t' h1 a hf)
  (fin [(z,t)] s.toks ((if_neg (ne_true_of_eq_false h1)).trans (if_pos hf)).symm)
 exact call_meets Z50 (typeIs_str _ _ _) PySem.F.entry_str_split (PySem.F.args_str_split_2 _ _) (meets_str_split_cannot_occur z (ZD c) t t' h1)
  (fin [(z,t)] s.toks (if_pos h1).symm)
noncomputable def Z0u:V->List V->Hp->VK->Prop:=λx xs H Q=>∃ (z:Str) (c:Nat),x=.str z/\xs=[.str (ZD c)]/\Q (.bl (decide (z.cps.toList.head?=some c))) H
def jT:MtR X "str.startswith" Z0u:=by
 intro pins s σ H x xs v us Q I b r h;obtain⟨z,c,rfl,rfl,q⟩:=h;obtain⟨t,rfl⟩:=b;obtain⟨u,rfl,t',rfl⟩:=vals1 r;refine call_gives Z47 (typeIs_str _ _ _) PySem.F.entry_str_startswith (PySem.F.args_str_startswith_2 _ _) (gives_str_startswith z (ZD c) t t') ?_;have e:(decide (0+(ZD c).length<=z.length) && Builtin.Str.subAt z (ZD c) 0)=decide (z.cps.toList.head?=some c):=by
  by_cases h0:0<z.cps.size;rw[sub_one z c 0 h0];have a:decide (0+(ZD c).length<=z.length)=true:=decide_eq_true (show 0+1<=z.cps.size by lia);rw[a,Bool.true_and,List.head?_eq_getElem?,Z42,Z55 h0];simp;have a:decide (0+(ZD c).length<=z.length)=false:=decide_eq_false (show ¬ 0+1<=z.cps.size by lia);have d:z.cps.toList=[]:=Z35.mp (by rw[Z11];lia);rw[a,d];rfl
 exact⟨.bl _,H,I,(by show Value.bool _=Value.bool _;rw[← e]),q⟩
noncomputable def Z6o:V->Option Int->Option Int->Hp->VK->Prop:=λv lo hi H Q=>∃ x:Str,v=.str x/\x.cps.size<=8000/\Q (.str (Txt.slice x lo hi)) H
def z2k:SlR X Z6o:=by
 intro pins s σ H x v c d lo hi sl Q I b a pl pu h;obtain⟨z,rfl,few,q⟩:=h;obtain⟨t,rfl⟩:=b;have hsz:z.length<=sizeLine:=by rw[sizeLine_eq];exact Z0Y few 01
 cases pl with
 | none =>
   cases pu with
   | none=>exact⟨"str",_,PySem.F.slot_str_getitem.lookup,typeIs_str _ _ _,wpAny_getItem_str_slice (l:=none) (u:=none) (st:=none) a rfl (post_val_or_str ⟨Z0Y (Txt.slice_le z _ _) hsz,λt' k=>⟨.str (Txt.slice z none none),H,I.tok _,⟨_,rfl⟩,q⟩⟩)⟩
   | int j u=>exact⟨"str",_,PySem.F.slot_str_getitem.lookup,typeIs_str _ _ _,wpAny_getItem_str_slice (l:=none) (u:=some (j,u)) (st:=none) a rfl (post_val_or_str ⟨Z0Y (Txt.slice_le z _ _) hsz,λt' k=>⟨.str (Txt.slice z none (some j)),H,I.tok _,⟨_,rfl⟩,q⟩⟩)⟩
 | int i u' =>
   cases pu with
   | none=>exact⟨"str",_,PySem.F.slot_str_getitem.lookup,typeIs_str _ _ _,wpAny_getItem_str_slice (l:=some (i,u')) (u:=none) (st:=none) a rfl (post_val_or_str ⟨Z0Y (Txt.slice_le z _ _) hsz,λt' k=>⟨.str (Txt.slice z (some i) none),H,I.tok _,⟨_,rfl⟩,q⟩⟩)⟩
   | int j u=>exact⟨"str",_,PySem.F.slot_str_getitem.lookup,typeIs_str _ _ _,wpAny_getItem_str_slice (l:=some (i,u')) (u:=some (j,u)) (st:=none) a rfl (post_val_or_str ⟨Z0Y (Txt.slice_le z _ _) hsz,λt' k=>⟨.str (Txt.slice z (some i) (some j)),H,I.tok _,⟨_,rfl⟩,q⟩⟩)⟩
noncomputable def Z1K:List V->Hp->VK->Prop:=λxs H Q=>∃ (x:Str) (n:Int),xs=[.str x]/\PySem.intText? x=some n/\x.cps.size<=640/\Q (.int n) H
def ju:ZE X (.type "int") Z1K:=by
 intro pins s σ H xs us Q I r h;obtain⟨x,n,rfl,e,few,q⟩:=h;obtain⟨u,rfl,t,rfl⟩:=vals1 r;exact PySem.W.KIN.call_text e few ⟨.int n,H,I.tok _,⟨_,rfl⟩,q⟩
noncomputable def rJoin(K:FR):V->List V->Hp->VK->Prop:=λx xs H Q=>∃ (sep:Str) (l:Addr) (a:List Str),x=.str sep/\xs=[.ref l]/\zN K H l (a.map V.str)/\JoinOk sep a=true/\Q (.str (Txt.join sep a)) H
def z7s:MtR X "str.join" (rJoin X.K):=by
 intro pins s σ H x xs v us Q I a r h;obtain⟨sep,l,f,rfl,rfl,d,ok,q⟩:=h;obtain⟨t,rfl⟩:=a;obtain⟨u,rfl,b⟩:=vals1 r;cases b;obtain⟨its,c,pl,i⟩:=id (I.list d);obtain⟨ps,rfl,e⟩:=Jc c;exact SC.join pl.isList e ok λt' k=>⟨.str _,H,I.tok _,⟨_,rfl⟩,q⟩
def YR(e:X.K=K):MtR X "str.join" (rJoin K):=by
 subst e;exact z7s
theorem Z1A(k:Nat):∀ (a:List Str) (n m:Nat),(∀ y∈a,y.cps.size<=m)->a.foldl (λn (p:Str)=>n+p.length+k) n<=n+a.length * (m+k)
 | [],n,m,_=>by simp
 | y :: a,n,m,h=>by
   rw[List.foldl_cons];refine Z0Y (Z1A k a _ m λz b=>h z (Z06 _ b)) ?_;have:y.length<=m:=h y (Z09 ..);rw[Z07,Nat.add_mul];lia
def XO(h:∀ y∈a,y.cps.size<=m)(few:a.length * (m+sep.cps.size)<=1000000):JoinOk sep a=true:=by
 unfold JoinOk;rw[List.foldl_toArray];have:=Z1A sep.length a 0 m h;have e:sep.length=sep.cps.size:=rfl;rw[e] at this ⊢;unfold Builtin.Str.tooLong;rw[Bool.not_eq_true',decide_eq_false_iff_not,sizeLine_eq];lia
theorem jg(sep:Array Nat):∀ (b:List Str) (a:Array Nat) (m:Nat),(∀ y∈b,y.cps.size<=m)->(b.foldl (λacc p=>acc ++ sep ++ p.cps) a).size<=a.size+b.length * (m+sep.size)
 | [],a,m,_=>by simp
 | y :: b,a,m,h=>by
   rw[List.foldl_cons];refine Z0Y (jg sep b _ m λz c=>h z (Z06 _ c)) ?_;have:y.cps.size<=m:=h y (Z09 ..);rw[Z07,Nat.add_mul,Array.size_append,Array.size_append];lia
def vt(h:∀ y∈a,y.cps.size<=m):(Txt.join sep a).cps.size<=a.length * (m+sep.cps.size):=by
 unfold Txt.join Builtin.Str.glued;cases a with
 | nil=>exact Z15 _
 | cons y a =>
   refine Z0Y (jg sep.cps a y.cps m λz b=>h z (Z06 _ b)) ?_;have:y.cps.size<=m:=h y (Z09 ..);rw[Z07,Nat.add_mul];lia
end L2
namespace Pw
open PySem.NumText
def uc(x:Str)(i:Nat)(h:i<=x.cps.size):(Txt.slice x (some (i:Int)) none).cps.toList=x.cps.toList.drop i:=by
 have e:Builtin.Str.strSliceIndices (some (i:Int)) none 1 x.length=(List.range (x.length - i)).map (i+·):=by
  have a:x.length=x.cps.size:=rfl;have d:max (0:Int) (min (i:Int) (x.length:Int))=((i:Nat):Int):=00
  simp only[Builtin.Str.strSliceIndices,show ((1:Int) > 0)=True by simp,if_true,show ¬ ((i:Int)<0) by lia,if_false,d];exact sliceRange_one i x.length
 unfold Txt.slice;rw[e];split;rename_i hc;have b:=(Bool.and_eq_true_iff.mp hc).2;rw[ZB,Z29,beq_iff_eq] at b;have a:x.length=x.cps.size:=rfl;by_cases h0:i=0;rw[h0,List.drop_zero];have:x.cps.size=0:=00
 have f:x.cps.toList=[]:=Z35.mp (by rw[Z11];exact this);rw[f,List.drop_nil];show (List.filterMap _ _)=_;apply List.ext_getElem?;intro k;rw[List.getElem?_drop];have key:∀ n,(List.filterMap (λj=>x.cps[j]?) ((List.range n).map (i+·)))=(x.cps.toList.drop i).take n:=by
  intro n
  induction n with
  | zero=>simp
  | succ n ih =>
    rw[Z5w,Z13,List.filterMap_append,ih,Z28,List.getElem?_drop,Z42];simp only[Z1d,Z3N];cases hx:x.cps[i+n]? with
    | none=>simp[hx]
    | some c=>simp[hx]
 rw[key];have a:x.length=x.cps.size:=rfl;have:(x.cps.toList.drop i).take (x.length - i)=x.cps.toList.drop i:=Z12 (by rw[Z3K,Z11];lia);rw[this,List.getElem?_drop]
noncomputable def Vr(c:Nat):Bool:=decide (48<=c/\c<=57)
def z9h(c:Nat):decide (c∈("0123456789":Str).cps.toList)=Vr c:=by
 have e:("0123456789":Str).cps.toList=[48,49,50,51,52,53,54,55,56,57]:=03
 unfold Vr;rw[e];by_cases h:c<58;exact (show ∀ c:Nat,c<58->decide (c∈[48,49,50,51,52,53,54,55,56,57])=decide (48<=c/\c<=57) by decide +kernel) c h;rw[decide_eq_false (show ¬ (48<=c/\c<=57) by lia)];exact decide_eq_false λm=>h ((show ∀ x∈[48,49,50,51,52,53,54,55,56,57],x<58 by decide) c m)
noncomputable def Q9(m:Nat)(x:Str):Prop:=1<=x.cps.size/\x.cps.size<=m/\x.cps.toList.all Vr=true/\(x.cps.toList=[48]\/x.cps.toList.head?≠some 48)
noncomputable instance (m:Nat) (x:Str):Decidable (Q9 m x):=by unfold Q9;infer_instance
def Ye{x:Str}(h:Q9 m x):AllDigits x.cps.toList:=λc a=>of_decide_eq_true (Z56.mp h.2.2.1 c a)
def u9{x:Str}(h:Q9 m x):x.cps.toList≠[]:=λe=>by
 have:=h.1;rw[← Z11,e] at this;simp at this
noncomputable def num?(x:Str):Option Int:=if Q9 13 x then some ((digitsVal x.cps.toList:Nat):Int) else none
noncomputable def QB(x:Str):Str:=if x.cps.toList.head?=some 45 then Txt.slice x (some 1) none else x
noncomputable def yg(x:Str):Option Int:=if Q9 13 (QB x)/\x.cps.toList≠[45,48] then PySem.intText? x else none
def z4y{x:Str}(h:Q9 13 x):PySem.intText? x=some ((digitsVal x.cps.toList:Nat):Int) :=
 intText_digits (Ye h) (u9 h) (Z0Y h.2.1 01)
def z0W{x:Str}(h:Q9 m x):x.cps.toList.head?≠some 45:=λe=>by
 have:=Ye h 45 (List.mem_of_mem_head? e);lia
def Z0L{x:Str}{n:Int}(h:num? x=some n):PySem.intText? x=some n/\x.cps.size<=13:=by
 unfold num? at h;split at h;rename_i f;cases h;exact⟨z4y f,f.2.1⟩;cases h
def Z0o{x:Str}{n:Int}(h:num? x=some n):yg x=some n:=by
 have hi:=Z0L h;unfold num? at h;split at h;rename_i f;have e:QB x=x:=by unfold QB;rw[if_neg (z0W f)]
 unfold yg;rw[e,if_pos ⟨f,λz=>z0W f (by rw[z];rfl)⟩];exact hi.1;cases h
def Us{x:Str}(h:x.cps.toList.head?=some 45):(Txt.slice x (some 1) none).cps.toList=x.cps.toList.tail:=by
 have a:1<=x.cps.size:=by
  rw[← Z11];cases e:x.cps.toList with
  | nil=>rw[e] at h;cases h
  | cons c cs=>simp
 have:=uc x 1 a;rw[List.drop_one] at this;exact this
def z7U{x:Str}(h:x.cps.toList.head?=some 45):yg x=(num? (Txt.slice x (some 1) none)).bind λn=>if n=0 then none else some (-n):=by
 have ct:=Us h;have ex:x.cps.toList=45 :: x.cps.toList.tail:=by
  cases e:x.cps.toList with
  | nil=>rw[e] at h;cases h
  | cons c cs=>rw[e] at h;cases h;rfl
 unfold yg num?;rw[show QB x=Txt.slice x (some 1) none by unfold QB;rw[if_pos h]];by_cases f:Q9 13 (Txt.slice x (some 1) none);rw[if_pos f,Option.bind_some];by_cases z:x.cps.toList=[45,48];have t:(Txt.slice x (some 1) none).cps.toList=[48]:=by rw[ct,z];rfl
 rw[if_neg (λq=>q.2 z),t];rfl;have hlen:x.length<=4300:=by
  have a:=f.2.1;rw[← Z11,ct,List.length_tail,Z11] at a;show x.cps.size<=4300;lia
 rw[if_pos ⟨f,z⟩,intText_neg ex (ct ▸ Ye f) (ct ▸ u9 f) hlen,← ct];have pos:0<digitsVal (Txt.slice x (some 1) none).cps.toList:=by
  rcases f.2.2.2 with g | g;exact absurd (by rw[ex,← ct,g]) z;cases e:(Txt.slice x (some 1) none).cps.toList with
  | nil=>exact absurd e (u9 f)
  | cons c cs =>
    have b:=Ye f c (by rw[e];exact Z09 ..);rw[e] at g;refine digitsVal_pos ?_;have:c≠48:=λq=>g (by rw[q];rfl);lia
 rw[if_neg 00];rw[if_neg f,if_neg (λq=>f q.1)];rfl
def z9Q{x:Str}(f:Q9 13 (QB x)):∃ n,PySem.intText? x=some n/\x.cps.size<=14:=by
 by_cases h:x.cps.toList.head?=some 45;have e:QB x=Txt.slice x (some 1) none:=by unfold QB;rw[if_pos h]
 rw[e] at f;have ct:=Us h;have ex:x.cps.toList=45 :: x.cps.toList.tail:=by
  cases e:x.cps.toList with
  | nil=>rw[e] at h;cases h
  | cons c cs=>rw[e] at h;cases h;rfl
 have a:=f.2.1;rw[← Z11,ct,List.length_tail,Z11] at a;exact⟨_,intText_neg ex (ct ▸ Ye f) (ct ▸ u9 f) (by show x.cps.size<=4300;lia),00⟩;have e:QB x=x:=by unfold QB;rw[if_neg h]
 rw[e] at f;exact⟨_,z4y f,Z0Y f.2.1 01⟩
noncomputable def pr?(c:Nat)(w:Str):Option (Int×Int):=match Txt.split w (L2.ZD c) with
 | [u,v]=>(yg u).bind λa=>(yg v).bind λb=>some (a,b)
 | _=>none
def Z4G{x:Str}(e:Txt.split x (L2.ZD c)=[u,v])(f:yg u=some a)(d:yg v=some b):pr? c x=some (a,b):=by
 unfold pr?;rw[e];show (yg u).bind _=_;rw[f];show (yg v).bind _=_;rw[d];rfl
structure Z1g(x:Str)(n:Int)(ps:LI):Prop where
 words:∃ wp ws,Txt.split x (L2.ZD 32)=("pages":Str) :: wp :: ws/\yg wp=some n/\ws.map (pr? 62)=ps.map some
 n1:1<=n
 n12:n<=12
 few:ps.length<=60
 rng:∀ p∈ps,0<=p.1/\p.1<n/\0<=p.2/\p.2<n
 up:ps.Pairwise L2.yj
noncomputable def z6R(x:Str)(A:Int×Int):Prop:=pr? 47 x=some A/\1<=A.2/\Int.gcd A.1 A.2=1
end Pw
namespace L2
noncomputable def z1C:Sp:=λvs H Q _=>∃ (x:Str) (m:Nat),vs=[.str x,.int (m:Int)]/\x.cps.size<=8000/\m<=100/\∀ H',zC H H'->Q (.bl (decide (Pw.Q9 m x))) H'
noncomputable def JK(K:FR):Sp:=λvs H Q _=>∃ (p:Addr) (A:Int×Int),vs=[.ref p]/\JZ K H p A/\Q (.bl (decide (1<=A.2/\Int.gcd A.1 A.2=1))) H
noncomputable instance (p q:Int×Int):Decidable (yj p q):=by unfold yj;infer_instance
noncomputable def vh(K:FR):Sp:=λvs H Q _=>∃ (t:Addr) (us:List V) (ps:LI),vs=[.ref t]/\H t=some (.tup us)/\Zm K H ps us/\ps.length<=62/\∀ H',zC H H'->Q (.bl (decide (ps.Pairwise yj))) H'
noncomputable def vf(n:Int)(ps:LI):Prop:=ps.length<=60/\(∀ p∈ps,0<=p.1/\p.1<n/\0<=p.2/\p.2<n)/\ps.Pairwise yj
noncomputable instance (n:Int) (ps:LI):Decidable (vf n ps):=by unfold vf;infer_instance
noncomputable def z0H(K:FR):Sp:=λvs H Q _=>∃ (t:Addr) (n:Int) (us:List V) (ps:LI),vs=[.int n,.ref t]/\H t=some (.tup us)/\Zm K H ps us/\ps.length<=9000/\∀ H',zC H H'->Q (.bl (decide (vf n ps))) H'
noncomputable def J4(K:FR):Sp:=λvs H Q _=>∃ (a:Addr) (n:Int) (ps:LI),vs=[.ref a]/\ZC K H a n ps/\ps.length<=9000/\∀ H',zC H H'->Q (.bl (decide (1<=n/\n<=12/\vf n ps))) H'
noncomputable def zO(H:Hp)(d:Addr)(B:Nat):Prop:=∃ a b c:Int,H d=some (.lst [.int a,.int b,.int c])/\0<=c/\c<=(B:Int)
def zO.up(h:zO H d B)(l:B<=B'):zO H d B':=let ⟨a,b,c,e,c0,c1⟩:=h;⟨a,b,c,e,c0,00⟩
def zO.same(h:zO H d B)(s:zC H H'):zO H' d B:=let ⟨a,b,c,e,r⟩:=h;⟨a,b,c,s _ _ e,r⟩
noncomputable def z2s:Sp:=λvs H Q _=>∃ (x:Int) (k:Nat),vs=[.int x,.int (k:Int)]/\∀ d H',zC H H'->H d=none->zO H' d k->Q (.ref d) H'
noncomputable def yo:Sp:=λvs H Q _=>∃ (d:Addr) (m:Int) (B:Nat),vs=[.ref d,.int m]/\0<m/\m<2 ^ 60/\B<=100000/\zO H d B/\∀ n H',0<=n->n<m->zO H' d (B+1)->Kp d H H'->Q (.int n) H'
noncomputable def z3X(K:FR):Sp:=λvs H Q _=>∃ (d:Addr) (m:Int) (B:Nat),vs=[.ref d,.int m]/\1<=m/\m<=12/\B<=90000/\zO H d B/\∀ a n ps H',ZC K H' a n ps->1<=n->n<=m->ps.length<=30->(∀ p∈ps,0<=p.1/\p.1<n/\0<=p.2/\p.2<n)->ps.Pairwise yj->zO H' d (B+100)->Kp d H H'->Q 027 H'
def uJ(x y:Str):decide (V.str x=V.str y)=decide (x.cps.toList=y.cps.toList):=by
 rw[decide_eq_decide];constructor;intro e;rw[V.str.inj e];intro e;have:x=y:=Str.ext' (Z30.mp e);rw[this]
def Z1b:(Str.ofString "").cps.toList=[]:=03
def t_0:(Str.ofString "0").cps.toList=[48]:=03
def Z6j:(Str.ofString "-0").cps.toList=[45,48]:=03
def c_0:Str.ofString "0"=ZD 48:=03
def c_m:Str.ofString "-"=ZD 45:=03
def Z2S:Str.ofString "/"=ZD 47:=03
def Z4M:Str.ofString ">"=ZD 62:=03
def Z0O:Str.ofString " "=ZD 32:=03
def z0o(e:Str.ofString a=ZD c):[V.str (Str.ofString a)]=[V.str (ZD c)]:=by rw[e]
def z6P{x:Str}(h:x.cps.size<=8000):x.length<=sizeLine:=by rw[sizeLine_eq];exact Z0Y h 01
def z7M{x:Str}(n:x.cps.size<=8000)(l:H D=none)(k:∀ G,zC H G->G D=some (.lst ((x.cps.toList.map Pw.Vr).map V.bl))->Q (.ref D) G) :
 Q4 (Its x) D (Zo 0) (λx H Q=>Q true H) (tOp (λx y H Q=>∃ i j,x=V.str i/\y=V.str j/\Q (V.bl !(Builtin.Str.occurrences j i 0 j.length 1).isEmpty) H) (uD 0) (tC (V.str (Str.ofString "0123456789")))) Q [none] (upd H D (.lst [])):=by
 refine z7A (x:=x) (D:=D) (λi a σ G=>zC H G/\G D=some (.lst a)/\a=((x.cps.toList.take i).map Pw.Vr).map V.bl/\∃ v,σ=[v]) ?_ ?_ ?_ ?_;exact⟨zC.new l,zB,rfl,none,rfl⟩;rintro i a σ G ⟨_,e,_⟩;exact e
 · rintro i c a σ G m h ⟨f,d,rfl,v,rfl⟩
   dsimp only [Zo];rw[if_pos rfl];refine⟨_,rfl,_,_,rfl,rfl,d,?_,Wt.next h ⟨λb o e=>by rw[zD (zh e l)];exact f _ _ e,zB,?_,_,rfl⟩⟩;rw[ZB,ZB,Z1r,Z11,sizeLine_eq];lia;rw[Z2p,Pw.z9h,Z28,Z42,m,Z13,Z13];rfl
 rintro a σ G ⟨f,d,rfl,_⟩;rw[Z12 (by rw[Z11];exact Z02 _)] at d;exact k G f d
def zC.Zn(s:zC H G)(h:G q=none):H q=none:=by
 cases e:H q with
 | none=>rfl
 | some o=>rw[s _ _ e] at h;cases h
def z5P(p q:Int×Int):lexLe [p.1,p.2] [q.1,q.2]=decide (yj p q):=by
 have h:yj p q↔(p.1<q.1\/(p.1=q.1/\p.2<=q.2)):=Iff.rfl;rw[JN];split;rw[JN];split;exact (decide_eq_true (h.mpr 00)).symm;exact decide_eq_decide.mpr (by rw[h];lia);exact decide_eq_decide.mpr (by rw[h];lia)
noncomputable def adj:LI->List Bool
 | p :: q :: r=>lexLe [p.1,p.2] [q.1,q.2] :: adj (q :: r)
 | _=>[]
theorem z4r:∀ ps:LI,(adj ps).all id=decide (ps.Pairwise yj)
 | []=>by simp[adj]
 | [p]=>by simp[adj]
 | p :: q :: r=>by
   rw[adj,List.all_cons,z4r (q :: r),z5P];show (decide _ && decide _)=_;rw[← Bool.decide_and,decide_eq_decide];constructor;rintro⟨b,c⟩;refine Z4f.mpr ⟨λz a=>?_,c⟩;rcases Z08.mp a with rfl | a;exact b;exact qh p q z b ((Z4f.mp c).1 z a);intro h;exact⟨(Z4f.mp h).1 q (Z09 ..),(Z4f.mp h).2⟩
theorem z4A:∀ (ps:LI) (i:Nat) (p q:Int×Int),ps[i]?=some p->ps[i+1]?=some q->(adj ps)[i]?=some (lexLe [p.1,p.2] [q.1,q.2])
 | [],_,_,_,h,_=>by simp at h
 | [_],i,_,_,_,h=>by simp at h
 | a :: b :: r,0,p,q,h1,h2=>by
   simp at h1 h2;subst h1 h2;rfl
 | a :: b :: r,i+1,p,q,h1,h2=>by
   rw[adj,List.getElem?_cons_succ];exact z4A (b :: r) i p q (by simpa using h1) (by simpa using h2)
theorem jW:∀ ps:LI,(adj ps).length=ps.length - 1
 | []=>rfl
 | [_]=>rfl
 | a :: b :: r=>by rw[adj,Z07,jW (b :: r)];simp
def z6z{x:Int}(h0:0<M)(h:M<2 ^ 40):Sz 100000 (x % M):=yk 40 (by
 have a:=Z5z x (show M≠0 by lia);have b:=Int.emod_lt_of_pos x h0;lia)
def z9F(l:List Nat):(l.map Pw.Vr).all id=l.all Pw.Vr:=by
 rw[List.all_map];rfl
def zO.lst{H:Hp}{d:Addr}{B:Nat}(h:zO H d B):∃ xs,H d=some (.lst xs):=let ⟨_,_,_,e,_⟩:=h;⟨_,e⟩
def zO.kl(h:zO H d B)(k:Kp d H H'):KL H H':=let ⟨_,e⟩:=h.lst;k.kl e
def zO.ne(h:zO H d B)(n:H l=none):l≠d:=λz=>by
 obtain⟨_,e⟩:=h.lst;rw[z,e] at n;cases n
def zO.kp(h:zO H d B)(k:Kp l H H')(n:d≠l):zO H' d B:=let ⟨a,b,c,e,r⟩:=h;⟨a,b,c,k _ _ e n,r⟩
def zP(x y:Str):(x ++ y).cps.size=x.cps.size+y.cps.size:=by
 rw[Z26,Array.size_append]
def yS(x:Str):x.length=x.cps.size:=rfl
def z8B{xs zs:List Str}(e:H l=some (.lst (xs.map V.str)))(a:H b=some (.lst (zs.map V.str)))(few:xs.length+zs.length<=100000)(k:∀ p H',zC H H'->H p=none->H' p=some (.lst ((xs ++ zs).map V.str))->Q (.ref p) H'):Z0W (.ref l) (.ref b) H Q :=
 ⟨l,b,_,_,rfl,rfl,e,a,by rw[ZB,ZB,sizeLine_eq];lia,λp H' s n e=>k p H' s n (by rw[Z13];exact e)⟩
def Zb{i:Int}(h0:0<=i)(a:i<=99):(Str.ofString (toString i)).cps.size<=2:=by
 have key:∀ n:Nat,n<=99->(Str.ofString (toString ((n:Nat):Int))).cps.size<=2:=03
 obtain⟨n,rfl⟩:=Z46 h0;exact key n 00
def z1b(G:A.handled=none)(hit:s.heap.IsRevIter I l ((items.size:Int) - 1))(B:s.heap.IsList l items)(u:l≠I)(hn:items.size<=sizeLine)(q:∀ h' C,(∀ b o,b≠I->s.heap.get? b=some o->h'.get? b=some o)->Q items.reverse.toList { s with heap:=h',toks:=C }) :
 wpAny 09 A (collect (.ref I)) Q E s:=by
 have m:I<s.heap.objs.size:=by obtain⟨o,z,_⟩:=hit;exact Z0k z
 have p:l<s.heap.objs.size:=by obtain⟨o,z,_⟩:=B;exact Z0k z
 have r:s.heap.objs.size∉[I,l]:=λhm=>by
  rcases Z08.mp hm with z | z;exact Z40 m z;exact Z40 p (Z01.mp z)
 unfold collect;refine wpAny_bind (wpAny_runValue (codeAny_builtin F.entry_proto_collect ?_));rw[Around.under_plainId F.plain_proto_collect _];show wpAny _ A.in1 (newList [] >>= λl=>(again (.builtin "list.__iadd__" ⟨[l,.ref I],[]⟩))) _ _ s;refine wpAny_bind (wpAny_newObj_type ?_);refine wpAny_pure ⟨plainId_quiet F.plain_list_iadd _,codeAny_builtin F.entry_list_iadd ?_⟩;rw[Around.under_plainId F.plain_list_iadd _];have up1:∀ b o,s.heap.get? b=some o->(s.heap.push { cls:=.type "list",data:=.seq ([]:List Value).toArray }).get? b=some o:=λb o e=>Z00 _ e;have j:(s.heap.push { cls:=.type "list",data:=.seq ([]:List Value).toArray }).get? s.heap.objs.size=some { cls:=.type "list",data:=.seq ([]:List Value).toArray }:=Z0r _ rfl;generalize hh1:s.heap.push { cls:=.type "list",data:=.seq ([]:List Value).toArray }=h1 at up1 j;have c:h1.IsRevIter I l ((items.size:Int) - 1):=hit.at λo e=>up1 _ _ e;have n:h1.IsList l items:=B.at λo e=>up1 _ _ e;have d:Shared.TypeIs { s with heap:=h1 } (.ref I) "list_reverseiterator":=Heap.IsRevIter.typeIs (s:={ s with heap:=h1 }) c;show wpAny _ A.in1 (Builtin.List.listExtendWith 023 (.ref I) 023) _ _ { s with heap:=h1 };unfold Builtin.List.listExtendWith;refine wpAny_bind (wpAny_typeOf d ?_);have g1:Builtin.List.listSameRef 023 (.ref I)=false:=by simp[Builtin.List.listSameRef,Z40 m]
 rw[if_neg (by rw[g1];decide)];refine wpAny_bind (wpAny_pyIter_revIter (s:={ s with heap:=h1 }) c ?_);refine wpAny_bind (wpAny_holding ?_);unfold Builtin.List.listLengthHint;refine wpAny_bind (wpAny_specialOf d z5k ?_);show wpAny _ A.in1 (specialOf (Value.ref I) (Str.ofString "__length_hint__") >>= _) _ _ _;refine wpAny_bind (wpAny_specialOf d z7P ?_);generalize hid:("list_reverseiterator.__length_hint__":String)=id0
 wp_delta
 rw[show splitId id0=some ("list_reverseiterator","__length_hint__") from by subst hid;decide +kernel];subst hid;refine wpAny_bind (wpAny_isInstance (b:=true) d (by rw[isSubtype_type];kernel_rfl) ?_);refine wpAny_pure ?_;rw[if_neg 01];refine wpAny_pure ⟨plainId_quiet F.plain_extend_loop _,codeAny_extend_loopS (Walks.listRev (prog:=prog) (w:=w) (A:=A.in1) G I l u items).toS hn s.heap.objs.size r _ items.size 0 _ _ _ rfl (Z15 _) ⟨Z15 _,by simpa using c,n⟩ j (ItemsOf.nil _) λs' f J hm t a=>?_⟩;have e:f=items.reverse:=by
  apply Array.ext;rw[a.1,Array.size_reverse];intro i v D;have:=a.2 i f[i] 05;rw[a.1] at v;rw[Array.getElem_reverse];rw[Z55 00] at this;exact (Z19 this).symm
 subst e;show wpAny _ A (load s.heap.objs.size >>= _) _ _ s';refine wpAny_bind (wpAny_load t ?_);refine wpAny_pure ?_;rw[Moved.eq_with hm];refine q s'.heap s'.toks λb o H y=>hm.heap b o (λh=>?_) (up1 b o y);rcases Z08.mp h with z | z;exact Z14 (Z0k y) z;exact H (Z01.mp z)
noncomputable def tFS(c d:Str)(a tb:TE):TE:=λσ H Q=>a σ H λv H1=>∃ i,v=.int i/\i.natAbs.log2<1920/\(Str.ofString (toString i)).cps.size<=100/\tb σ H1 λu H2=>∃ j,u=.int j/\j.natAbs.log2<1920/\(Str.ofString (toString j)).cps.size<=100/\Q (.str (c ++ Str.ofString (toString i) ++ d ++ Str.ofString (toString j))) H2
def Vf(x:Str):Str.empty ++ x=x:=by
 refine Str.ext' (Z30.mp ?_);rw[Z26,Z21];rfl
def Z4X{pos:Pos}{j1 j2}(z:c.cps.size<=100)(hd:d.cps.size<=100)(ha:PE X a ta)(o:PE X b tb):PE X (.JoinedStr [.Constant (.str c) j1 p1,.FormattedValue a (-1) none p2,.Constant (.str d) j2 p3,.FormattedValue b (-1) none p4] pos) (tFS c d ta tb):=by
 intro pins s σ H Q I h;refine JoinedStr_many (joinParts_cons (Calls.Constant_str ⟨by rw[Vf,yS,sizeLine_eq];lia,?_⟩));rw[Vf];refine joinParts_cons (FormattedValue_plain (Zj (ha pins _ σ H _ (I.tok _) h) λv s1 f=>?_));obtain⟨x,H1,I1,l,q1⟩:=f;obtain⟨i,rfl,hi,r,q⟩:=q1;obtain⟨t,rfl⟩:=l;refine formatField_int_small hi ⟨by rw[yS,zP,sizeLine_eq];lia,?_⟩;refine joinParts_cons (Calls.Constant_str ⟨by rw[yS,zP,zP,sizeLine_eq];lia,?_⟩);refine joinParts_cons (FormattedValue_plain (Zj (o pins _ σ H1 _ ((I1.tok _).tok _) q) λu s2 f=>?_));obtain⟨y,H2,I2,m,q2⟩:=f;obtain⟨j,rfl,n,w,q⟩:=q2;obtain⟨p,rfl⟩:=m;have fit:(c ++ Str.ofString (toString i) ++ d ++ Str.ofString (toString j)).length<=sizeLine:=by rw[yS,zP,zP,zP,sizeLine_eq];lia
 refine formatField_int_small n ⟨fit,joinParts_nil ⟨.str _,H2,(I2.tok _).tok _,⟨_,rfl⟩,q⟩ fit⟩
end L2
namespace Pw
open PySem.NumText
noncomputable def jl(s:List Nat)(y:List Nat)(a:List (List Nat)):List Nat:=y ++ a.flatMap (s ++ ·)
theorem jb(sep:Array Nat):∀ (b:List Str) (a:Array Nat),(b.foldl (λacc p=>acc ++ sep ++ p.cps) a).toList=a.toList ++ (b.map (·.cps.toList)).flatMap (sep.toList ++ ·)
 | [],a=>by simp
 | y :: b,a=>by
   rw[List.foldl_cons,jb sep b];simp[Z2N]
def join_list(sep y:Str)(a:List Str):(Txt.join sep (y :: a)).cps.toList=jl sep.cps.toList y.cps.toList (a.map (·.cps.toList)):=by
 unfold Txt.join Builtin.Str.glued jl;exact jb sep.cps a y.cps
theorem uN(sep:Str):∀ (a:List Str) (y:Str),(Str.join sep (y :: a)).cps.toList=jl sep.cps.toList y.cps.toList (a.map (·.cps.toList))
 | [],y=>by simp[Str.join,jl]
 | z :: a,y=>by
   have b:=uN sep a z;show (y ++ sep ++ Str.join sep (z :: a)).cps.toList=_;rw[Z26,Z26,Z21,Z21,b];unfold jl;simp[Z2N]
theorem z8T:∀ {y z r s:List Nat},c∉y->c∉z->y ++ c :: r=z ++ c :: s->y=z/\r=s
 | [],[],_,_,_,_,e=>⟨rfl,(Z5u e).2⟩
 | [],b :: z,_,_,_,hz,e=>absurd (Z5u e).1 λq=>hz (by rw[q];exact Z09 ..)
 | a :: y,[],_,_,hy,_,e=>absurd (Z5u e).1 λq=>hy (by rw[← q];exact Z09 ..)
 | a :: y,b :: z,r,s,hy,hz,e=>by
   have h:=Z5u e;obtain⟨d,f⟩:=z8T (λq=>hy (Z06 _ q)) (λq=>hz (Z06 _ q)) h.2;exact⟨by rw[h.1,d],f⟩
theorem z7c:∀ {d zs:List (List Nat)}{y z:List Nat},c∉y->c∉z->(∀ a∈d,c∉a)->(∀ a∈zs,c∉a)->jl [c] y d=jl [c] z zs->y=z/\d=zs
 | [],[],y,z,_,_,_,_,e=>by
   simp only[jl,List.flatMap_nil,Z58] at e;exact⟨e,rfl⟩
 | [],w :: ws,y,z,hy,_,_,_,e=>by
   refine absurd ?_ hy;simp only[jl,List.flatMap_nil,Z58] at e;rw[e];simp
 | a :: as,[],y,z,_,hz,_,_,e=>by
   refine absurd ?_ hz;simp only[jl,List.flatMap_nil,Z58] at e;rw[← e];simp
 | a :: as,b :: bs,y,z,hy,hz,hys,hzs,e=>by
   have m:y ++ c :: jl [c] a as=z ++ c :: jl [c] b bs:=by
    simpa[jl,Z2N] using e
   obtain⟨i,l⟩:=z8T hy hz m;obtain⟨j,h⟩:=z7c (hys a (Z09 ..)) (hzs b (Z09 ..)) (λq f=>hys q (Z06 _ f)) (λq f=>hzs q (Z06 _ f)) l;exact⟨i,by rw[j,h]⟩
theorem map_inj:∀ {xs a:List Str},xs.map (·.cps.toList)=a.map (·.cps.toList)->xs=a
 | [],[],_=>rfl
 | [],_ :: _,e=>by simp at e
 | _ :: _,[],e=>by simp at e
 | x :: xs,y :: a,e=>by
   rw[Z1d,Z1d] at e;have h:=Z5u e;rw[Str.ext' (Z30.mp h.1),map_inj h.2]
def X6(j:c∉y.cps.toList)(d:∀ w∈b,c∉w.cps.toList):Txt.split (Txt.join (L2.ZD c) (y :: b)) (L2.ZD c)=y :: b:=by
 have f:=PyProof.Rows.split_pos (Txt.join (L2.ZD c) (y :: b)) (L2.ZD c);have i:=StrLaws.join_split (Txt.join (L2.ZD c) (y :: b)) (L2.ZD c);have hf:=StrLaws.split_free (Txt.join (L2.ZD c) (y :: b)) c;change ∀ p∈Txt.split (Txt.join (L2.ZD c) (y :: b)) (L2.ZD c),_ at hf;cases e:Txt.split (Txt.join (L2.ZD c) (y :: b)) (L2.ZD c) with
 | nil=>rw[e] at f;simp at f
 | cons z zs =>
   rw[e] at i hf;have h:=congrArg (λs:Str=>s.cps.toList) i;rw[uN,join_list] at h;have n:(L2.ZD c).cps.toList=[c]:=rfl;rw[n] at h;obtain⟨m,l⟩:=z7c (hf z (Z09 ..)) j (λa ha=>by
    obtain⟨w,hw,rfl⟩:=Z18.mp ha;exact hf w (Z06 _ hw)) (λa ha=>by
    obtain⟨w,hw,rfl⟩:=Z18.mp ha;exact d w hw) h
   rw[Str.ext' (Z30.mp m),map_inj l]
noncomputable abbrev ns(n:Int):Str:=Str.ofString (toString n)
noncomputable def Uo(m:Nat):List Nat:=(Nat.toDigits 10 m).map Char.toNat
def ud(h:¬ m<10):Uo m=Uo (m / 10) ++ [48+m % 10]:=by
 have hm:m % 10<10:=Nat.mod_lt m 01;have t:Nat.toDigits 10 (m / 10) ++ Nat.toDigits 10 (m % 10)=Nat.toDigits 10 (10 * (m / 10)+m % 10):=Nat.toDigits_append_toDigits 01 00 hm;rw[Nat.div_add_mod] at t;unfold Uo;rw[← t,Z13,Nat.toDigits_of_lt_base hm];have key:∀ d,d<10->(Nat.digitChar d).toNat=48+d:=01
 show _ ++ [(Nat.digitChar (m % 10)).toNat]=_;rw[key _ hm]
def VP(h:m<10):Uo m=[48+m]:=by
 unfold Uo;rw[Nat.toDigits_of_lt_base h];have key:∀ d,d<10->(Nat.digitChar d).toNat=48+d:=01
 show [(Nat.digitChar m).toNat]=_;rw[key _ h]
def xT(m:Nat):AllDigits (Uo m)/\Uo m≠[]/\(m≠0->(Uo m).head?≠some 48)/\∀ k,1<=k->m<10 ^ k->(Uo m).length<=k:=by
 induction m using Nat.strongRecOn with
 | _ m ih =>
   by_cases h:m<10;rw[VP h];refine⟨λc n=>?_,05,λh0 e=>?_,λk l _=>by simpa using l⟩;rw[Z01.mp n];lia;have:=Z19 e;lia;obtain⟨a,b,c,d⟩:=ih (m / 10) 00;have hm:m % 10<10:=Nat.mod_lt m 01;rw[ud h];refine⟨λx f=>?_,05,λ_ e=>?_,λk l i=>?_⟩;rcases Z20.mp f with f | f;exact a x f;rw[Z01.mp f];lia;refine c 00 ?_;cases hd:Uo (m / 10) with
   | nil=>exact absurd hd b
   | cons x xs=>rw[hd] at e;exact e
   rw[Z10,Z41];have k2:2<=k:=by
    rcases Nat.lt_or_ge k 2 with j | j;have:k=1:=00;subst this;lia;exact j
   have:=d (k - 1) 00 (by
    have e:10 ^ k=10 ^ (k - 1) * 10:=(by rw[← Nat.pow_succ];congr 1;lia);rw[e] at i;exact Nat.div_lt_of_lt_mul (by rw[Nat.mul_comm];exact i))
   lia
def xg(m:Nat):(ns ((m:Nat):Int)).cps.toList=Uo m:=PySem.W.KIN.signs_num m
def z3t(m:Nat):(ns (Int.negSucc m)).cps.toList=45 :: Uo (m+1):=by
 unfold ns Uo;rw[PyProof.Rows.signs_ofString];show ("-" ++ Nat.repr (m+1)).toList.map Char.toNat=_;rw[String.toList_append,Z13,Nat.toList_repr];rfl
def z8R{n:Int}(h0:0<=n)(j:n<10 ^ 13):num? (ns n)=some n:=by
 obtain⟨m,rfl⟩:=Z46 h0;obtain⟨a,b,c,d⟩:=xT m;have e:=xg m;have f:Q9 13 (ns ((m:Nat):Int)):=by
  refine⟨?_,?_,?_,?_⟩;rw[← Z11,e];exact Z4N.mpr b;rw[← Z11,e];exact d 13 01 00;rw[e];exact Z56.mpr λx i=>decide_eq_true (a x i);rw[e];by_cases h:m=0;subst h;exact .inl rfl;exact .inr (c h)
 unfold num?;rw[if_pos f,e];unfold Uo;rw[PySem.W.KIN.val_back]
def VL{n:Int}(h0:-(10 ^ 13)<n)(c:n<10 ^ 13):yg (ns n)=some n:=by
 by_cases hn:0<=n;exact Z0o (z8R hn c);cases n with
 | ofNat m=>exact absurd (Int.natCast_nonneg m) hn
 | negSucc m =>
   have e:=z3t m;have hd:(ns (Int.negSucc m)).cps.toList.head?=some 45:=by rw[e];rfl
   have ct:=Us hd;rw[e,List.tail_cons] at ct;have b:Txt.slice (ns (Int.negSucc m)) (some 1) none=ns (((m+1:Nat):Nat):Int):=Str.ext' (Z30.mp (by rw[ct,xg]));have a:num? (ns (((m+1:Nat):Nat):Int))=some (((m+1:Nat):Nat):Int):=z8R 00 00;rw[z7U hd,b,a,Option.bind_some,if_neg 00];congr 1
def z2r{n:Int}(h:c∈(ns n).cps.toList):c=45\/(48<=c/\c<=57):=by
 cases n with
 | ofNat m =>
   have e:=xg m;change (ns (Int.ofNat m)).cps.toList=_ at e;rw[e] at h;exact .inr ((xT m).1 c h)
 | negSucc m =>
   rw[z3t m] at h;rcases Z08.mp h with h | h;exact .inl h;exact .inr ((xT (m+1)).1 c h)
def z4P{n:Int}(h0:-(10 ^ 13)<n)(a:n<10 ^ 13):(ns n).cps.size<=14:=by
 rw[← Z11];cases n with
 | ofNat m =>
   have e:=xg m;change (ns (Int.ofNat m)).cps.toList=_ at e;rw[e];exact Z0Y ((xT m).2.2.2 13 01 (by have:Int.ofNat m=(m:Int):=rfl;lia)) 01
 | negSucc m =>
   rw[z3t m,Z07];exact Nat.succ_le_succ ((xT (m+1)).2.2.2 13 01 00)
noncomputable def wd(p:Int×Int):Str:=ns p.1 ++ Str.ofString ">" ++ ns p.2
noncomputable def frT(A:Int×Int):Str:=ns A.1 ++ Str.ofString "/" ++ ns A.2
noncomputable def wbT(n:Int)(ps:LI):Str:=Txt.join (L2.ZD 32) (Str.ofString "pages" :: ns n :: ps.map wd)
def z8q(c:Nat)(x y:Str):Txt.join (L2.ZD c) [x,y]=x ++ L2.ZD c ++ y:=by
 refine Str.ext' (Z30.mp ?_);rw[join_list,Z26,Z26,Z21,Z21];simp[jl]
def Z0Z(f:c≠45)(a:¬ (48<=c/\c<=57))(b:-(10 ^ 13)<A.1/\A.1<10 ^ 13)(d:-(10 ^ 13)<A.2/\A.2<10 ^ 13):pr? c (ns A.1 ++ L2.ZD c ++ ns A.2)=some A:=by
 have free:∀ n,c∉(ns n).cps.toList:=λn h=>by
  rcases z2r h with h | h;exact f h;exact a h
 rw[← z8q];exact Z4G (X6 (free _) λw hw=>by rw[Z01.mp hw];exact free _) (VL b.1 b.2) (VL d.1 d.2)
def Z0A(b:-(10 ^ 13)<A.1/\A.1<10 ^ 13)(a:1<=A.2/\A.2<10 ^ 13)(g:Int.gcd A.1 A.2=1):z6R (frT A) A:=by
 refine⟨?_,a.1,g⟩;unfold frT;rw[L2.Z2S];exact Z0Z 01 01 b ⟨00,a.2⟩
def z8X{n:Int}{ps:LI}(n1:1<=n)(n12:n<=12)(few:ps.length<=60)(rng:∀ p∈ps,0<=p.1/\p.1<n/\0<=p.2/\p.2<n)(up:ps.Pairwise L2.yj):Z1g (wbT n ps) n ps:=by
 have fr:∀ (n:Int),32∉(ns n).cps.toList:=λn h=>by
  rcases z2r h with h | h;cases h;lia
 refine⟨⟨ns n,ps.map wd,X6 03 λw hw=>?_,VL 00 00,?_⟩,n1,n12,few,rng,up⟩;rcases Z08.mp hw with rfl | hw;exact fr n;obtain⟨p,_,rfl⟩:=Z18.mp hw;unfold wd;rw[Z26,Z26,Z21,Z21];intro h;rcases Z20.mp h with h | h;rcases Z20.mp h with h | h;exact fr _ h;rw[show (Str.ofString ">").cps.toList=[62] by decide +kernel] at h;simp at h;exact fr _ h;rw[Z59];refine List.map_congr_left λp a=>?_
 have r:=rng p a;show pr? 62 (wd p)=some p;unfold wd;rw[L2.Z4M];exact Z0Z 01 01 ⟨00,00⟩ ⟨00,00⟩
def Z2M(n:Int)(ps:LI):Str.ofString "pages " ++ ns n ++ Txt.join (Str.ofString "") (ps.map λp=>Str.ofString " " ++ ns p.1 ++ Str.ofString ">" ++ ns p.2)=wbT n ps:=by
 refine Str.ext' (Z30.mp ?_);unfold wbT;rw[join_list,Z26,Z26,Z21,Z21];have b:∀ l:List Str,(Txt.join (Str.ofString "") l).cps.toList=(l.map (·.cps.toList)).flatMap id:=λl=>by
  cases l with
  | nil=>rfl
  | cons y ys =>
    rw[join_list,L2.Z1b];simp[jl]
 rw[b];have c:(Str.ofString "pages ").cps.toList=(Str.ofString "pages").cps.toList ++ [32]:=03
 have a:(Str.ofString " ").cps.toList=[32]:=03
 rw[c];show _=jl [32] _ _;unfold jl;rw[Z1d,List.flatMap_cons,Z2N,Z2N,Z2N];congr 1;show [32] ++ _=[32] ++ _;congr 2;rw[Z59,Z59,List.flatMap_map,List.flatMap_map];refine congrArg (λf=>List.flatMap f ps) (funext λp=>?_);show (Str.ofString " " ++ ns p.1 ++ Str.ofString ">" ++ ns p.2).cps.toList=[32] ++ (wd p).cps.toList;unfold wd;rw[Z26,Z26,Z26,Z26,Z26];simp only[Z21,a,Z2N]
end Pw
namespace L2
def Z4l(h0:-(10 ^ 13)<i)(a:i<10 ^ 13):i.natAbs.log2<1920:=by
 have:i.natAbs.log2<44:=by
  rcases Nat.eq_zero_or_pos i.natAbs with h | h;rw[h];decide;exact (Nat.log2_lt 00).mpr 00
 lia
noncomputable def Z5p(n:Int):Prop:=-(10 ^ 13)<n/\n<10 ^ 13
noncomputable def Y3(K:FR):Sp:=λvs H Q _=>∃ (a:Addr) (n:Int) (ps:LI),vs=[.ref a]/\ZC K H a n ps/\0<=n/\n<=12/\ps.length<=60/\(∀ p∈ps,0<=p.1/\p.1<n/\0<=p.2/\p.2<n)/\∀ H',zC H H'->Q (.str (Pw.wbT n ps)) H'
def z8d(a:Z5p A.1)(b:Z5p A.2):(Pw.frT A).cps.size<=40:=by
 have d:=Pw.z4P a.1 a.2;have f:=Pw.z4P b.1 b.2;have c:(Str.ofString "/").cps.size=1:=03
 unfold Pw.frT;rw[zP,zP];lia
def z0N{n:Int}(o:OkL (n,ps)):(Pw.wbT n ps).cps.size<=1000:=by
 have few:ps.length<=60:=o.few;have n1:1<=n:=o.n1;have n12:n<=12:=o.n12;have i:(Str.ofString "pages").cps.size=5:=03
 have a:=Zb (show 0<=n by lia) (show n<=99 by lia);have c:∀ z∈Str.ofString "pages" :: Pw.ns n :: ps.map Pw.wd,z.cps.size<=5:=λz h=>by
  rcases Z08.mp h with rfl | h;lia;rcases Z08.mp h with rfl | h;exact Z0Y a 01;obtain⟨p,b,rfl⟩:=Z18.mp h;have r:0<=p.1/\p.1<n/\0<=p.2/\p.2<n:=o.rng p b;have a:=Zb r.1 (show p.1<=99 by lia);have j:=Zb r.2.2.1 (show p.2<=99 by lia);have f:(Str.ofString ">").cps.size=1:=03
  unfold Pw.wd;rw[zP,zP];show (Str.ofString (toString p.1)).cps.size+_+(Str.ofString (toString p.2)).cps.size<=5;lia
 have d:(Str.ofString "pages" :: Pw.ns n :: ps.map Pw.wd).length<=62:=by
  rw[Z07,Z07,ZB];lia
 unfold Pw.wbT;refine Z0Y (vt c) ?_;show _ * (5+1)<=_;exact Z0Y (Z5t _ d) 01
noncomputable def bOf(p:Prop):Bool:=@decide p (Classical.propDecidable p)
noncomputable def YH(K:FR):Sp:=λvs H Q _=>∃ (w lp ls pl:Addr) (n x y:Nat) (ps:LI) (A:Int×Int) (Bs:LI) (us:List V) (S:Int) (l a:List Int),vs=[.ref w,.ref lp,.ref ls,.int (x:Int),.int (y:Int),.ref pl]/\uF K H w lp ls n ps A Bs us S/\x<n/\y<n/\ps.length+l.length<=60/\H pl=some (.lst (l.map V.int))/\l.length<=12/\(∀ r∈l,0<=r/\r<(n:Int))/\a.Perm l/\a.Pairwise (·<=·)/\
 (∀ H',zC H H'->(∀ m row,row∈Pw.Xs a m->¬ Pw.uI ps A Bs n x y row)->Q .Zn H')/\
 (∀ (b:Addr) (H':Hp) (row:List Int) (m i:Nat),zC H H'->H b=none->H' b=some (.lst (row.map V.int))->(Pw.Xs a m)[i]?=some row->Pw.uI ps A Bs n x y row->(∀ c r,c<m->r∈Pw.Xs a c->¬ Pw.uI ps A Bs n x y r)->(∀ (d:Nat) r,d<i->(Pw.Xs a m)[d]?=some r->¬ Pw.uI ps A Bs n x y r)->Q (.ref b) H')
def z0p{ls:Addr}{x:Nat}(i:uF K H w lp ls n ps A Bs us S)(q:x<n)(f:y<n)(few:ps.length+l.length<=60)(e:H pl=some (.lst (l.map V.int)))(d:l.length<=12)(hr:∀ r∈l,0<=r/\r<(n:Int))(pm:ris.Perm l)(v:ris.Pairwise (·<=·))(k:∀ a G o,zC H G->Z3f G a o->Pw.YU (Pw.uI ps A Bs n x y) ris o->(∀ b,a=.ref b->H b=none)->Q a G):YH K [.ref w,.ref lp,.ref ls,.int (x:Int),.int (y:Int),.ref pl] H Q E :=
 ⟨w,lp,ls,pl,n,x,y,ps,A,Bs,us,S,l,ris,rfl,i,q,f,few,e,d,hr,pm,v,λG s h=>k _ G none s (.inl ⟨rfl,rfl⟩) h nofun,λb G row m j s nb z u p B t=>k _ G (some row) s (.inr ⟨b,row,rfl,rfl,z⟩) ⟨m,j,u,p,B,t⟩ λc C=>by cases C;exact nb⟩
def z0C(h:∀ D',D'=D->xj t u D' σ H):xj t u D σ H:=h D rfl
def Z1H{D:Ends}(h:D.nx=I)(p:I σ H):D.nx σ H:=h ▸ p
def z4V(Pv:St->Hp->Prop)(μ:St->Hp->Nat)(h0:Pv σ H)(f:∀ B:TS,B=tb->∀ σ H,Pv σ H->c σ H λb H1=>if b=true then ∃ N:St->Hp->Prop,(∀ a H',N a H'->∃ d,d<μ σ H/\d=μ a H'/\Pv a H')/\B { D with nx:=N,ct:=N,bk:=D.nx } σ H1 else D.nx σ H1):Jx c tb D σ H:=z1z Pv μ h0 (f tb rfl)
def isStr_of(x:Str)(t:Tok):Value.isStrOf x (.str x t)=true:=by unfold Value.isStrOf;simp
noncomputable def DcK(w:World)(K:FR)(z:Addr)(f:SV):Prop:=(z == sysModules)=false/\∃ o a b,K.lookup z=some o/\o.ExactDict/\o.data=.dict a b/\(∀ e∈a,∃ x:Str,(Value.isStrOf x e.key)=true/\e.hash=hashStr w x)/\∀ x,findBy Value.isStrOf a x=f x
def DcK.map{X:Cx}{σ:St}(d:DcK X.w X.K z f)(I:Inv X pins σ H s):s.heap.MapOf (PySem.strKind X.prog X.w) z f:=by
 obtain⟨_,o,a,c,l,x,i,h,b⟩:=d;exact⟨o,a,c,I.XG z o l,x,i,λe he=>h e he,b⟩
noncomputable def Z0P(w:World)(K:FR):R2:=λx y H Q=>∃ (t:Str) (z:Addr) (f:SV),x=.str t/\y=.ref z/\DcK w K z f/\Q (.bl (!(f t).isSome)) H
def z5U:YD X (compareOp .NotIn) (Z0P X.w X.K):=by
 intro pins s σ H x y v u Q I a b h;obtain⟨t,z,f,rfl,rfl,d,q⟩:=h;obtain⟨c,rfl⟩:=a;cases b;refine wpAny_notIn_of (knd:=PySem.strKind X.prog X.w) (k:=t) (isStr_of t c) d.1 (d.map I) ?_;exact⟨.bl _,H,I.tok _,rfl,q⟩
noncomputable def Z1L(w:World)(K:FR)(b ty:TE):TE:=λσ H Q=>b σ H λx H1=>ty σ H1 λy H2=>∃ (z:Addr) (t:Str) (f:SV) (a:Addr),x=.ref z/\y=.str t/\DcK w K z f/\f t=some 027/\Q 027 H2
def z8r{pos:Pos}(A:PE X o td)(hi:PE X i ty)(n:Z2V i):PE X (.Subscript o i pos) (Z1L X.w X.K td ty):=by
 intro pins s σ H Q I h;refine z3M PySem.F.slot_dict_getitem.lookup n (Zj (A pins s σ H _ I h) λu s1 ⟨x,H1,I1,p,q1⟩=>Zj (hi pins s1 σ H1 _ I1 q1) λD s2 l=>?_);obtain⟨y,H2,I2,q,z,t,f,a,ex,v,d,j,q2⟩:=l;subst ex v;obtain rfl:u=Value.ref z:=p;obtain⟨r,rfl⟩:=q;have m:=d.map I2;obtain⟨o',B,C,b,c,_⟩:=id m;exact⟨⟨o',b,c.1⟩,wpAny_getItem_of (knd:=PySem.strKind X.prog X.w) (k:=t) (isStr_of t r) m j ⟨.ref a,H2,I2.tok _,rfl,q2⟩⟩
end L2
namespace Pw
noncomputable def pk:Nat->Nat->List Nat
 | 0,_=>[]
 | k+1,r=>pk k (r / 10) ++ [48+r % 10]
theorem z2h:∀ k r,(pk k r).length=k
 | 0,_=>rfl
 | k+1,r=>by unfold pk;rw[Z10,z2h k];rfl
theorem z3U:∀ k,pk k 0=List.replicate k 48
 | 0=>rfl
 | k+1=>by unfold pk;rw[Nat.zero_div,z3U k,List.replicate_succ']
theorem jL(a:0<q):∀ (k r:Nat),r<10 ^ k->Uo (q * 10 ^ k+r)=Uo q ++ pk k r
 | 0,r,h=>by
   have:r=0:=by rw[Nat.pow_zero] at h;lia
   subst this;rw[Nat.pow_zero,Nat.mul_one,Nat.add_zero];exact (Z58 _).symm
 | k+1,r,h=>by
   have b:q * 10 ^ (k+1)+r=10 * (q * 10 ^ k)+r:=by rw[Nat.pow_succ];grind
   have c:0<10 ^ k:=Nat.pow_pos 01;have d:1<=q * 10 ^ k:=Nat.mul_pos a c;rw[b,ud 00,show (10 * (q * 10 ^ k)+r) / 10=q * 10 ^ k+r / 10 by lia,show (10 * (q * 10 ^ k)+r) % 10=r % 10 by lia,
    jL a k (r / 10) (by rw[Nat.pow_succ] at h;lia),Z2N]
   rfl
theorem z7e:∀ (k r:Nat),r<10 ^ (k+1)->pk (k+1) r=List.replicate (k+1 - (Uo r).length) 48 ++ Uo r
 | 0,r,h=>by
   have h:r<10:=by simpa using h
   rw[VP h];show [] ++ [48+r % 10]=List.replicate 0 48 ++ [48+r];rw[Nat.mod_eq_of_lt h];rfl
 | k+1,r,h=>by
   by_cases z:r<10;rw[VP z];show pk (k+1) (r / 10) ++ [48+r % 10]=_;rw[show r / 10=0 by lia,z3U,Nat.mod_eq_of_lt z];rfl;rw[ud z];show pk (k+1) (r / 10) ++ [48+r % 10]=_;rw[z7e k (r / 10) (by rw[Nat.pow_succ] at h;lia),Z10,Z2N];congr 2;simp only[Z07,Z4K];lia
noncomputable def pkS(k r:Nat):Str:=⟨(pk k r).toArray⟩
def z0j(a:0<q)(hr:r<10 ^ 60):ns (((q * 10 ^ 60+r:Nat)):Int)=ns ((q:Nat):Int) ++ pkS 60 r:=by
 have e:(ns (((q * 10 ^ 60+r:Nat)):Int)).cps.toList=(ns ((q:Nat):Int) ++ pkS 60 r).cps.toList:=by
  rw[xg,jL a 60 r hr];show _=((ns ((q:Nat):Int)).cps ++ (pk 60 r).toArray).toList;rw[Z21,xg]
 have:=Z30.mp e;cases h1:ns (((q * 10 ^ 60+r:Nat)):Int);cases h2:(ns ((q:Nat):Int) ++ pkS 60 r);rw[h1,h2] at this;congr
end Pw
namespace L2
noncomputable def Z3z:V->List V->Hp->VK->Prop:=λx vs H Q=>∃ m:Nat,x=.str (Pw.ns ((m:Nat):Int))/\vs=[.int 60]/\m<10 ^ 60/\Q (.str (Pw.pkS 60 m)) H
def z6G:MtR X "str.zfill" Z3z:=by
 intro pins s σ H x xs v us Q I o r h;obtain⟨m,rfl,rfl,hm,q⟩:=h;obtain⟨t,rfl⟩:=o;obtain⟨u,rfl,t',rfl⟩:=vals1 r;have hd:=Pw.xT m;have z:=hd.2.2.2 60 01 hm;have d:=Pw.xg m;have hlen:(Pw.ns ((m:Nat):Int)).length=(Pw.Uo m).length:=by
  show (Pw.ns ((m:Nat):Int)).cps.size=_;rw[← d,Z11]
 refine call_gives PySem.F.slot_str_zfill (typeIs_str _ _ _) PySem.F.entry_str_zfill (PySem.F.args_str_zfill_2 _ _) (gives_str_zfill _ 60 t t' 01 01) ?_;have j:=Pw.z7e 59 m hm;have i:∀ y:Str,y.cps.toList=Pw.pk 60 m->y=Pw.pkS 60 m:=λy n=>by
  obtain⟨cs⟩:=y;unfold Pw.pkS;rw[← n]
 by_cases h60:(60:Int)<=((Pw.ns ((m:Nat):Int)).length:Int);rw[if_pos h60];have:Pw.ns ((m:Nat):Int)=Pw.pkS 60 m:=i _ (by rw[d,j,show 59+1 - (Pw.Uo m).length=0 by lia];rfl);exact⟨.str (Pw.pkS 60 m),H,I,⟨t,by rw[this]⟩,q⟩
 · rw[if_neg h60]
   have w:zfilled (Pw.ns ((m:Nat):Int)) (Int.toNat 60 - (Pw.ns ((m:Nat):Int)).length)=Pw.pkS 60 m:=by
    refine i _ ?_;rw[hlen];have f:=hd.2.1;have b:=hd.1;obtain⟨c,l,a⟩:=List.exists_cons_of_ne_nil f;have A:=b c (by rw[a];exact Z09 ..);have h0:(Pw.ns ((m:Nat):Int)).cps[0]?=some c:=(by rw[← Z42,d,a];rfl);have p:zfilled (Pw.ns ((m:Nat):Int)) (Int.toNat 60 - (Pw.Uo m).length)=Builtin.Str.padded (Pw.ns ((m:Nat):Int)) (Int.toNat 60 - (Pw.Uo m).length) 0 48:=by
     unfold zfilled;rw[h0];split
     · next e=>cases e;lia
     · next e=>cases e;lia
     rfl
    rw[p];unfold Builtin.Str.padded;rw[Z21,Z21,d,Array.toList_replicate,Array.toList_replicate,j];simp
   rw[w];exact⟨(by show (Pw.pkS 60 m).cps.size<=sizeLine;unfold Pw.pkS;rw[Z04,Pw.z2h,sizeLine_eq];decide),.str _,H,I.tok _,⟨_,rfl⟩,q⟩
def VC(sep:Str)(t:Tok)(ps:List (Str×Tok))(I l:Addr)(hok:JoinOk sep (ps.reverse.map (·.1))=true)(hn:ps.length<=sizeLine):Meets (Builtin.«str.join» ⟨[.str sep t,.ref I],[]⟩) (λA R s=>A.handled=none/\s.heap.IsRevIter I l ((ps.length:Int) - 1)/\s.heap.IsList l (strValues ps).toArray/\l≠I/\
 ∀ h' d t',(∀ b o,b≠I->s.heap.get? b=some o->h'.get? b=some o)->R (.ok (.ret (.str (Txt.join sep (ps.reverse.map (·.1))) t'))) { s with heap:=h',toks:=d }):=by
 intro prog w A R s ⟨j,hit,h,c,q⟩;have i:=Heap.IsRevIter.typeIs (s:=s) hit;have hsz:(strValues ps).toArray.size=ps.length:=by rw[Z04];unfold strValues;rw[ZB]
 rw[join_tree_other];refine wpAny_bind (wpAny_typeOf i ?_);rw[if_neg 01];refine wpAny_bind (wpAny_tryCatch (wpAny_pyIter_revIter hit ?_));refine wpAny_bind (z1b (items:=(strValues ps).toArray) j (by rw[hsz];exact hit) h c (by rw[hsz];exact hn) λh' d kp=>?_);have e:(strValues ps).toArray.reverse.toList=strValues ps.reverse:=by
  rw[Array.toList_reverse];unfold strValues;rw[List.map_reverse]
 rw[e];unfold JoinOk at hok;rw[Bool.not_eq_true'] at hok;have g:∀ l:List (Str×Tok),Builtin.Str.tooLong ((l.map (·.1)).toArray.foldl (·+·.length+sep.length) 0)=false->Gives (joinTail sep (strValues l)) (joinMade sep l):=λl f=>by
  have a:=gives_joinTail sep l f;cases l with
  | nil=>exact a
  | cons p r=>cases r with
    | nil=>exact a
    | cons q r'=>exact a
 exact g _ hok prog w A R _ (post_join ps.reverse ⟨joinFit_length hok,λt' k=>q h' k t' kp⟩)
noncomputable def Z3g(c:Str)(b:TA):TE:=λσ H Q=>b σ H λvs H1=>∃ (l:Addr) (a:List Str),vs=[.ref l]/\H1 l=some (.lst (a.map V.str))/\a.length<=1000/\JoinOk c a.reverse=true/\Q (.str (Txt.join c a.reverse)) H1
def z1k{X:Cx}{c:Str}{a:Expr}{C:TA}{j}{p m apos cpos pos':Pos}(N:X.calm=true)(v:Gl X "reversed")(y:X.mg "reversed"=none)(ha:PA X [a] C)
 (d:attributeBase (.Constant (.str c) j m) "join" X.env (eval (.Constant (.str c) j m) X.env)=eval (.Constant (.str c) j m) X.env:=by rfl)
 (i:((backTo cpos (starEach [.Call (.Name "reversed" p) [a] [] pos'] X.env)).all (λx=>!x.1) && (backToKw cpos (keywordEach [] X.env)).all (λx=>x.1.isSome)
  && decide (([.Call (.Name "reversed" p) [a] [] pos']:List Expr).length+([]:List Keyword).length+(if ([]:List Keyword).isEmpty then 0 else 1)<30))=true:=by rfl)
 (f:(apos.endLine == cpos.line)=true:=by rfl) (D:starEach [.Call (.Name "reversed" p) [a] [] pos'] X.env=[(false,eval (.Call (.Name "reversed" p) [a] [] pos') X.env)]:=by rfl)
 (r:starEach [a] X.env=[(false,eval a X.env)]:=by rfl) :
 PE X (.Call (.Attribute (.Constant (.str c) j m) "join" apos) [.Call (.Name "reversed" p) [a] [] pos'] [] cpos) (Z3g c C):=by
 intro pins s0 σ H Q I0 h;refine wpAny_Call_method_late d i f rfl (Calls.Constant_str ?_);have I:Inv X pins σ H { s0 with toks:=s0.toks+1 }:=I0.tok _;generalize ({ s0 with toks:=s0.toks+1 }:Shared)=s at I;refine⟨"str","str.join",Z1v,Z3R,Z49,typeIs_str _ _ _,(λa J=>by cases J),?_⟩;rw[D];refine Calls.callWith_builtin 02 (Calls.evalArgs_plain ?_);show wpAny _ _ (spliced ((false,eval (.Call (.Name "reversed" p) [a] [] pos') X.env) :: backTo cpos [])) _ _ s;refine Calls.spliced_cons ?_;refine wpAny_Call_Name_kw (yP I v y boot_reversed ?_ 01 01);refine Z27 (Zj (ha pos' pins s σ H _ I h) λus s1 ⟨vs,H1,I1,G,q1⟩=>?_) r rfl;obtain⟨l,B,rfl,K,few,hok,q⟩:=q1;obtain⟨u,rfl,L⟩:=vals1 G;cases L;obtain⟨its,M,pl,P⟩:=id (I1.list (zN.of K));obtain⟨ps,rfl,e⟩:=Jc M;have w:l<s1.heap.objs.size:=by obtain⟨o,z,_⟩:=pl.isList;exact Z0k z
 have n:ps.length=B.length:=by rw[← e,ZB]
 refine call_reversed_list pl.isList ?_;refine Calls.spliced_nil ?_;have t:(strValues ps).toArray.size=ps.length:=by rw[Z04];unfold strValues;rw[ZB]
 have A:ps.reverse.map (·.1)=B.reverse:=by rw[List.map_reverse,e]
 refine call_meets Z3R (typeIs_str _ _ _) PySem.F.entry_str_join (PySem.F.args_str_join_2 _ _) (VC c _ ps _ l (by rw[A];exact hok) (by rw[n,sizeLine_eq];lia)) ⟨I1.ok.hd N,⟨_,Z0r _ rfl,rfl,by rw[t];rfl⟩,pl.isList.at λo e=>Z00 _ e,Z14 w,λh' E t' O=>?_⟩;have kp:∀ b o,s1.heap.get? b=some o->h'.get? b=some o:=λb o e=>O b o (Z14 (Z0k e)) (Z00 _ e);rw[A];exact⟨.str _,H1,I1.kept (t':=E) kp,⟨_,rfl⟩,q⟩
end L2
namespace Pw
noncomputable def ptT(l:List Int):Str:=Txt.join (L2.ZD 32) (l.map ns)
noncomputable def z8D:Option (List Int)->Str
 | none=>Str.ofString "never"
 | some []=>Str.ofString "now"
 | some (x :: l)=>ptT (x :: l)
def z7l(b:0<q)(hr:r<10 ^ 60)(hm:m=q * 10 ^ 60+r)(us:List Str):Txt.join (Str.ofString "") (ns ((q:Nat):Int) :: pkS 60 r :: us)=Txt.join (Str.ofString "") (ns ((m:Nat):Int) :: us):=by
 refine Str.ext' (Z30.mp ?_);have a:(Str.ofString "").cps.toList=[]:=03
 subst hm;rw[z0j b hr];generalize pkS 60 r=z;generalize ns ((q:Nat):Int)=y;rw[join_list,join_list,a,Z26,Z21];unfold jl;simp only[Z1d,List.flatMap_cons,List.nil_append,Z2N]
noncomputable def swB(z y:Str):Bool:=decide (0+y.length<=z.length) && Builtin.Str.subAt z y 0
def z3D(y t:Str):swB (y ++ t) y=true:=by
 unfold swB Builtin.Str.subAt;rw[Z3O];refine⟨decide_eq_true ?_,?_⟩;show 0+y.cps.size<=(y.cps ++ t.cps).size;rw[Array.size_append];lia;show (((y.cps ++ t.cps).extract 0 (0+y.cps.size)) == y.cps)=true;simp
def z1f(i:Nat)(d:z.cps.toList[i]?=some a)(c:y.cps.toList[i]?=some b)(ne:a≠b):swB z y=false:=by
 cases h:swB z y with
 | false=>rfl
 | true =>
   exfalso;unfold swB Builtin.Str.subAt at h;rw[Z3O] at h;have e:=eq_of_beq h.2;have hi:=(Z16.mp c).1;rw[Z11] at hi;have:(z.cps.extract 0 (0+y.length))[i]?=z.cps[i]?:=by
    rw[Array.getElem?_extract];have j:i<min (0+y.length) z.cps.size - 0:=by
     have f:=of_decide_eq_true h.1;change 0+y.cps.size<=z.cps.size at f;show i<min (0+y.cps.size) z.cps.size - 0;lia
    rw[if_pos j,Nat.zero_add]
   rw[e] at this;rw[Z42] at d c;rw[c,d] at this;cases this;exact ne rfl
end Pw
namespace L2
noncomputable def z8A:V->List V->Hp->VK->Prop:=λx vs H Q=>∃ z y:Str,x=.str z/\vs=[.str y]/\Q (.bl (Pw.swB z y)) H
def V8:MtR X "str.startswith" z8A:=by
 intro pins s σ H x xs v us Q I a r h;obtain⟨z,y,rfl,rfl,q⟩:=h;obtain⟨t,rfl⟩:=a;obtain⟨u,rfl,t',rfl⟩:=vals1 r;refine call_gives Z47 (typeIs_str _ _ _) PySem.F.entry_str_startswith (PySem.F.args_str_startswith_2 _ _) (gives_str_startswith z y t t') ?_;exact⟨.bl _,H,I,rfl,q⟩
def lgN(h:m<2 ^ 1920):m.log2<1920:=by
 by_cases z:m=0;subst z;decide;exact (Nat.log2_lt z).mpr h
def vM(h:n<2 ^ 1990):(Pw.ns (n:Int)).cps.size<=600:=by
 have a:(2:Nat) ^ 1990<10 ^ 600:=03
 rw[← Z11,Pw.xg];exact (Pw.xT n).2.2.2 600 01 (Nat.lt_trans h a)
def JC(h0:0<=z)(i:z<100):Pw.Q9 2 (Pw.ns z)/\(Pw.ns z).cps.size<=2:=by
 obtain⟨m,rfl⟩:∃ m:Nat,z=(m:Int):=⟨z.toNat,00⟩;obtain⟨a,b,c,d⟩:=Pw.xT m;have e:=Pw.xg m;have l:=d 2 01 00;have f:(Pw.ns (m:Int)).cps.size=(Pw.Uo m).length:=by rw[← e,Z11]
 refine⟨⟨by rw[f];exact Z4N.mpr b,00,?_,?_⟩,00⟩;rw[e,Z56];exact λq h=>decide_eq_true (a q h);rw[e];by_cases z:m=0;subst z;exact .inl (Pw.VP 01);exact .inr (c z)
def Z3m(h0:0<=z)(a:z<100):PySem.intText? (Pw.ns z)=some z:=by
 have:=Pw.VL (n:=z) 00 00;unfold Pw.yg at this;split at this;exact this;cases this
noncomputable def UD:Sp:=λvs H Q _=>∃ n:Nat,vs=[.int (n:Int)]/\n<2 ^ 1990/\∀ H',zC H H'->Q (.str (Pw.ns (n:Int))) H'
noncomputable def z0T:Sp:=λvs H Q _=>∃ n:Nat,vs=[.int (n:Int)]/\n<2 ^ 1990/\∀ H',zC H H'->Q (.str (Pw.ns (n:Int))) H'
noncomputable def z3w(K:FR):Sp:=λvs H Q _=>∃ (p:Addr) (A:Int×Int),vs=[.ref p]/\JZ K H p A/\0<=A.1/\0<=A.2/\Vz 1983 A/\∀ H',zC H H'->Q (.str (Pw.frT A)) H'
structure LvS(K:FR)(C:Addr)(H:Hp)(p pd lp:Addr)(n:Nat)(ps:LI)(Ws:List Wb)(A:Int×Int):Prop where
 l:ZG K C H p pd lp ((n:Int),ps) Ws
 n1:1<=n
 n12:n<=12
 few:ps.length<=60
 rng:∀ q∈ps,0<=q.1/\q.1<(n:Int)/\0<=q.2/\q.2<(n:Int)
 fA:Xw K H lp A
 ca:Pw.Canon A
 a0:0<A.1
 a1:A.1<=A.2
 sA:Vz 41 A
noncomputable def z3x(K:FR):Sp:=λvs H Q _=>∃ (L:Addr) (l:List Int),vs=[.ref L]/\zN K H L (l.map V.int)/\l.length<=12/\(∀ x∈l,0<=x/\x<100)/\∀ H',zC H H'->Q (.str (Pw.ptT l)) H'
noncomputable def vg:Str:=Str.ofString "ok"
noncomputable def jV(K:FR)(C:Addr):Sp:=λvs H Q _=>∃ (p pd lp L:Addr) (n:Nat) (ps:LI) (Ws:List Wb) (A:Int×Int),vs=[.ref p,.ref L]/\LvS K C H p pd lp n ps Ws A/\∀ H',zC H H'->Q (.str (Pw.wbT (n:Int) ps)) H'
noncomputable def jj(K:FR)(C tb:Addr)(pos:Pos):Sp:=λvs H Q _=>∃ (p pd lp L:Addr) (n:Nat) (ps:LI) (Ws:List Wb) (A:Int×Int),vs=[.ref p,.ref L]/\LvS K C H p pd lp n ps Ws A/\Tab tb pos Yl H/\
 ∀ (H':Hp) (Ss:LI) (r:List Nat),Pw.ZU ps A (J1 n) n Ss->Pw.Rkd Ss n r->Kp tb H H'->Tab tb pos Yl H'->Q (.str (Pw.ptT (r.map λ(k:Nat)=>(k:Int)))) H'
noncomputable def dkF(p:Addr):List (Str×V):=ya "live" (.ref p) []
def uz(p:Addr):(dkF p).lookup ("live":Str)=some (.ref p):=by unfold dkF;rw[z8,if_pos rfl]
def z3E(p q:Addr):ya "live" (.ref q) (dkF p)=dkF q:=by
 unfold dkF;show (if ("live":Str)="live" then [(("live":Str),V.ref q)] else _)=_;rw[if_pos rfl];rfl
structure DkT(K:FR)(Cd:Addr):Prop where
 cl:Cls K Cd
 nL:Yy K Cd "live"
noncomputable def DkO(Cd:Addr)(H:Hp)(d p:Addr):Prop:=∃ dx,H d=some (.ins Cd dx (dkF p))
noncomputable def z0y(K:FR)(C Cd:Addr):Sp:=λvs H Q _=>∃ (d dx:Addr),vs=[.ref d]/\H d=some (.ins Cd dx [])/\∀ (p pd lp:Addr) (H':Hp),H p=none->H pd=none->DkO Cd H' d p->ZG K C H' p pd lp (1,[]) []->Xw K H' lp (1,2)->Kp d H H'->Q .Zn H'
def jF{k:Nat}{sp:Sp}{pos:Pos}{x:Str}(i:Gl X x)(d:(x == ("__debug__":Str))=false)(D:MkD X.prog X.w X.K X.mg X.base CX k C x ps sp)(hr:Zf (k+1) X.A)(h:Passes CX X E):PE X (.Call (.Name x p) [] [] pos) (z3y C sp [] E VB):=by
 obtain⟨f,fd,a,b,c,F⟩:=D;exact z6E a F hr i b c .nil h d
def vG{R:Addr->V->Hp->Prop}(hw:ZC K H wa W.1 W.2)(k:∀ (p pd:Addr) (H':Hp),H p=none->H pd=none->ZG K C H' p pd lp W []->zC H H'->R p .Zn H') :
 ∀ x dx,H x=none->H dx=none->dx≠x->Yr C [.ref x,.ref wa,.ref lp] (upd (upd H dx (.own x)) x (.ins C dx [])) (R x) E:=λx dx c a ne=>by
 refine⟨x,dx,wa,lp,rfl,zB,λpd H' mp lv kp=>?_⟩;have f:zC H H':=λb o e=>kp b o (by rw[zD (zh e c),zD (zh e a)];exact e) (zh e c);have d:H pd=none:=by
  by_cases z:pd=x;rw[z];exact c;rw[zD z] at mp;by_cases z2:pd=dx;rw[z2];exact a;rw[zD z2] at mp;exact mp
 exact k x pd H' c d ⟨wa,[],lv,hw.same f,UJ.nil⟩ f
def Z3h(K:FR):PySem.W.kitOne K (.type "str") (.type "str")=some true:=02
def z2n{fs:List (Str×V)}(h:H d=some (.ins C dx fs)):KU H (upd H d o) :=
 ⟨λb xs e=>by rw[zD (by rintro rfl;rw[h] at e;cases e)];exact e,λb q u e=>by rw[zD (by rintro rfl;rw[h] at e;cases e)];exact e⟩
def ZG.Z2C{fs:List (Str×V)}(l:ZG K C H p pd lp W Ws)(h:H d=some (.ins Cd dx fs))(n1:p≠d)(a:pd≠d):ZG K C (upd H d o) p pd lp W Ws :=
 l.kx (S:=[d]) (λb q e nb=>by rw[zD (by rintro rfl;exact nb (Z01.mpr rfl))];exact e) (z2n h) (λz=>n1 (Z01.mp z)) (λz=>a (Z01.mp z))
def jr(y t:Str)(i:Nat)(h:y.cps.size=i):Txt.slice (y ++ t) (some (i:Int)) none=t:=by
 refine Str.ext' (Z30.mp ?_);rw[Pw.uc _ _ (by rw[zP];lia)];rw[Z26,Z21,← h,← Z11];exact List.drop_left ..
end L2
namespace Pw
def Z2w(s y:Str):Txt.join s [y]=y:=by
 refine Str.ext' (Z30.mp ?_);rw[join_list];unfold jl;simp
def Z3X:32∉(ns z).cps.toList:=λh=>by
 rcases z2r h with e |⟨e,_⟩ <;> lia
def Z4J:Str.ofString " "=L2.ZD 32:=03
def z5Y(x y z:Str):x ++ y ++ z=x ++ (y ++ z):=Str.ext' (Z30.mp (by simp[Z26,Z21,Z2N]))
def z5z{hd:Str}{ws:List Int}(h:32∉hd.cps.toList):Txt.split (Txt.join (L2.ZD 32) (hd :: ws.map ns)) (L2.ZD 32)=hd :: ws.map ns :=
 X6 h λw hw=>by
  obtain⟨z,_,rfl⟩:=Z18.mp hw;exact Z3X
end Pw
namespace L2
noncomputable def AnC(P:Program)(w:World)(K:FR)(mg:SV)(base:Heap)(a:SV)(hd:Str)(m:Nat)(sp:Sp):Prop:=∃ (t f:Addr) (fd:FuncData),a hd=some (.ref t)/\(∀ H,zR K H t [.int (m:Int),.ref f])/\PySem.W.keepIn K 034=true/\Binds K fd ["live","pages"] []/\Zu P w K mg base Yn 16 f fd ["live","pages"] sp
def Z4y{mg:SV}{k m:Nat}{sp:Sp}(D:Def P w K mg base k nm ["live","pages"] sp)(d:k<=16)(h:fz hd=some (.ref t))(lt:K.lookup t=some ⟨.type "tuple",od,.seq #[.int (m:Int) tk,.ref f] n,sl⟩)(i:mg nm=some 034):AnC P w K mg base fz hd m sp:=by
 obtain⟨j,fd,a,b,c,F⟩:=D;rw[i] at b;cases b;exact⟨t,f,fd,h,λH=>.inr ⟨_,_,_,lt,rfl,rfl,zl2,.cons ⟨_,rfl⟩ (.cons rfl .nil)⟩,a,c,F.mono d⟩
structure Ds(K:FR)(C Cd tb:Addr)(pos:Pos)(H:Hp)(d p pd lp:Addr)(n:Nat)(ps:LI)(Ws:List Wb)(A:Int×Int):Prop where
 o:DkO Cd H d p
 s:LvS K C H p pd lp n ps Ws A
 t:Tab tb pos Yl H
def Ds.same{pos:Pos}(h:Ds K C Cd tb pos H d p pd lp n ps Ws A)(s:zC H H'):Ds K C Cd tb pos H' d p pd lp n ps Ws A :=
 ⟨let ⟨dx,e⟩:=h.o;⟨dx,s _ _ e⟩,{ h.s with l:=h.s.l.same s,fA:=s _ _ h.s.fA },h.t.same s⟩
def Ds.kx{pos:Pos}{n':Nat}{ps':LI}(h:Ds K C Cd tb pos H d p pd lp n ps Ws A)(k:Kx [p,pd] H H')(l:ZG K C H' p pd lp ((n':Int),ps') Ws')(n1:1<=n')(n12:n'<=12)(few:ps'.length<=60)(rng:∀ q∈ps',0<=q.1/\q.1<(n':Int)/\0<=q.2/\q.2<(n':Int)):Ds K C Cd tb pos H' d p pd lp n' ps' Ws' A:=by
 obtain⟨now,us,lv,hw,m⟩:=id h.s.l;obtain⟨⟨dl,f⟩,a⟩:=id lv;obtain⟨dx,c⟩:=h.o;have nd:d∉[p,pd]:=λz=>by
  rcases Z08.mp z with z | z;subst z;rw[f] at c;have j:=congrArg List.length (HO.ins.inj (Z19 c)).2.2;rw[VX] at j;exact absurd j (by show ¬ (3:Nat)=1;decide);rw[Z01.mp z,a] at c;cases c
 have ku:KU H H':=lv.ku k;have r:tb∉[p,pd]:=λz=>by
  rcases Z08.mp z with z | z;exact h.t.ne f 017 z.symm
  exact h.t.ne a 017 (Z01.mp z).symm
 refine⟨⟨dx,k _ _ c nd⟩,⟨l,n1,n12,few,rng,ku.tup _ _ h.s.fA,h.s.ca,h.s.a0,h.s.a1,h.s.sA⟩,?_⟩;exact Tab.kx h.t k λb i=>by
  rcases Z08.mp i with rfl | i;exact .inr ⟨_,_,_,f⟩;rw[Z01.mp i];exact .inl ⟨_,a⟩
noncomputable def z5B(K:FR)(x y:Str):Prop:=∃ t,PySem.W.nsIn K mainGlobals x=some (some (.str y t))
def z5B.of{x:Str}(a:PySem.W.nsIn K mainGlobals x=some (some (.str y t))):z5B K x y:=⟨t,a⟩
def z5B.mg{mg:SV}{x:Str}(a:z5B K x y)(XK:K.In h)(G:h.Ns mainGlobals mg):∃ t,mg x=some (.str y t):=by
 obtain⟨t,a⟩:=a;exact⟨t,Z45 XK G a⟩
noncomputable def z4N(w:World):List DictEntry->Prop
 | []=>True
 | e :: es=>(∃ x t,e.key=.str x t/\e.hash=hashStr w x)/\z4N w es
def z4N.all(h:z4N w b):∀ e∈b,∃ x:Str,(Value.isStrOf x e.key)=true/\e.hash=hashStr w x:=by
 induction b with
 | nil=>intro e he;cases he
 | cons a l ih =>
   intro e he;obtain⟨⟨x,t,c,d⟩,r⟩:=h;rcases Z08.mp he with rfl | he;exact⟨x,by rw[c];exact isStr_of x t,d⟩;exact ih r e he
noncomputable def Z0b(w:World)(K:FR)(nm:Str)(a:SV):Prop:=∃ z,PySem.W.nsIn K mainGlobals nm=some (some (.ref z))/\DcK w K z a
def Z0b.of(a:PySem.W.nsIn K mainGlobals nm=some (some (.ref z)))(l:K.lookup z=some ⟨.type "dict",none,.dict es ep,#[]⟩)(c:(z == sysModules)=false)(b:z4N w es.toList):Z0b w K nm (λx=>findBy Value.isStrOf es x) :=
 ⟨z,a,c,_,es,ep,l,⟨rfl,rfl,rfl⟩,rfl,λe he=>b.all e (Array.mem_toList_iff.mpr he),λ_=>rfl⟩
noncomputable def Yp(K:FR)(a:SV)(hd:Str)(m:Nat)(nm:Str):Prop:=∃ (t f:Addr) (od:Option Addr) (b:Tok) (n:Nat) (sl:Array (Option Value)),a hd=some (.ref t)/\K.lookup t=some ⟨.type "tuple",od,.seq #[.int (m:Int) b,.ref f] n,sl⟩/\PySem.W.nsIn K mainGlobals nm=some (some 034)
def Yp.of{m:Nat}(a:fz hd=some (.ref t))(l:K.lookup t=some ⟨.type "tuple",od,.seq #[.int (m:Int) tk,.ref f] n,sl⟩)(b:PySem.W.nsIn K mainGlobals nm=some (some 034)):Yp K fz hd m nm:=⟨t,f,od,tk,n,sl,a,l,b⟩
def Yp.anc{mg:SV}{k:Nat}{sp:Sp}(x:Yp K fz hd m nm)(XK:K.In h)(G:h.Ns mainGlobals mg)(D:Def P w K mg base k nm ["live","pages"] sp)(c:k<=16):AnC P w K mg base fz hd m sp:=by
 obtain⟨t,f,od,d,n,sl,a,l,b⟩:=x;exact Z4y D c a l (Z45 XK G b)
def LvS.uniq(h:LvS K C H p pd lp n ps Ws A)(o1:Pw.ZU ps A (J1 n) n Ss)(o2:Pw.ZU ps A (J1 n) n Ts):Ss=Ts :=
 Pw.ZU.unique (λq a=>(h.rng q a).2.2) h.ca (Pw.QX h.n1) (by rw[Z5a]) (Ju h.n1 h.n12 h.a0 h.a1) o1 o2
def DkO.no{Cd:Addr}(h:¬ ("live":Str)=m):(dkF p).lookup m=none:=by
 unfold dkF;rw[z8,if_neg (λz=>h z.symm)];rfl
def Ds.new{pos:Pos}{n':Nat}{ps':LI}(h:Ds K C Cd tb pos H d p pd lp n ps Ws A)(k:Kp d H H')(o:DkO Cd H' d p')(l:ZG K C H' p' pd' lp' ((n':Int),ps') [])(n1:1<=n')(n12:n'<=12)(few:ps'.length<=60)(rng:∀ q∈ps',0<=q.1/\q.1<(n':Int)/\0<=q.2/\q.2<(n':Int))(f:Xw K H' lp' A')(ca:Pw.Canon A')(a0:0<A'.1)(a1:A'.1<=A'.2)(sA:Vz 41 A'):Ds K C Cd tb pos H' d p' pd' lp' n' ps' [] A'/\KU H H':=by
 obtain⟨dx,a⟩:=h.o;exact⟨⟨o,⟨l,n1,n12,few,rng,f,ca,a0,a1,sA⟩,Tab.kx h.t (k.kx (S:=[d]) 05) λb c=>by rw[Z01.mp c];exact .inr ⟨_,_,_,a⟩⟩,λb xs e=>k _ _ e (by rintro rfl;rw[a] at e;cases e),λb u q e=>k _ _ e (by rintro rfl;rw[a] at e;cases e)⟩
def Ds.ku{pos:Pos}(h:Ds K C Cd tb pos H d p pd lp n ps Ws A)(k:Kx [p,pd,tb] H H'):KU H H':=by
 obtain⟨now,us,⟨⟨dl,b⟩,a⟩,_⟩:=id h.s.l;obtain⟨q,c⟩:=h.t.XH;constructor <;> intros <;> refine k _ _ (by assumption) λz=>?_ <;> rename_i e <;> simp only[Z08,Z3a,or_false] at z <;> rcases z with z | z | z <;> first | (rw[z,b] at e;cases e) | (rw[z,a] at e;cases e) | (rw[z,c] at e;cases e)
def Tab.out{pos:Pos}(t:Tab tb pos Yl G)(k:Kx [tb] H G)(e:G b=none):H b=none:=by
 cases z:H b with
 | none=>rfl
 | some o =>
   have:=k b o z (λq=>t.free e (Z01.mp q));rw[e] at this;cases this
noncomputable def jY:Sp:=λvs H Q _=>∃ (x:Str) (n:Int),vs=[.str x]/\x.cps.size<=8000/\Pw.yg x=some n/\∀ H',zC H H'->Q (.int n) H'
noncomputable def z1d:Sp:=λvs H Q _=>∃ (x:Str) (c:Nat) (A:Int×Int),vs=[.str x,.str (ZD c)]/\x.cps.size<=8000/\Pw.pr? c x=some A/\∀ p H',zC H H'->H p=none->H' p=some (.tup [.int A.1,.int A.2])->Q (.ref p) H'
structure Qq(p:Prop):Prop where
 h:p
def qz{X:Cx}{rest:List Stmt}{t:TS}(a:Qq (Qg X rest t)):Qg X rest t:=a.h
def qc{st:Stmt}(a:Qq (PS X st t))(b:Qq (Qg X rest u)):Qq (Qg X (st :: rest) (xj t u)):=⟨Yj a.h b.h⟩
def q1{st:Stmt}(a:Qq (PS X st t)):Qq (Qg X [st] t):=⟨ZM a.h⟩
def q0:Qq (Qg X [] z9a):=⟨JI⟩
def qr{e:Expr}{pos:Pos}(a:Qq (PE X e te)):Qq (PS X (.Return (some e) pos) (Z1R te)):=⟨V1 a.h⟩
def qf{e:Expr}{pos:Pos}(c:Qq (PT X e tc))(p:Qq (Qg X a t))(q:Qq (Qg X b u)):Qq (PS X (.If e a b pos) (Z0h tc t u)):=⟨z7r c.h p.h q.h⟩
noncomputable def qs{e:Expr}{pos:Pos}{x:Str}(i:Nat)(q:Qq (PE X e te))(a:swapsWith e (some (.Name x pos')) pos.line X.env=pure false:=by rfl)(hf:X.fn x=true\/X.env.scope.names.lookup x=some .local:=by first | exact Or.inl rfl | exact Or.inr rfl)(c:X.N.Nodup:=by assumption)(hi:X.N[i]?=some x:=by rfl)(b:Loc X.env.scope x:=by first | exact Or.inl rfl | exact Or.inr rfl):Qq (PS X (.Assign [.Name x pos'] e pos) (z2a te (Zo i))):=⟨xq a hf c hi b q.h⟩
def qa{e:Expr}(p:Qq (PE X e te))(q:Qq (PA X es ta))(a:starEach (e :: es) X.env=019 :: starEach es X.env:=by rfl):Qq (PA X (e :: es) (Xv te ta)):=⟨ze a p.h q.h⟩
def qn:Qq (PA X [] VB):=⟨zF⟩
def qv{X:Cx}{pos:Pos}{x:Str}(i:Nat)(b:X.N[i]?=some x:=by rfl)(c:Vis X.env.scope x:=by first | exact Or.inl rfl | exact Or.inr 018 | exact Or.inr (Or.inr rfl))(hd:(x == ("__debug__":Str))=false:=by decide)(a:(x == ("__classdict__":Str))=false:=by decide):Qq (PE X (.Name x pos) (uD i)):=⟨pv i b c hd a⟩
def qi{pos:Pos}{j}:Qq (PE X (.Constant (.int i) j pos) (tC (.int i))):=⟨zI⟩
def qw{pos:Pos}{x:Str}{j}:Qq (PE X (.Constant (.str x) j pos) (tC (.str x))):=⟨zK⟩
def qb{pos:Pos}{j}:Qq (PE X (.Constant (.bool c) j pos) (tC (.bl c))):=⟨Z4Y⟩
def qx{e:Expr}{pos:Pos}(a:IxR X r)(p:Qq (PE X e te))(q:Qq (PE X f tf))(b:z4l f:=by exact λ_ _=>rfl):Qq (PE X (.Subscript e f pos) (tOp r te tf)):=⟨Zt a p.h q.h b⟩
def qo{e:Expr}{pos:Pos}(a:YD X (binaryOp op) r)(p:Qq (PE X e te))(q:Qq (PE X f tf)):Qq (PE X (.BinOp e op f pos) (tOp r te tf)):=⟨Zr a p.h q.h⟩
def qd{X:Cx}{e:Expr}{a:List Expr}{d:TA}{pos pos':Pos}{nm:Str}{k:Nat}{sp:Sp}{ps:List Str}(D:Def X.prog X.w X.K X.mg X.base k nm ps sp)(q:Qq (PA X (e :: a) d))(f:Gl X nm:=by rfl)(he:starEach (e :: a) X.env=019 :: starEach a X.env:=by rfl)(b:(backTo pos (starEach a X.env)).any (·.1)=false:=by rfl)(c:(nm == ("__debug__":Str))=false:=by decide)(hr:Zf k X.A:=by first | assumption | exact Zf.mono (by assumption) 01):Qq (PE X (.Call (.Name nm pos') (e :: a) [] pos) (uu sp [] E0 d)):=⟨Z0 f he b c D hr q.h⟩
def qk{e:Expr}{pos:Pos}(a:YD X (compareOp op) r)(p:Qq (PE X e te))(q:Qq (PE X f tf))(hm:behindInMarks op f=false:=by first | exact Yc _ | rfl):Qq (PT X (.Compare e [op] [f] pos) (z3W (tOp r te tf))):=⟨yW a p.h q.h hm⟩
def qe{e:Expr}{pos:Pos}(a:YD X (compareOp op) r)(p:Qq (PE X e te))(q:Qq (PE X f tf))(hm:behindInMarks op f=false:=by first | exact Yc _ | rfl):Qq (PE X (.Compare e [op] [f] pos) (tOp r te tf)):=⟨z4w a p.h q.h hm⟩
def qt{pos:Pos}{j}(q:Qq (PA X es ta)):Qq (PE X (.Tuple es j pos) (Z1x ta)):=⟨Zx q.h⟩
def ql{pos:Pos}(q:Qq (PA X es ta)):Qq (PE X (.List es pos) (Z1m ta)):=⟨QE q.h⟩
def qp{e:Expr}(q:Qq (PE X e te))(he:∀ whole,isTrue e X.env whole=(do let v ←whole;standAt e.pos;holding [v] (truthy v)):=by intro _;rfl):Qq (PT X e (tB te)):=⟨Z3d q.h he⟩
def qT{e:Expr}{pos:Pos}(q:Qq (PT X e tc)):Qq (PT X (.UnaryOp .Not e pos) (Z2m tc)):=⟨Z3F q.h⟩
def qW{e:Expr}(q:Qq (PW X e tc)):Qq (PT X e tc):=⟨PW.pt q.h⟩
def qO{e:Expr}{pos:Pos}(p:Qq (PT X e tc))(q:Qq (PW X (.BoolOp .Or (f :: es) pos) tu)):Qq (PW X (.BoolOp .Or (e :: f :: es) pos) (tOr tc tu)):=⟨Z5q p.h q.h⟩
def qP{e:Expr}{pos:Pos}(p:Qq (PT X e tc)):Qq (PW X (.BoolOp .Or [e] pos) tc):=⟨Z2J p.h⟩
def qA{e:Expr}{pos:Pos}(p:Qq (PT X e tc))(q:Qq (PW X (.BoolOp .And (f :: es) pos) tu)):Qq (PW X (.BoolOp .And (e :: f :: es) pos) (Z5k tc tu)):=⟨z7W p.h q.h⟩
def qB{e:Expr}{pos:Pos}(p:Qq (PT X e tc)):Qq (PW X (.BoolOp .And [e] pos) tc):=⟨z3A p.h⟩
def qF{pos:Pos}{g:TG}(i:Qq (PI X tg iter wi))(j:Qq (PG X tg g))(q:Qq (Qg X body tb))(b:∀ x:Value,foldedSetIterable iter X.env x=pure x:=by exact λ_=>rfl)(a:PassesOwn 06 X.A X.env X.xe:=by exact PassesOwn.never)(c:X.calm=true:=by rfl):Qq (PS X (.For tg iter body [] pos) (Z2k wi g tb)):=⟨Z0n b a c i.h j.h q.h⟩
def qg{X:Cx}{pos:Pos}{x:Str}(i:Nat)(a:X.N.Nodup:=by assumption)(hi:X.N[i]?=some x:=by rfl)(b:Loc X.env.scope x:=by first | exact Or.inl rfl | exact Or.inr rfl)(hf:X.fn x=true\/X.env.scope.names.lookup x=some .local:=by first | exact .inl rfl | exact .inr rfl | assumption):Qq (PG X (.Name x pos) (Zo i)):=⟨z7 a hi b hf⟩
def qL{e:Expr}(q:Qq (PE X e te)):Qq (PI X f e (Z1J X.K te)):=⟨VJ q.h⟩
def qU{e:Expr}(q:Qq (PE X e te)):Qq (PI X f e (Z3W X.K te)):=⟨z8L q.h⟩
def qX{e:Expr}{pos:Pos}(q:Qq (PE X e te))(a:swapsWith e none pos.line X.env=pure false:=by rfl):Qq (PS X (.Expr e pos) (Z1w te)):=⟨z4e q.h a⟩
def qD{e:Expr}{pos:Pos}{x:Str}(q:Qq (PE X e te))(a:attributeBase e x X.env (eval e X.env)=eval e X.env:=by rfl):Qq (PE X (.Attribute e x pos) (Z4C X.K te x)):=⟨XS q.h a⟩
def qy{X:Cx}{e:Expr}{a:List Expr}{f:TA}{pos pos':Pos}{x:Str}{id:String}{rc:List V->Hp->VK->Prop}(c:ZE X (.builtin id) rc)(hm:X.mg x=none)(j:bootBuiltins x=some (.builtin id))(q:Qq (PA X (e :: a) f))(i:Gl X x:=by rfl)(hn:x≠"__name__":=by decide)(d:(x == ("__debug__":Str))=false:=by decide)(he:starEach (e :: a) X.env=019 :: starEach a X.env:=by rfl)(b:(backTo pos (starEach a X.env)).any (·.1)=false:=by rfl):Qq (PE X (.Call (.Name x pos') (e :: a) [] pos) (tCB rc f)):=⟨ZQ c i hm j q.h hn d he b⟩
def qY{X:Cx}{e:Expr}{a:List Expr}{f:TA}{pos pos':Pos}{x:Str}{T:String}{rc:List V->Hp->VK->Prop}(c:ZE X (.type T) rc)(hm:X.mg x=none)(j:bootBuiltins x=some (.type T))(q:Qq (PA X (e :: a) f))(i:Gl X x:=by rfl)(hn:x≠"__name__":=by decide)(d:(x == ("__debug__":Str))=false:=by decide)(he:starEach (e :: a) X.env=019 :: starEach a X.env:=by rfl)(b:(backTo pos (starEach a X.env)).any (·.1)=false:=by rfl):Qq (PE X (.Call (.Name x pos') (e :: a) [] pos) (tCB rc f)):=⟨yf c i hm j q.h hn d he b⟩
def qm{X:Cx}{e:Expr}{cpos apos:Pos}{name id:String}(j:PlainAttrs T)(slot:Slot T name id)(f:typeOf (.builtin id)=pure (.type "method_descriptor"))(hm:MtR X id rm)(p:Qq (PE X o te))(q:Qq (PA X (e :: es) ta))(b:attributeBase o name X.env (eval o X.env)=eval o X.env:=by rfl)(d:((backTo cpos (starEach (e :: es) X.env)).all (λx=>!x.1) && (backToKw cpos (keywordEach [] X.env)).all (λx=>x.1.isSome)
  && decide ((e :: es).length+([]:List Keyword).length+(if ([]:List Keyword).isEmpty then 0 else 1)<30))=true:=by rfl)(c:(apos.endLine == cpos.line)=true:=by rfl)(i:starEach (e :: es) X.env=019 :: starEach es X.env:=by rfl)(a:(backTo cpos (starEach es X.env)).any (·.1)=false:=by rfl) :
 Qq (PE X (.Call (.Attribute o name apos) (e :: es) [] cpos) (tBM X.K T rm te ta)):=⟨z6Z j slot f hm p.h q.h b d c i a⟩
def qM{X:Cx}{e o:Expr}{j:TE}{a:List Expr}{i:TA}{pos apos:Pos}{k:Nat}{sp:Sp}{ps:List Str}{C:Addr}{m:Str}{pl:Sem Bool}(p:Qq (PE X o j))(c:Cls X.K C)(D:ZO X.prog X.w X.K X.mg X.base Yn k C m ps sp)(q:Qq (PA X (e :: a) i))(d:starEach (e :: a) X.env=019 :: starEach a X.env:=by rfl)(b:(backTo pos (starEach a X.env)).any (·.1)=false:=by rfl)
 (l:eval (.Call (.Attribute o m apos) (e :: a) [] pos) X.env=(do
  let ov ←eval o X.env
  standAt apos.atName
  let (f,first) ←holding [ov] (getMethod ov m pl)
  callWith pos f first (backTo pos (starEach (e :: a) X.env)) (backToKw pos (keywordEach [] X.env))):=by rfl)
 (hr:Zf k X.A:=by first | assumption | exact Zf.mono (by assumption) 01):Qq (PE X (.Call (.Attribute o m apos) (e :: a) [] pos) (ji C m sp [] E0 j i)):=⟨Yx d b l p.h c D hr XI q.h⟩
def q2{pos:Pos}{k:Nat}{sp:Sp}(p:Qq (PE X o te))(c:Cls X.K C)(D:ZO X.prog X.w X.K X.mg X.base Yn k C m ps sp)(a:eval (.Call (.Attribute o m apos) [] [] pos) X.env=(do
  let ov ←eval o X.env
  standAt apos.atName
  let (f,first) ←holding [ov] (getMethod ov m pl)
  callWith pos f first (backTo pos (starEach [] X.env)) (backToKw pos (keywordEach [] X.env))):=by rfl)(hr:Zf k X.A:=by first | assumption | exact Zf.mono (by assumption) 01):Qq (PE X (.Call (.Attribute o m apos) [] [] pos) (ji C m sp [] E0 te VB)):=⟨uy a p.h c D hr XI⟩
def q3{e:Expr}{pos:Pos}(p:Qq (PE X o te))(q:Qq (PE X e tf))(a:swapsWith e (some (.Attribute o f' pos')) pos.line X.env=pure false:=by rfl):Qq (PS X (.Assign [.Attribute o f' pos'] e pos) (Z5m X.K te tf f')):=⟨Z2f p.h q.h a⟩
def q4{e:Expr}{pos:Pos}(p:Qq (PE X e te))(q:Qq (PE X (.BoolOp .And (f :: es) pos) tf)):Qq (PE X (.BoolOp .And (e :: f :: es) pos) (Z1i te tf)):=⟨Z2Z p.h q.h⟩
def q5{e:Expr}{pos:Pos}(p:Qq (PE X e te))(q:Qq (PE X (.BoolOp .Or (f :: es) pos) tf)):Qq (PE X (.BoolOp .Or (e :: f :: es) pos) (Z4A te tf)):=⟨Z4a p.h q.h⟩
def q6{e:Expr}{pos:Pos}{op}(p:Qq (PE X e te)):Qq (PE X (.BoolOp op [e] pos) te):=⟨Z2g p.h⟩
def q7{e:Expr}{pos:Pos}(p:Qq (PE X e te)):Qq (PE X (.UnaryOp .Not e pos) (Z1I te)):=⟨Z2t p.h⟩
def q8{e:Expr}{pos:Pos}(c:Qq (PT X o tc))(p:Qq (PE X e te))(q:Qq (PE X f tf)):Qq (PE X (.IfExp o e f pos) (tIf tc te tf)):=⟨z1l c.h p.h q.h⟩
def q9{e:Expr}{pos:Pos}{lo:Option Expr}(a:SlR X rs)(q:Qq (PE X e te))(l:Qq (PO X lo tl))(h:Qq (PO X hi th)):Qq (PE X (.Subscript e (.Slice lo hi none p2) pos) (tSl rs te tl th)):=⟨Yi a q.h l.h h.h⟩
def qQ{e:Expr}(q:Qq (PE X e te)):Qq (PO X (some e) (Z1F te)):=⟨xm q.h⟩
def qK:Qq (PO X none z3L):=⟨YX⟩
def qR{X:Cx}{e f:Expr}{a:TA}{pos pos':Pos}(hm:X.mg "range"=none)(q:Qq (PA X [e] a))(c:Gl X "range":=by rfl)(b:starEach [e] X.env=[019]:=by rfl):Qq (PI X f (.Call (.Name "range" pos') [e] [] pos) (Z1C a)):=⟨vN c hm q.h b⟩
def qH{e:Expr}{g:TG}(p:Qq (PG X e g))(q:Qq (PGs X es ug))(a:(assignEach (e :: es) X.env).map (·.2)=assign e X.env :: (assignEach es X.env).map (·.2):=by rfl):Qq (PGs X (e :: es) (Z1s g ug)):=⟨Za p.h q.h a⟩
def qN:Qq (PGs X [] Z4i):=⟨yC⟩
def qJ{X:Cx}{a:List Expr}{pos:Pos}{c:TGs}{j:Nat}{n:Nat}(q:Qq (PGs X a c))(d:X.calm=true:=by rfl)(hn:(assignEach a X.env).length=n:=by rfl)(b:(assignEach a X.env).findIdx? (·.1)=none:=by rfl):Qq (PG X (.Tuple a j pos) (Z0z X.K n c)):=⟨uC d q.h hn b⟩
def qG{pos:Pos}{g:TG}(sc:Scope)(N':List Str)(o:List (Option Nat))(i:Qq (PI X tg iter wi))(n:U5 X (relabel scope X.env) N' o)(j:∀ cl C s H fp,N'.Nodup->Qq (PG 010 tg g))(l:∀ cl C s H fp,Qq (PTs 010 ifs tt))(m:∀ cl C s H fp,Qq (PE 010 elt te))(p:X.env.scope=sc:=by rfl)(f:∀ y∈scope.names,y.2=.free->sc.names.lookup y.1=some .cell:=by decide +kernel)(b:∀ y∈scope.names,y.2≠.cell:=by decide)(c:scope.kind=.function:=by rfl)(a:∀ y∈scope.names,y.2=.local->scope.names.lookup y.1=some .local:=by decide +kernel)(r:N'.Nodup:=by decide +kernel)(d:X.calm=true:=by rfl)(q:∀ x,foldedSetIterable iter X.env x=pure x:=by intro _;rfl):Qq (PE X 011 (Vs wi o g tt te)) :=
 ⟨ZR N' o d i.h (by rw[p];exact f) b c a n (λcl C s H fp=>(j cl C s H fp r).h) (λcl C s H fp=>(l cl C s H fp).h) (λcl C s H fp=>(m cl C s H fp).h) q⟩
def qI{X:Cx}{pos:Pos}{x:Str}{g:TG}{scope:Scope}{b:Pos}(q:Nat)(sc:Scope)(N':List Str)(p:List (Option Nat))(i:Qq (PI X tg iter wi))(o:U5 X (relabel scope X.env) N' p)(j:∀ cl C s H fp,N'.Nodup->Qq (PG 010 tg g))(l:∀ cl C s H fp,Qq (PTs 010 ifs tt))(m:∀ cl C s H fp,Qq (PE 010 elt te))(r:swapsWith 011 (some (.Name x pos')) b.line X.env=pure true:=by rfl)(hn:X.N.Nodup:=by assumption)(u:X.N[q]?=some x:=by rfl)(v:X.env.scope.names.lookup x=some .local:=by rfl)(t:X.env.scope=sc:=by rfl)(n:∀ y∈scope.names,y.2=.free->sc.names.lookup y.1=some .cell:=by decide +kernel)(c:∀ y∈scope.names,y.2≠.cell:=by decide)(d:scope.kind=.function:=by rfl)(a:∀ y∈scope.names,y.2=.local->scope.names.lookup y.1=some .local:=by decide +kernel)(z:N'.Nodup:=by decide +kernel)(f:X.calm=true:=by rfl)(w:∀ x,foldedSetIterable iter X.env x=pure x:=by intro _;rfl):Qq (PS X (.Assign [.Name x pos'] 011 b) (z2a (Vs wi p g tt te) (Zo q))) :=
 ⟨z3V q N' p r hn u v f i.h (by rw[t];exact n) c d a o (λcl C s H fp=>(j cl C s H fp z).h) (λcl C s H fp=>(l cl C s H fp).h) (λcl C s H fp=>(m cl C s H fp).h) w⟩
def qj{X:Cx}{a:List Expr}{pos:Pos}{c:TGs}(K:FR)(n:Nat){j:Nat}(q:Qq (PGs X a c))(f:X.K=K:=by rfl)(d:X.calm=true:=by rfl)(hn:(assignEach a X.env).length=n:=by rfl)(b:(assignEach a X.env).findIdx? (·.1)=none:=by rfl):Qq (PG X (.Tuple a j pos) (Z0z K n c)):=⟨Xa n f d q.h hn b⟩
def qV:Qq (PTs X [] (λ_ H Q=>Q true H)):=⟨ym⟩
def fs{N ps:List Str}{sc:Scope}(a:sc.kind=.function:=by rfl)(b:sc.isCoroutine=false:=by rfl)(c:sc.isGenerator=false:=by rfl)(d:N.Nodup:=by decide +kernel)(e:N.take ps.length=ps:=by rfl)(f:∀ x∈ps,sc.names.lookup x=some .local\/sc.names.lookup x=some .cell:=by decide +kernel)(g:∀ y∈sc.names,y.2≠.free:=by decide +kernel):zE N ps sc:=⟨a,b,c,d,e,f,g⟩
def vc.yh{mg:SV}{x:Str}{st:Stmt}{k:Nat}{sp:Sp}(F:vc K x qual st f fd)(S:zE N ps (zo st))(c:N.Nodup->∀ (cdv:Value) (A:Around) (outer:List Env) (s:Shared) (H:Hp) (vs:List V) (Q:VK) (E:XK),Zf k (A.deeper (envOfC qual (zo st) s.heap.objs.size f cdv))->sp vs H Q E->
  ∃ t,Qq (Qg (ZJ Yn P w K mg base N qual (zo st) f cdv A outer s H E).nox (Zs st) t)/\t { nx:=λ_ H'=>Q .Zn H',rt:=Q } (start N vs) H)(len:∀ vs H Q E,sp vs H Q E->vs.length=ps.length:=by (intro vs H Q E h;repeat first | (obtain⟨rfl,_⟩:=h;rfl) | obtain⟨_,h⟩:=h)):Zu P w K mg base Yn (k+1) f fd ps sp :=
 F.ok S len λcdv A outer s H vs Q E hr h=>let ⟨t,a,b⟩:=c S.nd cdv A outer s H vs Q E hr h;⟨t,a.h,b⟩
def FnAt.g{h:Heap}{mg:SV}{n:Str}{st:Stmt}{ps:List Str}(x:FnAt K n st)(XK:K.In h)(G:h.Ns mainGlobals mg)(b:∀ (kV doc pm:Value) (an:Option Addr) (cdv ct:Value) (us:List Value),us.length=ps.length->bindArgs (PySem.W.fnOf n n (ZT st) (Zs st) (zo st) .none kV doc pm an cdv ct) ⟨us,[]⟩=pure (ps.zip us):=by (intro _ _ _ _ _ _ us a;repeat first | (simp at a;done) | (rcases us with _ |⟨_,us⟩;· first | (simp at a;done) | rfl))):ZH K mg n st ps:=x.fnd ps XK G b
def jk.g{st:Stmt}(x:jk K C m q st)(b:∀ (kV doc pm:Value) (an:Option Addr) (cdv ct:Value) (us:List Value),us.length=ps.length->bindArgs (PySem.W.fnOf m q (ZT st) (Zs st) (zo st) .none kV doc pm an cdv ct) ⟨us,[]⟩=pure (ps.zip us):=by (intro _ _ _ _ _ _ us a;repeat first | (simp at a;done) | (rcases us with _ |⟨_,us⟩;· first | (simp at a;done) | rfl))):Q5 K C m q st ps:=x.fnd ps b
noncomputable def CXA(P:Program)(w:World)(Cs:List Addr):Q8:=λouter H s E e s'=>∃ C,C∈Cs/\Yo P w C outer H s E e s'
def Z1j{mg:SV}{e:Value}(hC:C∈Cs)(h:(ZJ (Yo P w C) P w K mg base N qual scope f cd A outer s H E).xe e s'):(ZJ (CXA P w Cs) P w K mg base N qual scope f cd A outer s H E).xe e s' :=
 wpAny_mono (show wpAny (model P w) _ (leaving _ e) _ _ s' from h) (λ_ _ q=>⟨C,hC,q⟩) λ_ _ q=>⟨C,hC,q⟩
def z2g{mg:SV}{σ:St}{s1:Shared}{e:Addr}(hC:C∈Cs)(I:Inv 022 pins σ H1 s1)(b:Heap.MadeExcOf s1.heap h2 e (.ref C) vs)(a:E (.ref C) none H1) :
 (ZJ (CXA P w Cs) P w K mg base N qual scope f cd A outer s H E).xe (.ref e) { s1 with heap:=h2 } :=
 Z1j hC (jw (I.Q2 (ZJ (Yo P w C) P w K mg base N qual scope f cd A outer s H E).xe) b a)
def z4L{mg:SV}(hC:C∈Cs):Passes (Yo P w C) 022 E:=λpins σ H1 s1 e s2 I h =>
 Z1j hC (XF pins σ H1 s1 e s2 (I.Q2 (ZJ (Yo P w C) P w K mg base N qual scope f cd A outer s H E).xe) h)
def Z3B{mg:SV}(a:∀ C∈Cs',C∈Cs):Passes (CXA P w Cs') 022 E:=λpins σ H1 s1 e s2 I ⟨C,hC,h⟩=>z4L (a C hC) pins σ H1 s1 e s2 I h
def vd{mg:SV}{x:Str}{e:Expr}{cpos pos:Pos}(i:C∈Cs)(T:JS K mg x C)(n:Gl 022 x)(ha:PA 022 (e :: es) t)(he:starEach (e :: es) 04=(false,eval e 04) :: starEach es 04)(a:(backTo cpos (starEach es 04)).any (·.1)=false)(d:(x == ("__debug__":Str))=false) :
 PS 022 (.Raise (some (.Call (.Name x np) (e :: es) [] cpos)) none pos) (z7C E C t):=by
 intro pins s1 σ H1 D I h;obtain⟨bm,Nn,nm,qn,bs,hdct,sn,sub,ab,col,dd,k0,k1,k2,k3,k5,mN,hC,v,l,Tl⟩:=z8e (h:=base) I.ok.mod.kin T.exc;have j:(backTo cpos (starEach (e :: es) 04)).any (·.1)=false:=by rw[he];show (false || (backTo cpos (starEach es 04)).any (·.1))=false;rw[a];rfl
 refine wpAny_Raise_call_subU (C:=C) (nm:=nm) (q:=qn) (N:=Nn) (bs:=bs) (bm:=bm) (hdct:=hdct) (sn:=sn) (sub:=sub) (ab:=ab) (col:=col) (dd:=dd) (k0:=k0) (k1:=k1) (k2:=k2) (k3:=k3) (k5:=k5)
  Z48 03 Z48 (mN:=mN) (Tl.hasType Z48.hasBase) (I.ok.hd rfl) j l (xn I n T.bound ⟨rfl,?_⟩ d)
 have u:=ha cpos pins s1 σ H1 _ I h;have c:wpAny (model P w) (A.deeper 04) (spliced (backTo cpos (starEach (e :: es) 04))) _ _ s1:=u;show wpAny (model P w) (A.deeper 04) (evalArgs (.ref C) true (backTo cpos (starEach (e :: es) 04)) []) _ _ s1;rw[he] at c ⊢;refine Calls.evalArgs_plain (wpAny_mono c (λus s2 q=>?_) λ_ _ y=>y);obtain⟨vs,H2,I2,p,lv,r⟩:=q;have m:∀ b o,base.get? b=some o->s2.heap.get? b=some o:=I2.bk;refine⟨rfl,?_,m _ _ hC,v.keeps m,Tl.keeps m,λh' z hm=>z2g i I2 hm r⟩;show us.length<=sizeLine;rw[← p.length,sizeLine_eq];lia
noncomputable def XWA(Cs:List Addr)(X:Cx)(pins:List 014)(Rx:Addr->Hp->Prop):Value->Shared->Prop:=λe s2=>∃ C a H1 s1,C∈Cs/\Inv X pins a H1 s1/\Yo X.prog X.w C X.stack H1 s1 (λ_ _ H'=>Rx C H') e s2
noncomputable abbrev Cx.z5g(X:Cx)(Cs:List Addr)(pins:List 014)(Rx:Addr->Hp->Prop):Cx:={ X with pn:=X.pn ++ pins,xe:=XWA Cs X pins Rx }
def Inv.z5g{X:Cx}{σ:St}(I:Inv X pins σ H s):Inv (X.z5g Cs pins Rx) [] σ H s:=(I.Z0v (C:=0) (Rx:=λ_=>True)).Q2 _
def Inv.uY{X:Cx}{σ:St}(I:Inv (X.z5g Cs pins Rx) pins' σ H s):Inv X pins σ H s :=
 Inv.Z2c (C:=0) (Rx:=λ_=>True) (I.Q2 (XW 0 X pins λ_=>True))
def Z2I{X:Cx}{pins:List 014}{Rx:Addr->Hp->Prop}:Passes (CXA X.prog X.w Cs) (X.z5g Cs pins Rx) (λv _ H'=>∃ C,v=.ref C/\Rx C H'):=λb σ H s e s' I ⟨C,hC,h⟩=>by
 refine⟨C,σ,H,s,hC,I.uY,?_⟩;obtain⟨a,t,B,H',i,d,m,c,n,j,C',f,l⟩:=h;cases f;exact⟨a,t,B,H',i,d,m,c,n,j,l⟩
noncomputable def Z2P(X:Cx):List ExceptHandler->List (Addr×TS)->Prop
 | [],q=>q=[]
 | h :: r,q=>∃ x i c b j D d f,h=.ExceptHandler (some (.Name x i)) none (c :: b) j/\q=(D,d) :: f/\JS X.K X.mg x D/\Gl X x/\(x == ("__debug__":Str))=false/\(∀ a,Qg (X.exc a) (c :: b) d)/\Z2P X r f
def UR{bs sub:List Value}{dd:Option Addr}{g:Array GenState}{os:OsState}{e:Addr}(hC:h.get? C=some (excClassObj nm q C N bs bm hdct sn sub ab col dd k0 k1 k2 k3 k5 newId))(j:h.get? D=some (excClassObj nm' q' D N' bs' bm' hdct' sn' sub' ab' col' dd' j0 j1 j2 j3 j5 newId'))(he:h.get? e=some oe)(b:oe.cls=.ref C)(a:bm'.contains (.type "BaseException")=true)(c:(Value.ref C :: bm).contains (.ref D)=false)(l:Q false ⟨h,g,d,t,os⟩):wpAny M A (excMatches (.ref e) (.ref D)) Q E ⟨h,g,d,t,os⟩:=by
 have i:(Value.ref D :: bm').contains (.type "BaseException")=true:=by rw[List.contains_cons,a,Bool.or_true]
 have f:=tc_notTuple;unfold excMatches
 repeat (first | (with_reducible refine wpAny_loadPart_at he ?_;rw[b]) | with_reducible refine wpAny_loadPart_at j ?_ | (with_reducible refine wpAny_isSubtype_exc j ?_;rw[i]) | (with_reducible refine wpAny_isSubtype_exc hC ?_;rw[c]) | wp_step)
 exact l
def Z3U{bs sub:List Value}{dd:Option Addr}(X:K.In h)(hC:h.get? C=some (excClassObj nm q C N bs bm hdct sn sub ab col dd k0 k1 k2 k3 k5 newId))(e:PySem.W.mroIn K C (.ref D)=some false):(Value.ref C :: bm).contains (.ref D)=false:=by
 unfold PySem.W.mroIn at e;obtain⟨cd,a,b⟩:=Option.bind_eq_some_iff.mp e;have c:cd.mro=.ref C :: bm:=by
  unfold PySem.W.clsIn at a;split at a;rename_i ho;have:=X _ _ ho;rw[hC] at this;cases a;have:=congrArg Obj.data (Z19 this);cases this;rfl;cases a
 split at b;cases b;have e:=Z19 b;rw[c] at e;exact e
noncomputable def Z5l(n:Nat)(b:List (Addr×TS))(Rx:Addr->Hp->Prop)(tb:TS):TS:=λD σ H=>tb D σ H/\∀ C H',Rx C H'->∃ a,b.lookup C=some a/\a D (List.replicate n none) H'
def z9Y{hds:List ExceptHandler}{pos:Pos}(F:X.stack=X.env :: X.outer)(hfr:X.env.frame=some X.env.locals)(kts:∀ C∈Cs,PySem.W.ktsIn X.K C "BaseException"=true)(no:∀ C∈Cs,∀ D∈q.map Prod.fst,D≠C->PySem.W.mroIn X.K C (.ref D)=some false)(L:∀ pins,Qg (X.z5g Cs pins Rx) body tb)(Q:Z2P X (h₀ :: hds) q):PS X (.Try body (h₀ :: hds) [] [] pos) (Z5l X.N.length q Rx tb):=by
 intro pins s σ H D I h;obtain⟨h1,R⟩:=h;refine wpAny_Try_except (wpAny_mono (L pins [] s σ H D I.z5g h1) (λf s1 hf=>?_) λe s2 he=>?_)
 · have cv:SP X pins D f s1:=by
    cases f with
    | next=>obtain⟨c,H',J,q⟩:=hf;exact⟨c,H',J.uY,q⟩
    | brk=>obtain⟨c,H',J,q⟩:=hf;exact⟨c,H',J.uY,q⟩
    | cont=>obtain⟨c,H',J,q⟩:=hf;exact⟨c,H',J.uY,q⟩
    | ret u=>obtain⟨v,c,H',J,r,q⟩:=hf;exact⟨v,c,H',J.uY,r,q⟩
   cases f with
   | next=>exact wpAny_execs_nil cv
   | brk=>exact cv
   | cont=>exact cv
   | ret u=>exact cv
 · obtain⟨C,σ1,H1,s1,hC,I1,a,t,B,H2,rfl,os,bare,fl,hok,u,hE⟩:=he
   obtain⟨ts,i,R⟩:=R C H2 hE;have no:=no C hC;have d:=I1.ok;have frD:∀ b∈frs X.stack,∃ o,s1.heap.get? b=some o/\∀ vs,o.data≠.fields vs:=λb L=>X3 I1 L;have U:Heap.FlyingW B (X.env :: X.outer) a (.ref C) (.ref t) s2.heap:=by rw[← F];exact fl
   have mk:∀ m:Heap,B.StaysIn m->s2.heap.UpToSlots m->Inv X pins (List.replicate X.N.length none) H2 { s2 with heap:=m }:=λm st sm =>
    (I1.z6a.Z1c (s':={ s2 with heap:=m }) (ch:=[]) os ((u.on sm frD).un st λb L=>I1.VR b L) (hok.kept st) bare λb z=>absurd z 05)
   refine wpAny_looks_onW (outer:=X.outer) (by rw[d.frames,F]) hfr U λh4 n O=>?_;refine wpAny_landsW n λm y G=>?_;have J5:=mk m y.1 (O.trans G);obtain⟨nm,q',Nn,bs,bm,hdct,sn,sub,ab,col,dd,k0,k1,k2,k3,k5,newId,E,p,_⟩:=kts_cls J5.XG (kts C hC);obtain⟨ob,M,l⟩:=y.there;have go:∀ (hds:List ExceptHandler) (q:List (Addr×TS)),Z2P X hds q->q.lookup C=some ts->(∀ D∈q.map Prod.fst,D≠C->PySem.W.mroIn X.K C (.ref D)=some false)->wpAny 06 X.A (handleBy 027 X.env hds) (SP X pins D) X.xe { s2 with heap:=m }:=by
    intro hds
    induction hds with
    | nil =>
      intro q hq i _;rw[show q=[] from hq] at i;cases i
    | cons h₁ r ih =>
      intro q hq i no;obtain⟨x,p2,b₀,suite,p3,D',ts',q,rfl,rfl,T,hg,S,Q,hr⟩:=hq;refine wpAny_handleBy_cons (codeAny_handlers_test ?_) (by intro q;cases q);refine xn (X:=X.exc a) (J5.exc (a:=a)) hg T.bound ?_ S;rw[List.lookup_cons] at i;by_cases e:C=D'
      · subst e
        rw[beq_self_eq_true] at i;cases i;refine wpAny_excMatches_sub_self E M l p (codeAny_handlers_suite ?_);refine lands_againW y λh6 fl6 sm6=>?_;have J6:=mk h6 fl6.1 ((O.trans G).trans sm6);refine wpAny_mono (Q a pins _ _ H2 D (J6.exc (a:=a)) R) (λf s3 hf=>?_) λe s3 z=>z.elim;cases f with
        | next=>obtain⟨c,H',J,q⟩:=hf;exact⟨c,H',J.z4K d,q⟩
        | brk=>obtain⟨c,H',J,q⟩:=hf;exact⟨c,H',J.z4K d,q⟩
        | cont=>obtain⟨c,H',J,q⟩:=hf;exact⟨c,H',J.z4K d,q⟩
        | ret u=>obtain⟨v,c,H',J,r,q⟩:=hf;exact⟨v,c,H',J.z4K d,r,q⟩
      have e':(C == D')=false:=beq_eq_false_iff_ne.mpr e;rw[e'] at i;obtain⟨nm',q'',Nn',bs',bm',Y,sn',sub',ab',col',dd',j0,j1,j2,j3,j5,P,Z,j,_⟩:=kts_cls J5.XG T.kts;refine UR E Z M l j (Z3U J5.XG E (no D' 05 (Z32 e))) ?_;exact ih q hr i λD Z=>no D (by simp[Z])
   exact go _ _ Q i no
def Zu.any{mg:SV}{k:Nat}{sp:Sp}(F:Zu P w K mg base Yn k f fd ps sp):Zu P w K mg base CX k f fd ps sp :=
 ⟨F.len,λA outer s H args us vs Q E hr a b c d=>codeAny_mono (F.run A outer s H args us vs Q E hr a b c d) λr s' x=>match r,x with
  | .ok (.ret _),x=>x
  | .error _,x=>x.elim⟩
noncomputable def z9w(X:Cx)(CX:Q8)(k:Nat)(E:XK)(a:TE)(t:TA):TE:=λσ H Q=>a σ H λv H1=>∃ (f:Addr) (fd:FuncData) (ps:List Str) (sp:Sp),v=.ref f/\PySem.W.keepIn X.K 034=true/\Binds X.K fd ps []/\Zu X.prog X.w X.K X.mg X.base CX k f fd ps sp/\t σ H1 λvs H2=>sp (vs ++ []) H2 Q E
def z4X{e:Expr}{pos:Pos}{k:Nat}(hr:Zf k X.A)(d:Passes CX X E)(m:PE X c tc)(ha:PA X (e :: es) t)(l:eval (.Call c (e :: es) [] pos) X.env=(do callWith pos (← eval c X.env) [] (backTo pos (starEach (e :: es) X.env)) (backToKw pos (keywordEach [] X.env))):=by rfl)(he:starEach (e :: es) X.env=019 :: starEach es X.env:=by rfl)(a:(backTo pos (starEach es X.env)).any (·.1)=false:=by rfl):PE X (.Call c (e :: es) [] pos) (z9w X CX k E tc t):=by
 intro pins s σ H Q I h;rw[l];refine wpAny_bind (Zj (m pins s σ H _ I h) λu s1 b=>?_);obtain⟨v,H1,I1,r,q⟩:=b;obtain⟨f,fd,ps,sp,rfl,n,j,F,q⟩:=q;cases r;refine PySem.W.callWith_K (h₀:=X.base) I1.ok.mod.kin n (Zj (ha pos pins s1 σ H1 _ I1 q) λus s2 ⟨vs,H2,I2,i,q2⟩=>⟨I2.XG,?_⟩) he a;exact j6 F hr j .nil d I2 i q2
def tv(a:σ[i]?=some (some v))(q:Q v H):uD i σ H Q:=⟨v,a,q⟩
def tkd(h0:0<m)(a:m<2 ^ 60)(b:B<=100000)(hd:zO H d B)(k:∀ n H',0<=n->n<m->zO H' d (B+1)->Kp d H H'->Q (.int n) H'):yo [.ref d,.int m] H Q E:=⟨d,m,B,rfl,h0,a,b,hd,k⟩
def tkc(a:σ[i]?=some (some (.ref d)))(h0:0<m)(b:m<2 ^ 60)(c:B<=100000)(hd:zO H d B)(k:∀ n H',0<=n->n<m->zO H' d (B+1)->Kp d H H'->Q (.int n) H'):uu yo [] E (Xv (uD i) (Xv (tC (.int m)) VB)) σ H Q:=⟨_,a,tkd (E:=E) h0 b c hd k⟩
def tk0(j:σ[i]?=some (some (.ref d)))(h0:0<m)(f:m<2 ^ 60)(h:B<=100000)(hd:zO H d B)(k:∀ n H',0<=n->n<m->zO H' d (B+1)->Kp d H H'->R (decide (V.int n=V.int z)) H'):z3W (tOp rEq (uu yo [] E (Xv (uD i) (Xv (tC (.int m)) VB))) (tC (.int z))) σ H R:=tkc j h0 f h hd λn H' a b c e=>⟨rfl,_,rfl,k n H' a b c e⟩
def J0(a:zN K H p xs)(ha:JL xs z=some v)(q:Q v H):Z0j K (.ref p) (.int z) H Q:=⟨p,xs,z,v,rfl,rfl,a,ha,q⟩
def ixt(a:zR K H p xs)(ha:JL xs z=some v)(q:Q v H):Z0i K (.ref p) (.int z) H Q:=⟨p,xs,z,v,rfl,rfl,a,ha,q⟩
def Zw(a:zR K H p xs)(ha:JL xs z=some v)(q:Q v H):tC (.int z) σ H λy H2=>Z0i K (.ref p) y H2 Q:=⟨p,xs,z,v,rfl,rfl,a,ha,q⟩
def yN(a:zN K H p xs)(ha:JL xs z=some v)(q:Q v H):tC (.int z) σ H λy H2=>Z0j K (.ref p) y H2 Q:=⟨p,xs,z,v,rfl,rfl,a,ha,q⟩
def dgc{Q:VK}{st:Addr}(g:Qt H st (.str key) (some v))(q:Q v H):tC (.str key) σ H λy H2=>∃ a v,V.ref st=.ref a/\Qt H2 a y (some v)/\Q v H2:=⟨st,v,rfl,g,q⟩
def dgv{st:Addr}(a:σ[i]?=some (some (.ref st)))(g:Qt H st (.str key) (some v))(q:Q v H):Z1o (uD i) (tC (.str key)) σ H Q:=⟨_,a,st,v,rfl,g,q⟩
noncomputable def nlT:Str:=Str.ofString "NoLink"
noncomputable def noT:Str:=Str.ofString "none"
noncomputable def z4x(K:FR)(C Xl:Addr):Sp:=λvs H Q E=>∃ (p pd lp L:Addr) (W:Wb) (Ws:List Wb) (x y:Int),vs=[.ref p,.ref L]/\H L=some (.lst [.int x,.int y])/\ZG K C H p pd lp W Ws/\Ws.length<=5000/\W.2.length<=60/\
 (InB W.1 x y/\W.2.length<60->∀ (H':Hp) (ms:LI),ms.Perm (W.2 ++ [(x,y)])->ms.Pairwise yj->ZG K C H' p pd lp (W.1,ms) (Ws ++ [W])->Kx [p,pd] H H'->Q (.str vg) H')/\(¬ (InB W.1 x y/\W.2.length<60)->∀ H',zC H H'->E (.ref Xl) none H')
noncomputable def jt(K:FR)(C Xl:Addr):Sp:=λvs H Q E=>∃ (p pd lp L:Addr) (W:Wb) (Ws:List Wb) (x y:Int),vs=[.ref p,.ref L]/\H L=some (.lst [.int x,.int y])/\ZG K C H p pd lp W Ws/\Ws.length<=5000/\W.2.length<=60/\
 (InB W.1 x y/\(x,y)∈W.2->∀ (H':Hp),ZG K C H' p pd lp (W.1,W.2.erase (x,y)) (Ws ++ [W])->Kx [p,pd] H H'->Q (.str vg) H')/\(¬ (InB W.1 x y/\(x,y)∈W.2)->∀ H',zC H H'->E (.ref Xl) none H')
noncomputable def z4J(K:FR)(C Xl:Addr):Sp:=λvs H Q E=>∃ (p pd lp L:Addr) (n:Nat) (ps:LI) (Ws:List Wb),vs=[.ref p,.ref L]/\ZG K C H p pd lp ((n:Int),ps) Ws/\Ws.length<=5000/\n<=12/\
 (n<12->∀ (H':Hp),ZG K C H' p pd lp (((n+1:Nat):Int),ps) (Ws ++ [((n:Int),ps)])->Kx [p,pd] H H'->Q (.str (Pw.ns (n:Int))) H')/\(¬ n<12->∀ H',zC H H'->E (.ref Xl) none H')
noncomputable def z3G(K:FR)(C:Addr):Sp:=λvs H Q _=>∃ (p pd lp L:Addr) (W:Wb) (Ws:List Wb),vs=[.ref p,.ref L]/\ZG K C H p pd lp W Ws/\(Ws=[]->∀ H',zC H H'->Q (.str noT) H')/\∀ W0 Ws0,Ws=Ws0 ++ [W0]->∀ H',ZG K C H' p pd lp W0 Ws0->Kx [p,pd] H H'->Q (.str vg) H'
noncomputable def z2y(K:FR)(C Xl:Addr):Sp:=λvs H Q E=>∃ (p pd lp:Addr) (W:Wb) (Ws:List Wb) (x:Int),vs=[.ref p,.int x]/\ZG K C H p pd lp W Ws/\(x<W.1->∀ H',zC H H'->Q .Zn H')/\(¬ x<W.1->∀ H',zC H H'->E (.ref Xl) none H')
noncomputable def J7(K:FR)(C Xl:Addr):Sp:=λvs H Q E=>∃ (p pd lp L:Addr) (n c:Nat) (ps:LI) (Ws:List Wb) (A:Int×Int),vs=[.ref p,.ref L]/\H L=some (.lst [.int (c:Int)])/\LvS K C H p pd lp n ps Ws A/\
 (c<n->∀ (H':Hp) (Ss:LI),Pw.ZU ps A (J1 n) n Ss->(∀ S∈Ss,Vz 1983 S)->zC H H'->Q (.str (Pw.frT (Ss.getD c (0,1)))) H')/\(¬ c<n->∀ H',zC H H'->E (.ref Xl) none H')
noncomputable def z4g(K:FR)(C Xl:Addr):Sp:=λvs H Q E=>∃ (p pd lp L:Addr) (n x y:Nat) (ps:LI) (Ws:List Wb) (A:Int×Int),vs=[.ref p,.ref L]/\H L=some (.lst [.int (x:Int),.int (y:Int)])/\LvS K C H p pd lp n ps Ws A/\
 (x<n/\y<n/\x≠y->ps.length+6<=60/\∀ (H':Hp) (o:Option (List Int)),Pw.YU (Pw.uI ps A (J1 n) n x y) (oiL (List.range (min 6 n))) o->zC H H'->Q (.str (Pw.z8D o)) H')/\(¬ (x<n/\y<n/\x≠y)->∀ H',zC H H'->E (.ref Xl) none H')
noncomputable def z3j(P:Program)(w:World)(K:FR)(mg:SV)(base:Heap)(b:Nat)(a:SV)(Xl Xm:Addr):Sp:=λvs H Q E=>∃ (p:Addr) (x hd:Str) (ws:List Str),vs=[.ref p,.str x]/\x.cps.size<=8000/\Txt.split x (ZD 32)=hd :: ws/\ws.length<=5000/\(∀ z∈ws,z.cps.size<=8000)/\
 (((a hd=none\/∃ z∈ws,¬ Pw.Q9 2 z)/\∀ H',zC H H'->E (.ref Xm) none H')\/
  ∃ (t f:Addr) (m:Nat) (fd:FuncData) (sp:Sp),a hd=some (.ref t)/\(∀ H,zR K H t [.int (m:Int),.ref f])/\PySem.W.keepIn K 034=true/\Binds K fd ["live","pages"] []/\Zu P w K mg base (Yo P w Xl) b f fd ["live","pages"] sp/\(∀ z∈ws,Pw.Q9 2 z)/\
   ((ws.length≠m/\∀ H',zC H H'->E (.ref Xm) none H')\/
    ∃ zs:List Int,ws=zs.map Pw.ns/\(∀ z∈zs,0<=z/\z<100)/\zs.length=m/\m<=2/\∀ (L:Addr) (H':Hp),zC H H'->H L=none->H' L=some (.lst (zs.map V.int))->sp [.ref p,.ref L] H' Q E))
noncomputable def jN(A:Int×Int):Prop:=Pw.Canon A/\0<A.1/\A.1<=A.2
noncomputable def ErX(Xc:Addr)(H:Hp)(E:XK):Prop:=∀ H',zC H H'->E (.ref Xc) none H'
noncomputable def z6C(t:Str):Prop:=(Txt.split t (ZD 47)).length≠2\/∃ A,Pw.z6R t A/\¬ (0<A.1/\A.1<=A.2)
noncomputable def Z1u(t:Str):Prop:=(∃ w r,Txt.split t (ZD 32)=w :: r/\w.cps.toList≠(Str.ofString "pages").cps.toList)\/∃ wp ws n ps,Txt.split t (ZD 32)=("pages":Str) :: wp :: ws/\Pw.yg wp=some n/\ws.map (Pw.pr? 62)=ps.map some/\¬ (1<=n/\n<=12/\vf n ps)
noncomputable def z0Q(Xc:Addr):Sp:=λvs H Q E=>∃ (x:Str) (c:Nat),vs=[.str x,.str (ZD c)]/\x.cps.size<=8000/\((∃ A,Pw.pr? c x=some A/\∀ p H',zC H H'->H p=none->H' p=some (.tup [.int A.1,.int A.2])->Q (.ref p) H')\/((Txt.split x (ZD c)).length≠2/\ErX Xc H E))
noncomputable def z0i(K:FR)(Xc:Addr):Sp:=λvs H Q E=>∃ x:Str,vs=[.str x]/\x.cps.size<=8000/\((∃ A,Pw.z6R x A/\∀ p H',zC H H'->Xw K H' p A->Q (.ref p) H')\/((Txt.split x (ZD 47)).length≠2/\ErX Xc H E))
noncomputable def z4v(K:FR)(Xc:Addr):Sp:=λvs H Q E=>∃ x:Str,vs=[.str x]/\x.cps.size<=8000/\((∃ w r,Txt.split x (ZD 32)=w :: r/\w.cps.toList≠(Str.ofString "pages").cps.toList/\ErX Xc H E)\/∃ wp ws n ps,Txt.split x (ZD 32)=("pages":Str) :: wp :: ws/\Pw.yg wp=some n/\ws.map (Pw.pr? 62)=ps.map some/\(1<=n/\n<=12/\vf n ps->∀ a H',zC H H'->ZC K H' a n ps->Q 027 H')/\(¬ (1<=n/\n<=12/\vf n ps)->ErX Xc H E))
noncomputable def z0h(K:FR)(Xt:Addr):Sp:=λvs H Q E=>∃ x:Str,vs=[.str x]/\x.cps.size<=8000/\((∃ A,Pw.z6R x A/\jN A/\∀ p H',zC H H'->Xw K H' p A->Q (.ref p) H')\/(z6C x/\ErX Xt H E))
def Yk.calm{mg:SV}{k:Nat}{sp:Sp}(D:Yk P w K mg base (Yo P w C) k nm ps sp)(h:∀ vs H Q E,sp' vs H Q E->sp vs H Q λ_ _ _=>False):Def P w K mg base k nm ps sp':=by
 obtain⟨f,fd,a,b,c,F⟩:=D;exact⟨f,fd,a,b,c,λvs H Q E x=>F.len _ _ _ _ (h vs H Q E x),λA outer s H args us vs Q E hr x1 x2 x3 d=>codeAny_mono (F.run A outer s H args us vs Q _ hr x1 x2 x3 (h _ _ _ _ d)) λr s' x=>match r,x with
  | .ok (.ret _),x=>x
  | .error _,x=>by obtain⟨_,_,_,_,_,_,_,_,_,_,z⟩:=x;exact z.elim⟩
noncomputable def jC(K:FR):Sp:=λvs H Q _=>∃ (p:Addr) (A:Int×Int),vs=[.ref p]/\JZ K H p A/\(1<=A.2/\Int.gcd A.1 A.2=1)/\Q (.bl (decide (0<A.1/\A.1<=A.2))) H
noncomputable def yp(P:Program)(w:World)(K:FR)(mg:SV)(base:Heap)(h:Nat)(f:SV)(C Cd Xl Xt Xm:Addr):Sp:=λvs H Q E=>∃ (d p pd lp:Addr) (x:Str) (W:Wb) (Ws:List Wb) (A:Int×Int),vs=[.ref d,.str x]/\DkO Cd H d p/\ZG K C H p pd lp W Ws/\Xw K H lp A/\x.cps.size<=8000/\
 ((Pw.swB x (Str.ofString "web ")=false/\Pw.swB x (Str.ofString "leap ")=false/\z3j P w K mg base h f Xl Xm [.ref p,.str x] H Q E)\/
  (∃ t:Str,x=Str.ofString "web " ++ t/\((∃ (n:Nat) (ps:LI),Pw.Z1g t (n:Int) ps/\∀ (b a:Addr) (H':Hp),H b=none->H a=none->DkO Cd H' d b->ZG K C H' b a lp ((n:Int),ps) []->Kp d H H'->Q (.str vg) H')\/(Z1u t/\ErX Xt H E)))\/
  (∃ t:Str,x=Str.ofString "leap " ++ t/\((∃ A',Pw.z6R t A'/\jN A'/\∀ (b a c:Addr) (H':Hp),H b=none->H a=none->DkO Cd H' d b->ZG K C H' b a c W []->Xw K H' c A'->Kp d H H'->Q (.str vg) H')\/(z6C t/\ErX Xt H E))))
inductive Hd where
 | link | unlink | page | undo | show | share | rank | pass
noncomputable def Hd.tx:Hd->Str
 | .link=>Str.ofString "link"
 | .unlink=>Str.ofString "unlink"
 | .page=>Str.ofString "page"
 | .undo=>Str.ofString "undo"
 | .show=>Str.ofString "show"
 | .share=>Str.ofString "share"
 | .rank=>Str.ofString "rank"
 | .pass=>Str.ofString "pass"
noncomputable def Hd.ar(h:Hd)(x y:Nat):List Int:=match h with
 | .link | .unlink | .pass=>[(x:Int),(y:Int)]
 | .share=>[(x:Int)]
 | _=>[]
noncomputable def Hd.nr(h:Hd):Nat:=(h.ar 0 0).length
def Hd.z7I(h:Hd)(x y:Nat):(h.ar x y).length=h.nr:=by cases h <;> rfl
noncomputable def Hd.cm(h:Hd)(x y:Nat):Str:=Txt.join (ZD 32) (h.tx :: (h.ar x y).map Pw.ns)
noncomputable def z2M(h:Hd)(x y n:Nat)(ps:LI):Prop:=match h with
 | .link=>¬ (x<n/\y<n/\ps.length<60)
 | .unlink=>¬ (x<n/\y<n/\((x:Int),(y:Int))∈ps)
 | .page=>¬ n<12
 | .share=>¬ x<n
 | .pass=>¬ (x<n/\y<n/\x≠y)
 | _=>False
noncomputable abbrev z5x(n:Nat)(ps:LI)(Ws:List Wb)(n':Nat)(ps':LI)(Ws':List Wb):Prop:=n'=n/\ps'=ps/\Ws'=Ws
noncomputable def Z0V(A:Int×Int)(h:Hd)(x y n:Nat)(ps:LI)(Ws:List Wb)(a:Str)(n':Nat)(ps':LI)(Ws':List Wb):Prop:=match h with
 | .link=>a=vg/\n'=n/\ps'.Perm (ps ++ [((x:Int),(y:Int))])/\ps'.Pairwise yj/\Ws'=Ws ++ [((n:Int),ps)]
 | .unlink=>a=vg/\n'=n/\ps'=ps.erase ((x:Int),(y:Int))/\Ws'=Ws ++ [((n:Int),ps)]
 | .page=>a=Pw.ns (n:Int)/\n'=n+1/\ps'=ps/\Ws'=Ws ++ [((n:Int),ps)]
 | .undo=>(Ws=[]/\a=noT/\z5x n ps Ws n' ps' Ws')\/(Ws=Ws' ++ [((n':Int),ps')]/\a=vg)
 | .show=>a=Pw.wbT (n:Int) ps/\z5x n ps Ws n' ps' Ws'
 | .share=>(∃ Ss,Pw.ZU ps A (J1 n) n Ss/\a=Pw.frT (Ss.getD x (0,1)))/\z5x n ps Ws n' ps' Ws'
 | .rank=>(∃ Ss r,Pw.ZU ps A (J1 n) n Ss/\Pw.Rkd Ss n r/\a=Pw.ptT (r.map λ(k:Nat)=>(k:Int)))/\z5x n ps Ws n' ps' Ws'
 | .pass=>(∃ o,Pw.YU (Pw.uI ps A (J1 n) n x y) (oiL (List.range (min 6 n))) o/\a=Pw.z8D o)/\z5x n ps Ws n' ps' Ws'
noncomputable def z2l(A:Int×Int)(h:Hd)(x y n:Nat)(ps:LI)(Ws:List Wb)(a:Str)(n':Nat)(ps':LI)(Ws':List Wb):Prop :=
 (z2M h x y n ps/\a=nlT/\z5x n ps Ws n' ps' Ws')\/(¬ z2M h x y n ps/\Z0V A h x y n ps Ws a n' ps' Ws')
end L2
namespace Pw
def z3F(i:Nat)(c:hd.cps.toList[i]?=some a)(d:y.cps.toList[i]?=some b)(ne:a≠b):swB (Txt.join (L2.ZD 32) (hd :: r)) y=false:=by
 refine z1f i ?_ d ne;rw[join_list];unfold jl;rw[Z39 (Z16.mp c).1];exact c
end Pw
namespace L2
noncomputable def Hd.sp(K:FR)(C Xl tb:Addr)(pos:Pos):Hd->Sp
 | .link=>z4x K C Xl
 | .unlink=>jt K C Xl
 | .page=>z4J K C Xl
 | .undo=>z3G K C
 | .show=>jV K C
 | .share=>J7 K C Xl
 | .rank=>jj K C tb pos
 | .pass=>z4g K C Xl
noncomputable def AnX(P:Program)(w:World)(K:FR)(mg:SV)(base:Heap)(a:SV)(Xl:Addr)(hd:Str)(m:Nat)(sp:Sp):Prop:=∃ (t f:Addr) (fd:FuncData),a hd=some (.ref t)/\(∀ H,zR K H t [.int (m:Int),.ref f])/\PySem.W.keepIn K 034=true/\Binds K fd ["live","pages"] []/\Zu P w K mg base (Yo P w Xl) 16 f fd ["live","pages"] sp
def AnC.x{mg:SV}{sp:Sp}(h:AnC P w K mg base fz hd m sp):AnX P w K mg base fz Xl hd m sp :=
 let ⟨t,f,fd,a,b,c,d,F⟩:=h;⟨t,f,fd,a,b,c,d,F.any⟩
structure X0(K:FR)(C Cd tb:Addr)(pos:Pos)(H:Hp)(d p pd lp:Addr)(n:Nat)(ps:LI)(Ws:List Wb)(A:Int×Int):Prop where
 h:Ds K C Cd tb pos H d p pd lp n ps Ws A
 up:ps.Pairwise yj
 old:∀ W∈Ws,OkL W
def X0.okl{pos:Pos}(D:X0 K C Cd tb pos H d p pd lp n ps Ws A):OkL ((n:Int),ps):=⟨by have:=D.h.s.n1;show 1<=(n:Int);lia,by have:=D.h.s.n12;show (n:Int)<=12;lia,D.h.s.few,D.up,D.h.s.rng⟩
def X0.same{pos:Pos}(D:X0 K C Cd tb pos H d p pd lp n ps Ws A)(s:zC H H'):X0 K C Cd tb pos H' d p pd lp n ps Ws A:=⟨D.h.same s,D.up,D.old⟩
def X0.past{pos:Pos}(D:X0 K C Cd tb pos H d p pd lp n ps Ws A):∀ W∈Ws ++ [((n:Int),ps)],OkL W:=λW a=>by
 rcases Z20.mp a with z | z;exact D.old W z;rw[Z01.mp z];exact D.okl
def kx3(k:Kx [p,pd] H H'):Kx [p,pd,tb] H H':=λb o e n=>k b o e λz=>n (by
 rcases Z08.mp z with z | z;rw[z];simp;rw[Z01.mp z];simp)
def X0.kx{pos:Pos}{n':Nat}(D:X0 K C Cd tb pos H d p pd lp n ps Ws A)(k:Kx [p,pd] H H')(l:ZG K C H' p pd lp ((n':Int),ps') Ws')(o:OkL ((n':Int),ps'))(old:∀ W∈Ws',OkL W):X0 K C Cd tb pos H' d p pd lp n' ps' Ws' A :=
 ⟨D.h.kx k l (by have:=o.n1;change 1<=(n':Int) at this;lia) (by have:=o.n12;change (n':Int)<=12 at this;lia) o.few o.rng,o.up,old⟩
def Hd.first(h:Hd):(∃ a:Nat,h.tx.cps.toList[0]?=some a/\a≠119)/\∃ (i a b:Nat),h.tx.cps.toList[i]?=some a/\(Str.ofString "leap ").cps.toList[i]?=some b/\a≠b:=by
 cases h;exact⟨⟨108,03,01⟩,1,105,101,03,03,01⟩;exact⟨⟨117,03,01⟩,0,117,108,03,03,01⟩;exact⟨⟨112,03,01⟩,0,112,108,03,03,01⟩;exact⟨⟨117,03,01⟩,0,117,108,03,03,01⟩;exact⟨⟨115,03,01⟩,0,115,108,03,03,01⟩;exact⟨⟨115,03,01⟩,0,115,108,03,03,01⟩;exact⟨⟨114,03,01⟩,0,114,108,03,03,01⟩;exact⟨⟨112,03,01⟩,0,112,108,03,03,01⟩
def Hd.short(h:Hd):h.tx.cps.size<=8/\32∉h.tx.cps.toList:=by cases h <;> exact⟨03,03⟩
def Hd.bound{x:Nat}(h:Hd)(c:x<100)(b:y<100):∀ z∈h.ar x y,0<=z/\z<100:=λz a=>by
 have:z=(x:Int)\/z=(y:Int):=by cases h <;> simp[Hd.ar] at a <;> first | exact a | exact .inl a
 lia
def Z3A{mg:SV}{pos:Pos}{x:Nat}(D:X0 K C Cd tb pos H d p pd lp n ps Ws A)(an:AnX P w K mg base fz Xl h.tx h.nr (h.sp K C Xl tb pos))(j:Ws.length<=5000)(hx:x<100)(hy:y<100)(hp:h=.pass->ps.length+6<=60)(k:∀ a n' ps' Ws' H',¬ z2M h x y n ps->Z0V A h x y n ps Ws a n' ps' Ws'->X0 K C Cd tb pos H' d p pd lp n' ps' Ws' A->Kx [p,pd,tb] H H'->Q (.str a) H')(I:z2M h x y n ps->∀ H',zC H H'->E (.ref Xl) none H') :
 yp P w K mg base 16 fz C Cd Xl Xt Xm [.ref d,.str (h.cm x y)] H Q E:=by
 obtain⟨t,f,fd,a1,a2,a3,a4,a5⟩:=an;obtain⟨h8,M⟩:=h.short;have R:=h.bound hx hy;have al:=h.z7I x y;have O:h.nr<=2:=by cases h <;> decide
 have hm:∀ y'∈h.tx :: (h.ar x y).map Pw.ns,y'.cps.size<=8:=λy' hy'=>by
  rcases Z08.mp hy' with e | e;rw[e];exact h8;obtain⟨z,j,rfl⟩:=Z18.mp e;have b:=R z j;have:=(JC b.1 b.2).2;lia
 have sz:=vt (sep:=ZD 32) hm;rw[Z07,ZB,al] at sz;have zc:(ZD 32).cps.size=1:=rfl;rw[zc] at sz;have F:(h.cm x y).cps.size<=8000:=by
  have:=Z5t (8+1) (show h.nr+1<=3 by lia);exact Z0Y sz (Z0Y this 01)
 obtain⟨⟨c1,q1,q2⟩,i,c2,c3,q3,q4,q5⟩:=h.first
 refine⟨d,p,pd,lp,_,_,Ws,A,rfl,D.h.o,D.h.s.l,D.h.s.fA,F,.inl ⟨Pw.z3F 0 q1 (b:=119) 03 q2,Pw.z3F i q3 q4 q5,p,_,h.tx,(h.ar x y).map Pw.ns,rfl,F,Pw.z5z M,by rw[ZB,al];lia,λz j=>Z0Y (hm z (Z06 _ j)) 01,.inr ⟨t,f,h.nr,fd,_,a1,a2,a3,a4,a5,λz j=>?_,.inr ⟨h.ar x y,rfl,R,al,O,λL H1 s m X=>?_⟩⟩⟩⟩;obtain⟨q,B,rfl⟩:=Z18.mp j;exact (JC (R q B).1 (R q B).2).1;have D1:=D.same s;have n1:=D.h.s.n1;have n12:=D.h.s.n12;have T:∀ {a n' ps' Ws' H'},¬ z2M h x y n ps->Z0V A h x y n ps Ws a n' ps' Ws'->X0 K C Cd tb pos H' d p pd lp n' ps' Ws' A->Kx [p,pd] H1 H'->Q (.str a) H':=λnb r d2 k2=>k _ _ _ _ _ nb r d2 (s.kx.trans (kx3 k2));have st:∀ {a H'},¬ z2M h x y n ps->Z0V A h x y n ps Ws a n ps Ws->zC H1 H'->Q (.str a) H':=λnb r s2=>T nb r (D1.same s2) s2.kx;clear hm sz F zc R al h8 M q1 q2 q3 q4 q5 O a1 a2 a3 a4 a5;cases h with
 | link =>
   refine⟨p,pd,lp,L,((n:Int),ps),Ws,x,y,rfl,X,D1.h.s.l,j,D.h.s.few,λ⟨Z,J⟩ H2 ms pm pw v k2=>?_,λnb H2 s2=>I (λ⟨a,b,c⟩=>nb ⟨⟨00,by show (x:Int)<(n:Int);lia,00,by show (y:Int)<(n:Int);lia⟩,c⟩) H2 (s.trans s2)⟩;have N:0<=(x:Int)/\(x:Int)<(n:Int)/\0<=(y:Int)/\(y:Int)<(n:Int):=Z;refine T (λz=>z ⟨00,00,J⟩) ⟨rfl,rfl,pm,pw,rfl⟩ (D1.kx k2 v ⟨D.okl.n1,D.okl.n12,?_,pw,λq B=>?_⟩ D.past) k2;show ms.length<=60;rw[pm.length_eq,Z10,Z41];exact J;rcases Z20.mp (pm.mem_iff.mp B) with z | z;exact D.h.s.rng q z;rw[Z01.mp z];exact N
 | unlink =>
   refine⟨p,pd,lp,L,((n:Int),ps),Ws,x,y,rfl,X,D1.h.s.l,j,D.h.s.few,λ⟨Z,hi⟩ H2 v k2=>?_,λnb H2 s2=>I (λ⟨a,b,c⟩=>nb ⟨⟨00,by show (x:Int)<(n:Int);lia,00,by show (y:Int)<(n:Int);lia⟩,c⟩) H2 (s.trans s2)⟩;have N:0<=(x:Int)/\(x:Int)<(n:Int)/\0<=(y:Int)/\(y:Int)<(n:Int):=Z;exact T (λz=>z ⟨00,00,hi⟩) ⟨rfl,rfl,rfl,rfl⟩ (D1.kx k2 v ⟨D.okl.n1,D.okl.n12,Z0Y (List.length_erase_le ..) D.h.s.few,D.up.erase _,λq B=>D.h.s.rng q (List.mem_of_mem_erase B)⟩ D.past) k2
 | page =>
   refine⟨p,pd,lp,L,n,ps,Ws,rfl,D1.h.s.l,j,n12,λhn H2 v k2=>?_,λnb H2 s2=>I nb H2 (s.trans s2)⟩;exact T (λz=>z hn) ⟨rfl,rfl,rfl,rfl⟩ (D1.kx k2 v ⟨by show 1<=((n+1:Nat):Int);lia,by show ((n+1:Nat):Int)<=12;lia,D.h.s.few,D.up,λq B=>by have:=D.h.s.rng q B;show 0<=q.1/\q.1<((n+1:Nat):Int)/\0<=q.2/\q.2<((n+1:Nat):Int);lia⟩ D.past) k2
 | undo =>
   refine⟨p,pd,lp,L,((n:Int),ps),Ws,rfl,D1.h.s.l,λz H2 s2=>st (λz=>z) (.inl ⟨z,rfl,rfl,rfl,rfl⟩) s2,λW0 Ws0 e H2 v k2=>?_⟩;have o0:=D.old W0 (by rw[e];simp);obtain⟨n0,U⟩:∃ n0:Nat,W0.1=(n0:Int):=⟨W0.1.toNat,by have:=o0.n1;lia⟩;have eW:W0=((n0:Int),W0.2):=Prod.ext U rfl;rw[eW] at v o0;exact T (λz=>z) (.inr ⟨by rw[← eW];exact e,rfl⟩) (D1.kx k2 v o0 λW hW=>D.old W (by rw[e];exact Z54 _ hW)) k2
 | «show»=>exact⟨p,pd,lp,L,n,ps,Ws,A,rfl,D1.h.s,λH2 s2=>st (λz=>z) ⟨rfl,rfl,rfl,rfl⟩ s2⟩
 | share=>exact⟨p,pd,lp,L,n,x,ps,Ws,A,rfl,X,D1.h.s,λG H2 Ss ok sz s2=>st (λz=>z G) ⟨⟨Ss,ok,rfl⟩,rfl,rfl,rfl⟩ s2,λG H2 s2=>I G H2 (s.trans s2)⟩
 | rank =>
   refine⟨p,pd,lp,L,n,ps,Ws,A,rfl,D1.h.s,D1.h.t,λH2 Ss r ok rk kp tab=>?_⟩;refine k _ _ _ _ _ (λz=>z) ⟨⟨Ss,r,ok,rk,rfl⟩,rfl,rfl,rfl⟩ ⟨?_,D.up,D.old⟩ (λb o e nb=>kp b o (s b o e) λz=>nb (by rw[z];simp));have h':=D1.h;obtain⟨dx,ed⟩:=h'.o;have nd:d≠tb:=h'.t.ne ed 017;obtain⟨now,us,lv,hw,hs⟩:=id h'.s.l;obtain⟨⟨dl,hl⟩,Y⟩:=id lv;have np:p≠tb:=h'.t.ne hl 017;have npd:pd≠tb:=h'.t.ne Y 017;have nlp:lp≠tb:=h'.t.ne h'.s.fA 017;have ku:KU H1 H2:=⟨λb xs e=>kp b _ e (h'.t.ne e 017),λb q u e=>kp b _ e (h'.t.ne e 017)⟩;exact⟨⟨dx,kp _ _ ed nd⟩,{ h'.s with l:=h'.s.l.kx (S:=[tb]) (λb q e nb=>kp b q e λz=>nb (Z01.mpr z)) ku (λz=>np (Z01.mp z)) (λz=>npd (Z01.mp z)),fA:=kp _ _ h'.s.fA nlp },tab⟩
 | pass=>exact⟨p,pd,lp,L,n,x,y,ps,Ws,A,rfl,X,D1.h.s,λG=>⟨hp rfl,λH2 o lo s2=>st (λz=>z G) ⟨⟨o,lo,rfl⟩,rfl,rfl,rfl⟩ s2⟩,λG H2 s2=>I G H2 (s.trans s2)⟩
def z2l.uniq{p pd lp x:Nat}(L:LvS K C H p pd lp n ps Ws A)(o1:z2l A h x y n ps Ws a n1 ps1 Ws1)(o2:z2l A h x y n ps Ws b f ps2 Ws2):a=b/\n1=f/\ps1=ps2/\Ws1=Ws2:=by
 rcases o1 with⟨b1,rfl,rfl,rfl,rfl⟩|⟨b1,r1⟩;rcases o2 with⟨b2,rfl,rfl,rfl,rfl⟩|⟨b2,r2⟩;exact⟨rfl,rfl,rfl,rfl⟩;exact absurd b1 b2;rcases o2 with⟨b2,_⟩|⟨b2,r2⟩;exact absurd b2 b1;cases h with
 | link =>
   obtain⟨rfl,rfl,m,q1,rfl⟩:=r1;obtain⟨rfl,rfl,l,q2,rfl⟩:=r2;exact⟨rfl,rfl,Z3j (m.trans l.symm) q1 q2,rfl⟩
 | unlink =>
   obtain⟨rfl,rfl,rfl,rfl⟩:=r1;obtain⟨rfl,rfl,rfl,rfl⟩:=r2;exact⟨rfl,rfl,rfl,rfl⟩
 | page =>
   obtain⟨rfl,rfl,rfl,rfl⟩:=r1;obtain⟨rfl,rfl,rfl,rfl⟩:=r2;exact⟨rfl,rfl,rfl,rfl⟩
 | undo =>
   rcases r1 with⟨e1,rfl,rfl,rfl,rfl⟩|⟨e1,rfl⟩ <;> rcases r2 with⟨e2,rfl,rfl,rfl,rfl⟩|⟨e2,rfl⟩;exact⟨rfl,rfl,rfl,rfl⟩;rw[e1] at e2;simp at e2;rw[e2] at e1;simp at e1;have e:=List.append_inj' (e1.symm.trans e2) rfl;have i:=(Z5u e.2).1;have o:(n1:Int)=(f:Int):=congrArg Prod.fst i;exact⟨rfl,00,congrArg Prod.snd i,e.1⟩
 | «show» =>
   obtain⟨rfl,rfl,rfl,rfl⟩:=r1;obtain⟨rfl,rfl,rfl,rfl⟩:=r2;exact⟨rfl,rfl,rfl,rfl⟩
 | share =>
   obtain⟨⟨S1,d,rfl⟩,rfl,rfl,rfl⟩:=r1;obtain⟨⟨S2,c,rfl⟩,rfl,rfl,rfl⟩:=r2;rw[L.uniq d c];exact⟨rfl,rfl,rfl,rfl⟩
 | rank =>
   obtain⟨⟨S1,t1,d,v1,rfl⟩,rfl,rfl,rfl⟩:=r1;obtain⟨⟨S2,j,c,v2,rfl⟩,rfl,rfl,rfl⟩:=r2;cases L.uniq d c;rw[v1.unique v2];exact⟨rfl,rfl,rfl,rfl⟩
 | pass =>
   obtain⟨⟨t1,v1,rfl⟩,rfl,rfl,rfl⟩:=r1;obtain⟨⟨j,v2,rfl⟩,rfl,rfl,rfl⟩:=r2;rw[v1.uniq v2];exact⟨rfl,rfl,rfl,rfl⟩
def Uq(h:∀ U:TS,U=u->xj a (xj b (xj c (xj d U))) D σ H):xj a (xj b (xj c (xj d u))) D σ H:=h _ rfl
noncomputable abbrev US:Key:=.inr (Str.ofString "web")
noncomputable abbrev UT:Key:=.inr (Str.ofString "leap")
noncomputable abbrev UL:Key:=.inr (Str.ofString "old")
noncomputable def ZS(wa la ol:Addr):List (Key×V):=[(US,.ref wa),(UT,.ref la),(UL,.ref ol)]
def yz:Str.ofString "web"≠Str.ofString "leap"/\Str.ofString "web"≠Str.ofString "old"/\Str.ofString "leap"≠Str.ofString "old":=03
def Jq:US≠UT/\US≠UL/\UT≠UL:=03
def z9V:Qn (ZS wa la ol) US=some (.ref wa):=YO rfl
def z6W:Qn (ZS wa la ol) UT=some (.ref la):=(YG Jq.1).trans (YO rfl)
def z9S:Qn (ZS wa la ol) UL=some (.ref ol):=(YG Jq.2.1).trans ((YG Jq.2.2).trans (YO rfl))
def z6X{x:Addr}:putK (ZS wa la ol) US (.ref x)=ZS x la ol:=by
 unfold putK ZS;simp[yz,Z32 yz.1,Z32 yz.2.1]
def z6H{x:Addr}:putK (ZS wa la ol) UT (.ref x)=ZS wa x ol:=by
 unfold putK ZS;simp[yz,Z32 yz.2.2]
def z7L{x:Addr}:putK (ZS wa la ol) UL (.ref x)=ZS wa la x:=by
 unfold putK ZS;simp[yz]
noncomputable def UK(K:FR)(H:Hp)(st ol:Addr)(W:Wb)(Ws:List Wb)(A:Int×Int):Prop:=∃ wa la us,H st=some 031/\ZC K H wa W.1 W.2/\Xw K H la A/\H ol=some (.lst us)/\UJ K H Ws us
def UK.same{st:Addr}(h:UK K H st ol W Ws A)(s:zC H H'):UK K H' st ol W Ws A:=by
 obtain⟨wa,la,us,a,b,c,d,e⟩:=h;exact⟨wa,la,us,s _ _ a,b.same s,s _ _ c,s _ _ d,e.ku s.ku⟩
def UK.kx{st:Addr}(h:UK K H st ol W Ws A)(k:Kx S H H')(u:KU H H')(n1:st∉S)(f:ol∉S):UK K H' st ol W Ws A:=by
 obtain⟨wa,la,us,a,b,c,d,e⟩:=h;exact⟨wa,la,us,k _ _ a n1,b.ku u,u.tup _ _ c,k _ _ d f,e.ku u⟩
def UK.ne{st:Addr}(h:UK K H st ol W Ws A):st≠ol:=by
 obtain⟨wa,la,us,a,b,c,d,e⟩:=h;rintro rfl;rw[a] at d;cases d
def UK.ku{st:Addr}(h:UK K H st ol W Ws A)(k:Kx [st,ol] H H'):KU H H':=by
 obtain⟨wa,la,us,a,b,c,d,e⟩:=h;constructor <;> intros <;> refine k _ _ (by assumption) λz=>?_ <;> rename_i q <;> simp only[Z08,Z3a,or_false] at z <;> rcases z with z | z <;> first | (rw[z,a] at q;cases q) | (rw[z,d] at q;cases q)
def Yg{st:Addr}(e:H st=some 031):Qt H st (.str (Str.ofString "web")) (some (.ref wa)):=z9V (la:=la) (ol:=ol) ▸ Qt.k (k:=US) e
def z3b{st:Addr}(e:H st=some 031):Qt H st (.str (Str.ofString "leap")) (some (.ref la)):=z6W (wa:=wa) (ol:=ol) ▸ Qt.k (k:=UT) e
def ur{st:Addr}(e:H st=some 031):Qt H st (.str (Str.ofString "old")) (some (.ref ol)):=z9S (wa:=wa) (la:=la) ▸ Qt.k (k:=UL) e
def ve:(ZS wa la ol).length<sizeLine:=by rw[sizeLine_eq];show 3<_;decide
def vK{st x:Addr}(e:H st=some 031):U7 H st (.str (Str.ofString "web")) (.ref x) (upd H st (.dK (ZS x la ol))):=z6X (wa:=wa) (la:=la) (ol:=ol) (x:=x) ▸ U7.k (k:=US) e ve
def Z3n{st x:Addr}(e:H st=some 031):U7 H st (.str (Str.ofString "leap")) (.ref x) (upd H st (.dK (ZS wa x ol))):=z6H (wa:=wa) (la:=la) (ol:=ol) (x:=x) ▸ U7.k (k:=UT) e ve
def z7z{st x:Addr}(e:H st=some 031):U7 H st (.str (Str.ofString "old")) (.ref x) (upd H st (.dK (ZS wa la x))):=z7L (wa:=wa) (la:=la) (ol:=ol) (x:=x) ▸ U7.k (k:=UL) e ve
def Tab.kxD{pos:Pos}(t:Tab tb pos q H)(k:Kx S H H')(h:∀ b∈S,∃ o,H b=some o/\(∀ ps,o≠.XH ps)/\∀ φ,o≠.ext φ):Tab tb pos q H':=by
 rcases t with t |⟨c,a,d⟩;exact .inl (k _ _ t λz=>by obtain⟨o,e,n,_⟩:=h _ z;rw[t] at e;cases e;exact n _ rfl)
 exact .inr ⟨c,k _ _ a λz=>by obtain⟨o,e,n,_⟩:=h _ z;rw[a] at e;cases e;exact n _ rfl,k _ _ d λz=>by obtain⟨o,e,_,n⟩:=h _ z;rw[d] at e;cases e;exact n _ rfl⟩
def UK.tab{st:Addr}{pos:Pos}(h:UK K H st ol W Ws A)(t:Tab tb pos q H)(k:Kx [st,ol] H G):Tab tb pos q G:=t.kxD k λb c=>by
 obtain⟨wa,la,us,a,_,_,d,_⟩:=h;rcases Z08.mp c with z | z;exact⟨_,(by rw[z];exact a),017,λ_ z=>by cases z⟩
 exact⟨_,(by rw[Z01.mp z];exact d),017,λ_ z=>by cases z⟩
def z3B{st:Addr}(k:Kx [st,ol] H H'):Kx [st,ol,tb] H H':=λb o e n=>k b o e λz=>n (by
 rcases Z08.mp z with z | z;rw[z];simp;rw[Z01.mp z];simp)
def z6Q{st:Addr}(i:UK K H st ol W Ws A)(s:zC H Gb)(p:H st=some 031)(hw:ZC K H wa W.1 W.2)(m:Xw K H la A)(t:H ol=some (.lst us))(l:UJ K H Ws us) :
 KU H (upd Gb ol (.lst (us ++ [.ref wa])))/\upd Gb ol (.lst (us ++ [.ref wa])) st=some 031/\
 ∀ (b:Addr) (G:Hp) (n:Int) (ms:LI),zC (upd Gb ol (.lst (us ++ [.ref wa]))) G->ZC K G b n ms->b≠st->UK K (upd G st (.dK (ZS b la ol))) st ol (n,ms) (Ws ++ [W]) A/\Kx [st,ol] H (upd G st (.dK (ZS b la ol))):=by
 have ne:=i.ne;have app:Kx [st,ol] H (upd Gb ol (.lst (us ++ [.ref wa]))):=λc o e f=>by
  rw[zD (λz=>f (by rw[z];simp))];exact s _ _ e
 have a:upd Gb ol (.lst (us ++ [.ref wa])) st=some 031:=by rw[zD ne];exact s _ _ p
 have h:upd Gb ol (.lst (us ++ [.ref wa])) ol=some (.lst (us ++ [.ref wa])):=zB;refine⟨i.ku app,a,λb G n ms d r nb=>?_⟩;have k3:Kx [st,ol] H (upd G st (.dK (ZS b la ol))):=λc o e f=>by
  rw[zD (λz=>f (by rw[z];simp))];exact d _ _ (app c o e f)
 have j:=i.ku k3;have q:KU G (upd G st (.dK (ZS b la ol))):=⟨λc xs e=>by rw[zD (by rintro rfl;rw[d _ _ a] at e;cases e)];exact e,λc o u e=>by rw[zD (by rintro rfl;rw[d _ _ a] at e;cases e)];exact e⟩;exact⟨⟨b,la,us ++ [.ref wa],zB,r.ku q,j.tup _ _ m,by rw[zD ne.symm];exact d _ _ h,(l.ku j).snoc (hw.ku j)⟩,k3⟩
noncomputable def Jz(K:FR)(tb:Addr)(pos:Pos)(h:Hd)(x y:Nat)(st:Addr)(H:Hp)(Q:VK):Prop:=∃ (ol:Addr) (n:Nat) (ps:LI) (Ws:List Wb) (A:Int×Int),UK K H st ol ((n:Int),ps) Ws A/\Tab tb pos Yl H/\OkL ((n:Int),ps)/\(∀ W∈Ws,OkL W)/\Ws.length<=5000/\jN A/\(Vz 41 A/\A.2<=1000)/\(h=.pass->ps.length+6<=60)/\
 ∀ (a:Str) (n':Nat) (ps':LI) (Ws':List Wb) (H':Hp),z2l A h x y n ps Ws a n' ps' Ws'->UK K H' st ol ((n':Int),ps') Ws' A->Tab tb pos Yl H'->Kx [st,ol,tb] H H'->Q (.str a) H'
def Jz.same{pos:Pos}{x:Nat}{st:Addr}(d:Jz K tb pos h x y st H Q)(s:zC H G):Jz K tb pos h x y st G Q:=by
 obtain⟨ol,n,ps,Ws,A,i,tab,a,b,c,e,f,g,k⟩:=d;exact⟨ol,n,ps,Ws,A,i.same s,tab.same s,a,b,c,e,f,g,λq n' ps' Ws' H' o j t1 k1=>k q n' ps' Ws' H' o j t1 (s.kx.trans k1)⟩
def Hd.inj{a b:Hd}(h:a.tx=b.tx):a=b:=by cases a <;> cases b <;> first | rfl | exact absurd h 03
def z6g(few:ps.length<=100)(lk:∀ p∈ps,0<=p.2/\p.2<(n:Int))(ga:jN A)(a3:A.2<=1000)(n1:1<=n)(n12:n<=12)(ok:Pw.ZU ps A (J1 n) n Ss):∀ S∈Ss,(0<=S.1/\S.1.natAbs<2 ^ 1920)/\0<S.2/\S.2.natAbs<2 ^ 1920:=by
 obtain⟨ca,a0,a1⟩:=ga;have a:(J1 n).length=n:=by simp[J1]
 have pr:=Ju n1 n12 a0 a1;obtain⟨S2,V',h,m,i,l⟩:=Z4W (z:=10) few lk ca (Pw.QX n1) a n12 pr (by show A.2.natAbs<2 ^ 10;lia) (by show (n:Int).natAbs<2 ^ 10;lia);have e:S2=Ss:=Pw.ZU.unique lk ca (Pw.QX n1) a pr h ok;subst e;have rw:=Rw.Z6A ok m 01 i l;intro S f;have c:=ok.canon S f;have b:=rw.bnd S f;have nn:=ok.nn S f;have d:=Int.le_of_dvd m (l S f);have o:V'.natAbs<2 ^ 293:=i;have j:∀ z:Int,0<=z->z<=V'->z.natAbs<2 ^ 1920:=λz h0 t=>by
  have q:z.natAbs<2 ^ 293:=00
  have r:z.natAbs<2 ^ 1920:=Z0X q (Z37 01 01);exact r
 have s:=c.1;exact⟨⟨nn,j _ nn 00⟩,s,j _ 00 d⟩
noncomputable def z7t(K:FR)(tb:Addr)(pos:Pos):Sp:=λvs H Q _=>∃ (st:Addr) (h:Hd) (x y:Nat),vs=[.ref st,.str h.tx,.int (x:Int),.int (y:Int)]/\Jz K tb pos h x y st H Q
noncomputable def jJ(K:FR)(tb:Addr)(pos:Pos):Sp:=λvs H Q _=>∃ (st:Addr) (h:Hd) (x y:Nat),vs=[.ref st,.str h.tx,.int (x:Int),.int (y:Int)]/\(h=.link\/h=.unlink)/\Jz K tb pos h x y st H Q
noncomputable def z3R(K:FR)(tb:Addr)(pos:Pos):Sp:=λvs H Q _=>∃ (st:Addr) (x y:Nat),vs=[.ref st]/\Jz K tb pos .page x y st H Q
noncomputable def z3Q(K:FR)(tb:Addr)(pos:Pos):Sp:=λvs H Q _=>∃ (st:Addr) (x y:Nat),vs=[.ref st]/\Jz K tb pos .undo x y st H Q
noncomputable def z3z(K:FR)(tb:Addr)(pos:Pos):Sp:=λvs H Q _=>∃ (st:Addr) (x y:Nat),vs=[.ref st,.int (x:Int),.int (y:Int)]/\Jz K tb pos .pass x y st H Q
noncomputable def ntT:Str:=Str.ofString "NoText"
noncomputable def ncT:Str:=Str.ofString "NoCommand"
noncomputable def exQ(Xl Xt Xm:Addr)(Q:VK)(C:Addr)(H':Hp):Prop:=(C=Xl/\Q (.str nlT) H')\/(C=Xt/\Q (.str ntT) H')\/(C=Xm/\Q (.str ncT) H')
noncomputable def Ja(P:Program)(w:World)(K:FR)(mg:SV)(base:Heap)(a:SV)(C Cd Xl Xt Xm:Addr):Sp:=λvs H Q _=>∃ (d:Addr) (x:Str),vs=[.ref d,.str x]/\∀ Q':VK,(∀ v H',Q v H'->Q' v H')->yp P w K mg base 16 a C Cd Xl Xt Xm [.ref d,.str x] H Q' λv _ H'=>∃ C,v=.ref C/\exQ Xl Xt Xm Q C H'
def Z6h(ha:PySem.W.ktsIn K a "BaseException"=true)(d:PySem.W.ktsIn K b "BaseException"=true)(f:PySem.W.ktsIn K c "BaseException"=true):∀ C∈[a,b,c],PySem.W.ktsIn K C "BaseException"=true:=λC h=>by
 simp only[Z08,Z3a,or_false] at h;rcases h with rfl | rfl | rfl <;> assumption
def lk3{α:Type}{a b c:Addr}{x y z:α}(h:[a,b,c].Nodup):[(a,x),(b,y),(c,z)].lookup a=some x/\[(a,x),(b,y),(c,z)].lookup b=some y/\[(a,x),(b,y),(c,z)].lookup c=some z:=by
 simp at h;obtain⟨⟨d,i⟩,f⟩:=h;refine⟨05,?_,?_⟩;rw[List.lookup_cons,beq_eq_false_iff_ne.mpr (Z32 d)];simp;rw[List.lookup_cons,beq_eq_false_iff_ne.mpr (Z32 i)];show List.lookup c [(b,y),(c,z)]=_;rw[List.lookup_cons,beq_eq_false_iff_ne.mpr (Z32 f)];simp
noncomputable def z0d(K:FR)(Cs:List Addr):Prop:=Cs.Nodup/\∀ C∈Cs,∀ D∈Cs,D≠C->PySem.W.mroIn K C (.ref D)=some false
noncomputable def Z3c(t due:Str):Prop:=(due=ntT/\t∈(["leap x","leap 0/1","leap 2/1","leap ","web x","web pages 0","web pages 2 1>0 0>1"]:List Str))\/(due=ncT/\t∈(["undo 1","link 0","leap","web","share x","pass 0","Show","rank 0","link 00 0","page 1"]:List Str))
noncomputable def z7F(K:FR):Sp:=λvs H Q _=>∃ (d:Addr) (B:Nat),vs=[.ref d]/\B<=90000/\zO H d B/\∀ (p:Addr) (t due:Str) (H':Hp),Z3c t due->H' p=some (.tup [.str t,.str due])->zO H' d (B+100)->Kp d H H'->Q (.ref p) H'
def yK.kl(k:KL H H'):∀ {As:LI}{vs:List V},yK K H As vs->yK K H' As vs
 | [],_,h=>h
 | _ :: _,_,⟨p,r,e,f,h⟩=>⟨p,r,e,k.tup f,yK.kl k h⟩
noncomputable def z3C(K:FR):Sp:=λvs H Q _=>∃ (d:Addr) (B:Nat),vs=[.ref d]/\B<=90000/\zO H d B/\∀ p A H',Xw K H' p A->jN A->A.2<=1000->zO H' d (B+100)->Kp d H H'->Q (.ref p) H'
noncomputable def z3I(K:FR):Sp:=λvs H Q _=>∃ (d:Addr) (B:Nat),vs=[.ref d]/\B<=90000/\zO H d B/\∀ (a:Addr) (n:Int) (ps:LI) (H':Hp),ZC K H' a n ps->OkL (n,ps)->zO H' d (B+300)->Kp d H H'->Q 027 H'
noncomputable def uB:Sp:=λvs H Q _=>∃ (h:Hd) (x y:Nat),vs=[.str h.tx,.int (x:Int),.int (y:Int)]/\x<100/\y<100/\∀ H',zC H H'->Q (.str (h.cm x y)) H'
def z8g:Passes (CXA P w Cs) X E0:=λ_ _ _ _ _ _ _ ⟨_,_,h⟩=>Z2x _ _ _ _ _ _ ‹_› h
structure xy(K:FR)(C Cd tb:Addr)(pos:Pos)(H:Hp)(d p pd lp st ol:Addr)(n:Nat)(ps:LI)(Ws:List Wb)(A:Int×Int):Prop where
 h:X0 K C Cd tb pos H d p pd lp n ps Ws A
 s:UK K H st ol ((n:Int),ps) Ws A
 a3:A.2<=1000
 ne:pd≠ol
def xy.same{pos:Pos}{st:Addr}(x:xy K C Cd tb pos H d p pd lp st ol n ps Ws A)(s:zC H G):xy K C Cd tb pos G d p pd lp st ol n ps Ws A:=⟨x.h.same s,x.s.same s,x.a3,x.ne⟩
def xy.kx{pos:Pos}{st:Addr}(x:xy K C Cd tb pos H d p pd lp st ol n ps Ws A)(k:Kx S H G)(u:KU H G)(t:Tab tb pos Yl G)(c:d∉S)(i:p∉S)(f:pd∉S)(b:st∉S)(j:ol∉S):xy K C Cd tb pos G d p pd lp st ol n ps Ws A:=by
 obtain⟨dx,a⟩:=x.h.h.o;exact⟨⟨⟨⟨dx,k _ _ a c⟩,{ x.h.h.s with l:=x.h.h.s.l.kx k u i f,fA:=u.tup _ _ x.h.h.s.fA },t⟩,x.h.up,x.h.old⟩,x.s.kx k u b j,x.a3,x.ne⟩
def xy.Z2a{pos:Pos}{st:Addr}(x:xy K C Cd tb pos H d p pd lp st ol n ps Ws A)(hd:zO H dk B)(k:Kp dk H G)(n1:dk≠pd)(f:dk≠ol):xy K C Cd tb pos G d p pd lp st ol n ps Ws A/\KU H G/\Kx [d,st,dk] H G:=by
 obtain⟨zs,a⟩:=hd.lst;have u:KU H G:=k.ku (.inl ⟨_,a⟩);obtain⟨dx,j⟩:=id x.h.h.o;obtain⟨now,us,⟨⟨dl,q⟩,c⟩,_⟩:=id x.h.h.s.l;obtain⟨wa,la,vs,i,_⟩:=id x.s;have m:∀ {b:Addr}{o:HO},H b=some o->(∀ xs,o≠.lst xs)->b∉[dk]:=λ{b o} e n z=>by
  rw[Z01.mp z,a] at e;cases e;exact n _ rfl
 refine⟨x.kx (S:=[dk]) (k.kx 05) u (x.h.h.t.kp k a) (m j λ_ z=>by cases z) (m q λ_ z=>by cases z) (λz=>n1 (Z01.mp z).symm) (m i λ_ z=>by cases z) (λz=>f (Z01.mp z).symm),u,k.kx 05⟩
def X0.st{pos:Pos}{st:Addr}(D:X0 K C Cd tb pos H d p pd lp n ps Ws A)(e:H st=some (.dK kv)):X0 K C Cd tb pos (upd H st (.dK kv')) d p pd lp n ps Ws A/\KU H (upd H st (.dK kv'))/\Kp st H (upd H st (.dK kv')):=by
 obtain⟨dx,c⟩:=id D.h.o;obtain⟨now,us,⟨⟨dl,i⟩,a⟩,_⟩:=id D.h.s.l;have k:Kp st H (upd H st (.dK kv')):=λb o e nb=>by rw[zD nb];exact e
 have m:∀ {b:Addr}{o:HO},H b=some o->(∀ xs,o≠.dK xs)->b≠st:=λ{b o} q n z=>by rw[z,e] at q;cases q;exact n _ rfl
 have u:KU H (upd H st (.dK kv')):=⟨λb xs q=>k b _ q (m q λ_ z=>by cases z),λb o q h=>k b _ h (m h λ_ z=>by cases z)⟩;have kx:Kx [st] H (upd H st (.dK kv')):=k.kx 05;have t:=D.h.t.kxD kx λb f=>⟨.dK kv,(by rw[Z01.mp f];exact e),017,λ_ z=>by cases z⟩;exact⟨⟨⟨⟨dx,k _ _ c (m c λ_ z=>by cases z)⟩,{ D.h.s with l:=D.h.s.l.kx kx u (λz=>m i 017 (Z01.mp z)) (λz=>m a 017 (Z01.mp z)),fA:=u.tup _ _ D.h.s.fA },t⟩,D.up,D.old⟩,u,k⟩
def z5a{mg:SV}{pos:Pos}(D:X0 K C Cd tb pos H d p pd lp n ps Ws A)(ga:jN A')(a3:A'.2<=1000)(k:∀ j a b H',H j=none->H a=none->X0 K C Cd tb pos H' d j a b n ps [] A'->Kp d H H'->KU H H'->Q (.str vg) H') :
 yp P w K mg base 16 fz C Cd Xl Xt Xm [.ref d,.str (Str.ofString "leap " ++ Pw.frT A')] H Q E:=by
 obtain⟨ca,a0,a1⟩:=id ga;have r:=Pw.Z0A (A:=A') ⟨00,00⟩ ⟨00,00⟩ ca.2;have I:=z8d (A:=A') ⟨00,00⟩ ⟨00,00⟩;have F:(Str.ofString "leap ").cps.size=5:=03
 refine⟨d,p,pd,lp,_,_,Ws,A,rfl,D.h.o,D.h.s.l,D.h.s.fA,by rw[zP,F];lia,.inr (.inr ⟨Pw.frT A',rfl,.inl ⟨A',r,ga,λq i c G y f u B z m=>?_⟩⟩)⟩;obtain⟨t,v⟩:=D.h.new (n':=n) (ps':=ps) m u B D.h.s.n1 D.h.s.n12 D.h.s.few D.h.s.rng z ca a0 a1 ⟨yk 20 00,yk 20 00⟩;exact k q i c G y f ⟨t,D.up,λW h=>by cases h⟩ m v
def z8j{mg:SV}{pos:Pos}{n':Nat}(D:X0 K C Cd tb pos H d p pd lp n ps Ws A)(ok:OkL ((n':Int),ps'))(k:∀ i a H',H i=none->H a=none->X0 K C Cd tb pos H' d i a lp n' ps' [] A->Kp d H H'->KU H H'->Q (.str vg) H') :
 yp P w K mg base 16 fz C Cd Xl Xt Xm [.ref d,.str (Str.ofString "web " ++ Pw.wbT (n':Int) ps')] H Q E:=by
 have m:=Pw.z8X (n:=(n':Int)) ok.n1 ok.n12 ok.few ok.rng ok.up;have J:=z0N (n:=(n':Int)) (ps:=ps') ok;have I:(Str.ofString "web ").cps.size=4:=03
 have r:=ok.n1;have q:=ok.n12;change 1<=(n':Int) at r;change (n':Int)<=12 at q;refine⟨d,p,pd,lp,_,_,Ws,A,rfl,D.h.o,D.h.s.l,D.h.s.fA,by rw[zP,I];lia,.inr (.inl ⟨Pw.wbT (n':Int) ps',rfl,.inl ⟨n',ps',m,λj c G y b u F f=>?_⟩⟩)⟩;have B:Xw K G lp A:=f _ _ D.h.s.fA (λz=>by obtain⟨_,e⟩:=D.h.o;have:=D.h.s.fA;unfold Xw at this;rw[z,e] at this;cases this);obtain⟨t,v⟩:=D.h.new (n':=n') (ps':=ps') f u F 00 00 ok.few ok.rng B D.h.s.ca D.h.s.a0 D.h.s.a1 D.h.s.sA;exact k j c G y b ⟨t,ok.up,λW h=>by cases h⟩ f v
noncomputable def z4z(K:FR)(C Cd tb:Addr)(pos:Pos):Sp:=λvs H Q _=>∃ (d dk st p pd lp ol:Addr) (B n:Nat) (ps:LI) (Ws:List Wb) (A:Int×Int) (most:Int),vs=[.ref d,.ref dk,.ref st,.int most]/\1<=most/\most<=12/\B<=80000/\xy K C Cd tb pos H d p pd lp st ol n ps Ws A/\zO H dk B/\dk≠pd/\dk≠ol/\
 ∀ (f a c b:Addr) (n':Nat) (ps':LI) (A':Int×Int) (H':Hp),xy K C Cd tb pos H' d f a c st b n' ps' [] A'->zO H' dk (B+700)->Kx [d,st,dk] H H'->KU H H'->H f=none->H a=none->H b=none->Q (.bl true) H'
noncomputable def BC(x hd:Str)(ws:List Str):Prop:=Pw.swB x (Str.ofString "web ")=false/\Pw.swB x (Str.ofString "leap ")=false/\x.cps.size<=100/\Txt.split x (ZD 32)=hd :: ws/\ws.length<=10/\∀ y∈ws,y.cps.size<=100
noncomputable instance (x hd:Str) (ws:List Str):Decidable (BC x hd ws):=by unfold BC;infer_instance
def Xi{mg:SV}{pos:Pos}{x:Str}(ws:List Str)(D:X0 K C Cd tb pos H d p pd lp n ps Ws A)(b:BC x hd ws)(c:(fz hd=none\/∃ y∈ws,¬ Pw.Q9 2 y)\/∃ m s,AnX P w K mg base fz Xl hd m s/\(∀ y∈ws,Pw.Q9 2 y)/\ws.length≠m)(a:ErX Xm H E):yp P w K mg base 16 fz C Cd Xl Xt Xm [.ref d,.str x] H Q E:=by
 obtain⟨s1,s2,z,sp,wl,j⟩:=b;refine⟨d,p,pd,lp,_,_,Ws,A,rfl,D.h.o,D.h.s.l,D.h.s.fA,00,.inl ⟨s1,s2,p,x,hd,ws,rfl,00,sp,00,λy i=>Z0Y (j y i) 01,?_⟩⟩;rcases c with c |⟨m,s,⟨t,f,fd,a1,a2,a3,a4,a5⟩,q,ne⟩;exact .inl ⟨c,a⟩;exact .inr ⟨t,f,m,fd,s,a1,a2,a3,a4,a5,q,.inl ⟨ne,a⟩⟩
def Z0T{mg:SV}{pos:Pos}{due:Str}(D:X0 K C Cd tb pos H d p pd lp n ps Ws A)(an:∀ h:Hd,AnX P w K mg base fz Xl h.tx h.nr (h.sp K C Xl tb pos))(B:fz (Str.ofString "leap")=none)(v:fz (Str.ofString "web")=none)(u:fz (Str.ofString "Show")=none)(b:Z3c t due)(kt:due=ntT->ErX Xt H E)(r:due=ncT->ErX Xm H E):yp P w K mg base 16 fz C Cd Xl Xt Xm [.ref d,.str t] H Q E:=by
 rcases b with⟨rfl,m⟩|⟨rfl,m⟩;have f:=kt rfl;have c:∀ {x:Str}(y:Str),x=Str.ofString "leap " ++ y->x.cps.size<=8000->z6C y->yp P w K mg base 16 fz C Cd Xl Xt Xm [.ref d,.str x] H Q E:=λy e z b=>⟨d,p,pd,lp,_,_,Ws,A,rfl,D.h.o,D.h.s.l,D.h.s.fA,z,.inr (.inr ⟨y,e,.inr ⟨b,f⟩⟩)⟩
 have q:∀ {x:Str}(y:Str),x=Str.ofString "web " ++ y->x.cps.size<=8000->Z1u y->yp P w K mg base 16 fz C Cd Xl Xt Xm [.ref d,.str x] H Q E:=λy e z b=>⟨d,p,pd,lp,_,_,Ws,A,rfl,D.h.o,D.h.s.l,D.h.s.fA,z,.inr (.inl ⟨y,e,.inr ⟨b,f⟩⟩)⟩;simp only[Z08,Z3a,or_false] at m;rcases m with rfl | rfl | rfl | rfl | rfl | rfl | rfl;exact c "x" 03 03 (.inl 03);exact c "0/1" 03 03 (.inr ⟨(0,1),⟨03,01,01⟩,01⟩);exact c "2/1" 03 03 (.inr ⟨(2,1),⟨03,01,01⟩,01⟩);exact c "" 03 03 (.inl 03);exact q "x" 03 03 (.inl ⟨"x",[],03,03⟩);exact q "pages 0" 03 03 (.inr ⟨"0",[],0,[],03,03,rfl,01⟩);exact q "pages 2 1>0 0>1" 03 03 (.inr ⟨"2",["1>0","0>1"],2,[(1,0),(0,1)],03,03,03,01⟩);have f:=r rfl;simp only[Z08,Z3a,or_false] at m;have cn:∀ (h:Hd) {x:Str}(ws:List Str),BC x h.tx ws->(∀ y∈ws,Pw.Q9 2 y)->ws.length≠h.nr->yp P w K mg base 16 fz C Cd Xl Xt Xm [.ref d,.str x] H Q E:=λh x ws a i j=>Xi ws D a (.inr ⟨_,_,an h,i,j⟩) f
 rcases m with rfl | rfl | rfl | rfl | rfl | rfl | rfl | rfl | rfl | rfl;exact cn .undo ["1"] 03 03 01;exact cn .link ["0"] 03 03 01;exact Xi [] D 03 (.inl (.inl B)) f;exact Xi [] D 03 (.inl (.inl v)) f;exact Xi (hd:="share") ["x"] D 03 (.inl (.inr ⟨"x",05,03⟩)) f;exact cn .pass ["0"] 03 03 01;exact Xi [] D 03 (.inl (.inl u)) f;exact cn .rank ["0"] 03 03 01;exact Xi (hd:="link") ["00","0"] D 03 (.inl (.inr ⟨"00",05,03⟩)) f;exact cn .page ["1"] 03 03 01
noncomputable def hds:List Hd:=[.link,.link,.unlink,.unlink,.page,.undo,.show,.share,.share,.rank,.pass]
structure Two(K:FR)(C Cd tb:Addr)(pos:Pos)(G:Hp)(LD LS LH:Addr)(d p pd lp st ol:Nat->Addr)(n:Nat->Nat)(ps:Nat->LI)(Ws:Nat->List Wb)(A:Nat->Int×Int):Prop where
 sd:∀ i,i<2->xy K C Cd tb pos G (d i) (p i) (pd i) (lp i) (st i) (ol i) (n i) (ps i) (Ws i) (A i)
 ld:G LD=some (.lst [.ref (d 0),.ref (d 1)])
 ls:G LS=some (.lst [.ref (st 0),.ref (st 1)])
 lh:G LH=some (.lst (hds.map λh=>V.str h.tx))
 far:∀ i j,i<2->j<2->i≠j->d i≠d j/\p i≠p j/\pd i≠pd j/\st i≠st j/\ol i≠ol j/\pd i≠ol j
 nl:∀ i,i<2->LD≠pd i/\LD≠ol i/\LS≠pd i/\LS≠ol i/\LH≠pd i/\LH≠ol i
def Two.same{pos:Pos}{st:Nat->Addr}{n:Nat->Nat}(T:Two K C Cd tb pos G LD LS LH d p pd lp st ol n ps Ws A)(s:zC G G'):Two K C Cd tb pos G' LD LS LH d p pd lp st ol n ps Ws A :=
 { T with sd:=λi hi=>(T.sd i hi).same s,ld:=s _ _ T.ld,ls:=s _ _ T.ls,lh:=s _ _ T.lh }
def xy.kinds{pos:Pos}{st:Addr}(x:xy K C Cd tb pos G d p pd lp st ol n ps Ws A):(∃ dx,G d=some (.ins Cd dx (dkF p)))/\(∃ dl now,G p=some (.ins C dl (JA now lp pd)))/\(∃ us,G pd=some (.lst us))/\(∃ b,G st=some (.dK b))/\∃ us,G ol=some (.lst us):=by
 obtain⟨now,us,⟨⟨dl,i⟩,a⟩,_⟩:=id x.h.h.s.l;obtain⟨wa,la,vs,c,_,_,f,_⟩:=id x.s;exact⟨x.h.h.o,⟨dl,now,i⟩,⟨_,a⟩,⟨_,c⟩,⟨_,f⟩⟩
def Z1D{G:Hp}{d p:Addr}{Cd C dx dl q now lp pd:Addr}(a:G d=some (.ins Cd dx (dkF q)))(c:G p=some (.ins C dl (JA now lp pd))):d≠p:=λz=>by
 rw[z,c] at a;have b:=congrArg List.length (HO.ins.inj (Z19 a)).2.2;rw[VX] at b;exact absurd b (by show ¬ (3:Nat)=1;decide)
def Two.move{pos:Pos}{st:Nat->Addr}{n:Nat->Nat}(T:Two K C Cd tb pos G LD LS LH d p pd lp st ol n ps Ws A)(hi:i<2)(k:Kx [d i,p i,pd i,st i,ol i,tb,dk] G G')(u:KU G G')(N:G dk=some (.lst zs))(nk:∀ j,j<2->dk≠pd j/\dk≠ol j)(nL:dk≠LD/\dk≠LS/\dk≠LH)(x:xy K C Cd tb pos G' (d i) p' pd' lp' (st i) ol' n' ps' Ws' A')(fp:p'=p i\/G p'=none)(fd:pd'=pd i\/G pd'=none)(E:ol'=ol i\/G ol'=none) :
 Two K C Cd tb pos G' LD LS LH d (yR p i p') (yR pd i pd') (yR lp i lp') st (yR ol i ol') (yR n i n') (yR ps i ps') (yR Ws i Ws') (yR A i A'):=by
 obtain⟨⟨dx,k1⟩,⟨dl,now,k2⟩,⟨us,k3⟩,⟨kv,F⟩,⟨vs,k5⟩⟩:=(T.sd i hi).kinds;obtain⟨ts,s⟩:=(T.sd i hi).h.h.t.XH;have mem:∀ {b:Addr},b∈[d i,p i,pd i,st i,ol i,tb,dk]->b=d i\/b=p i\/b=pd i\/b=st i\/b=ol i\/b=tb\/b=dk:=λh=>by simpa using h
 have lists:∀ {b:Addr}{xs:List V},G b=some (.lst xs)->b≠pd i->b≠ol i->b≠dk->G' b=some (.lst xs):=λ{b xs} e a1 a2 a3=>k b _ e λz=>by
  rcases mem z with z | z | z | z | z | z | z;exact zX e k1 08 z
  exact zX e k2 08 z;exact a1 z;exact zX e F 08 z;exact a2 z;exact zX e s 08 z;exact a3 z
 obtain⟨n1,P,U,Q,X,Y⟩:=T.nl i hi;have other:∀ j,j<2->j≠i->xy K C Cd tb pos G' (d j) (p j) (pd j) (lp j) (st j) (ol j) (n j) (ps j) (Ws j) (A j):=λj f ne=>by
  obtain⟨f1,f2,y,f4,H,B⟩:=T.far j i f hi ne;obtain⟨_,_,_,_,_,I⟩:=T.far i j hi f (Z32 ne);obtain⟨⟨dx',v⟩,⟨dl',O,m⟩,⟨us',r⟩,⟨kv',w⟩,⟨Z,q⟩⟩:=(T.sd j f).kinds;obtain⟨g1,g2⟩:=nk j f;refine (T.sd j f).kx k u x.h.h.t (λz=>?_) (λz=>?_) (λz=>?_) (λz=>?_) (λz=>?_);rcases mem z with z | z | z | z | z | z | z;exact f1 z;exact Z1D v k2 z;exact zX v k3 08 z
  exact zX v F 08 z;exact zX v k5 08 z;exact zX v s 08 z;exact zX v N 08 z;rcases mem z with z | z | z | z | z | z | z;exact Z1D k1 m z.symm;exact f2 z;exact zX m k3 08 z
  exact zX m F 08 z;exact zX m k5 08 z;exact zX m s 08 z;exact zX m N 08 z;rcases mem z with z | z | z | z | z | z | z;exact zX r k1 08 z
  exact zX r k2 08 z;exact y z;exact zX r F 08 z;exact B z;exact zX r s 08 z;exact g1 z.symm;rcases mem z with z | z | z | z | z | z | z;exact zX w k1 08 z
  exact zX w k2 08 z;exact zX w k3 08 z;exact f4 z;exact zX w k5 08 z;exact zX w s 08 z;exact zX w N 08 z;rcases mem z with z | z | z | z | z | z | z;exact zX q k1 08 z
  exact zX q k2 08 z;exact I z.symm;exact zX q F 08 z;exact H z;exact zX q s 08 z;exact g2 z.symm
 have there:∀ {b c:Addr},G b=none->(∃ o,G c=some o)->b≠c:=λD ⟨o,hc⟩ z=>by rw[z,hc] at D;cases D
 have l:∀ j,j<2->j≠i->p'≠p j/\pd'≠pd j/\ol'≠ol j/\pd'≠ol j/\pd j≠ol':=λj f ne=>by
  obtain⟨f1,f2,y,f4,H,B⟩:=T.far i j hi f (Z32 ne);obtain⟨_,_,_,_,_,I⟩:=T.far j i f hi ne;obtain⟨_,⟨_,_,m⟩,⟨_,r⟩,_,⟨_,q⟩⟩:=(T.sd j f).kinds;refine⟨?_,?_,?_,?_,?_⟩;rcases fp with rfl | h;exact f2;exact there h ⟨_,m⟩;rcases fd with rfl | h;exact y;exact there h ⟨_,r⟩;rcases E with rfl | h;exact H;exact there h ⟨_,q⟩;rcases fd with rfl | h;exact B;exact there h ⟨_,q⟩;rcases E with rfl | h;exact I;exact (there h ⟨_,r⟩).symm
 refine⟨λj f=>?_,lists T.ld n1 P nL.1.symm,lists T.ls U Q nL.2.1.symm,lists T.lh X Y nL.2.2.symm,λa b ha D ne=>?_,λj f=>?_⟩;by_cases c:j=i;subst c;simp only[ZW];exact x;simp only[yq _ _ c];exact other j f c;obtain⟨f1,f2,y,f4,H,B⟩:=T.far a b ha D ne;by_cases ca:a=i;subst ca;have cb:b≠a:=Z32 ne;obtain⟨L,J,M,S,R⟩:=l b D cb;simp only[ZW,yq _ _ cb];exact⟨f1,L,J,f4,M,S⟩;by_cases cb:b=i;subst cb;obtain⟨L,J,M,S,R⟩:=l a ha ca;simp only[ZW,yq _ _ ca];exact⟨f1,L.symm,J.symm,f4,M.symm,R⟩;simp only[yq _ _ ca,yq _ _ cb];exact⟨f1,f2,y,f4,H,B⟩;by_cases c:j=i;subst c;simp only[ZW];refine⟨?_,?_,?_,?_,?_,?_⟩;rcases fd with rfl | h;exact n1;exact (there h ⟨_,T.ld⟩).symm;rcases E with rfl | h;exact P;exact (there h ⟨_,T.ld⟩).symm;rcases fd with rfl | h;exact U;exact (there h ⟨_,T.ls⟩).symm;rcases E with rfl | h;exact Q;exact (there h ⟨_,T.ls⟩).symm;rcases fd with rfl | h;exact X;exact (there h ⟨_,T.lh⟩).symm;rcases E with rfl | h;exact Y;exact (there h ⟨_,T.lh⟩).symm;simp only[yq _ _ c];exact T.nl j f
def z5w{α:Type}(f:Nat->α)(i:Nat):yR f i (f i)=f:=funext λj=>by
 unfold yR;split;rename_i h;rw[h];rfl
def two(h:t<2):t=0\/t=1:=00
def at2{f:Nat->Addr}(a:t<2):JL [V.ref (f 0),.ref (f 1)] ((t:Nat):Int)=some (.ref (f t)):=by
 rcases two a with rfl | rfl <;> rfl
def Z4k(h0:0<=z)(b:z<11):∃ h:Hd,JL (hds.map λh=>V.str h.tx) z=some (.str h.tx):=by
 obtain⟨q,rfl⟩:∃ q:Nat,z=(q:Int):=⟨z.toNat,00⟩;have a:q<hds.length:=by show q<11;lia
 exact⟨hds[q],Zi (by rw[Z17,Z03 a];rfl)⟩
structure Run(K:FR)(C Cd tb:Addr)(pos:Pos)(H G:Hp)(LD LS LH:Addr)(d p pd lp st ol:Nat->Addr)(n:Nat->Nat)(ps:Nat->LI)(Ws:Nat->List Wb)(A:Nat->Int×Int):Prop where
 T:Two K C Cd tb pos G LD LS LH d p pd lp st ol n ps Ws A
 x:Kx [tb] H G
 f:∀ i,i<2->H (d i)=none/\H (p i)=none/\H (pd i)=none/\H (st i)=none/\H (ol i)=none
structure Vu(H G:Hp)(LD LS LH:Addr)(pd ol:Nat->Addr)(dk:Addr)(zs:List V):Prop where
 e:G dk=some (.lst zs)
 nk:∀ j,j<2->dk≠pd j/\dk≠ol j
 nL:dk≠LD/\dk≠LS/\dk≠LH
 g:H dk=none
def Run.same{st:Nat->Addr}{n:Nat->Nat}(R:Run K C Cd tb zU H G LD LS LH d p pd lp st ol n ps Ws A)(s:zC G G'):Run K C Cd tb zU H G' LD LS LH d p pd lp st ol n ps Ws A:=⟨R.T.same s,R.x.trans s.kx,R.f⟩
def Vu.same(b:Vu H G LD LS LH pd ol dk zs)(s:zC G G'):Vu H G' LD LS LH pd ol dk zs:={ b with e:=s _ _ b.e }
def Run.tab{st:Nat->Addr}{n:Nat->Nat}(R:Run K C Cd tb zU H G LD LS LH d p pd lp st ol n ps Ws A):Tab tb zU Yl G:=(R.T.sd 0 01).h.h.t
def Run.bes{st:Nat->Addr}{n:Nat->Nat}(R:Run K C Cd tb zU H G LD LS LH d p pd lp st ol n ps Ws A)(s:zC G G')(m:G dk=none)(e:G' dk=some (.lst zs)):Run K C Cd tb zU H G' LD LS LH d p pd lp st ol n ps Ws A/\Vu H G' LD LS LH pd ol dk zs:=by
 refine⟨R.same s,e,λj c=>?_,⟨(zh R.T.ld m).symm,(zh R.T.ls m).symm,(zh R.T.lh m).symm⟩,R.tab.out R.x m⟩;obtain⟨_,_,⟨_,a⟩,_,⟨_,b⟩⟩:=(R.T.sd j c).kinds;exact⟨(zh a m).symm,(zh b m).symm⟩
def Run.to{st:Nat->Addr}{n:Nat->Nat}(R:Run K C Cd tb zU H G LD LS LH d p pd lp st ol n ps Ws A)(b:Vu H G LD LS LH pd ol dk zs)(hi:i<2)(k:Kx [d i,p i,pd i,st i,ol i,tb,dk] G G')(u:KU G G')(s:G' dk=some (.lst zs'))(y:xy K C Cd tb zU G' (d i) p' pd' lp' (st i) ol' n' ps' Ws' A')(fp:p'=p i\/G p'=none)(fd:pd'=pd i\/G pd'=none)(l:ol'=ol i\/G ol'=none) :
 Run K C Cd tb zU H G' LD LS LH d (yR p i p') (yR pd i pd') (yR lp i lp') st (yR ol i ol') (yR n i n') (yR ps i ps') (yR Ws i Ws') (yR A i A')/\Vu H G' LD LS LH (yR pd i pd') (yR ol i ol') dk zs':=by
 have out:∀ {c m:Addr},H m=none->(c=m\/G c=none)->H c=none:=λh z=>by
  rcases z with rfl | z;exact h;exact R.tab.out R.x z
 obtain⟨f1,f2,r,f4,q⟩:=R.f i hi;refine⟨⟨R.T.move hi k u b.e b.nk b.nL y fp fd l,λc o e nb=>k _ _ (R.x c o e nb) λz=>?_,λj a=>?_⟩,s,λj a=>?_,b.nL,b.g⟩;simp only[Z08,Z3a,or_false] at z nb;rcases z with rfl | rfl | rfl | rfl | rfl | rfl | rfl;rw[f1] at e;cases e;rw[f2] at e;cases e;rw[r] at e;cases e;rw[f4] at e;cases e;rw[q] at e;cases e;exact nb rfl;rw[b.g] at e;cases e;by_cases c:j=i;subst c;simp only[ZW];exact⟨f1,out f2 fp,out r fd,f4,out q l⟩;simp only[yq _ _ c];exact R.f j a;by_cases c:j=i;subst c;simp only[ZW];refine⟨?_,?_⟩;rcases fd with rfl | z;exact (b.nk j a).1;exact zh b.e z;rcases l with rfl | z;exact (b.nk j a).2;exact zh b.e z;simp only[yq _ _ c];exact b.nk j a
def Kx.sub(k:Kx S G G')(h:∀ b∈S,b∈U):Kx U G G':=λb o e nb=>k b o e λz=>nb (h b z)
def Vu.kp(b:Vu H G LD LS LH pd ol dk zs)(k:Kp l G G')(n:dk≠l):Vu H G' LD LS LH pd ol dk zs:={ b with e:=k _ _ b.e n }
def Run.wr{st:Nat->Addr}{n:Nat->Nat}(R:Run K C Cd tb zU H G LD LS LH d p pd lp st ol n ps Ws A)(b:Vu H G LD LS LH pd ol dk zs)(h:G' dk=some (.lst zs'))(k:Kp dk G G'):Run K C Cd tb zU H G' LD LS LH d p pd lp st ol n ps Ws A/\Vu H G' LD LS LH pd ol dk zs':=by
 have u:KU G G':=k.ku (.inl ⟨_,b.e⟩);have kx:Kx [dk] G G':=k.kx 05;have t:=R.tab.kp k b.e;have nn:∀ {c:Addr}{o:HO},G c=some o->(∀ xs,o≠.lst xs)->c∉[dk]:=λ{c o} e nl z=>by
  rw[Z01.mp z,b.e] at e;cases e;exact nl _ rfl
 refine⟨⟨{ R.T with sd:=λj a=>?_,ld:=k _ _ R.T.ld b.nL.1.symm,ls:=k _ _ R.T.ls b.nL.2.1.symm,lh:=k _ _ R.T.lh b.nL.2.2.symm },k.kxn R.x b.g,R.f⟩,h,b.nk,b.nL,b.g⟩;obtain⟨⟨_,a1⟩,⟨_,_,a2⟩,_,⟨_,a4⟩,_⟩:=(R.T.sd j a).kinds;exact (R.T.sd j a).kx kx u t (nn a1 λ_ z=>by cases z) (nn a2 λ_ z=>by cases z) (λz=>(b.nk j a).1 (Z01.mp z).symm) (nn a4 λ_ z=>by cases z) (λz=>(b.nk j a).2 (Z01.mp z).symm)
def Run.draw{st:Nat->Addr}{n:Nat->Nat}(R:Run K C Cd tb zU H G LD LS LH d p pd lp st ol n ps Ws A)(b:Vu H G LD LS LH pd ol dk zs)(hd:zO G' dk B)(k:Kp dk G G'):Run K C Cd tb zU H G' LD LS LH d p pd lp st ol n ps Ws A/\∃ zs',Vu H G' LD LS LH pd ol dk zs':=by
 obtain⟨xs,a⟩:=hd.lst;obtain⟨r,q⟩:=R.wr b a k;exact⟨r,xs,q⟩
def X0.kxs{st ol:Addr}(D:X0 K C Cd tb zU G d p pd lp n ps Ws A)(k:Kx S G G')(u:KU G G')(t:Tab tb zU Yl G')(b:d∉S)(f:p∉S)(c:pd∉S):X0 K C Cd tb zU G' d p pd lp n ps Ws A:=by
 obtain⟨dx,a⟩:=D.h.o;exact⟨⟨⟨dx,k _ _ a b⟩,{ D.h.s with l:=D.h.s.l.kx k u f c,fA:=u.tup _ _ D.h.s.fA },t⟩,D.up,D.old⟩
def Run.told{st:Nat->Addr}{n:Nat->Nat}{mg:SV}{x:Nat}{h:Hd}(R:Run K C Cd tb zU H G LD LS LH d p pd lp st ol n ps Ws A)(hi:i<2)(an:AnX P w K mg base fz Xl h.tx h.nr (h.sp K C Xl tb zU))(m:(Ws i).length<=5000)(l:x<100)(f:y<100)(j:h=.pass->(ps i).length+6<=60)(k:∀ a n' ps' Ws' G',z2l (A i) h x y (n i) (ps i) (Ws i) a n' ps' Ws'->X0 K C Cd tb zU G' (d i) (p i) (pd i) (lp i) n' ps' Ws' (A i)->Kx [p i,pd i,tb] G G'->Q (.str a) G'):Ja P w K mg base fz C Cd Xl Xt Xm [.ref (d i),.str (h.cm x y)] G Q E :=
 ⟨d i,h.cm x y,rfl,λQ' c=>Z3A (R.T.sd i hi).h an m l f j (λa n' ps' Ws' G' nb r D kx=>c _ _ (k a n' ps' Ws' G' (.inr ⟨nb,r⟩) D kx)) λb G' s=>⟨Xl,rfl,.inl ⟨rfl,k nlT (n i) (ps i) (Ws i) G' (.inl ⟨b,rfl,rfl,rfl,rfl⟩) ((R.T.sd i hi).h.same s) s.kx⟩⟩⟩
def Run.Z5S{st:Nat->Addr}{n:Nat->Nat}{mg:SV}{due:Str}(R:Run K C Cd tb zU H G LD LS LH d p pd lp st ol n ps Ws A)(hi:i<2)(an:∀ h:Hd,AnX P w K mg base fz Xl h.tx h.nr (h.sp K C Xl tb zU))(a:fz (Str.ofString "leap")=none)(c:fz (Str.ofString "web")=none)(f:fz (Str.ofString "Show")=none)(b:Z3c t due)(k:∀ G',zC G G'->Q (.str due) G'):Ja P w K mg base fz C Cd Xl Xt Xm [.ref (d i),.str t] G Q E :=
 ⟨d i,t,rfl,λQ' j=>Z0T (R.T.sd i hi).h an a c f b (λe G' s=>⟨Xt,rfl,.inr (.inl ⟨rfl,e ▸ k G' s⟩)⟩) λe G' s=>⟨Xm,rfl,.inr (.inr ⟨rfl,e ▸ k G' s⟩)⟩⟩
def Run.due{st:Nat->Addr}{n:Nat->Nat}{x:Nat}{Ws':List Wb}(R:Run K C Cd tb zU H G LD LS LH d p pd lp st ol n ps Ws A)(b:Vu H G LD LS LH pd ol dk zs)(hi:i<2)(hz:(Ws i).length<=5000)(Z:h=.pass->(ps i).length+6<=60)(o:z2l (A i) h x y (n i) (ps i) (Ws i) a n' ps' Ws')(D:X0 K C Cd tb zU G' (d i) (p i) (pd i) (lp i) n' ps' Ws' (A i))(kx:Kx [p i,pd i,tb] G G')(k:∀ G'',Ws'.length<=(Ws i).length+1->Run K C Cd tb zU H G'' LD LS LH d p pd lp st ol (yR n i n') (yR ps i ps') (yR Ws i Ws') A->Vu H G'' LD LS LH pd ol dk zs->Q (.str a) G''):Jz K tb zU h x y (st i) G' Q:=by
 have S:=R.T.sd i hi;obtain⟨⟨dx,k1⟩,⟨dl,now,k2⟩,⟨us,k3⟩,⟨kv,B⟩,⟨vs,k5⟩⟩:=S.kinds;obtain⟨ts,M⟩:=R.tab.XH;have E:∀ {c:Addr},c∈[p i,pd i,tb]->c=p i\/c=pd i\/c=tb:=λh=>by simpa using h
 have X:=S.h.h.ku kx;have n1:st i∉[p i,pd i,tb]:=λz=>by
  rcases E z with z | z | z;exact zX B k2 08 z
  exact zX B k3 08 z;exact zX B M 08 z
 have O:ol i∉[p i,pd i,tb]:=λz=>by
  rcases E z with z | z | z;exact zX k5 k2 08 z
  exact S.ne z.symm;exact zX k5 M 08 z
 have nd:dk∉[p i,pd i,tb]:=λz=>by
  rcases E z with z | z | z;have:=b.e;rw[z,k2] at this;cases this;exact (b.nk i hi).1 z;have:=b.e;rw[z,M] at this;cases this
 have s1:=S.s.kx kx X n1 O;have f:=kx _ _ B n1;have m:=kx _ _ k5 O;have u:=kx _ _ b.e nd;refine⟨ol i,n i,ps i,Ws i,A i,s1,D.h.t,S.h.okl,S.h.old,hz,⟨S.h.h.s.ca,S.h.h.s.a0,S.h.h.s.a1⟩,⟨S.h.h.s.sA,S.a3⟩,Z,λa2 n2' ps2 Ws2 G2 o2 s2 Y j=>?_⟩;obtain⟨rfl,rfl,rfl,rfl⟩:=z2l.uniq S.h.h.s o2 o;obtain⟨⟨ex,L⟩,⟨el,P,I⟩,⟨eus,N⟩,_⟩:(∃ dx,G' (d i)=some (.ins Cd dx (dkF (p i))))/\(∃ dl now,G' (p i)=some (.ins C dl (JA now (lp i) (pd i))))/\(∃ us,G' (pd i)=some (.lst us))/\True:=by
  obtain⟨now,us,⟨⟨dl,hl⟩,F⟩,_⟩:=id D.h.s.l;exact⟨D.h.o,⟨dl,now,hl⟩,⟨_,F⟩,trivial⟩
 obtain⟨ts',w⟩:=D.h.t.XH;have v:∀ {c:Addr},c∈[st i,ol i,tb]->c=st i\/c=ol i\/c=tb:=λh=>by simpa using h
 have U:KU G' G2:=by
  constructor <;> intros <;> refine j _ _ (by assumption) λz=>?_ <;> rename_i e <;> rcases v z with z | z | z <;> first | (rw[z,f] at e;cases e) | (rw[z,m] at e;cases e) | (rw[z,w] at e;cases e)
 have D2:=D.kxs (st:=st i) (ol:=ol i) j U Y (λz=>by
  rcases v z with z | z | z;exact zX L f 08 z
  exact zX L m 08 z;exact zX L w 08 z) (λz=>by
  rcases v z with z | z | z;exact zX I f 08 z
  exact zX I m 08 z;exact zX I w 08 z) (λz=>by
  rcases v z with z | z | z;exact zX N f 08 z
  exact S.ne z;exact zX N w 08 z)
 have J:G2 dk=some (.lst zs):=j _ _ u λz=>by
  rcases v z with z | z | z;exact zX u f 08 z
  exact (b.nk i hi).2 z;exact zX u w 08 z
 have kk:Kx [d i,p i,pd i,st i,ol i,tb,dk] G G2:=λc q e nb=>j _ _ (kx _ _ e λz=>nb (by rcases E z with z | z | z <;> simp[z])) λz=>nb (by rcases v z with z | z | z <;> simp[z])
 have r:=R.to b hi kk (X.trans U) J ⟨D2,s2,S.a3,S.ne⟩ (.inl rfl) (.inl rfl) (.inl rfl);simp only[z5w] at r;refine k G2 ?_ r.1 r.2;rcases o with⟨_,_,_,_,rfl⟩|⟨_,o⟩;lia;cases h with
 | link=>obtain⟨_,_,_,_,rfl⟩:=o;simp
 | unlink=>obtain⟨_,_,_,rfl⟩:=o;simp
 | page=>obtain⟨_,_,_,rfl⟩:=o;simp
 | undo =>
   rcases o with⟨_,_,_,_,rfl⟩|⟨e,_⟩;lia;rw[e];simp;lia
 | «show»=>obtain⟨_,_,_,rfl⟩:=o;lia
 | share=>obtain⟨_,_,_,rfl⟩:=o;lia
 | rank=>obtain⟨_,_,_,rfl⟩:=o;lia
 | pass=>obtain⟨_,_,_,rfl⟩:=o;lia
def z6d:qS [] [(US,.ref wa),(UT,.ref la),(UL,.ref ol)]=ZS wa la ol:=by
 unfold qS;show putK (putK (putK [] US (.ref wa)) UT (.ref la)) UL (.ref ol)=_;unfold ZS;simp[putK,yz,Z32 yz.1,Z32 yz.2.1,Z32 yz.2.2]
noncomputable def Z5J(K:FR)(n:Nat)(t:TGs):TG:=λv σ H Q=>∃ a xs,v=.ref a/\zN K H a xs/\xs.length=n/\t xs σ H Q
def Z3E{k:Nat}{pos:Pos}(l:X.calm=true)(h:PGs X es t)(hn:(assignEach es X.env).length=n:=by rfl)(c:(assignEach es X.env).findIdx? (·.1)=none:=by rfl):PG X (.Tuple es k pos) (Z5J X.K n t):=by
 intro pins s σ H v u Q I r hw;obtain⟨a,xs,j,i,m,hw⟩:=hw;subst j;cases r;obtain⟨its,d,pl,p⟩:=I.list i;rw[assign_Tuple];refine wpAny_bind (wpAny_standAt ?_);unfold unpack;have e:(assignEach es X.env).length=its.toArray.size:=by simp[hn,← m,d.length]
 rw[e,c];refine wpAny_bind (wpAny_holding (PySem.W.kun_itemsOf (I.ok.hd l) pl.isList λh' f=>?_));have I1:Inv X pins σ H { s with heap:=h' }:=I.kept (t':=s.toks) λb o e=>f b o (Z14 (Z0k e)) e;exact h pins _ σ H xs _ Q I1 (by simpa using d) hw
noncomputable def f2{α:Type}(a b:α):Nat->α
 | 0=>a | _=>b
def Run.start{q0 q1:Addr}(h0:Ds K C Cd tb zU G d0 p0 q0 l0 1 [] [] (1,2))(A:Ds K C Cd tb zU G d1 p1 q1 l1 1 [] [] (1,2))(w:UK K G s0 o0 (((1:Nat):Int),[]) [] (1,2))(z:UK K G s1 o1 (((1:Nat):Int),[]) [] (1,2))(x:Kx [tb] H G)(ld:G LD=some (.lst [.ref d0,.ref d1]))(ls:G LS=some (.lst [.ref s0,.ref s1]))(lh:G LH=some (.lst (hds.map λh=>V.str h.tx)))(f:H d0=none/\H p0=none/\H q0=none/\H s0=none/\H o0=none)(g:H d1=none/\H p1=none/\H q1=none/\H s1=none/\H o1=none)(n:d0≠d1/\p0≠p1/\q0≠q1/\s0≠s1/\o0≠o1)(m:q0≠o0/\q0≠o1/\q1≠o0/\q1≠o1)(nl:∀ b∈[q0,q1,o0,o1],LD≠b/\LS≠b/\LH≠b):Run K C Cd tb zU H G LD LS LH (f2 d0 d1) (f2 p0 p1) (f2 q0 q1) (f2 l0 l1) (f2 s0 s1) (f2 o0 o1) (λ_=>1) (λ_=>[]) (λ_=>[]) (λ_=>(1,2)):=by
 obtain⟨n1,q,p,s,r⟩:=n;obtain⟨t,B,u,y⟩:=m;refine⟨⟨λi hi=>?_,ld,ls,lh,λi j hi v ne=>?_,λi hi=>?_⟩,x,λi hi=>?_⟩;rcases two hi with rfl | rfl;exact⟨⟨h0,.nil,nofun⟩,w,01,t⟩;exact⟨⟨A,.nil,nofun⟩,z,01,y⟩;rcases two hi with rfl | rfl <;> rcases two v with rfl | rfl;exact absurd rfl ne;exact⟨n1,q,p,s,r,B⟩;exact⟨n1.symm,q.symm,p.symm,s.symm,r.symm,u⟩;exact absurd rfl ne;rcases two hi with rfl | rfl;obtain⟨a,b,c⟩:=nl q0 05;obtain⟨o,d,l⟩:=nl o0 05;exact⟨a,o,b,d,c,l⟩;obtain⟨a,b,c⟩:=nl q1 05;obtain⟨o,d,l⟩:=nl o1 05;exact⟨a,o,b,d,c,l⟩;rcases two hi with rfl | rfl;exact f;exact g
def z4d(a:H d=none)(c:H dx=none):zC H (upd (upd H dx o1) d o2):=λb o e=>by rw[zD (zh e a),zD (zh e c)];exact e
noncomputable def StN(K:FR)(B G:Hp)(st ol:Addr):Prop:=UK K G st ol (((1:Nat):Int),[]) [] (1,2)/\B st=none/\B ol=none
noncomputable def z9C(K:FR)(B G:Hp)(j:Nat)(a:List V):Prop:=(j=0/\a=[])\/(j=1/\∃ st ol,a=[.ref st]/\StN K B G st ol)\/(j=2/\∃ s0 o0 s1 o1,a=[.ref s0,.ref s1]/\StN K B G s0 o0/\StN K B G s1 o1/\s0≠s1/\o0≠o1)
def StN.kx{st:Addr}(h:StN K B G st ol)(k:Kx S G G')(u:KU G G')(n1:st∉S)(a:ol∉S):StN K B G' st ol:=⟨h.1.kx k u n1 a,h.2⟩
def z9C.next{st:Addr}(h:z9C K B G j ys)(R:j<2)(y:Kp LS B G)(Q:KU B G)(l:G LS=some (.lst ys))(v:∃ o,B LS=some o)(a:G st=none)(s:zC (upd G st (.dK [])) Gd)(F:Gd et=some (.tup []))(N:Gd wa=some (.tup [.int 1,.ref et]))(L:Gd la=some (.tup [.int 1,.int 2]))(u:G ol=none)(H:Gd ol=some (.lst [])) :
 upd Gd st 031 LS=some (.lst ys)/\ys.length<sizeLine/\(Kp LS B 012/\KU B 012)/\z9C K B 012 (j+1) (ys ++ [.ref st]):=by
 have f:zC G (upd Gd st 031):=λb o e=>by
  rw[zD (zh e a)];exact s b o (zC.new a b o e)
 have M:Gd st=some (.dK []):=s _ _ zB;have i:∀ {b:Addr}{o:HO},Gd b=some o->(∀ x,o≠.dK x)->upd Gd st 031 b=some o:=λ{b o} e n=>by
  rw[zD (λz=>by rw[z,M] at e;cases e;exact n _ rfl)];exact e
 have S0:UK K (upd Gd st 031) st ol (((1:Nat):Int),[]) [] (1,2):=⟨wa,la,[],zB,⟨et,[],i N 017,i F 017,(by unfold Zm;simp only[Z3N,Zh])⟩,i L 017,i H 017,UJ.nil⟩;have t:LS≠st:=zh l a;have r:LS≠ol:=zh l u;have d:=f _ _ l;have p:Kp LS (upd Gd st 031) 012:=Kp.set;have m:=p.ku (.inl ⟨_,d⟩);have w:Kx [LS] (upd Gd st 031) 012:=p.kx 05;have c:∀ {b:Addr},G b=none->B b=none:=λ{b} h=>by
  cases z:B b with
  | none=>rfl
  | some o =>
    by_cases q:b=LS;rw[q,l] at h;cases h;rw[y b o z q] at h;cases h
 have N0:StN K B 012 st ol:=StN.kx ⟨S0,c a,c u⟩ w m (by simp[t.symm]) (by simp[r.symm]);have C:Kp LS B 012:=y.trans (f.kp.trans p);have old:∀ {s0 o0:Addr},StN K B G s0 o0->StN K B 012 s0 o0/\s0≠st/\o0≠ol:=λ{s0 o0} h=>by
  obtain⟨⟨D,P,I,q1,q2,q3,q4,q5⟩,b1,b2⟩:=id h;have t1:s0∉[LS]:=λz=>by obtain⟨o,e⟩:=v;rw[Z01.mp z,e] at b1;cases b1
  have A:o0∉[LS]:=λz=>by obtain⟨o,e⟩:=v;rw[Z01.mp z,e] at b2;cases b2
  exact⟨StN.kx (⟨h.1.same f,h.2⟩:StN K B _ s0 o0) w m t1 A,zh q1 a,zh q4 u⟩
 refine⟨d,?_,⟨C,Q.trans (f.ku.trans m)⟩,?_⟩;rcases h with⟨_,rfl⟩|⟨_,_,_,rfl,_⟩|⟨_,_,_,_,_,rfl,_⟩ <;> (rw[sizeLine_eq];first | (show 0<16777216;decide) | (show 1<16777216;decide) | (show 2<16777216;decide))
 rcases h with⟨rfl,rfl⟩|⟨rfl,s0,o0,rfl,h0⟩|⟨rfl,_⟩;exact .inr (.inl ⟨rfl,st,ol,rfl,N0⟩);obtain⟨O,E,J⟩:=old h0;exact .inr (.inr ⟨rfl,s0,o0,st,ol,rfl,O,N0,E,J⟩);lia
noncomputable def hd6:List Hd:=[.show,.rank,.share,.undo,.show,.undo]
def Z2A{i:Nat}{x:V}(h:(hd6.map λh=>V.str h.tx)[i]?=some x):∃ h:Hd,x=.str h.tx/\h≠.pass:=by
 rw[Z17] at h;obtain⟨q,a,rfl⟩:=Option.map_eq_some_iff.mp h;refine⟨q,rfl,?_⟩;have:=Z1q a;rintro rfl;simp[hd6] at this
def Run.ls{st:Nat->Addr}{n:Nat->Nat}(R:Run K C Cd tb zU H G LD LS LH d p pd lp st ol n ps Ws A)(hi:i<2)(k:Kx [p i,pd i,tb] G G'):G' LS=some (.lst [.ref (st 0),.ref (st 1)]):=k _ _ R.T.ls λz=>by
 obtain⟨_,⟨_,_,a2⟩,_⟩:=(R.T.sd i hi).kinds;have e:=R.T.ls;simp only[Z08,Z3a,or_false] at z;rcases z with z | z | z;exact zX e a2 08 z
 exact (R.T.nl i hi).2.2.1 z;exact R.tab.ne e 017 z
noncomputable def z6T(K:FR)(C Cd tb:Addr)(zU:Pos)(H:Hp)(a LD LS LH:Addr)(d st:Nat->Addr)(j:Nat)(σ:St)(G:Hp):Prop:=∃ (p pd lp ol:Nat->Addr) (n:Nat->Nat) (ps:Nat->LI) (Ws:Nat->List Wb) (A:Nat->Int×Int) (v:Int),Run K C Cd tb zU H G LD LS LH d p pd lp st ol n ps Ws A/\(∀ i,i<2->(Ws i).length<=j)/\∃ w:Nat->Option V,σ=[some 027,some (.ref LD),some (.ref LS),some (.ref LH),some (.int v),w 5,w 6,w 7,w 8,w 9,w 10,w 11,w 12,w 13,w 14,w 15]
noncomputable def z7v(K:FR)(C Cd tb:Addr)(zU:Pos)(H:Hp)(a LD LS LH:Addr)(d st:Nat->Addr)(q:Nat)(σ:St)(G:Hp):Prop:=∃ (p pd lp ol:Nat->Addr) (n:Nat->Nat) (ps:Nat->LI) (Ws:Nat->List Wb) (A:Nat->Int×Int),Run K C Cd tb zU H G LD LS LH d p pd lp st ol n ps Ws A/\(∀ i,i<2->(Ws i).length<=40+6 * q)/\∃ w:Nat->Option V,σ=[some 027,some (.ref LD),some (.ref LS),some (.ref LH),w 4,w 5,w 6,w 7,w 8,w 9,w 10,w 11,w 12,w 13,w 14,w 15]
noncomputable def LawC(K:FR)(C Cd tb:Addr)(zU:Pos)(H:Hp)(a LD LS LH LX:Addr)(d st:Nat->Addr)(q e:Nat)(σ:St)(G:Hp):Prop:=∃ (p pd lp ol:Nat->Addr) (n:Nat->Nat) (ps:Nat->LI) (Ws:Nat->List Wb) (A:Nat->Int×Int),Run K C Cd tb zU H G LD LS LH d p pd lp st ol n ps Ws A/\Vu H G LD LS LH pd ol LX (hd6.map λh=>V.str h.tx)/\(∀ i,i<2->(Ws i).length<=40+6 * q+e)/\∃ w:Nat->Option V,σ=[some 027,some (.ref LD),some (.ref LS),some (.ref LH),w 4,w 5,w 6,some (.int (0+(q:Int))),w 8,w 9,w 10,w 11,w 12,w 13,w 14,w 15]
noncomputable def Z6n(K:FR)(C Cd tb:Addr)(zU:Pos)(H:Hp)(LD LS LH:Addr)(d p pd lp st ol:Nat->Addr)(n:Nat->Nat)(ps:Nat->LI)(Ws:Nat->List Wb)(A:Nat->Int×Int)(dk LQ a:Addr)(B q:Nat)(b:List V)(σ:St)(G:Hp):Prop:=∃ (B':Nat) (zs:List V) (x:Option V),Run K C Cd tb zU H G LD LS LH d p pd lp st ol n ps Ws A/\Vu H G LD LS LH pd ol dk zs/\zO G dk B'/\B'<=B+1+2 * q/\Vu H G LD LS LH pd ol LQ b/\b.length=q/\(∀ u∈b,∃ z:Nat,u=.int (z:Int)/\z<100)/\σ=[x,some (.ref dk),some 027]
def z6T.of{st:Nat->Addr}{n:Nat->Nat}(R:Run K C Cd tb zU H G LD LS LH d p pd lp st ol n ps Ws A)(b:∀ i,i<2->(Ws i).length<=j):z6T K C Cd tb zU H a LD LS LH d st j [some 027,some (.ref LD),some (.ref LS),some (.ref LH),some (.int v),x5,x6,x7,x8,x9,x10,x11,x12,x13,x14,x15] G:=⟨p,pd,lp,ol,n,ps,Ws,A,v,R,b,λi=>[none,none,none,none,none,x5,x6,x7,x8,x9,x10,x11,x12,x13,x14,x15].getD i none,rfl⟩
def z7v.of{st:Nat->Addr}{n:Nat->Nat}(R:Run K C Cd tb zU H G LD LS LH d p pd lp st ol n ps Ws A)(b:∀ i,i<2->(Ws i).length<=40+6 * q):z7v K C Cd tb zU H a LD LS LH d st q [some 027,some (.ref LD),some (.ref LS),some (.ref LH),x4,x5,x6,x7,x8,x9,x10,x11,x12,x13,x14,x15] G:=⟨p,pd,lp,ol,n,ps,Ws,A,R,b,λi=>[none,none,none,none,x4,x5,x6,x7,x8,x9,x10,x11,x12,x13,x14,x15].getD i none,rfl⟩
def LawC.of{st:Nat->Addr}{n:Nat->Nat}{e:Nat}(R:Run K C Cd tb zU H G LD LS LH d p pd lp st ol n ps Ws A)(b:Vu H G LD LS LH pd ol LX (hd6.map λh=>V.str h.tx))(c:∀ i,i<2->(Ws i).length<=40+6 * q+e):LawC K C Cd tb zU H a LD LS LH LX d st q e [some 027,some (.ref LD),some (.ref LS),some (.ref LH),x4,x5,x6,some (.int (0+(q:Int))),x8,x9,x10,x11,x12,x13,x14,x15] G:=⟨p,pd,lp,ol,n,ps,Ws,A,R,b,c,λi=>[none,none,none,none,x4,x5,x6,none,x8,x9,x10,x11,x12,x13,x14,x15].getD i none,rfl⟩
def z6L{a:List V}(i:a.length=2)(d:∀ u∈a,∃ z:Nat,u=.int (z:Int)/\z<100):∃ x y:Nat,a=[.int (x:Int),.int (y:Int)]/\x<100/\y<100:=by
 obtain⟨c,b,rfl⟩:∃ c b,a=[c,b]:=by rcases a with _ |⟨c,_ |⟨b,_ |⟨_,_⟩⟩⟩ <;> first | exact⟨c,b,rfl⟩| (simp at i)
 obtain⟨x,rfl,h⟩:=d c 05;obtain⟨y,rfl,f⟩:=d b 05;exact⟨x,y,rfl,h,f⟩
def Yp.anx{mg:SV}{k:Nat}{sp:Sp}(x:Yp K fz hd m nm)(XK:K.In h)(G:h.Ns mainGlobals mg)(D:Yk P w K mg base (Yo P w Xl) k nm ["live","pages"] sp)(i:k<=16):AnX P w K mg base fz Xl hd m sp:=by
 obtain⟨t,f,od,o,n,sl,a,l,b⟩:=x;obtain⟨j,fd,c,d,e,F⟩:=D;rw[Z45 XK G b] at d;cases d;exact⟨t,f,fd,a,λH=>.inr ⟨_,_,_,l,rfl,rfl,zl2,.cons ⟨_,rfl⟩ (.cons rfl .nil)⟩,c,e,F.mono i⟩
def z0d.of(f:a≠b)(i:a≠c)(h:b≠c)(l:PySem.W.mroIn K a (.ref b)=some false)(n:PySem.W.mroIn K a (.ref c)=some false)(o:PySem.W.mroIn K b 027=some false)(m:PySem.W.mroIn K b (.ref c)=some false)(p:PySem.W.mroIn K c 027=some false)(j:PySem.W.mroIn K c (.ref b)=some false):z0d K [a,b,c]:=by
 refine⟨by simp[f,i,h],λC hC D d ne=>?_⟩;simp only[Z08,Z3a,or_false] at hC d;rcases hC with rfl | rfl | rfl <;> rcases d with rfl | rfl | rfl <;> first | exact absurd rfl ne | assumption
end L2
namespace Lw
open L2
noncomputable def top(i:Nat):Stmt:=PySem.Challenge.pw_pagewalks_k55_desk_answers.main.body.getD i (.Pass ⟨0,0,0,0⟩)
noncomputable abbrev z2e:Stmt:=top 6
noncomputable abbrev Xg:Stmt:=top 7
noncomputable abbrev z8U:Stmt:=top 8
noncomputable abbrev Z3l:Stmt:=top 9
noncomputable abbrev z4c:Stmt:=top 10
noncomputable abbrev v5:Stmt:=top 11
noncomputable abbrev z1L:Stmt:=top 12
noncomputable abbrev VT:Stmt:=top 13
noncomputable abbrev QA:Stmt:=top 15
noncomputable abbrev QO:Stmt:=top 16
noncomputable abbrev vF:Stmt:=top 20
noncomputable abbrev yU:Stmt:=top 21
noncomputable abbrev Yv:Stmt:=top 22
noncomputable abbrev uL:Stmt:=top 23
noncomputable abbrev uA:Stmt:=top 24
noncomputable abbrev z6V:Stmt:=top 25
noncomputable abbrev z8k:Stmt:=top 26
noncomputable abbrev z2K:Stmt:=top 28
noncomputable abbrev Jb:Stmt:=top 29
noncomputable abbrev xY:Stmt:=top 30
noncomputable abbrev Ql:Stmt:=top 31
noncomputable abbrev VI:Stmt:=top 32
noncomputable abbrev JE:Stmt:=top 34
noncomputable abbrev z8x:Stmt:=top 37
noncomputable abbrev ua:Stmt:=top 38
noncomputable abbrev Yh:Stmt:=top 43
noncomputable abbrev YC:Stmt:=top 44
noncomputable abbrev yM:Stmt:=top 45
noncomputable abbrev xh:Stmt:=top 46
noncomputable abbrev yy:Stmt:=top 47
noncomputable abbrev YB:Stmt:=top 48
noncomputable abbrev xJ:Stmt:=top 49
noncomputable abbrev yO:Stmt:=top 50
noncomputable abbrev Y7:Stmt:=top 51
noncomputable abbrev YJ:Stmt:=top 53
noncomputable abbrev uO:Stmt:=top 54
noncomputable abbrev Qa:Stmt:=top 55
noncomputable abbrev Yz:Stmt:=top 56
noncomputable abbrev Qu:Stmt:=top 60
noncomputable abbrev YV:Stmt:=top 61
noncomputable abbrev Qc:Stmt:=top 62
noncomputable abbrev Y8:Stmt:=top 63
noncomputable abbrev qC:Stmt:=top 64
noncomputable abbrev X4:Stmt:=top 65
noncomputable abbrev XQ:Stmt:=top 66
noncomputable abbrev xU:Stmt:=top 67
noncomputable abbrev XU:Stmt:=top 68
noncomputable abbrev X9:Stmt:=top 69
noncomputable abbrev xW:Stmt:=top 71
noncomputable abbrev Yb:Stmt:=top 72
noncomputable abbrev qu:Stmt:=top 76
noncomputable abbrev qZ:Stmt:=top 77
noncomputable abbrev z9v:Stmt:=top 78
noncomputable abbrev z2w:Stmt:=top 79
noncomputable abbrev Z8:Stmt:=top 80
noncomputable abbrev X5:Stmt:=top 81
noncomputable abbrev YT:Stmt:=top 82
noncomputable abbrev Qf:Stmt:=top 83
noncomputable abbrev YZ:Stmt:=top 84
noncomputable abbrev XY:Stmt:=top 85
noncomputable abbrev Xb:Stmt:=top 86
noncomputable abbrev vo:Stmt:=top 87
noncomputable abbrev X7:Stmt:=top 88
noncomputable abbrev xx:Stmt:=top 89
noncomputable abbrev xN:Stmt:=top 90
noncomputable abbrev Uj:Stmt:=top 91
noncomputable abbrev Ue:Stmt:=inClass (top 40) 0
noncomputable abbrev Ur:Stmt:=inClass (top 40) 1
noncomputable abbrev vR:Stmt:=inClass (top 40) 2
noncomputable abbrev ux:Stmt:=inClass (top 40) 3
noncomputable abbrev X8:Stmt:=inClass (top 40) 4
noncomputable abbrev Ub:Stmt:=inClass (top 40) 5
noncomputable abbrev uK:Stmt:=inClass (top 40) 6
noncomputable abbrev JR:Stmt:=inClass (top 40) 7
noncomputable abbrev Qe:Stmt:=inClass (top 40) 8
noncomputable abbrev XX:Stmt:=inClass (top 40) 9
noncomputable abbrev XR:Stmt:=inClass (top 73) 0
noncomputable abbrev vq:Stmt:=inClass (top 73) 1
def Qj:zE ["one","other","rest"] ["one","other"] (zo Xg):=fs
def jI{mg:SV}(F:vc K "common" "common" Xg f fd):Zu P w K mg base Yn 1 f fd ["one","other"] YM:=by
 refine F.ok Qj 020 (λcdv A outer s H vs Q E hr h=>?_);obtain⟨x,y,rfl,_⟩:=h;rfl;obtain⟨x,y,rfl,m,j,k⟩:=h;refine⟨_,@qz _ _ _ ⟨Yj (UI PassesOwn.never (yW Qy (pv 1) zI (Yc _)) (Yj (vn (i:=2) Qj.nd rfl 018 (Zr Y6 (pv 0) (pv 1))) (Yj (vn (i:=0) Qj.nd rfl 018 (pv 1)) (ZM (vn (i:=1) Qj.nd rfl 018 (pv 2)))))) (ZM (V1 (pv 0)))⟩,?_⟩;refine z8V (λσ H'=>∃ (a b:Int) (r:Option V),σ=[some (.int a),some (.int b),r]/\0<=a/\0<=b/\Int.gcd a b=Int.gcd x y/\H'=H)
  (λσ _=>match σ with | [_,some (.int b),_]=>b.toNat | _=>0) ⟨x,y,none,rfl,m,j,rfl,rfl⟩ ?_ ?_
 rintro σ H' ⟨a,b,r,rfl,ha,o,d,rfl⟩;refine 028;by_cases h0:b=0;refine ZF (veq h0) ?_;subst h0;refine⟨_,rfl,?_⟩;have e:(a:Int)=(Int.gcd x y:Int):=by rw[← d,Int.gcd_zero_right];lia
 show Q (.int a) _;rw[e];exact k;refine Zy (vne h0) ?_;have c:0<b:=00
 refine⟨_,rfl,_,rfl,_,_,rfl,rfl,c,?_⟩;refine⟨_,rfl,?_⟩;refine⟨_,rfl,?_⟩;refine⟨⟨b,a % b,_,rfl,o,Z5z _ 00,?_,rfl⟩,?_⟩;rw[Pw.z0r ha c,d];show (a % b).toNat<b.toNat;have B:=Z5z a (show b≠0 by lia);have u:=Int.emod_lt_of_pos a c;lia;rintro σ H' q C t ⟨v,e,l,p,n,z⟩;exact⟨v,e,l,p,n,t _ _ z⟩
def z7V(x:Int):0<=(if x<0 then -x else x):=by split <;> lia
def z9U(x y:Int):Int.gcd (if x<0 then -x else x) (if y<0 then -y else y)=Int.gcd x y:=by
 split <;> split <;> simp[Int.neg_gcd,Int.gcd_neg]
def Z2l{x:Int}(h:Sz n y)(a:y≠0):Sz n (Int.gcd x y:Int):=by
 show (Int.gcd x y:Int).natAbs<2 ^ n;have:Int.gcd x y<=y.natAbs:=Nat.le_of_dvd 00 (Int.gcd_dvd_natAbs_right ..);have h':y.natAbs<2 ^ n:=h;lia
def z3h:zE ["above","below","divisor"] ["above","below"] (zo z4c):=fs
def z9u{mg:SV}(F:vc K "made" "made" z4c f fd)(zabs:mg "abs"=none)(FC:vc K "common" "common" Xg fC fdC)(l:mg "common"=some (.ref fC))(m:Binds K fdC ["one","other"] []) :
 Zu P w K mg base Yn 2 f fd ["above","below"] Z2b:=by
 have GC:Zu P w K mg base Yn 1 fC fdC ["one","other"] YM:=jI FC;refine F.ok z3h 020 (λcdv A outer s H vs Q E hr h=>?_);obtain⟨x,y,rfl,_⟩:=h;rfl;obtain⟨x,y,rfl,d,n,j,k⟩:=h;refine⟨_,@qz _ _ _ ⟨Yj (vn (i:=2) z3h.nd rfl 018 (Jt GC hr rfl l FC.kp m .nil XI (YW (ZQ Uk 02 zabs boot_abs (YW (pv 0) zF)) (YW (ZQ Uk 02 zabs boot_abs (YW (pv 1) zF)) zF)))) (Yj (z7r (yW uH (pv 1) zI (Yc _)) (ZM (vn (i:=2) z3h.nd rfl 018 (z4o Ji (pv 2)))) JI) (ZM (V1 (Z1Q (YW (Zr yl (pv 0) (pv 2)) (YW (Zr yl (pv 1) (pv 2)) zF))))))⟩,?_⟩;refine⟨_,rfl,x,rfl,_,rfl,y,rfl,_,_,rfl,z7V x,z7V y,?_⟩;rw[z9U];have o:=Pw.z9L (a:=x) d;have b:=(Z2l (x:=x) j d).mono (show 8000<=9000 by decide);refine⟨_,rfl,_,_,rfl,rfl,_,rfl,?_⟩;refine if2 (λh=>?_) (λh=>?_);have h:y<0:=of_decide_eq_true h;refine⟨_,rfl,_,rfl,?_⟩;refine⟨_,rfl,_,rfl,_,_,rfl,rfl,⟨00,b.neg⟩,_,rfl,_,rfl,_,_,rfl,rfl,⟨00,b.neg⟩,zl2,λp c=>?_⟩;have:=k p c;unfold Pw.mk at this;rw[if_pos h] at this;exact this;have h:¬ y<0:=of_decide_eq_false h;refine⟨_,rfl,_,rfl,_,_,rfl,rfl,⟨00,b⟩,_,rfl,_,rfl,_,_,rfl,rfl,⟨00,b⟩,zl2,λp c=>?_⟩;have:=k p c;unfold Pw.mk at this;rw[if_neg h] at this;exact this
def ndL:(["here","there","page"]:List Str).Nodup:=03
def Z0D:zE ["web","page"] ["web","page"] (zo uA):=fs
def z7H{mg:SV}(F:vc K "leads" "leads" uA f fd):Zu P w K mg base Yn 1 f fd ["web","page"] (VG K Pw.outs):=by
 refine F.ok Z0D 020 (λcdv A outer s H vs Q E hr h=>?_);obtain⟨x,y,z,ps,rfl,_⟩:=h;rfl
 · obtain⟨wa,pages,page,ps,rfl,⟨ws,us,hw,l,r⟩,few,k⟩:=h
   refine⟨_,@qz _ _ _ ⟨ZM (V1 (ZR ["here","there","page"] [none,none,some 1] rfl (z8L (Zt zJ (pv 0) zI 024)) (by show ∀ y:Str×NameKind,y∈_->y.2=NameKind.free->(zo uA).names.lookup y.1=some .cell;decide +kernel) 01 rfl 03 ⟨016,trivial⟩ (λcl C s H fp=>Xa (K:=K) 2 rfl rfl (Za (z7 (i:=0) ndL rfl 018 (.inr rfl)) (Za (z7 (i:=1) ndL rfl 018 (.inr rfl)) yC))) (λcl C s H fp=>z9q (yW Ze (pv 0) (pv 2) (Yc _))) (λcl C s H fp=>pv 1)))⟩,?_⟩;refine⟨_,rfl,wa,_,_,_,rfl,rfl,zR.of hw,rfl,ws,rfl,⟨_,zR.of l⟩,λD n=>?_⟩;have u:=r.len;refine xC (K:=K) (a:=ws) (D:=D) (xs:=us) (λi m σ H'=>zC H H'/\H' ws=some (.tup us)/\H' D=some (.lst m)/\m=(Pw.outs (ps.take i) page).map V.int/\∃ x y,σ=[x,y,some (.int page)]) ?_ ?_ ?_ ?_;exact⟨zC.new n,zC.new n _ _ l,zB,rfl,none,none,rfl⟩;rintro i m σ H' ⟨s1,j,d,_,_⟩;exact⟨zR.of j,d⟩
   · rintro i v m σ H' hi q ⟨s1,j,d,rfl,x,y,rfl⟩
     obtain⟨a,p,G,rfl,B⟩:=r.get hi;have t:ps.take (i+1)=ps.take i ++ [p]:=(by rw[List.take_succ,G];rfl);refine⟨a,_,rfl,s1.z1S B,rfl,_,_,rfl,_,_,rfl,rfl,?_⟩;refine⟨_,rfl,_,rfl,rfl,_,rfl,?_⟩;have hlen:((Pw.outs (ps.take i) page).map V.int).length<sizeLine:=by
      rw[ZB];have J:=Pw.YF (ps.take i) page;have I:(ps.take i).length<=ps.length:=(by rw[Z1r];lia);have:(sizeLine:Nat)=16777216:=sizeLine_eq;lia
     by_cases c:p.1=page
     · refine Zy (by rw[c];simp) ?_
       refine⟨_,rfl,d,hlen,Wt.next q ⟨λb o e=>?_,?_,zB,?_,_,_,rfl⟩⟩;rw[zD (zh e n)];exact s1 b o e;rw[zD (zh l n)];exact j;rw[t,Pw.jQ,if_pos c,Z13];rfl
     · refine ZF (by simpa using c) ?_
       exact Wt.next q ⟨s1,j,d,by rw[t,Pw.jQ,if_neg c,Z58],_,_,rfl⟩
   rintro m σ H' ⟨s1,j,d,rfl,_⟩;rw[u,Z12 (Z02 _)] at d;exact k D H' s1 n d
def Z3q{mg:SV}(S:ZH K mg "made" z4c ["above","below"])(C:ZH K mg "common" Xg ["one","other"])(T:Txt mg):Def P w K mg base 2 "made" ["above","below"] VM:=by
 obtain⟨m,b,FC,h,i⟩:=C;exact S.def λf fd F=>(z9u F T.abs FC h i).imp λvs H Q E ⟨x,y,e,j,d,l,a⟩=>⟨x,y,e,j,d,l,λp c=>a p _ (zC.new c) zB⟩
def Z0y{mg:SV}(S:ZH K mg "leads" uA ["web","page"]):Def P w K mg base 1 "leads" ["web","page"] (VG K Pw.outs):=S.def λf fd F=>z7H F
open L2
def z8Z{mg:SV}(S:ZH K mg "common" Xg ["one","other"]):Def P w K mg base 1 "common" ["one","other"] YM:=S.def λf fd F=>jI F
def Z0w:zE ["some","whole","each"] ["some"] (zo z1L):=fs
def z9t{mg:SV}(S:ZH K mg "shared_below" z1L ["some"])(C:Def P w K mg base 1 "common" ["one","other"] YM):Def P w K mg base 2 "shared_below" ["some"] (JP K):=S.def λf fd F=>by
 refine F.yh Z0w λnd cdv A' outer s H vs Q E hr h=>?_;obtain⟨b,a,us,As,M,rfl,q,m,pos,u,t,n,k⟩:=h;refine⟨_,(qc (qs 1 qi) (qc (qF ⟨z6Y (pv 0)⟩ (qg 2) (q1 (qs 1 (qo Z7 (qo yl (qv 1) (qd C (qa (qv 1) (qa (qx zJ (qv 2) qi) qn)))) (qx zJ (qv 2) qi))))) (q1 (qr (qv 1))))),?_⟩;refine⟨_,rfl,b,a,rfl,⟨us,q⟩,?_⟩;have z:=m.len;refine z9H (b:=b) (K:=K) (a:=a) (xs:=us) (λi σ G=>G=H/\∃ (L:Int) (v:Option V),Pw.Yw (As.take i) L/\σ=[some 027,some (.int L),v]) ⟨rfl,1,none,Pw.Yw.nil,rfl⟩ (λi σ G _ h=>h.1 ▸ q) ?_ ?_;rintro i x σ G hi ⟨rfl,L,v,c,rfl⟩;have B:i<us.length:=(Z16.mp hi).1;have d:As[i]?=some As[i]:=05
 obtain⟨p,o,fp⟩:=m.at d;rw[hi] at o;cases o;have mA:=Z1q d;have l:=pos _ mA;have y:Sz 8000 L:=Yw.Z1k c u (λA d=>n A (List.mem_of_mem_take d)) t;have r:Sz 8000 As[i].2:=z8f 00 (Int.le_of_dvd u (n _ mA)) t;obtain⟨g1,g2⟩:=Z1Z (x:=L) l;have j:=c.pos;refine⟨_,rfl,_,rfl,_,rfl,Zw (zR.of fp) rfl ⟨L,As[i].2,rfl,00,00,_,_,rfl,rfl,⟨00,(z8f 00 g2 r).mono 01⟩,_,rfl,Zw (zR.of fp) rfl ⟨_,_,rfl,rfl,⟨(z3H j g1 y).mono 01,r.mono 01⟩,rfl,_,_,?_,rfl⟩⟩⟩;rw[List.take_succ,d];exact c.snoc l;rintro σ G ⟨rfl,L,v,c,rfl⟩;rw[z,Z12 (Z02 _)] at c;exact⟨_,rfl,k L c⟩
def Z6q:(["each","below"]:List Str).Nodup:=03
def z6J:zE ["some","below"] ["some","below"] (zo VT):=fs
def z9g{mg:SV}(S:ZH K mg "aboves" VT ["some","below"]):Def P w K mg base 1 "aboves" ["some","below"] (Qz K):=S.def λf fd F=>by
 refine F.ok z6J 020 07;obtain⟨_,_,_,_,_,rfl,_⟩:=h;rfl
 · obtain⟨b,a,us,As,L,rfl,t,q,few,pos,B,z,k⟩:=h
   refine⟨_,@qz _ _ _ (q1 (qr ⟨ZR ["each","below"] [none,some 1] rfl (z6Y (pv 0)) (by show ∀ y:Str×NameKind,y∈_->y.2=NameKind.free->(zo VT).names.lookup y.1=some .cell;decide +kernel) 01 rfl 03 ⟨016,trivial⟩ (λcl C s H fp=>z7 (i:=0) Z6q rfl 018 (.inr rfl)) (λcl C s H fp=>ym) (λcl C s H fp=>Zr Z7 (Zt (VD (K:=K) rfl) (pv 0) zI 024) (Zr yl (pv 1) (Zt (VD (K:=K) rfl) (pv 0) zI 024)))⟩)),?_⟩;refine⟨_,rfl,b,a,rfl,⟨us,t⟩,λD l=>?_⟩;have A:=q.len;refine z7b (b:=b) (K:=K) (a:=a) (D:=D) (xs:=us) (λi d σ H'=>zC H H'/\H' D=some (.lst d)/\d=(Pw.yx (As.take i) L).map V.int/\∃ x,σ=[x,some (.int L)]) ?_ ?_ ?_ ?_;exact⟨zC.new l,zB,rfl,none,rfl⟩;rintro i d σ H' ⟨s1,c,_⟩;exact⟨t.same s1,c⟩
   · rintro i x d σ H' hi n ⟨s1,c,rfl,G,rfl⟩
     have m:As[i]?=some As[i]:=05;obtain⟨p,r,fp⟩:=q.at m;rw[hi] at r;cases r;have mA:=Z1q m;obtain⟨v,u⟩:=pos _ mA;have j:=s1 _ _ fp;dsimp only [Zo];rw[if_pos rfl];refine⟨_,rfl,Zw (zR.of j) rfl ⟨_,rfl,_,rfl,Zw (zR.of j) rfl ⟨_,_,rfl,rfl,⟨00,u.2.mono 01⟩,_,_,rfl,rfl,⟨u.1.mono 01,(z3H B v z).mono 01⟩,c,?_,Wt.next n ⟨λb o e=>?_,zB,?_,_,rfl⟩⟩⟩⟩;unfold Pw.yx;rw[ZB,ZB,Z1r];exact ZV 00;rw[zD (zh e l)];exact s1 _ _ e;unfold Pw.yx;rw[List.take_succ,m,Z13,Z13];rfl
   rintro d σ H' ⟨s1,c,rfl,_⟩;rw[A,Z12 (Z02 _)] at c;exact k D H' s1 l c
def Z0a:zE ["web","page"] ["web","page"] (zo z2K):=fs
def z9G{mg:SV}(S:ZH K mg "parts" z2K ["web","page"])(T:Txt mg)(Ld:Def P w K mg base 1 "leads" ["web","page"] (VG K Pw.outs)):Def P w K mg base 2 "parts" ["web","page"] (Jd K):=S.def λf fd F=>by
 refine F.ok Z0a 020 07;obtain⟨_,_,_,_,rfl,_⟩:=h;rfl;obtain⟨wa,pages,j,ps,rfl,hw,few,k⟩:=h;refine⟨_,@qz _ _ _ (q1 (qr (qy (vL rfl) T.max boot_max (qa qi (qa (qy zY T.len Z38 (qa (qd Ld (qa (qv 0) (qa (qv 1) qn))) qn)) qn))))),?_⟩;refine⟨_,rfl,_,rfl,wa,pages,j,ps,rfl,hw,few,λl H1 s1 n1 a=>?_⟩;refine⟨l,_,rfl,.inl (zN.of a),_,_,rfl,?_⟩;have:=k H1 s1;unfold Pw.mp at this;rw[ZB];have e:(if (((Pw.outs ps (j:Int)).length:Nat):Int) > 1 then (((Pw.outs ps (j:Int)).length:Nat):Int) else 1)=((max 1 (Pw.outs ps (j:Int)).length:Nat):Int):=by split <;> lia
 rw[e];exact this
def z7f:zE ["web","leap","here","there","along"] ["web","leap","here","there"] (zo Jb):=fs
def z9f{mg:SV}(S:ZH K mg "factor" Jb ["web","leap","here","there"])(T:Txt mg)(Pa:Def P w K mg base 2 "parts" ["web","page"] (Jd K)):Def P w K mg base 3 "factor" ["web","leap","here","there"] (z1j K):=S.def λf fd F=>by
 refine F.yh z7f λnd cdv A' outer s H vs Q E hr h=>?_;obtain⟨wa,lp,pages,j,i,ps,A,rfl,hw,few,d,sa,k⟩:=h;refine⟨_,(qc (qs 4 (qo Z7 (qo vQ (qx zJ (qv 1) qi) (qx zJ (qv 1) qi)) ⟨z3p 02 02 02 02 02 PySem.F.plainAttrs_tuple PySem.F.slot_tuple_count PySem.F.type_tuple_count (z5j hr) (Zt zJ (pv 0) zI 024) (@ze _ _ _ _ _ 02 (@Zx _ _ _ _ _ (@ze _ _ _ _ _ 02 (pv 2) (@ze _ _ _ _ _ 02 (pv 3) zF))) zF)⟩)) (qc (qf (qk Ze (qv 2) (qv 3)) (q1 (qr (qo vQ (qo Z7 (qx zJ (qv 1) qi) (qd Pa (qa (qv 0) (qa (qv 2) qn)))) (qv 4)))) q0) (q1 (qr ⟨z4o Ji (pv 4)⟩)))),?_⟩;obtain⟨ws,n,m,b,c⟩:=id hw;have p:=Pw.YF ps (j:Int);have u:=List.count_le_length (a:=(i:Int)) (l:=Pw.outs ps (j:Int));refine⟨_,rfl,Zw (zR.of d) rfl ⟨_,rfl,Zw (zR.of d) rfl ⟨_,_,rfl,rfl,?_⟩⟩⟩;refine⟨_,rfl,Zw (zR.of m) rfl ⟨⟨ws,n,rfl,b⟩,_,rfl,_,rfl,zl2,λq H1 s1 n1 t=>?_⟩⟩;refine⟨ws,q,n,ps,((j:Int),(i:Int)),rfl,rfl,s1 _ _ b,c.kl s1.kl,zR.of t,?_⟩;rw[Pw.UB];have r:Sz 10 (Pw.cn ps j i):=yk 10 (by unfold Pw.cn;lia);refine⟨_,_,rfl,rfl,⟨(sa.2.sub sa.1).mono 01,r.mono 01⟩,?_⟩;refine⟨_,rfl,_,rfl,rfl,_,rfl,?_⟩;unfold Pw.fac at k;by_cases e:j=i;refine Zy (by subst e;simp) ?_;rw[if_pos e] at k;refine⟨_,rfl,Zw (zR.of (s1 _ _ d)) rfl ⟨_,rfl,_,rfl,wa,pages,j,ps,rfl,hw.same s1,few,λH2 s2=>?_⟩⟩;have o:Sz 10 (Pw.mp ps j):=yk 10 (by unfold Pw.mp;lia);exact⟨_,_,rfl,rfl,⟨sa.2.mono 01,o.mono 01⟩,_,rfl,_,_,rfl,rfl,k H2 (s1.trans s2)⟩;refine ZF (by simp;lia) ?_;rw[if_neg e] at k;exact⟨_,rfl,_,rfl,k H1 s1⟩
def Z5Z:(["here","web","leap","page"]:List Str).Nodup:=03
def z3n:zE ["web","leap","page","start"] ["web","leap","page","start"] (zo xY):=fs
def z2i{mg:SV}(S:ZH K mg "equation" xY ["web","leap","page","start"])(T:Txt mg)(Fa:Def P w K mg base 3 "factor" ["web","leap","here","there"] (z1j K)):Def P w K mg base 4 "equation" ["web","leap","page","start"] (uE K):=S.def λf fd F=>by
 refine F.ok z3n 020 07;obtain⟨_,_,_,_,_,_,_,rfl,_⟩:=h;rfl
 · obtain⟨wa,lp,pages,i,st,ps,A,rfl,hw,plo,phi,few,B,sa,k⟩:=h
   refine⟨_,@qz _ _ _ (q1 (qr (qo Xk ⟨ZR ["here","web","leap","page"] [none,some 0,some 1,some 2] rfl (vN rfl T.range (@ze _ _ _ _ _ 02 (Zt zJ (pv 0) zI 024) zF)) (by show ∀ y:Str×NameKind,y∈_->y.2=NameKind.free->(zo xY).names.lookup y.1=some .cell;decide +kernel) 01 rfl 03 ⟨016,016,016,trivial⟩ (λcl C s H fp=>z7 (i:=0) Z5Z rfl 018 (.inr rfl)) (λcl C s H fp=>ym) (λcl C s H fp=>Z0 02 02 02 01 Fa hr (@ze _ _ _ _ _ 02 (pv 1) (@ze _ _ _ _ _ 02 (pv 2) (@ze _ _ _ _ _ 02 (pv 0) (@ze _ _ _ _ _ 02 (pv 3) zF)))))⟩ (ql (qa (qv 3) qn))))),?_⟩;obtain⟨ws,G,d,u,q⟩:=id hw;refine⟨_,rfl,Zw (zR.of d) rfl ⟨pages,rfl,00,00,λD m=>?_⟩⟩;refine Qh (lo:=0) (n:=pages.toNat) (D:=D) (λj a σ H'=>zC H H'/\H' D=some (.lst a)/\a=ZN (λj=>Pw.fac ps A j i) j/\∃ x,σ=[x,some (.ref wa),some (.ref lp),some (.int i)]) ?_ ?_ ?_ ?_;exact⟨zC.new m,zB,rfl,none,rfl⟩;rintro j a σ H' ⟨_,e,_⟩;exact e
   · rintro j a σ H' v ⟨s1,c,rfl,x,rfl⟩
     rw[Int.zero_add];dsimp only [Zo];rw[if_pos rfl];refine⟨_,rfl,_,rfl,_,rfl,_,rfl,wa,lp,pages,j,i,ps,A,rfl,hw.same s1,few,s1 _ _ B,sa,λH2 s2=>?_⟩;refine⟨s2 _ _ c,by rw[Zk];exact ZV 00,Wt.next v ⟨λb o e=>?_,zB,(yX _ _).symm,_,rfl⟩⟩;rw[zD (zh e m)];exact s2 _ _ (s1 _ _ e)
   rintro a σ H1 ⟨s1,c,rfl,_⟩;refine⟨_,rfl,zl1,λl H2 s2 I z=>?_⟩;refine⟨D,l,_,_,rfl,rfl,s2 _ _ c,z,by rw[Zk];exact Nat.le_of_lt (ZV (by show pages.toNat+1<=1000;lia)),λp H3 s3 t r=>?_⟩;have n:H p=none:=(s1.trans s2).free t;exact k p H3 (s1.trans (s2.trans s3)) n r
def Z4Z:(["one","two","chosen","place","equation","before"]:List Str).Nodup:=03
def z5C:zE ["equation","chosen","place","before"] ["equation","chosen","place","before"] (zo QA):=fs
def z5b{mg:SV}(S:ZH K mg "cleared" QA ["equation","chosen","place","before"])(T:Txt mg):Def P w K mg base 1 "cleared" ["equation","chosen","place","before"] (vZ K):=S.def λf fd F=>by
 refine F.ok z5C 020 07;obtain⟨_,_,_,_,_,_,_,rfl,_⟩:=h;rfl
 · obtain⟨e,c,p,m,d,f1,g1,rfl,he,u,A,hm,hd,R,I,k⟩:=h
   refine⟨_,@qz _ _ _ (q1 (qr ⟨ZR ["one","two","chosen","place","equation","before"] [none,none,some 1,some 2,some 0,some 3] rfl (z0q 02 02 02 rfl T.zip (@ze _ _ _ _ _ 02 (pv 0) (@ze _ _ _ _ _ 02 (pv 1) zF))) (by show ∀ y:Str×NameKind,y∈_->y.2=NameKind.free->(zo QA).names.lookup y.1=some .cell;decide +kernel) 01 rfl 03 ⟨016,016,016,016,trivial⟩ (λcl C s H fp=>Xa (K:=K) 2 rfl rfl (Za (z7 (i:=0) Z4Z rfl 018 (.inr rfl)) (Za (z7 (i:=1) Z4Z rfl 018 (.inr rfl)) yC))) (λcl C s H fp=>ym) (λcl C s H fp=>Zr yl (Zr vQ (Zr Z7 (Zt (ZI (K:=K) rfl) (pv 2) (pv 3) 024) (pv 0)) (Zr Z7 (Zt (ZI (K:=K) rfl) (pv 4) (pv 3) 024) (pv 1))) (pv 5))⟩)),?_⟩;refine⟨_,rfl,_,rfl,true,true,e,c,_,_,rfl,zN.of he,zN.of u,λD t=>?_⟩;refine vY (b1:=true) (b2:=true) (K:=K) (a:=e) (b:=c) (D:=D) (xs:=ZN f1 m) (zs:=ZN g1 m) (Nat.le_of_eq (by rw[Zk,Zk])) (λi q σ H'=>zC H H'/\H' D=some (.lst q)/\q=ZN (λj=>(g1 p * f1 j - f1 p * g1 j).fdiv d) i/\∃ x y,σ=[x,y,some (.ref c),some (.int p),some (.ref e),some (.int d)]) ?_ ?_ ?_ ?_;exact⟨zC.new t,zB,rfl,none,none,rfl⟩;rintro i q σ H' ⟨s2,n,_⟩;exact⟨zN.of (s2 _ _ he),zN.of (s2 _ _ u),n⟩
   · rintro i x z q σ H' TT G hi B l ⟨s2,n,rfl,Y,Z,rfl⟩ X r U
     rw[Zk] at l;rw[YK l] at hi B;cases hi;cases B;obtain⟨L,O⟩:=I i l;obtain⟨M,N⟩:=I p A;refine⟨TT,_,rfl,zR.of U,rfl,_,_,rfl,_,_,rfl,rfl,?_⟩;dsimp only [Zo];rw[if_pos rfl];refine⟨_,rfl,_,rfl,J0 (v:=.int (g1 p)) (zN.of (r _ _ (s2 _ _ u))) (Zi (YK A)) ⟨_,rfl,_,_,rfl,rfl,⟨N.mono 01,L.mono 01⟩,?_⟩⟩;refine⟨_,rfl,_,rfl,J0 (v:=.int (f1 p)) (zN.of (r _ _ (s2 _ _ he))) (Zi (YK A)) ⟨_,rfl,_,_,rfl,rfl,⟨M.mono 01,O.mono 01⟩,_,_,rfl,rfl,_,rfl,_,_,rfl,rfl,⟨hd,R.mono 01⟩,?_⟩⟩;refine⟨r _ _ n,by rw[Zk];exact ZV 00,Wt.next (by rw[Zk];exact l) ⟨λb o J=>?_,zB,(yX _ _).symm,_,_,rfl⟩⟩;rw[zD (zh J t)];exact r _ _ (s2 _ _ J)
   rintro q σ H' ⟨s2,n,rfl,_⟩;rw[Zk] at n;exact k D H' s2 t n
def Z4Q:(["turn","each","place","chosen","before"]:List Str).Nodup:=03
def z6A:zE ["equations","before","place","chosen"] ["equations"] (zo QO):=fs
def z8u{mg:SV}(S:ZH K mg "solved" QO ["equations"])(T:Txt mg)(Cl:Def P w K mg base 1 "cleared" ["equation","chosen","place","before"] (vZ K)):Def P w K mg base 2 "solved" ["equations"] (z1A K):=S.def λf fd F=>by
 refine F.yh z6A λnd cdv A' outer s H vs Q E hr h=>?_;obtain⟨e0,u,n,z,f0,rfl,O,Y,sg,n1,n12,hz,hb,k⟩:=h;refine⟨_,(qc (qs 1 qi) (qc (qF (qR T.range (qa (qy zY T.len Z38 (qa (qv 0) qn)) qn)) (qg 2) (qc (qs 3 (qx zW (qv 0) (qv 2))) (qc ⟨z3V 0 ["turn","each","place","chosen","before"] [none,none,some 2,some 3,some 1] 02 nd rfl rfl rfl (VU 02 02 rfl T.enu (@ze _ _ _ _ _ 02 (pv 0) zF)) (by show ∀ y:Str×NameKind,y∈_->y.2=NameKind.free->(zo QO).names.lookup y.1=some .cell;decide +kernel) 01 rfl 03 ⟨016,016,016,trivial⟩ (λcl C s H fp=>Xa (K:=K) 2 rfl rfl (Za (z7 (i:=0) Z4Q rfl 018 (.inr rfl)) (Za (z7 (i:=1) Z4Q rfl 018 (.inr rfl)) yC))) (λcl C s H fp=>ym) (λcl C s H fp=>z1l (yW Ze (pv 0) (pv 2) (Yc _)) (pv 3) (Z0 02 02 02 01 Cl hr (@ze _ _ _ _ _ 02 (pv 1) (@ze _ _ _ _ _ 02 (pv 3) (@ze _ _ _ _ _ 02 (pv 2) (@ze _ _ _ _ _ 02 (pv 4) zF))))))⟩ (q1 (qs 1 (qx zW (qv 3) (qv 2))))))) (q1 (qr (qt (qa ⟨ZR ["each"] [none] rfl (@VJ _ _ _ _ (pv 0)) (by show ∀ y:Str×NameKind,y∈_->y.2=NameKind.free->(zo QO).names.lookup y.1=some .cell;decide +kernel) 01 rfl 03 trivial (λcl C s H fp=>z7 (i:=0) (show (["each"]:List Str).Nodup by decide +kernel) rfl 018 (.inr rfl)) (λcl C s H fp=>ym) (λcl C s H fp=>Zt (ZI (K:=K) rfl) (pv 0) z9M 024)⟩ (qa (qv 1) qn))))))),?_⟩;have hlu:=Y.1;refine⟨_,rfl,e0,u,rfl,.inl (zN.of O),(u.length:Int),rfl,00,00,?_⟩;rw[hlu];refine YE (lo:=0) (n:=(n:Int).toNat) (λj σ G=>zC H G/\∃ (eq:Addr) (us:List V) (v2 v3:Option V),G eq=some (.lst us)/\Xq G n (n+1) (Pw.fF f0 j).1 us/\σ=[some (.ref eq),some (.int (Pw.fF f0 j).2),v2,v3]) ?_ ?_ ?_;exact⟨zC.refl _,e0,u,none,none,O,Y,rfl⟩
 · rintro j σ G hj ⟨sG,eq,us,v2,v3,J,mt,rfl⟩
   rw[Int.zero_add];have hjn:j<n:=00
   obtain⟨st,sgn,dp,dl⟩:=Pw.jx sg j 00;obtain⟨zf,zd⟩:=z6w sg n12 hb (k:=j) 00;obtain⟨q,eq1,Z⟩:=mt.2 j hjn;have I:=mt.1;refine⟨_,rfl,_,rfl,eq,us,(j:Nat),.ref q,rfl,rfl,zN.of J,Zi eq1,?_⟩;refine⟨_,rfl,eq,us,rfl,zN.of J,λD L=>?_⟩;refine Uz (K:=K) (a:=eq) (D:=D) (xs:=us) (λi c σ H'=>zC G H'/\H' D=some (.lst c)/\(∀ i:Nat,c[i]?≠some (V.ref D))/\Xq H' i (n+1) (Pw.yn (Pw.fF f0 j).1 j (Pw.fF f0 j).2) c/\∃ x y,σ=[x,y,some (.int j),some (.ref q),some (.int (Pw.fF f0 j).2)]) ?_ ?_ ?_ ?_;exact⟨zC.new L,zB,λi=>05,⟨rfl,λi hi=>00⟩,none,none,rfl⟩;rintro i c σ H' ⟨s1,d,_⟩;exact⟨zN.of (s1 _ _ J),d⟩
   · rintro i x c σ H' TT G1 hi B ⟨s1,d,nD,l,x',y',rfl⟩ hTT s2 eT
     obtain⟨q2,eq2,A⟩:=mt.2 i 00;rw[hi] at eq2;cases eq2;have p:=s1.trans s2;refine⟨TT,_,rfl,zR.of eT,rfl,_,_,rfl,_,_,rfl,rfl,?_⟩;dsimp only [Zo];rw[if_pos rfl];have R:=s2 _ _ d;have fin:∀ (r:Addr) (G2:Hp),zC G1 G2->r≠D->G2 r=some (.lst (ZN (Pw.yn (Pw.fF f0 j).1 j (Pw.fF f0 j).2 i) (n+1)))->G2 D=some (.lst c)/\c.length<sizeLine/\∃ m',m'<us.length - i/\Wt (λi c σ H'=>zC G H'/\H' D=some (.lst c)/\(∀ i:Nat,c[i]?≠some (V.ref D))/\Xq H' i (n+1) (Pw.yn (Pw.fF f0 j).1 j (Pw.fF f0 j).2) c/\∃ x y,σ=[x,y,some (.int j),some (.ref q),some (.int (Pw.fF f0 j).2)]) us.length (i+1) m' (c ++ [.ref r]) [some (.int i),some (.ref q2),some (.int j),some (.ref q),some (.int (Pw.fF f0 j).2)] (upd G2 D (.lst (c ++ [.ref r]))):=λr G2 s3 hrD hr2=>by
      have U:∀ i:Nat,(c ++ [V.ref r])[i]?≠some (V.ref D):=λM z=>by
       by_cases hi':M<c.length;rw[Z39 hi'] at z;exact nD M z;rw[Z53 00] at z;cases hz':M - c.length with
       | zero=>rw[hz'] at z;simp at z;exact hrD z
       | succ m=>rw[hz'] at z;simp at z
      refine⟨s3 _ _ R,by rw[l.1];exact ZV 00,Wt.next B ⟨λb o X=>?_,zB,U,?_,_,_,rfl⟩⟩;rw[zD (zh X L)];exact s3 _ _ (p _ _ X);exact Xq.put (xs:=[]) ((l.same (s2.trans s3)).snoc hr2) λM _=>U M
     refine⟨_,rfl,_,rfl,rfl,_,rfl,?_⟩;by_cases hij:i=j;refine Zy (by subst hij;simp) ?_;refine⟨_,rfl,fin q G1 (zC.refl _) (zh Z L) ?_⟩;have e:ZN (Pw.yn (Pw.fF f0 j).1 j (Pw.fF f0 j).2 i) (n+1)=ZN ((Pw.fF f0 j).1 j) (n+1):=qq λt ht=>(by unfold Pw.yn;rw[if_pos hij]);rw[e];exact p _ _ Z;refine ZF (by simp;lia) ?_;refine⟨_,rfl,_,rfl,_,rfl,_,rfl,q2,q,j,n+1,_,(Pw.fF f0 j).1 i,(Pw.fF f0 j).1 j,rfl,p _ _ A,p _ _ Z,00,00,00,zd.mono 00,λt ht=>⟨(zf i t 00 00).mono 00,(zf j t 00 00).mono 00⟩,λr G2 s3 n3 e3=>?_⟩;refine fin r G2 s3 (λz=>?_) ?_;rw[z,R] at n3;cases n3;have e:ZN (Pw.yn (Pw.fF f0 j).1 j (Pw.fF f0 j).2 i) (n+1)=ZN (λt=>((Pw.fF f0 j).1 j j * (Pw.fF f0 j).1 i t - (Pw.fF f0 j).1 i j * (Pw.fF f0 j).1 j t).fdiv (Pw.fF f0 j).2) (n+1):=qq λt ht=>(by unfold Pw.yn;rw[if_neg hij]);rw[e];exact e3
   rintro c σ G1 ⟨s1,d,_,l,_⟩;rw[I] at l;refine⟨_,rfl,_,rfl,J0 (v:=.int ((Pw.fF f0 j).1 j j)) (zN.of (s1 _ _ Z)) (Zi (YK 00)) ?_⟩;exact⟨sG.trans s1,D,c,_,_,d,l,rfl⟩
 · rintro σ G ⟨sG,eq,us,v2,v3,J,mt,rfl⟩
   have N:(n:Int).toNat=n:=00
   rw[N] at mt;rw[N];refine⟨_,rfl,eq,rfl,⟨_,zN.of J⟩,λD L=>?_⟩;have I:=mt.1;refine Z3 (K:=K) (a:=eq) (D:=D) (xs:=us) (λi c σ H'=>zC G H'/\H' D=some (.lst c)/\c=ZN (λi=>(Pw.fF f0 n).1 i n) i/\∃ x,σ=[x]) ?_ ?_ ?_ ?_;exact⟨zC.new L,zB,rfl,none,rfl⟩;rintro i c σ H' ⟨s1,d,_⟩;exact⟨zN.of (s1 _ _ J),d⟩
   · rintro i x c σ H' hi B ⟨s1,d,rfl,x',rfl⟩
     obtain⟨q2,eq2,A⟩:=mt.2 i 00;rw[hi] at eq2;cases eq2;dsimp only [Zo];rw[if_pos rfl];have hat:JL (ZN ((Pw.fF f0 n).1 i) (n+1)) (-1)=some (.int ((Pw.fF f0 n).1 i n)):=(by rw[yX];exact z7o _ _);refine⟨_,rfl,q2,_,(-1:Int),_,rfl,rfl,zN.of (s1 _ _ A),hat,d,by rw[Zk];exact ZV 00,Wt.next B ⟨λb o X=>?_,zB,(yX _ _).symm,_,rfl⟩⟩;rw[zD (zh X L)];exact s1 _ _ X
   rintro c σ G1 ⟨s1,d,rfl,_⟩;rw[I] at d;refine⟨_,rfl,zl2,λt G2 s2 n2 e2=>?_⟩;exact k t D G2 (sG.trans (s1.trans s2)) e2 (s2 _ _ d)
def Z4V:(["page","start","web","leap"]:List Str).Nodup:=03
def Z4F:(["page","number","web"]:List Str).Nodup:=03
def z8P:zE ["web","leap","leaps","starts","found"] ["web","leap","leaps"] (zo Ql):=fs
def z6I{mg:SV}(S:ZH K mg "visits" Ql ["web","leap","leaps"])(T:Txt mg)(Ab:Def P w K mg base 1 "aboves" ["some","below"] (Qz K))(Be:Def P w K mg base 2 "shared_below" ["some"] (JP K))(So:Def P w K mg base 2 "solved" ["equations"] (z1A K))(Eq:Def P w K mg base 4 "equation" ["web","leap","page","start"] (uE K))(Pa:Def P w K mg base 2 "parts" ["web","page"] (Jd K)):Def P w K mg base 5 "visits" ["web","leap","leaps"] (z0c K):=S.def λf fd F=>by
 refine F.yh z8P λnd cdv A' outer s H vs Q E hr h=>?_;obtain⟨wa,lp,ls,pages,ps,A,Bs,us,SS,z,rfl,g,pr,p12,hz,sz,sS,k⟩:=h;have hr1:=hr.mono (show 1<=4 by decide);have I:=hr.mono (show 2<=4 by decide);refine⟨_,(qc (qs 3 ⟨Z0 02 02 02 01 Ab hr1 (@ze _ _ _ _ _ 02 (pv 2) (@ze _ _ _ _ _ 02 (Z0 02 02 02 01 Be I (@ze _ _ _ _ _ 02 (pv 2) zF)) zF))⟩) (qc (qs 4 ⟨Z0 02 02 02 01 So I (@ze _ _ _ _ _ 02 (ZR ["page","start","web","leap"] [none,none,some 0,some 1] rfl (VU 02 02 rfl T.enu (@ze _ _ _ _ _ 02 (pv 3) zF)) (by show ∀ y:Str×NameKind,y∈_->y.2=NameKind.free->(zo Ql).names.lookup y.1=some .cell;decide +kernel) 01 rfl 03 ⟨016,016,trivial⟩ (λcl C s H fp=>Xa (K:=K) 2 rfl rfl (Za (z7 (i:=0) Z4V rfl 018 (.inr rfl)) (Za (z7 (i:=1) Z4V rfl 018 (.inr rfl)) yC))) (λcl C s H fp=>ym) (λcl C s H fp=>Z0 02 02 02 01 Eq hr (@ze _ _ _ _ _ 02 (pv 2) (@ze _ _ _ _ _ 02 (pv 3) (@ze _ _ _ _ _ 02 (pv 0) (@ze _ _ _ _ _ 02 (pv 1) zF)))))) zF)⟩) (q1 (qr ⟨ZR ["page","number","web"] [none,none,some 0] rfl (VU 02 02 rfl T.enu (@ze _ _ _ _ _ 02 (Zt zJ (pv 4) zI 024) zF)) (by show ∀ y:Str×NameKind,y∈_->y.2=NameKind.free->(zo Ql).names.lookup y.1=some .cell;decide +kernel) 01 rfl 03 ⟨016,trivial⟩ (λcl C s H fp=>Xa (K:=K) 2 rfl rfl (Za (z7 (i:=0) Z4F rfl 018 (.inr rfl)) (Za (z7 (i:=1) Z4F rfl 018 (.inr rfl)) yC))) (λcl C s H fp=>ym) (λcl C s H fp=>Zr Z7 (Z0 02 02 02 01 Pa I (@ze _ _ _ _ _ 02 (pv 2) (@ze _ _ _ _ _ 02 (pv 0) zF))) (pv 1))⟩)))),?_⟩;have plo:=g.plo;have hlen:=g.len;have hlB:=g.row.len;have few:=g.few;have hBn:Bs.length=pages.toNat:=00
 refine⟨_,rfl,_,rfl,false,ls,us,Bs,SS,rfl,zR.of g.leaps,g.row,ZK.pos g.cb,pr.spos,pr.ssz.mono 01,pr.sdvd,λL hL=>?_⟩;have u:=hL.pos;have hLS:=hL.le pr.spos pr.sdvd;have zL:Sz 700 L:=Yw.Z1k hL pr.spos pr.sdvd pr.ssz;refine⟨false,ls,us,Bs,L,rfl,zR.of g.leaps,g.row,00,λB X=>⟨(g.cb B X).1,(g.sb B X).mono 01⟩,u,zL.mono 01,λsa H1 s1 n1 e1=>?_⟩;have N:(Pw.yx Bs L).length=pages.toNat:=by unfold Pw.yx;rw[ZB];exact hBn
 have X:∀ t,t<pages.toNat->((Pw.yx Bs L).getD t 0:Rat)=Pw.val 025 * (L:Rat):=λt ht=>by
  have v:t<Bs.length:=00
  have hR:Bs[t]?=some Bs[t]:=05
  have e1:(Pw.yx Bs L).getD t 0=Bs[t].1 * (L.fdiv Bs[t].2):=by
   unfold Pw.yx;rw[Z05,Z17,hR];rfl
  have M:Bs.getD t (0,1)=Bs[t]:=by rw[Z05,hR];rfl
  have mR:=Z1z v;rw[e1,M,Pw.Jh (g.cb _ mR).1 u (hL.dvd _ mR)]
 have one:=pr.one;rw[hBn] at one;have snn:∀ s∈Pw.yx Bs L,0<=s:=λs hs=>by
  obtain⟨B,U,rfl⟩:=Z18.mp hs;have c:=(g.cb B U).1;exact Z4j (pr.nn B U) (by rw[Z36 _ 00];exact Int.ediv_nonneg 00 00)
 have Z:(Pw.yx Bs L).sum=L:=by
  have h3:=Pw.VE (Pw.yx Bs L);rw[N,Pw.zT (g:=λt=>(L:Rat) * Pw.val 025) λt ht=>by rw[X t ht];grind,Pw.Zc,one] at h3;have:(L:Rat)=((Pw.yx Bs L).sum:Rat):=by rw[← h3];grind
  exact_mod_cast this.symm
 have lk:∀ p∈ps,0<=p.2/\p.2<((pages.toNat:Nat):Int):=λp hp=>by
  have:=g.lk p hp;lia
 have eo:Pw.YA ps A (Pw.yx Bs L) pages.toNat:=⟨lk,pr.a0,pr.a1,N,snn,by rw[Z];exact u⟩;have sle:∀ s∈Pw.yx Bs L,s<=2 ^ z:=λs hs=>by
  have h1:s<=(Pw.yx Bs L).sum:=z1T snn hs;have h2:SS.natAbs<2 ^ z:=sS;have:((2:Int) ^ z)=((2 ^ z:Nat):Int):=by push_cast;rfl
  rw[this];lia
 have ez:=z7j few eo sz.2 sle;have g1:=g.same s1;refine⟨_,rfl,sa,_,rfl,zN.of e1,λD hD=>?_⟩;refine Uz (K:=K) (a:=sa) (D:=D) (xs:=(Pw.yx Bs L).map V.int) (λi d σ H'=>zC H1 H'/\H' D=some (.lst d)/\(∀ i:Nat,d[i]?≠some (V.ref D))/\Xq H' i (pages.toNat+1) (Pw.Uh ps A (Pw.yx Bs L) pages.toNat) d/\∃ x y,σ=[x,y,some (.ref wa),some (.ref lp)]) ?_ ?_ ?_ ?_;exact⟨zC.new hD,zB,λi=>05,⟨rfl,λi hi=>00⟩,none,none,rfl⟩;rintro i d σ H' ⟨s2,M,_⟩;exact⟨zN.of (s2 _ _ e1),M⟩
 · rintro i x d σ H' TT G hi n ⟨s2,M,nD,mt,x',y',rfl⟩ hTT J eT
   rw[ZB] at n;have ex:x=.int ((Pw.yx Bs L).getD i 0):=by
    rw[Z17,Xf 00] at hi;cases hi;rfl
   subst ex;have O:=s2.trans J;refine⟨TT,_,rfl,zR.of eT,rfl,_,_,rfl,_,_,rfl,rfl,?_⟩;dsimp only [Zo];rw[if_pos rfl];refine⟨_,rfl,_,rfl,_,rfl,_,rfl,wa,lp,pages,i,_,ps,A,rfl,(g1.same O).web,plo,00,few,(g1.same O).leap,g.sa.mono 01,λr G2 s3 n3 e3=>?_⟩;have eD:=J _ _ M;have hrD:r≠D:=λq=>by rw[q,eD] at n3;cases n3
   have nD':∀ i:Nat,(d ++ [V.ref r])[i]?≠some (V.ref D):=λi' q=>by
    by_cases v:i'<d.length;rw[Z39 v] at q;exact nD i' q;rw[Z53 00] at q;cases hz':i' - d.length with
    | zero=>rw[hz'] at q;simp at q;exact hrD q
    | succ m=>rw[hz'] at q;simp at q
   refine⟨s3 _ _ eD,by rw[mt.1];exact ZV 00,Wt.next (by rw[ZB];exact n) ⟨λb o eb=>?_,zB,nD',?_,_,_,rfl⟩⟩;rw[zD (zh eb hD)];exact s3 _ _ (O _ _ eb);refine Xq.put (xs:=[]) ((mt.same (J.trans s3)).snoc ?_) λi' _=>nD' i';have e:ZN (Pw.Uh ps A (Pw.yx Bs L) pages.toNat i) (pages.toNat+1)=ZN (λj=>Pw.fac ps A j i) pages.toNat ++ [.int ((Pw.yx Bs L).getD i 0)]:=by
    rw[yX];have a1:ZN (Pw.Uh ps A (Pw.yx Bs L) pages.toNat i) pages.toNat=ZN (λj=>Pw.fac ps A j i) pages.toNat:=qq λt ht=>(by unfold Pw.Uh;rw[if_pos 00,if_pos ht]);have a2:Pw.Uh ps A (Pw.yx Bs L) pages.toNat i pages.toNat=(Pw.yx Bs L).getD i 0:=(by unfold Pw.Uh;rw[if_pos 00,if_neg 00,if_pos rfl]);rw[a1,a2]
   rw[e];exact e3
 rintro d σ H2 ⟨s2,M,_,mt,_⟩;rw[ZB,N] at mt;refine⟨D,d,pages.toNat,z+7,Pw.Uh ps A (Pw.yx Bs L) pages.toNat,rfl,M,mt,eo.sgn,00,00,00,ez,λt l H3 s3 e3 e4=>?_⟩;obtain⟨zf,zd⟩:=z6w eo.sgn 00 ez (k:=pages.toNat) (Z02 _);have s13:=s1.trans (s2.trans s3);have g3:=g.same s13;refine⟨_,rfl,Zw (zR.of e3) rfl ⟨l,_,rfl,zN.of e4,λD2 Y=>?_⟩⟩;refine Uz (K:=K) (a:=l) (D:=D2) (xs:=ZN (λi=>(Pw.fF (Pw.Uh ps A (Pw.yx Bs L) pages.toNat) pages.toNat).1 i pages.toNat) pages.toNat) (λi d σ H'=>zC H3 H'/\H' D2=some (.lst d)/\d=ZN (Pw.vS ps A (Pw.yx Bs L) pages.toNat) i/\∃ x y,σ=[x,y,some (.ref wa)]) ?_ ?_ ?_ ?_;exact⟨zC.new Y,zB,rfl,none,none,rfl⟩;rintro i d σ H' ⟨s5,R,_⟩;exact⟨zN.of (s5 _ _ e4),R⟩
 · rintro i x d σ H' TT G hi n ⟨s5,R,rfl,x',y',rfl⟩ hTT J eT
   rw[Zk] at n;rw[YK n] at hi;cases hi;refine⟨TT,_,rfl,zR.of eT,rfl,_,_,rfl,_,_,rfl,rfl,?_⟩;dsimp only [Zo];rw[if_pos rfl];have hol:=Pw.YF ps (i:Int);have zm:Sz 7 (Pw.mp ps i):=yk 7 (by unfold Pw.mp;lia);refine⟨_,rfl,_,rfl,wa,pages,i,ps,rfl,(g3.same (s5.trans J)).web,few,λG2 s6=>?_⟩;refine⟨_,rfl,_,_,rfl,rfl,⟨zm.mono 01,(zf i _ n (Z02 _)).mono 00⟩,s6 _ _ (J _ _ R),by rw[Zk];exact ZV 00,Wt.next (by rw[Zk];exact n) ⟨λb o eb=>?_,zB,(yX _ _).symm,_,_,rfl⟩⟩;rw[zD (zh eb Y)];exact s6 _ _ (J _ _ (s5 _ _ eb))
 rintro d σ H4 ⟨s5,R,rfl,_⟩;rw[Zk] at R;refine k D2 H4 (Pw.yx Bs L) L eo u X (λj hj=>?_) (s13.trans s5) R;have hol:=Pw.YF ps (j:Int);have zm:Sz 7 (Pw.mp ps j):=yk 7 (by unfold Pw.mp;lia);exact (zm.mul (zf j _ hj (Z02 _))).mono 00
def Z5D:(["each","numbers"]:List Str).Nodup:=03
def z9b:zE ["web","leap","leaps","numbers"] ["web","leap","leaps"] (zo VI):=fs
def z9d{mg:SV}(S:ZH K mg "shares" VI ["web","leap","leaps"])(T:Txt mg)(Vi:Def P w K mg base 5 "visits" ["web","leap","leaps"] (z0c K))(M:Def P w K mg base 2 "made" ["above","below"] VM):Def P w K mg base 6 "shares" ["web","leap","leaps"] (uR K):=S.def λf fd F=>by
 refine F.yh z9b λnd cdv A' outer s H vs Q E hr h=>?_;obtain⟨wa,lp,ls,pages,ps,A,Bs,us,SS,z,rfl,g,pr,B,hz,sz,sS,k⟩:=h;have v:=hr.mono (show 2<=5 by decide);refine⟨_,(qc (qs 3 (qd Vi (qa (qv 0) 033) (hr:=hr))) (q1 (qr (qY yu T.tup boot_tuple (qa ⟨ZR ["each","numbers"] [none,some 3] rfl (@VJ _ _ _ _ (pv 3)) (by show ∀ y:Str×NameKind,y∈_->y.2=NameKind.free->(zo VI).names.lookup y.1=some .cell;decide +kernel) 01 rfl 03 ⟨016,trivial⟩ (λcl C s H fp=>z7 (i:=0) Z5D rfl 018 (.inr rfl)) (λcl C s H fp=>ym) (λcl C s H fp=>Z0 02 02 02 01 M v (@ze _ _ _ _ _ 02 (pv 0) (@ze _ _ _ _ _ 02 (ZQ (z5n (K:=K) rfl rfl) 02 T.sum boot_sum (@ze _ _ _ _ _ 02 (pv 1) zF)) zF)))⟩ qn))))),?_⟩;have plo:=g.plo;have hlen:=g.len;refine⟨_,rfl,_,rfl,_,rfl,wa,lp,ls,pages,ps,A,Bs,us,SS,z,rfl,g,pr,B,hz,sz,sS,λu H1 ss L R I Z J s1 G=>?_⟩;have hV:=R.z4k;have N:Sz ((z+11) * 13+20) (Pw.VS ps A ss pages.toNat):=by
  refine (z2V (k:=(z+11) * 13+8) λn hn=>?_).mono (by rw[ZB,Z29];lia);obtain⟨t,ht,rfl⟩:=Z18.mp hn;exact J t (Z25.mp ht)
 refine⟨_,rfl,u,rfl,⟨_,zN.of G⟩,λD O=>?_⟩;refine Z3 (K:=K) (a:=u) (D:=D) (xs:=ZN (Pw.vS ps A ss pages.toNat) pages.toNat) (λi d σ H'=>zC H1 H'/\H' D=some (.lst d)/\yK K H' ((List.range i).map λj=>Pw.mk (Pw.vS ps A ss pages.toNat j) (Pw.VS ps A ss pages.toNat)) d/\∃ x,σ=[x,some (.ref u)]) ?_ ?_ ?_ ?_;exact⟨zC.new O,zB,rfl,none,rfl⟩;rintro i d σ H' ⟨s2,l,_⟩;exact⟨zN.of (s2 _ _ G),l⟩
 · rintro i x d σ H' hi c ⟨s2,l,p,x',rfl⟩
   rw[Zk] at c;rw[YK c] at hi;cases hi;dsimp only [Zo];rw[if_pos rfl];refine⟨_,rfl,_,rfl,u,(List.range pages.toNat).map (Pw.vS ps A ss pages.toNat),rfl,zN.of (s2 _ _ G),_,_,rfl,(by show Pw.VS ps A ss pages.toNat≠0;lia),(J i c).mono 00,N.mono 00,λr G2 s3 Y=>?_⟩;have q:=s3 _ _ l;refine⟨q,by rw[p.len,ZB,Z29];exact ZV 00,Wt.next (by rw[Zk];exact c) ⟨λb o U=>?_,zB,?_,_,rfl⟩⟩;rw[zD (zh U O)];exact s3 _ _ (s2 _ _ U);rw[Z5w,Z13];exact ((p.same s3).snoc (A:=Pw.mk (Pw.vS ps A ss pages.toNat i) (Pw.VS ps A ss pages.toNat)) Y).kp (KL.set q)
 rintro d σ H2 ⟨s2,l,p,_⟩;rw[Zk] at p;refine⟨D,d,rfl,zN.of l,λt H3 s3 n3 q=>?_⟩;have m:Bs.length=pages.toNat:=00
 have one:=pr.one;rw[m] at one;refine k t H3 (Pw.shL ps A ss pages.toNat) (Pw.VS ps A ss pages.toNat) d (Pw.z7k R g.ca g.cb m I Z one) hV N (λS X=>?_) (s1.trans (s2.trans s3)) q (p.same s3);obtain⟨t,_,rfl⟩:=Z18.mp X;exact Pw.z8S (Pw.Fr.made 00)
noncomputable abbrev zU:Pos:=⟨90,37,90,64⟩
def z0e:zE ["web","leap","leaps","row","numbers"] ["web","leap","leaps"] (zo JE):=fs
def z8y{mg:SV}(S:ZH K mg "ranked" JE ["web","leap","leaps"])(T:Txt mg)(B:Bm base mg)(KB:K.In base)(CO:xK K "ranked" c)(XK:K.In h)(G:h.Ns mainGlobals mg)(hC:PySem.W.codeHdIn K c tb=true)(Sh:Def P w K mg base 6 "shares_shares" ["web","leap","leaps"] (uR K))(Ab:Def P w K mg base 1 "aboves" ["some","below"] (Qz K))(Be:Def P w K mg base 2 "shared_below" ["some"] (JP K)):Def P w K mg base 7 "ranked" ["web","leap","leaps"] (Qk K tb zU):=ZH.Z5R S CO XK G λf fd F y=>by
 have nd:=z0e.nd;refine vc.okC F z0e 020 (λcdv A' outer s H vs Q E u hr h=>?_);obtain⟨_,_,_,_,_,_,_,_,_,_,rfl,_⟩:=h;rfl;obtain⟨wa,lp,ls,pages,ps,A,Bs,us,SS,z,rfl,g,pr,m,Y,sz,sS,tab,k⟩:=h;have q:cdv=.ref c:=u.symm.trans y;refine⟨_,@qz _ _ _ (qc (qs 3 (qd Sh (qa (qv 0) 033))) (qc (qs 4 (qd Ab (qa (qv 3) (qa (qd Be (qa (qv 3) qn)) qn)))) (q1 (qr ⟨z3g (i:=4) (P:=tb) (c:=c) (qual:=Yl) 029 rfl B (PySem.W.codeHd_of_K KB hC) q rfl rfl T.srt rfl T.range rfl rfl (@ze _ _ _ _ _ 02 (Zt zJ (pv 0) zI 024) zF)⟩)))),?_⟩;refine⟨_,rfl,_,rfl,_,rfl,wa,lp,ls,pages,ps,A,Bs,us,SS,z,rfl,g,pr,m,Y,sz,sS,λt H1 Ss V' r ok v0 R v s1 O N=>?_⟩;have a:Sz ((140+11) * 13+20) V':=R.mono 00;have ssz:=Z1E ok v0 a v;have spos:∀ S∈Ss,0<S.2:=λS l=>(ok.canon S l).1;have M:=ok.len;have sqf:Sq false K H1 t r:=by
  unfold Sq;rw[if_neg 01];exact zR.of O
 refine⟨_,rfl,_,rfl,false,t,r,Ss,V',rfl,sqf,N,spos,v0,a.mono 01,v,λL d=>?_⟩;have zL:Sz 8000 L:=by
  have J:L<=V':=Int.le_of_dvd v0 (d.least V' v0 v);have I:=d.pos;have h3:Sz 8000 V':=a.mono 01;unfold Sz at *;lia
 refine⟨false,t,r,Ss,L,rfl,sqf,N,00,λS l=>⟨spos S l,(ssz S l).mono 01⟩,d.pos,zL,λnl H2 s2 U C=>?_⟩;obtain⟨lk,uw,hw,_,_⟩:=g.web.same (s1.trans s2);refine⟨_,rfl,Zw (zR.of hw) rfl ⟨pages.toNat,nl,Pw.yx Ss L,?_,00,rfl,zN.of C,by unfold Pw.yx;rw[ZB,M];exact Z02 _,?_,λp D H' pm st kp Z X j=>?_⟩⟩;rw[Int.toNat_of_nonneg (by have:=g.plo;lia)];rcases tab with tab |⟨c',J,I⟩;exact .inl ((s1.trans s2) _ _ tab);exact .inr ⟨c',(s1.trans s2) _ _ J,(s1.trans s2) _ _ I⟩;refine k D H' Ss p ok (Pw.Z4I M spos d.pos d.dvd pm st) (λb o e n=>kp b o n ((s1.trans s2) _ _ e)) ((s1.trans s2).free Z) X j
open L2
def Z0f:zE ["thing"] ["thing"] (zo z2e):=fs
def z2j{mg:SV}(S:ZH K mg "is_whole" z2e ["thing"])(T:Txt mg) :Def P w K mg base 1 "is_whole" ["thing"] QZ:=S.def λf fd F=>by
 refine F.yh Z0f λnd cdv A' outer s H vs Q E hr h=>?_;obtain⟨i,rfl,k⟩:=h;refine⟨_,(q1 (qr (q4 (qy uo T.isi boot_isinstance (qa (qv 0) (qa ⟨Xe (v:=.ty "int") 02 T.int boot_int rfl⟩ qn))) (q6 (q7 (qy uo T.isi boot_isinstance (qa (qv 0) (qa ⟨Xe (v:=.ty "bool") 02 T.bool boot_bool rfl⟩ qn)))))))),?_⟩;exact⟨_,rfl,_,_,_,true,rfl,.int i,Z2G _,_,rfl,Zy rfl ⟨_,rfl,_,_,_,false,rfl,.int i,Z1X _,_,rfl,k⟩⟩
def Z3D:zE ["thing"] ["thing"] (zo z8U):=fs
def Xr{mg:SV}(S:ZH K mg "is_pair_of_wholes" z8U ["thing"])(T:Txt mg)(Wh:Def P w K mg base 1 "is_whole" ["thing"] QZ):Def P w K mg base 2 "is_pair_of_wholes" ["thing"] (j8 K):=S.def λf fd F=>by
 refine F.yh Z3D λnd cdv A' outer s H vs Q E hr h=>?_;obtain⟨q,x,y,rfl,a,k⟩:=h;refine⟨_,(q1 (qr (q4 (qy vy T.isi boot_isinstance (qa (qv 0) (qa ⟨Xe (v:=.ty "tuple") 02 T.tup boot_tuple rfl⟩ qn))) (q4 (qe Ze (qy zY T.len Z38 (qa (qv 0) qn)) qi) (q4 (qd Wh (qa 026 qn)) (q6 (qd Wh (qa 026 qn)))))))),?_⟩;refine⟨_,rfl,q,_,rfl,a,_,rfl,Zy rfl ?_⟩;refine⟨_,rfl,q,_,rfl,.inr a,rfl,_,rfl,Zy rfl ?_⟩;refine⟨_,rfl,q,_,_,_,rfl,rfl,a,rfl,_,rfl,_,rfl,Zy rfl ?_⟩;exact⟨_,rfl,q,_,_,_,rfl,rfl,a,rfl,_,rfl,k⟩
def z3a:zE ["pages","thing"] ["pages","thing"] (zo vF):=fs
def z6m{mg:SV}(S:ZH K mg "is_link" vF ["pages","thing"])(T:Txt mg)(Pw2:Def P w K mg base 2 "is_pair_of_wholes" ["thing"] (j8 K)):Def P w K mg base 3 "is_link" ["pages","thing"] (ja K):=S.def λf fd F=>by
 refine F.yh z3a λnd cdv A' outer s H vs Q E hr h=>?_;obtain⟨n,x,y,q,rfl,d,k⟩:=h;refine⟨_,(q1 (qr (q4 (qd Pw2 (qa (qv 1) qn)) (q4 ⟨Qw z0u uH zI (Zt zJ (pv 1) zI 024) (pv 0) (by with_unfolding_all rfl)⟩ (q6 ⟨Qw z0u uH zI (Zt zJ (pv 1) zI 024) (pv 0) (by with_unfolding_all rfl)⟩))))),?_⟩;refine⟨_,rfl,q,x,y,rfl,d,_,rfl,Zy rfl ?_⟩;refine⟨_,rfl,q,_,_,_,rfl,rfl,d,rfl,_,_,rfl,rfl,_,rfl,?_⟩;rcases (Decidable.em (0<=x)).symm with b | b;rw[decide_eq_false (λz=>b z.1)] at k
 rw[decide_eq_false b];exact ZF rfl ⟨_,rfl,ZF rfl k⟩;rw[decide_eq_true b];refine Zy rfl ⟨_,rfl,_,_,rfl,rfl,_,rfl,?_⟩;rcases (Decidable.em (x<n)).symm with a | a;rw[decide_eq_false (λz=>a z.2.1)] at k
 rw[decide_eq_false a];exact ZF rfl k;rw[decide_eq_true a];refine Zy rfl ?_;refine⟨_,rfl,q,_,_,_,rfl,rfl,d,rfl,_,_,rfl,rfl,_,rfl,?_⟩;rcases (Decidable.em (0<=y)).symm with c | c;rw[decide_eq_false (λz=>c z.2.2.1)] at k
 rw[decide_eq_false c];exact ZF rfl k;rw[decide_eq_true c];refine Zy rfl ⟨_,rfl,_,_,rfl,rfl,?_⟩;rw[decide_eq_decide.mpr (show (0<=x/\x<n/\0<=y/\y<n)↔y<n from ⟨λz=>z.2.2.2,λz=>⟨b,a,c,z⟩⟩)] at k;exact k
def UN:zE ["links"] ["links"] (zo yU):=fs
def Jp{mg:SV}(S:ZH K mg "are_rising" yU ["links"])(T:Txt mg)(zall:mg "all"=none):Def P w K mg base 1 "are_rising" ["links"] (vh K):=S.def λf fd F=>by
 refine F.yh UN λnd cdv A' outer s H vs Q E hr h=>?_;obtain⟨t,us,ps,rfl,d,I,few,k⟩:=h;refine⟨_,(q1 (qr (qy (Qv rfl) zall boot_all (qa (qG (zo yU) ["one","other"] [none,none] ⟨z0q 02 02 02 rfl T.zip (@ze _ _ _ _ _ 02 (pv 0) (@ze _ _ _ _ _ 02 (Yi Z0l (pv 0) (xm zI) YX) zF))⟩ trivial (λ_ _ _ _ _ _=>(qj K 2 (qH (qg 0) (qH (qg 1) qN)))) (λ_ _ _ _ _=>qV) (λ_ _ _ _ _=>(qe (z9s (K:=K) rfl hr.Z3e) (qv 0) (qv 1)))) qn)))),?_⟩;have L:=I.len;refine⟨_,rfl,_,rfl,_,rfl,?_⟩;cases us with
 | nil =>
   refine .inl ⟨t,rfl,zR.of d,false,false,t,t,[],[],rfl,sqf (zR.of d),sqf (zR.of d),λD m=>?_⟩;refine vY (K:=K) (b1:=false) (b2:=false) (a:=t) (b:=t) (D:=D) (xs:=[]) (zs:=[]) (Z02 _) (λi c σ G=>zC H G/\G D=some (.lst c)/\c=[]) ⟨zC.new m,zB,rfl⟩ ?_ ?_ ?_;rintro i c σ G ⟨s,e,_⟩;exact⟨sqf (zR.of (s _ _ d)),sqf (zR.of (s _ _ d)),e⟩;rintro i x z c σ G T G' h1 _ j;exact absurd j (Z4q _);rintro c σ G ⟨s,e,rfl⟩;refine⟨D,[],rfl,zN.of e,?_⟩;have:=k G s;rw[decide_eq_true (by rw[Z35.mp L.symm];exact List.Pairwise.nil)] at this;exact this
 | cons u us =>
   refine .inr ⟨t,_,rfl,zR.of d,?_,λq G1 s1 m1 y=>?_⟩;rw[show (some (1:Int))=some ((1:Nat):Int) from rfl,HT.yG,HT.Z4,Z07];lia;have Y:yT (u :: us) (some 1) none=us:=by
    unfold yT;rw[show (some (1:Int))=some ((1:Nat):Int) from rfl,HT.yG,HT.Z4,Z07,Nat.min_eq_left 00];show (us.take _)=us;exact Z12 00
   rw[Y] at y;rw[Z07] at L;have n:=I.kl s1.kl;refine⟨false,false,t,q,u :: us,us,rfl,sqf (zR.of (s1 _ _ d)),sqf (zR.of y),λD m=>?_⟩;refine vY (K:=K) (b1:=false) (b2:=false) (a:=t) (b:=q) (D:=D) (xs:=u :: us) (zs:=us) (by rw[Z07];lia) (λi c σ G=>zC G1 G/\G D=some (.lst c)/\c=((adj ps).take i).map V.bl/\∃ v w,σ=[v,w]) ⟨zC.new m,zB,rfl,none,none,rfl⟩ ?_ ?_ ?_;rintro i c σ G ⟨s,e,_⟩;exact⟨sqf (zR.of (s _ _ (s1 _ _ d))),sqf (zR.of (s _ _ y)),e⟩
   · rintro i x z c σ G T G' M R j ⟨J,O,rfl,v,w,rfl⟩ hT C eT
     have l:=n.kl (J.trans C).kl;obtain⟨U,A,ex,rfl,B⟩:=l.get M;obtain⟨X,p,N,rfl,r⟩:=l.get (i:=i+1) (by simpa using R);have Z:=z4A ps i A p ex N;refine⟨T,_,rfl,zR.of eT,rfl,_,_,rfl,_,_,rfl,rfl,?_⟩;refine Zy rfl ?_;refine⟨_,rfl,_,rfl,U,X,[A.1,A.2],[p.1,p.2],rfl,rfl,B,r,C _ _ O,(by rw[ZB,Z1r,jW,sizeLine_eq];lia),Wt.next j ⟨λb o e=>by rw[zD (zh e m)];exact C _ _ (J _ _ e),zB,?_,_,_,rfl⟩⟩;rw[Z28,Z,Z13];rfl
   rintro c σ G ⟨s,e,rfl,_⟩;refine⟨D,_,rfl,zN.of e,?_⟩;rw[Z12 (by rw[jW];lia),z4r];exact k G (s1.trans s)
def Jj:zE ["pages","thing"] ["pages","thing"] (zo Yv):=fs
def z1a{mg:SV}(S:ZH K mg "are_links" Yv ["pages","thing"])(T:Txt mg)(L:mg "MOST_PAGES"=some (.int 12 tP))(I:mg "MOST_LINKS"=some (.int 60 tL))(zall:mg "all"=none)(Il:Def P w K mg base 3 "is_link" ["pages","thing"] (ja K))(Ri:Def P w K mg base 1 "are_rising" ["links"] (vh K)):Def P w K mg base 4 "are_links" ["pages","thing"] (z0H K):=S.def λf fd F=>by
 refine F.yh Jj λnd cdv A' outer s H vs Q E hr h=>?_;obtain⟨t,n,us,ps,rfl,d,c,few,k⟩:=h;refine⟨_,(qc (qf (qW (qO (qT (qp (qy vy T.isi boot_isinstance (qa (qv 1) (qa ⟨Xe (v:=.ty "tuple") 02 T.tup boot_tuple rfl⟩ qn))))) (qP (qk z1e (qy zY T.len Z38 (qa (qv 1) qn)) ⟨ZX (v:=.int 60) 02 I ⟨_,rfl⟩⟩)))) (q1 (qr qb)) q0) (q1 (qr (q4 (qy (Qv rfl) zall boot_all (qa (qG (zo Yv) ["each","pages"] [none,some 0] (qU (qv 1)) ⟨016,trivial⟩ (λ_ _ _ _ _ _=>(qg 0)) (λ_ _ _ _ _=>qV) (λ_ _ _ _ _=>(qd Il (qa (qv 1) (qa (qv 0) qn))))) qn)) (q6 (qd Ri (qa (qv 1) qn))))))),?_⟩;have C:=c.len;refine⟨_,rfl,t,_,rfl,zR.of d,_,rfl,ZF rfl ?_⟩;have no:∀ H',zC H H'->¬ vf n ps->Q (.bl false) H':=λH' s h=>by
  have:=k H' s;rwa [decide_eq_false h] at this
 refine⟨_,rfl,t,_,rfl,.inr (zR.of d),_,_,rfl,rfl,_,rfl,?_⟩;by_cases h60:us.length<=60
 case neg=>exact Zy (decide_eq_true (show (60:Int)<((us.length:Nat):Int) by lia)) (no H (zC.refl H) λf=>h60 (by rw[C];exact f.1))
 refine ZF (decide_eq_false (show ¬ (60:Int)<((us.length:Nat):Int) by lia)) ?_;refine⟨_,rfl,t,rfl,⟨_,zR.of d⟩,λD r=>?_⟩;refine xC (K:=K) (a:=t) (D:=D) (xs:=us) (λi j σ G=>zC H G/\G D=some (.lst j)/\j=((ps.take i).map λp=>decide (0<=p.1/\p.1<n/\0<=p.2/\p.2<n)).map V.bl/\∃ v,σ=[v,some (.int n)]) ⟨zC.new r,zB,rfl,none,rfl⟩ ?_ ?_ ?_;rintro i j σ G ⟨s,e,_⟩;exact⟨zR.of (s _ _ d),e⟩
 · rintro i x j σ G A l ⟨q,B,rfl,v,rfl⟩
   obtain⟨J,y,ex,rfl,m⟩:=(c.kl q.kl).get A;dsimp only [Zo];rw[if_pos rfl];refine⟨_,rfl,_,rfl,n,y.1,y.2,J,rfl,m,B,(by rw[ZB,ZB,Z1r,sizeLine_eq];lia),Wt.next l ⟨λb o e=>by rw[zD (zh e r)];exact q _ _ e,zB,?_,_,rfl⟩⟩;rw[Z28,ex,Z13,Z13];rfl
 · rintro j σ G ⟨s,e,rfl,_⟩
   refine⟨D,_,rfl,zN.of e,?_⟩;rw[Z12 00,List.all_map];by_cases rng:∀ p∈ps,0<=p.1/\p.1<n/\0<=p.2/\p.2<n
   case neg =>
    have:(ps.all (id ∘ λp=>decide (0<=p.1/\p.1<n/\0<=p.2/\p.2<n)))=false:=by
     rw[Bool.eq_false_iff];intro z;exact rng λp c=>of_decide_eq_true (Z56.mp z p c)
    rw[this];exact⟨_,rfl,ZF rfl (no G s λf=>rng f.2.1)⟩
   have:(ps.all (id ∘ λp=>decide (0<=p.1/\p.1<n/\0<=p.2/\p.2<n)))=true:=Z56.mpr λp c=>decide_eq_true (rng p c);rw[this];refine⟨_,rfl,Zy rfl ⟨_,rfl,t,us,ps,rfl,s _ _ d,c.kl s.kl,00,λG' s'=>?_⟩⟩;have:=k G' (s.trans s');rwa [decide_eq_decide.mpr (show vf n ps↔ps.Pairwise yj from ⟨λf=>f.2.2,λu=>⟨00,rng,u⟩⟩)] at this
def z5o:zE ["thing","pages"] ["thing"] (zo uL):=fs
def z8m{mg:SV}(S:ZH K mg "is_web" uL ["thing"])(T:Txt mg)(i:mg "MOST_PAGES"=some (.int 12 tP))(j:mg "MOST_LINKS"=some (.int 60 tL))(Wh:Def P w K mg base 1 "is_whole" ["thing"] QZ)(Al:Def P w K mg base 4 "are_links" ["pages","thing"] (z0H K)):Def P w K mg base 5 "is_web" ["thing"] (J4 K):=S.def λf fd F=>by
 refine F.yh z5o λnd cdv A' outer s H vs Q E hr h=>?_;obtain⟨a,n,ps,rfl,hw,few,k⟩:=h;refine⟨_,(qc (qf (qW (qO (qT (qp (qy vy T.isi boot_isinstance (qa (qv 0) (qa ⟨Xe (v:=.ty "tuple") 02 T.tup boot_tuple rfl⟩ qn))))) (qP (qk Qy (qy zY T.len Z38 (qa (qv 0) qn)) qi)))) (q1 (qr qb)) q0) (qc (qs 1 026) (q1 (qr (q4 (qd Wh (qa (qv 1) qn)) (q4 ⟨Qw z0u z0u zI (pv 1) (ZX (v:=.int 12) 02 i ⟨_,rfl⟩) (by with_unfolding_all rfl)⟩ (q6 (qd Al (qa (qv 1) (qa 026 qn)))))))))),?_⟩;obtain⟨t,us,b,d,c⟩:=hw;have no:∀ H',zC H H'->¬ (1<=n/\n<=12/\vf n ps)->Q (.bl false) H':=λH' s h=>by
  have:=k H' s;rwa [decide_eq_false h] at this
 refine⟨_,rfl,a,_,rfl,zR.of b,_,rfl,ZF rfl ?_⟩;refine⟨_,rfl,a,_,rfl,.inr (zR.of b),rfl,_,rfl,ZF rfl ?_⟩;refine⟨_,rfl,Zw (zR.of b) rfl ?_⟩;refine⟨_,rfl,n,rfl,_,rfl,Zy rfl ?_⟩;refine⟨_,rfl,_,_,rfl,rfl,_,rfl,?_⟩;by_cases h1:1<=n
 case neg =>
  rw[decide_eq_false h1];exact ZF rfl ⟨_,rfl,ZF rfl (no H (zC.refl H) λf=>h1 f.1)⟩
 rw[decide_eq_true h1];refine Zy rfl ⟨_,_,rfl,rfl,_,rfl,?_⟩;by_cases h2:n<=12
 case neg =>
  rw[decide_eq_false h2];exact ZF rfl (no H (zC.refl H) λf=>h2 f.2.1)
 rw[decide_eq_true h2];refine Zy rfl ?_;refine⟨_,rfl,_,rfl,Zw (zR.of b) rfl ⟨t,n,us,ps,rfl,d,c,few,λG s=>?_⟩⟩;have:=k G s;rwa [decide_eq_decide.mpr (show (1<=n/\n<=12/\vf n ps)↔vf n ps from ⟨λf=>f.2.2,λf=>⟨h1,h2,f⟩⟩)] at this
def Uc:zE ["text","most"] ["text","most"] (zo yy):=fs
def U0{mg:SV}(S:ZH K mg "are_figures" yy ["text","most"])(T:Txt mg)(zall:mg "all"=none):Def P w K mg base 1 "are_figures" ["text","most"] z1C:=S.def λf fd F=>by
 refine F.yh Uc λnd cdv A' outer s H vs Q E hr h=>?_;obtain⟨x,m,rfl,a,d,k⟩:=h;refine⟨_,(qc (qf (qW (qO (qk Ze (qv 0) qw) (qO (qk z1e (qy JY T.len Z38 (qa (qv 0) qn)) (qv 1)) (qP (qT (qp (qy (Qv rfl) zall boot_all (qa (qG (zo yy) ["sign"] [none] ⟨Z1W (pv 0)⟩ trivial (λ_ _ _ _ _ _=>(qg 0)) (λ_ _ _ _ _=>qV) (λ_ _ _ _ _=>(qe z5T (qv 0) qw))) qn)))))))) (q1 (qr qb)) q0) (q1 (qr (q5 (qe Ze (qv 0) qw) (q6 (q7 (qm Z1v Z47 Z5v jT (qv 0) (qa qw qn)))))))),?_⟩;have b:=z6P a;have no:∀ H',zC H H'->¬ Pw.Q9 m x->Q (.bl false) H':=λH' s h=>by
  have:=k H' s;rwa [decide_eq_false h] at this
 refine 028;rw[uJ,Z1b];by_cases h0:x.cps.toList=[];rw[decide_eq_true h0];exact Zy rfl (Zy rfl (no H (zC.refl H) λf=>Pw.u9 f h0));rw[decide_eq_false h0];refine ZF rfl ?_;refine⟨_,rfl,x,rfl,b,_,rfl,_,_,rfl,rfl,_,rfl,?_⟩;by_cases h1:x.cps.size<=m
 case neg =>
  exact Zy (decide_eq_true (show ((m:Nat):Int)<((x.cps.size:Nat):Int) by lia)) (Zy rfl (no H (zC.refl H) λf=>h1 f.2.1))
 refine ZF (decide_eq_false (show ¬ ((m:Nat):Int)<((x.cps.size:Nat):Int) by lia)) ?_;refine⟨_,rfl,x,rfl,λD c=>z7M a c λG s e=>?_⟩;refine⟨D,_,rfl,zN.of e,?_⟩;rw[z9F];by_cases h2:x.cps.toList.all Pw.Vr=true
 case neg =>
  rw[Bool.not_eq_true] at h2;rw[h2];exact⟨_,rfl,Zy rfl (no G s λf=>by rw[f.2.2.1] at h2;cases h2)⟩
 rw[h2];refine⟨_,rfl,ZF rfl ?_⟩;refine 028;rw[uJ,t_0];by_cases h3:x.cps.toList=[48];rw[decide_eq_true h3];have f:Pw.Q9 m x:=⟨Nat.pos_of_ne_zero λz=>h0 (Z35.mp (by rw[Z11];exact z)),h1,h2,.inl h3⟩;have:=k G s;rw[decide_eq_true f] at this;exact Zy rfl this;rw[decide_eq_false h3];refine ZF rfl ⟨_,rfl,rfl,x,48,rfl,z0o c_0,?_⟩;have key:(!decide (x.cps.toList.head?=some 48))=decide (Pw.Q9 m x):=by
  rw[← decide_not,decide_eq_decide];exact⟨λh=>⟨Nat.pos_of_ne_zero λz=>h0 (Z35.mp (by rw[Z11];exact z)),h1,h2,.inr h⟩,λf=>f.2.2.2.resolve_left h3⟩
 have:=k G s;rw[← key] at this;exact⟨_,rfl,this⟩
def ue:zE ["text","figures"] ["text"] (zo YB):=fs
def UY{mg:SV}(S:ZH K mg "read_number" YB ["text"])(T:Txt mg)(j:mg "MOST_FIGURES"=some (.int 13 tF))(Fi:Def P w K mg base 1 "are_figures" ["text","most"] z1C):Def P w K mg base 2 "read_number" ["text"] jY:=S.def λf fd F=>by
 refine F.yh ue λnd cdv A' outer s H vs Q E hr h=>?_;obtain⟨x,n,rfl,a,hn,k⟩:=h;refine⟨_,(qc (qs 1 (q8 (qp (qm Z1v Z47 Z5v jT (qv 0) (qa qw qn))) (q9 z2k (qv 0) (qQ qi) qK) (qv 0))) (qc (qf (qW (qO (qT (qp (qd Fi (qa (qv 1) (qa ⟨ZX (v:=.int 13) 02 j ⟨_,rfl⟩⟩ qn))))) (qP (qk Ze (qv 0) qw)))) (q1 ⟨z8Y⟩) q0) (q1 (qr (qY ju T.int boot_int (qa (qv 0) qn)))))),?_⟩;refine⟨_,rfl,rfl,x,45,rfl,z0o c_m,?_⟩;have f2:Pw.Q9 13 (Pw.QB x)/\x.cps.toList≠[45,48]:=by
  unfold Pw.yg at hn;split at hn;assumption;cases hn
 have sn:PySem.intText? x=some n:=by unfold Pw.yg at hn;rwa [if_pos f2] at hn
 obtain⟨n',c,b⟩:=Pw.z9Q f2.1
 suffices go:∀ y:Str,y=Pw.QB x->y.cps.size<=8000->(xj (Z0h (tOr (Z2m (tB (uu z1C [] E0 (Xv (uD 1) (Xv (tC (V.int 13)) VB))))) (z3W (tOp rEq (uD 0) (tC (V.str (Str.ofString "-0")))))) z8W z9a) (Z1R (tCB Z1K (Xv (uD 0) VB)))) { nx:=λx H'=>Q V.Zn H',rt:=Q } [some (.str x),some (.str y)] H by
  by_cases hd:x.cps.toList.head?=some 45;rw[decide_eq_true hd];refine⟨_,rfl,Zy rfl ⟨_,rfl,_,rfl,x,rfl,a,?_⟩⟩;exact go _ (by unfold Pw.QB;rw[if_pos hd]) (Z0Y (Txt.slice_le x _ _) a);rw[decide_eq_false hd];refine⟨_,rfl,ZF rfl ⟨_,rfl,?_⟩⟩;exact go _ (by unfold Pw.QB;rw[if_neg hd]) a
 intro y d i;refine⟨_,rfl,y,13,rfl,i,01,λG s=>?_⟩;rw[d,decide_eq_true f2.1];refine⟨_,rfl,ZF rfl 028⟩;rw[uJ,Z6j,decide_eq_false f2.2];exact ZF rfl ⟨_,rfl,x,n,rfl,sn,00,k G s⟩
def Qp:zE ["text","between","ends"] ["text","between"] (zo xJ):=fs
def z1r{mg:SV}(S:ZH K mg "read_pair" xJ ["text","between"])(T:Txt mg)(XT:JS K mg "NoText" Xt)(Rn:Def P w K mg base 2 "read_number" ["text"] jY):Yk P w K mg base (Yo P w Xt) 3 "read_pair" ["text","between"] (z0Q Xt):=S.uP λf fd F=>by
 have nd:=Qp.nd;refine F.okN Qp 020 07;obtain⟨_,_,rfl,_⟩:=h;rfl;obtain⟨x,c,rfl,j,k⟩:=h;refine⟨_,@qz _ _ _ (qc (qs 2 (qm Z1v Z50 PySem.F.type_str_split um (qv 0) (qa (qv 1) qn))) (qc (qf (qk Qy (qy zY T.len Z38 (qa (qv 2) qn)) qi) 015 q0) (q1 (qr (qt (qa (qd Rn (qa (qx zW (qv 2) qi) qn)) (qa (qd Rn (qa (qx zW (qv 2) qi) qn)) qn))))))),?_⟩;rcases k with⟨A,d,k⟩|⟨h2,kE⟩;obtain⟨u,v,i,l,r⟩:∃ u v,Txt.split x (ZD c)=[u,v]/\Pw.yg u=some A.1/\Pw.yg v=some A.2:=by
  unfold Pw.pr? at d;split at d;rename_i u v i;obtain⟨a,ha,d⟩:=Option.bind_eq_some_iff.mp d;obtain⟨b,t,d⟩:=Option.bind_eq_some_iff.mp d;cases d;exact⟨u,v,i,ha,t⟩;cases d
 have C:u.cps.size<=8000:=Z0Y (part_short (x:=x) (y:=ZD c) (by rw[i];simp)) j;have o:v.cps.size<=8000:=Z0Y (part_short (x:=x) (y:=ZD c) (by rw[i];simp)) j;refine⟨_,rfl,rfl,_,rfl,x,c,rfl,rfl,j,λp G s m e=>?_⟩;rw[i] at e;refine⟨_,rfl,p,_,rfl,.inl (zN.of e),rfl,_,rfl,ZF rfl ?_⟩;refine⟨_,rfl,yN (zN.of e) rfl ⟨u,_,rfl,C,l,λG1 s1=>?_⟩⟩;refine⟨_,rfl,yN (zN.of (s1 _ _ e)) rfl ⟨v,_,rfl,o,r,λG2 s2=>?_⟩⟩;refine⟨zl2,λq G3 s3 B n=>?_⟩;exact k q G3 (s.trans (s1.trans (s2.trans s3))) ((s.trans (s1.trans s2)).Zn B) n;refine⟨_,rfl,rfl,_,rfl,x,c,rfl,rfl,j,λp G s m e=>⟨_,rfl,p,_,rfl,.inl (zN.of e),rfl,_,rfl,Zy ?_ ⟨035,kE G s⟩⟩⟩;rw[ZB,Bool.not_eq_true',decide_eq_false_iff_not];intro z;have:=V.int.inj z;lia
def Z4w:zE ["thing"] ["thing"] (zo Z3l):=fs
def UM{mg:SV}(S:ZH K mg "is_fraction" Z3l ["thing"])(T:Txt mg)(Pw2:Def P w K mg base 2 "is_pair_of_wholes" ["thing"] (j8 K))(Co:Def P w K mg base 1 "common" ["one","other"] YM):Def P w K mg base 3 "is_fraction" ["thing"] (JK K):=S.def λf fd F=>by
 refine F.yh Z4w λnd cdv A' outer s H vs Q E hr h=>?_;obtain⟨p,A,rfl,a,k⟩:=h;refine⟨_,(q1 (qr (q4 (qd Pw2 (qa (qv 0) qn)) (q4 (qe QN 026 qi) (q6 (qe Ze (qd Co (qa (qy Uk T.abs boot_abs (qa 026 qn)) (qa 026 qn))) qi)))))),?_⟩;refine⟨_,rfl,p,A.1,A.2,rfl,a,_,rfl,Zy rfl ?_⟩;refine⟨_,rfl,Zw a rfl ⟨_,_,rfl,rfl,_,rfl,?_⟩⟩;by_cases h1:1<=A.2
 case neg =>
  rw[decide_eq_false h1];rw[decide_eq_false (λz=>h1 z.1)] at k;exact ZF rfl k
 rw[decide_eq_true h1];refine Zy rfl ?_;refine⟨_,rfl,Zw a rfl ⟨_,rfl,_,rfl,Zw a rfl ⟨_,_,rfl,by split <;> lia,00,rfl,?_⟩⟩⟩;have e:Int.gcd (if A.1<0 then -A.1 else A.1) A.2=Int.gcd A.1 A.2:=by
  split;rw[Int.neg_gcd];rfl
 rw[e];have b:decide (V.int ((Int.gcd A.1 A.2:Nat):Int)=V.int 1)=decide (1<=A.2/\Int.gcd A.1 A.2=1):=by
  rw[decide_eq_decide];constructor;intro z;have:=V.int.inj z;exact⟨h1,00⟩;rintro⟨_,z⟩;rw[z];rfl
 rw[b];exact k
def YN:zE ["text","fraction"] ["text"] (zo yO):=fs
def Vx{mg:SV}(S:ZH K mg "read_fraction" yO ["text"])(T:Txt mg)(XT:JS K mg "NoText" Xt)(Rp:Yk P w K mg base (Yo P w Xt) 3 "read_pair" ["text","between"] (z0Q Xt))(If:Def P w K mg base 3 "is_fraction" ["thing"] (JK K)):Yk P w K mg base (Yo P w Xt) 4 "read_fraction" ["text"] (z0i K Xt):=S.uP λf fd F=>by
 have nd:=YN.nd;refine F.okN YN 020 07;obtain⟨_,rfl,_⟩:=h;rfl;obtain⟨x,rfl,b,k⟩:=h;refine⟨_,@qz _ _ _ (qc (qs 1 ⟨YY 02 02 02 01 Rp 029 XF (@ze _ _ _ _ _ 02 (pv 0) (@ze _ _ _ _ _ 02 zK zF))⟩) (qc (qf (qT (qp (qd If (qa (qv 1) qn)))) 015 q0) (q1 (qr (qv 1))))),?_⟩;rcases k with⟨A,fx,k⟩|⟨h2,kE⟩;obtain⟨i,c,d⟩:=id fx;refine⟨_,rfl,x,47,by rw[Z2S];rfl,b,.inl ⟨A,i,λp G s j a=>⟨_,rfl,p,A,rfl,zR.of a,_,rfl,?_⟩⟩⟩
 rw[decide_eq_true ⟨c,d⟩];exact ZF rfl ⟨_,rfl,k p G s a⟩;exact⟨_,rfl,x,47,by rw[Z2S];rfl,b,.inr ⟨h2,kE⟩⟩
def Vd:zE ["text","words","web"] ["text"] (zo Y7):=fs
def z2B{mg:SV}(S:ZH K mg "read_web" Y7 ["text"])(T:Txt mg)(XT:JS K mg "NoText" Xt)(Rn:Def P w K mg base 2 "read_number" ["text"] jY)(Rp:Def P w K mg base 3 "read_pair" ["text","between"] z1d)(Iw:Def P w K mg base 5 "is_web" ["thing"] (J4 K)):Yk P w K mg base (Yo P w Xt) 6 "read_web" ["text"] (z4v K Xt):=S.uP λf fd F=>by
 have nd:=Vd.nd;refine F.okN Vd 020 07;obtain⟨_,rfl,_⟩:=h;rfl
 · obtain⟨x,rfl,z,k⟩:=h
   refine⟨_,@qz _ _ _ (qc (qs 1 (qm Z1v Z50 PySem.F.type_str_split um (qv 0) (qa qw qn))) (qc (qf (qW (qO (qk Qy (qx zW (qv 1) qi) qw) (qP (qk uH (qy zY T.len Z38 (qa (qv 1) qn)) qi)))) 015 q0) (qc (qs 2 (qt (qa (qd Rn (qa (qx zW (qv 1) qi) qn)) (qa (qY yu T.tup boot_tuple (qa (qG (zo Y7) ["word"] [none] (qL (q9 VH (qv 1) (qQ qi) qK)) trivial (λ_ _ _ _ _ _=>(qg 0)) (λ_ _ _ _ _=>qV) (λ_ _ _ _ _=>(qd Rp (qa (qv 0) (qa qw qn))))) qn)) qn)))) (qc (qf (qT (qp (qd Iw (qa (qv 2) qn)))) 015 q0) (q1 (qr (qv 2))))))),?_⟩;rcases k with⟨w,r,e2,h0,kE⟩|⟨wp,ws,n,ps,e2,hn,hps,k,kE⟩;refine⟨_,rfl,rfl,x,32,rfl,z0o Z0O,z,λp G s Z e=>?_⟩
   rw[e2] at e;refine⟨_,rfl,yN (v:=.str w) (zN.of e) (Zi (j:=0) rfl) ⟨rfl,_,rfl,?_⟩⟩;rw[uJ,decide_eq_false h0];exact Zy rfl (Zy rfl ⟨035,kE G s⟩);refine⟨_,rfl,rfl,x,32,rfl,z0o Z0O,z,λp G s Z e=>?_⟩;have hle:=split_le x (ZD 32);have hxl:x.length<=8000:=z;have sh:∀ y∈Txt.split x (ZD 32),y.cps.size<=8000:=λy Y=>Z0Y (part_short Y) z;rw[e2] at e sh hle;rw[Z07,Z07] at hle;have C:ps.length=ws.length:=by
    have:=congrArg List.length hps;rw[ZB,ZB] at this;lia
   refine⟨_,rfl,yN (zN.of e) (Zi (j:=0) rfl) ⟨rfl,_,rfl,?_⟩⟩;rw[uJ];refine ZF rfl ⟨_,rfl,p,_,rfl,.inl (zN.of e),_,_,rfl,rfl,_,rfl,?_⟩;refine ZF (decide_eq_false (by rw[ZB,Z07,Z07];show ¬ (((ws.length+1+1:Nat):Nat):Int)<2;lia)) ?_;refine⟨_,rfl,yN (v:=.str wp) (zN.of e) (Zi (j:=1) rfl) ⟨wp,n,rfl,sh wp 05,hn,λG1 s1=>?_⟩⟩;refine⟨_,rfl,_,rfl,p,_,rfl,zN.of (s1 _ _ e),λq hq=>?_⟩;have R:yT (List.map V.str (Str.ofString "pages" :: wp :: ws)) (some 2) none=ws.map V.str:=by
    unfold yT;rw[show (some (2:Int))=some ((2:Nat):Int) from rfl,HT.yG,HT.Z4,ZB,Z07,Z07,Nat.min_eq_left 00];show ((ws.map V.str).take _)=ws.map V.str;exact Z12 (by rw[ZB];lia)
   rw[R];have s2:zC G1 (upd G1 q (.lst (ws.map V.str))):=zC.new hq;have eq:(upd G1 q (.lst (ws.map V.str))) q=some (.lst (ws.map V.str)):=zB;generalize upd G1 q (.lst (ws.map V.str))=G2 at s2 eq ⊢;refine⟨q,rfl,⟨_,zN.of eq⟩,λD J=>?_⟩;have B:zC H G2:=s.trans (s1.trans s2);refine Z3 (K:=K) (a:=q) (D:=D) (xs:=ws.map V.str) (λi d σ G'=>zC G2 G'/\G' D=some (.lst d)/\Zm K G' (ps.take i) d/\∃ v,σ=[v]) ⟨zC.new J,zB,rfl,none,rfl⟩ ?_ ?_ ?_;rintro i d σ G' ⟨s',X,_⟩;exact⟨zN.of (s' _ _ eq),X⟩
   · rintro i v d σ G' I c ⟨s',A,l,v0,rfl⟩
     rw[ZB] at c;have m:i<ps.length:=00;have ev:v=.str ws[i]:=by
      rw[Z17,Z03 c] at I;exact (Z19 I).symm
     subst ev;have U:Pw.pr? 62 ws[i]=some ps[i]:=by
      have:=congrArg (·[i]?) hps
      simpa[c,m] using this
     have u:=l.len;rw[Z1r] at u;dsimp only [Zo];rw[if_pos rfl];refine⟨_,rfl,ws[i],62,ps[i],by rw[Z4M];rfl,sh _ 05,U,λt G3 s3 ht N=>?_⟩;refine⟨s3 _ _ A,by rw[u,sizeLine_eq];lia,Wt.next (by rw[ZB];exact c) ⟨λb o e=>by rw[zD (zh e J)];exact s3 _ _ (s' _ _ e),zB,?_,_,rfl⟩⟩;have k1:KL G3 (upd G3 D (.lst (d ++ [.ref t]))):=KL.set (s3 _ _ A);rw[Z28,Z03 m];exact Zm.snoc (zR.of (k1.tup N)) (Zm.kl k1 (Zm.kl s3.kl l))
   rintro d σ G' ⟨s',A,l,_⟩;rw[ZB,← C,List.take_length] at l;refine⟨D,d,rfl,zN.of A,λt G3 s3 m3 O=>?_⟩;refine⟨zl2,λa G4 s4 m4 M=>?_⟩;have hw:ZC K G4 a n ps:=⟨t,d,M,s4 _ _ O,l.kl (s3.trans s4).kl⟩;refine⟨_,rfl,a,n,ps,rfl,hw,00,λG5 s5=>?_⟩;have L:zC H G5:=B.trans (s'.trans (s3.trans (s4.trans s5)));refine⟨_,rfl,?_⟩;by_cases f:1<=n/\n<=12/\vf n ps;rw[decide_eq_true f];exact ZF rfl ⟨_,rfl,k f a G5 L (hw.same s5)⟩;rw[decide_eq_false f];exact Zy rfl ⟨035,kE f G5 L⟩
def Z2B:zE ["web","one","other"] ["web","one","other"] (zo z8x):=fs
def J3{mg:SV}(S:ZH K mg "with_link" z8x ["web","one","other"])(T:Txt mg) :Def P w K mg base 1 "with_link" ["web","one","other"] (Jf K):=S.def λf fd F=>by
 refine F.yh Z2B λnd cdv A' outer s H vs Q E hr h=>?_;obtain⟨a,n,x,y,ps,rfl,hw,few,k⟩:=h;refine⟨_,(q1 (qr (qt (qa 026 (qa (qY yu T.tup boot_tuple (qa (qy Xx T.srt boot_sorted (qa (qo Q6 026 (qt (qa (qt 033) qn))) qn)) qn)) qn))))),?_⟩;obtain⟨t,us,r,z,o⟩:=hw;have M:=o.len;refine⟨_,rfl,Zw (zR.of r) rfl ?_⟩;refine⟨_,rfl,Zw (zR.of r) rfl ⟨_,rfl,_,rfl,zl2,λq G1 s1 L I=>⟨zl1,λq1 G2 s2 R D=>?_⟩⟩⟩;have d:=s1.trans s2;refine⟨t,q1,us,[.ref q],rfl,rfl,d _ _ z,D,?_,λp G3 s3 A=>?_⟩;rw[sizeLine_eq];simp only[Z07,Z4K];lia;have c:=d.trans s3;have j:Zm K G3 (ps ++ [(x,y)]) (us ++ [.ref q]):=Zm.snoc (p:=(x,y)) (zR.of (s3 _ _ (s2 _ _ I))) (o.kl c.kl);refine⟨p,_,_,rfl,zR.of A,j,?_,λws ms D2 G4 pm G i s4 N u=>?_⟩;rw[Z10,Z41];lia;refine⟨D2,ws,rfl,zN.of u,λv G5 s5 O J=>⟨zl2,λb G6 m B C=>?_⟩⟩;have l:=c.trans (s4.trans (s5.trans m));exact k b G6 ms l ((c.trans (s4.trans s5)).free B) ⟨v,ws,C,m _ _ J,i.kl (s5.trans m).kl⟩ pm G
def z5N:zE ["web","one","other","links","place"] ["web","one","other"] (zo ua):=fs
def uM{mg:SV}(S:ZH K mg "without_link" ua ["web","one","other"])(T:Txt mg) :Def P w K mg base 1 "without_link" ["web","one","other"] (vD K):=S.def λf fd F=>by
 refine F.yh z5N λnd cdv A' outer s H vs Q E hr h=>?_;obtain⟨a,n,x,y,ps,rfl,hw,few,k1,k2⟩:=h;refine⟨_,(qc (qs 3 026) (qc (qf (qk (jP hr) (qt 033) (qv 3)) (q1 (qr ⟨V9⟩)) q0) (qc (qs 4 ⟨z3p 02 02 02 02 02 PySem.F.plainAttrs_tuple PySem.F.slot_tuple_index PySem.F.type_tuple_index (jd hr) (pv 3) (@ze _ _ _ _ _ 02 (@Zx _ _ _ _ _ (@ze _ _ _ _ _ 02 (pv 1) (@ze _ _ _ _ _ 02 (pv 2) zF))) zF)⟩) (q1 (qr (qt (qa 026 (qa (qo Q6 (q9 QI (qv 3) qK (qQ (qv 4))) (q9 QI (qv 3) (qQ (qo ZA (qv 4) qi)) qK)) qn)))))))),?_⟩;obtain⟨t,us,p,l,j⟩:=hw;have L:=j.len;refine⟨_,rfl,Zw (zR.of p) rfl ?_⟩;refine⟨_,rfl,_,rfl,zl2,λq G1 s1 G B=>⟨_,rfl,q,t,us,ps,(x,y),rfl,rfl,zR.of B,zR.of (s1 _ _ l),j.kl s1.kl,_,rfl,?_⟩⟩;by_cases hm:(x,y)∈ps;rw[decide_eq_true hm];refine ZF rfl ?_;have hi:=List.idxOf_lt_length_of_mem hm;refine⟨_,rfl,⟨t,us,rfl,s1 _ _ l⟩,_,rfl,_,rfl,zl2,λq2 G2 s2 N A=>?_⟩;have c:=s1.trans s2;refine⟨t,q2,us,ps,(x,y),rfl,rfl,c _ _ l,j.kl c.kl,zR.of A,hm,?_⟩;have i:ps.idxOf (x,y)<us.length:=00
 refine⟨_,rfl,Zw (zR.of (c _ _ p)) rfl ?_⟩;refine⟨_,rfl,_,rfl,_,rfl,t,us,rfl,zR.of (c _ _ l),?_,λv G3 s3 I o=>?_⟩;rw[HT.yG,HT.Z4];lia;refine⟨_,rfl,_,rfl,_,_,rfl,rfl,_,rfl,t,us,rfl,zR.of (s3 _ _ (c _ _ l)),?_,λu G4 s4 M m=>?_⟩;rw[show ((ps.idxOf (x,y):Nat):Int)+1=((ps.idxOf (x,y)+1:Nat):Int) from rfl,HT.yG,HT.Z4];lia;rw[Z4b i] at o;rw[Z0J i] at m;refine⟨v,u,_,_,rfl,rfl,s4 _ _ o,m,?_,λC G5 s5 D=>⟨zl2,λb G6 r J z=>?_⟩⟩;rw[Z1r,Z3K,sizeLine_eq];lia;have d:=c.trans (s3.trans (s4.trans (s5.trans r)));refine k2 hm b G6 d ⟨C,_,z,r _ _ D,?_⟩;rw[← xr ps hm];exact Zm.append ((j.kl d.kl).drop _) ((j.kl d.kl).take _);rw[decide_eq_false hm];refine Zy rfl ?_;exact k1 hm G1 s1
def Z2L:zE ["web"] ["web"] (zo z8k):=fs
def Z1V{mg:SV}(S:ZH K mg "even" z8k ["web"])(T:Txt mg)(M:Def P w K mg base 2 "made" ["above","below"] VM):Def P w K mg base 3 "even" ["web"] (Xh K):=S.def λf fd F=>by
 refine F.yh Z2L λnd cdv A' outer s H vs Q E hr h=>?_;obtain⟨wa,n,r,rfl,e,n1,n12,k⟩:=h;refine⟨_,(q1 (qr (qo z9Z (qt (qa (qd M (qa qi (qa 026 qn))) qn)) 026))),?_⟩;refine⟨_,rfl,Zw (zR.of e) (Zi (j:=0) rfl) ⟨1,(n:Int),rfl,00,yk 1 01,yk (m:=8000) 4 00,λp G1 s1 a=>⟨zl1,λq G2 s2 d c=>?_⟩⟩⟩;have hm:Pw.mk 1 (n:Int)=(1,(n:Int)):=Pw.Z5M 00;rw[hm] at a;refine⟨_,rfl,Zw (zR.of ((s1.trans s2) _ _ e)) (Zi (j:=0) rfl) ⟨q,(n:Int),_,rfl,rfl,c,05,00,00,?_,λt G3 s3 b=>k t G3 _ (s1.trans (s2.trans s3)) b ?_⟩⟩;rw[sizeLine_eq,Z31];show 1 * n<=_;lia;rw[Z31];exact yK.rep (p:=p) (A:=(1,(n:Int))) (s3 _ _ (s2 _ _ a)) n
def z0v:zE ["web"] ["web"] (zo xh):=fs
def z1Y{mg:SV}(S:ZH K mg "show_web" xh ["web"])(T:Txt mg)(zstr:mg "str"=none):Def P w K mg base 1 "show_web" ["web"] (Y3 K):=S.def λf fd F=>by
 refine F.yh z0v λnd cdv A' outer s H vs Q E hr h=>?_;obtain⟨a,n,ps,rfl,hw,L,n12,few,rng,k⟩:=h;refine⟨_,(q1 (qr (qo Zd (qo Zd qw (qY zQ zstr boot_str (qa 026 qn))) (qm Z1v Z3R Z49 (YR (K:=K) rfl) qw (qa (qG (zo xh) ["here","there"] [none,none] (qU 026) trivial (λ_ _ _ _ _ _=>(qj K 2 (qH (qg 0) (qH (qg 1) qN)))) (λ_ _ _ _ _=>qV) (λ_ _ _ _ _=>⟨Z4X 03 03 (pv 0) (pv 1)⟩)) qn))))),?_⟩;obtain⟨t,us,B,A,j⟩:=hw;have X:=j.len;have q:∀ i:Int,0<=i->i<=99->i.natAbs.log2<1920:=λi h0 h1=>Z4l 00 00;have zp:(Str.ofString "pages ").cps.size=6:=03
 have C:=Zb L (show n<=99 by lia);refine⟨_,rfl,Zw (zR.of B) rfl ⟨n,rfl,q n L 00,_,_,rfl,rfl,(by rw[yS,yS,sizeLine_eq];lia),rfl,?_⟩⟩;refine⟨_,rfl,Zw (zR.of B) rfl ⟨t,rfl,⟨_,zR.of A⟩,λD I=>?_⟩⟩;refine xC (K:=K) (a:=t) (D:=D) (xs:=us) (λi c σ G=>zC H G/\G D=some (.lst c)/\c=((ps.take i).map λp=>Str.ofString " " ++ Pw.ns p.1 ++ Str.ofString ">" ++ Pw.ns p.2).map V.str/\∃ v w,σ=[v,w]) ⟨zC.new I,zB,rfl,none,none,rfl⟩ ?_ ?_ ?_;rintro i c σ G ⟨s,e,_⟩;exact⟨zR.of (s _ _ A),e⟩
 · rintro i x c σ G M u ⟨l,m,rfl,v,Z,rfl⟩
   obtain⟨O,d,ex,rfl,y⟩:=(j.kl l.kl).get M;have r:=rng d (Z1q ex);have C:=Zb r.1 (show d.1<=99 by lia);have R:=Zb r.2.2.1 (show d.2<=99 by lia);refine⟨O,_,rfl,y,rfl,_,_,rfl,_,_,rfl,rfl,?_⟩;refine Zy rfl ?_;refine⟨_,rfl,d.1,rfl,q _ r.1 00,00,_,rfl,d.2,rfl,q _ r.2.2.1 00,00,m,(by rw[ZB,ZB,Z1r,sizeLine_eq];lia),Wt.next u ⟨λb o e=>by rw[zD (zh e I)];exact l _ _ e,zB,?_,_,_,rfl⟩⟩;rw[Z28,ex,Z13,Z13];rfl
 rintro c σ G ⟨l,m,rfl,_⟩;rw[Z12 00] at m;have J:∀ z∈ps.map (λp=>Str.ofString " " ++ Pw.ns p.1 ++ Str.ofString ">" ++ Pw.ns p.2),z.cps.size<=6:=λz h=>by
  obtain⟨p,j,rfl⟩:=Z18.mp h;have r:=rng p j;have C:=Zb r.1 (show p.1<=99 by lia);have R:=Zb r.2.2.1 (show p.2<=99 by lia);have Y:(Str.ofString " ").cps.size=1:=03
  have U:(Str.ofString ">").cps.size=1:=03
  rw[zP,zP,zP];show _+(Str.ofString (toString p.1)).cps.size+_+(Str.ofString (toString p.2)).cps.size<=6;lia
 have zn:(Str.ofString "").cps.size=0:=03
 have N:=vt (sep:=Str.ofString "") J;rw[ZB,zn] at N;refine⟨_,D,_,rfl,rfl,zN.of m,XO J ?_,_,_,rfl,rfl,?_,?_⟩;rw[ZB,zn];lia;rw[yS,yS,zP,sizeLine_eq];lia;rw[Pw.Z2M];exact k G l
open L2
def z4T:zE ["self","web","leap"] ["self","web","leap"] (zo Ue):=fs
def Z3r{mg:SV}(S:MkF K mg C "Live" "Live.__init__" Ue ["self","web","leap"])(T:Txt mg)(LT:U1 K C) :MkD P w K mg base Yn 1 C "Live" ["self","web","leap"] (Yr C):=S.def λf fd F=>by
 refine F.yh z4T λnd cdv A' outer s H vs Q E hr h=>?_;obtain⟨p,dx,wa,lp,rfl,d,k⟩:=h;refine⟨_,(qc (q3 (qv 0) (qv 1)) (qc (q3 (qv 0) (qv 2)) (q1 (q3 (qv 0) (ql qn))))),?_⟩;refine⟨_,rfl,_,rfl,p,C,dx,_,rfl,d,LT.cl,LT.nN,(by show 0<1000;decide),?_⟩;refine⟨_,rfl,_,rfl,p,C,dx,_,rfl,zB,LT.cl,LT.nL,(by show 1<1000;decide),?_⟩;refine⟨zl0,λpd G1 s1 a i=>?_⟩;have ne:p≠pd:=zh zB a;rw[zD ne.symm,zD ne.symm] at a;refine⟨_,rfl,p,C,dx,_,rfl,s1 _ _ zB,LT.cl,LT.nP,(by rw[show ya "leap" (V.ref lp) (ya "now" (V.ref wa) [])=([("now",V.ref wa),("leap",V.ref lp)]:List (Str×V)) from (by show (if ("now":Str)="leap" then [(("now":Str),V.ref lp)] else (("now":Str),V.ref wa) :: ya "leap" (V.ref lp) [])=_;rw[if_neg kNL];rfl)];show 2<1000;decide),?_⟩;refine k pd _ a ⟨⟨dx,zB⟩,by rw[zD ne.symm];exact i⟩ λb o e c=>?_;rw[zD c];exact s1 _ _ (by rw[zD c,zD c];exact e)
def z5X:zE ["self","web"] ["self","web"] (zo Ur):=fs
def Z1P{mg:SV}(S:Q5 K C "turn" "Live.turn" Ur ["self","web"])(T:Txt mg)(LT:U1 K C) :ZO P w K mg base Yn 1 C "turn" ["self","web"] (Qs C):=S.def λf fd F=>by
 refine F.yh z5X λnd cdv A' outer s H vs Q E hr h=>?_;obtain⟨p,b,now,lp,pd,us,rfl,l,j,k⟩:=h;refine⟨_,(qc (qX (qm Z2W Z44 Z43 ye (qD (qv 0)) (qa (qD (qv 0)) qn))) (q1 (q3 (qv 0) (qv 1)))),?_⟩;obtain⟨⟨dx,a⟩,d⟩:=l;have ne:p≠pd:=zX a d (by intro z;cases z);refine⟨_,rfl,p,C,dx,_,_,rfl,a,LT.cl,LT.nP,UE _ _ _,.inl ⟨rfl,_,zN.of d⟩,_,rfl,p,C,dx,_,_,rfl,a,LT.cl,LT.nN,Z9 _ _ _,pd,_,_,rfl,rfl,d,(by rw[sizeLine_eq];lia),?_⟩;refine⟨_,rfl,_,rfl,p,C,dx,_,rfl,(by rw[zD ne];exact a),LT.cl,LT.nN,z4Q _ _ _,?_⟩;refine k _ ⟨⟨dx,Eq.trans zB (congrArg (λl=>some (HO.ins C dx l)) (z4M _ _ _ _))⟩,by rw[zD ne.symm];exact zB⟩ λc o e i=>?_;rw[zD (λz=>i (by rw[z];simp)),zD (λz=>i (by rw[z];simp))];exact e
def VW:zE ["self","one","other"] ["self","one","other"] (zo vR):=fs
def z9P{mg:SV}(S:Q5 K C "check" "Live.check" vR ["self","one","other"])(T:Txt mg)(LT:U1 K C)(XT:JS K mg "NoLink" Xc)(Il:Def P w K mg base 3 "is_link" ["pages","thing"] (z0l K)):ZO P w K mg base (Yo P w Xc) 4 C "check" ["self","one","other"] (vp K C Xc):=S.def λf fd F=>by
 have nd:=VW.nd;refine F.okN VW 020 07;obtain⟨_,_,_,_,_,_,_,rfl,_⟩:=h;rfl;obtain⟨p,pd,lp,W,Ws,x,y,rfl,l,k,b⟩:=h;refine⟨_,@qz _ _ _ (q1 (qf (qT (qp (qd Il (qa (qx zJ (qD (qv 0)) qi) (qa (qt 033) qn))))) 015 q0)),?_⟩;obtain⟨now,us,lv,hw,m⟩:=l;obtain⟨⟨dx,d⟩,o⟩:=lv;obtain⟨t,ws,a,n,j⟩:=hw;refine⟨_,rfl,p,C,dx,_,_,rfl,d,LT.cl,LT.nN,Z9 _ _ _,Zw (zR.of a) rfl ⟨_,rfl,_,rfl,zl2,λq G1 s1 i c=>?_⟩⟩;refine⟨W.1,x,y,q,rfl,c,_,rfl,?_⟩;by_cases hb:InB W.1 x y;rw[decide_eq_true hb];exact ZF rfl (k hb G1 s1);rw[decide_eq_false hb];exact Zy rfl ⟨035,b hb G1 s1⟩
def z6K:zE ["self"] ["self"] (zo JR):=fs
def Z4E{mg:SV}(S:Q5 K C "web" "Live.web" JR ["self"])(T:Txt mg)(LT:U1 K C) :ZO P w K mg base Yn 1 C "web" ["self"] (vI K C):=S.def λf fd F=>by
 refine F.yh z6K λnd cdv A' outer s H vs Q E hr h=>?_;obtain⟨p,pd,lp,W,Ws,rfl,l,k⟩:=h;refine⟨_,(q1 (qr (qD (qv 0)))),?_⟩;obtain⟨now,us,lv,hw,b⟩:=id l;obtain⟨⟨dx,a⟩,c⟩:=id lv;exact⟨_,rfl,p,C,dx,_,_,rfl,a,LT.cl,LT.nN,Z9 _ _ _,k now hw⟩
def jO:zE ["self","one","other"] ["self","one","other"] (zo ux):=fs
def Z2i{mg:SV}(S:Q5 K C "link" "Live.link" ux ["self","one","other"])(T:Txt mg)(LT:U1 K C)(XT:JS K mg "NoLink" Xc)(M:mg "MOST_PAGES"=some (.int 12 tP))(B:mg "MOST_LINKS"=some (.int 60 tL))(Ch:ZO P w K mg base (Yo P w Xc) 4 C "check" ["self","one","other"] (vp K C Xc))(Tu:ZO P w K mg base Yn 1 C "turn" ["self","web"] (Qs C))(Wi:Def P w K mg base 1 "with_link" ["web","one","other"] (Jf K)):ZO P w K mg base (Yo P w Xc) 5 C "link" ["self","one","other"] (J8 K C Xc):=S.def λf fd F=>by
 have nd:=jO.nd;refine F.okN jO 020 07;obtain⟨_,_,_,_,_,_,_,rfl,_⟩:=h;rfl;obtain⟨p,pd,lp,W,Ws,x,y,rfl,l,L,A,k,n⟩:=h;refine⟨_,@qz _ _ _ (qc (qX ⟨Yx 02 02 02 (pv 0) LT.cl Ch 029 XF (@ze _ _ _ _ _ 02 (pv 1) (@ze _ _ _ _ _ 02 (pv 2) zF))⟩) (qc (qf (qk QN (qy zY T.len Z38 (qa (qx zJ (qD (qv 0)) qi) qn)) ⟨ZX (v:=.int 60) 02 B ⟨_,rfl⟩⟩) 015 q0) (q1 (qX (qM (qv 0) LT.cl Tu (qa (qd Wi (qa (qD (qv 0)) 033)) qn)))))),?_⟩;obtain⟨now,us,lv,hw,m⟩:=id l;obtain⟨⟨dx,c⟩,J⟩:=id lv;obtain⟨t,ws,u,r,q⟩:=id hw;have o:=q.len;have I:=m.len;refine⟨_,rfl,p,dx,_,rfl,c,yb _ _ _ 03 03 03,_,rfl,_,rfl,p,pd,lp,W,Ws,x,y,rfl,l,λi G1 s1=>?_,λi G1 s1=>n (λz=>i z.1) G1 s1⟩;refine⟨_,rfl,p,C,dx,_,_,rfl,s1 _ _ c,LT.cl,LT.nN,Z9 _ _ _,Zw (zR.of (s1 _ _ u)) rfl ⟨t,_,rfl,.inr (zR.of (s1 _ _ r)),_,_,rfl,rfl,_,rfl,?_⟩⟩;rcases (Decidable.em (W.2.length<60)).symm with hf | hf;rw[decide_eq_true (show (60:Int)<=((ws.length:Nat):Int) by rw[o];lia)];exact Zy rfl ⟨035,n (λz=>hf z.2) G1 s1⟩
 rw[decide_eq_false (show ¬ (60:Int)<=((ws.length:Nat):Int) by rw[o];lia)];refine ZF rfl ?_;refine⟨_,rfl,p,dx,_,rfl,s1 _ _ c,yb _ _ _ 03 03 03,_,rfl,p,C,dx,_,_,rfl,s1 _ _ c,LT.cl,LT.nN,Z9 _ _ _,_,rfl,_,rfl,now,W.1,x,y,W.2,rfl,hw.same s1,00,λb G2 ms s2 mb d pm G=>?_⟩;have a:=s1.trans s2;refine⟨p,b,now,lp,pd,us,rfl,lv.same a,00,λG3 D k3=>?_⟩;have j:=(lv.same a).ku k3;exact k ⟨i,hf⟩ G3 ms pm G ⟨b,_,D,d.ku j,((m.ku a.ku).ku j).snoc ((hw.same a).ku j)⟩ ((zC.kx a).trans k3)
def Vp:zE ["self","one","other","fewer"] ["self","one","other"] (zo X8):=fs
def z7O{mg:SV}(S:Q5 K C "unlink" "Live.unlink" X8 ["self","one","other"])(T:Txt mg)(LT:U1 K C)(XT:JS K mg "NoLink" Xc)(Ch:ZO P w K mg base (Yo P w Xc) 4 C "check" ["self","one","other"] (vp K C Xc))(Tu:ZO P w K mg base Yn 1 C "turn" ["self","web"] (Qs C))(Wo:Def P w K mg base 1 "without_link" ["web","one","other"] (vD K)):ZO P w K mg base (Yo P w Xc) 5 C "unlink" ["self","one","other"] (Uu K C Xc):=S.def λf fd F=>by
 have nd:=Vp.nd;refine F.okN Vp 020 07;obtain⟨_,_,_,_,_,_,_,rfl,_⟩:=h;rfl;obtain⟨p,pd,lp,W,Ws,x,y,rfl,l,v,q,k,o⟩:=h;refine⟨_,@qz _ _ _ (qc (qX ⟨Yx 02 02 02 (pv 0) LT.cl Ch 029 XF (@ze _ _ _ _ _ 02 (pv 1) (@ze _ _ _ _ _ 02 (pv 2) zF))⟩) (qc (qs 3 (qd Wo (qa (qD (qv 0)) 033))) (qc (qf (qk z2L (qv 3) ⟨V9⟩) 015 q0) (q1 (qX (qM (qv 0) LT.cl Tu (qa (qv 3) qn))))))),?_⟩;obtain⟨now,us,lv,hw,n⟩:=id l;obtain⟨⟨dx,i⟩,u⟩:=id lv;have t:=n.len;refine⟨_,rfl,p,dx,_,rfl,i,yb _ _ _ 03 03 03,_,rfl,_,rfl,p,pd,lp,W,Ws,x,y,rfl,l,λd G1 s1=>?_,λd G1 s1=>o (λz=>d z.1) G1 s1⟩;refine⟨_,rfl,p,C,dx,_,_,rfl,s1 _ _ i,LT.cl,LT.nN,Z9 _ _ _,_,rfl,_,rfl,now,W.1,x,y,W.2,rfl,hw.same s1,00,λhn G2 s2=>?_,λj b G2 s2 c=>?_⟩;exact⟨_,rfl,rfl,_,rfl,Zy rfl ⟨035,o (λz=>hn z.2) G2 (s1.trans s2)⟩⟩;have a:=s1.trans s2;refine⟨_,rfl,rfl,_,rfl,ZF rfl ?_⟩;refine⟨_,rfl,p,dx,_,rfl,a _ _ i,yb _ _ _ 03 03 03,_,rfl,?_⟩;refine⟨p,b,now,lp,pd,us,rfl,lv.same a,00,λG3 r k3=>?_⟩;have m:=(lv.same a).ku k3;exact k ⟨d,j⟩ G3 ⟨b,_,r,c.ku m,((n.ku a.ku).ku m).snoc ((hw.same a).ku m)⟩ ((zC.kx a).trans k3)
def jz:zE ["self","number"] ["self"] (zo Ub):=fs
def Z2Q{mg:SV}(S:Q5 K C "page" "Live.page" Ub ["self"])(T:Txt mg)(LT:U1 K C)(XT:JS K mg "NoLink" Xc)(y:mg "MOST_PAGES"=some (.int 12 tP))(D:mg "MOST_LINKS"=some (.int 60 tL))(Tu:ZO P w K mg base Yn 1 C "turn" ["self","web"] (Qs C)):ZO P w K mg base (Yo P w Xc) 2 C "page" ["self"] (J9 K C Xc):=S.def λf fd F=>by
 have nd:=jz.nd;refine F.okN jz 020 07;obtain⟨_,_,_,_,_,rfl,_⟩:=h;rfl;obtain⟨p,pd,lp,W,Ws,rfl,l,B,k,n⟩:=h;refine⟨_,@qz _ _ _ (qc (qs 1 (qx zJ (qD (qv 0)) qi)) (qc (qf (qk QN (qv 1) ⟨ZX (v:=.int 12) 02 y ⟨_,rfl⟩⟩) 015 q0) (qc (qX (qM (qv 0) LT.cl Tu (qa (qt (qa (qo ZA (qv 1) qi) (qa (qx zJ (qD (qv 0)) qi) qn))) qn))) (q1 (qr (qv 1)))))),?_⟩;obtain⟨now,us,lv,hw,d⟩:=id l;obtain⟨⟨dx,a⟩,A⟩:=id lv;obtain⟨t,ws,i,m,j⟩:=id hw;have u:=d.len;refine⟨_,rfl,p,C,dx,_,_,rfl,a,LT.cl,LT.nN,Z9 _ _ _,Zw (zR.of i) rfl ?_⟩;refine⟨_,rfl,_,_,rfl,rfl,_,rfl,?_⟩;rcases (Decidable.em (W.1<12)).symm with hn | hn;rw[decide_eq_true (show (12:Int)<=W.1 by lia)];exact Zy rfl ⟨035,n hn H (zC.refl H)⟩;rw[decide_eq_false (show ¬ (12:Int)<=W.1 by lia)];refine ZF rfl ?_;refine⟨_,rfl,p,dx,_,rfl,a,yb _ _ _ 03 03 03,_,rfl,_,_,rfl,rfl,_,rfl,p,C,dx,_,_,rfl,a,LT.cl,LT.nN,Z9 _ _ _,Zw (zR.of i) rfl ⟨zl2,λb G1 s1 z r=>?_⟩⟩
 refine⟨p,b,now,lp,pd,us,rfl,lv.same s1,00,λG3 q k3=>?_⟩;have c:=(lv.same s1).ku k3;have o:ZC K G1 b (W.1+1) W.2:=⟨t,ws,r,s1 _ _ m,j.ku s1.ku⟩;exact⟨_,rfl,k hn G3 ⟨b,_,q,o.ku c,((d.ku s1.ku).ku c).snoc ((hw.same s1).ku c)⟩ ((zC.kx s1).trans k3)⟩
def z5Q:zE ["self"] ["self"] (zo uK):=fs
def Z1U{mg:SV}(S:Q5 K C "undo" "Live.undo" uK ["self"])(T:Txt mg)(LT:U1 K C) :ZO P w K mg base Yn 1 C "undo" ["self"] (j9 K C):=S.def λf fd F=>by
 refine F.yh z5Q λnd cdv A' outer s H vs Q E hr h=>?_;obtain⟨p,pd,lp,W,Ws,rfl,l,k0,k1⟩:=h;refine⟨_,(qc (qf (qT ⟨jB (λ_=>rfl) (XS (pv 0) rfl)⟩) (q1 (qr qb)) q0) (qc (q3 (qv 0) ⟨z6U Z2W PySem.F.slot_list_pop PySem.F.type_list_pop z7Z (XS (pv 0) rfl)⟩) (q1 (qr qb)))),?_⟩;obtain⟨now,us,lv,hw,j⟩:=id l;obtain⟨⟨dx,i⟩,d⟩:=id lv;have ne:p≠pd:=zX i d (by intro z;cases z);have b:=j.len;refine⟨_,rfl,p,C,dx,_,_,rfl,i,LT.cl,LT.nP,UE _ _ _,_,.inl ⟨us,zN.of d,rfl⟩,?_⟩;rcases List.eq_nil_or_concat Ws with rfl |⟨Ws0,W0,rfl⟩;cases us with
 | nil=>exact Zy rfl (k0 rfl H (zC.refl H))
 | cons u us=>cases b
 rw[List.concat_eq_append] at j b l k1;obtain⟨vs,a,rfl,m,n⟩:=j.z3q;rw[show (vs ++ [V.ref a]).isEmpty=false by cases vs <;> rfl];refine ZF rfl ?_;refine⟨_,rfl,p,C,dx,_,_,rfl,i,LT.cl,LT.nP,UE _ _ _,.inl ⟨rfl,_,zN.of d⟩,pd,_,.ref a,rfl,rfl,d,05,?_⟩;refine⟨_,rfl,p,C,dx,_,rfl,(by rw[zD ne];exact i),LT.cl,LT.nN,z4Q _ _ _,?_⟩;have t:Lv C (upd (upd H pd (.lst (vs ++ [V.ref a]).dropLast)) p (.ins C dx (ya "now" 027 (JA now lp pd)))) p a lp pd vs:=⟨⟨dx,Eq.trans zB (congrArg (λl=>some (HO.ins C dx l)) (z4M _ _ _ _))⟩,by rw[zD ne.symm,zB,List.dropLast_concat]⟩;have k3:Kx [p,pd] H (upd (upd H pd (.lst (vs ++ [V.ref a]).dropLast)) p (.ins C dx (ya "now" 027 (JA now lp pd)))):=λc o e r=>by
  rw[zD (λz=>r (by rw[z];simp)),zD (λz=>r (by rw[z];simp))];exact e
 have q:=lv.ku k3;exact k1 W0 Ws0 rfl _ ⟨a,vs,t,n.ku q,m.ku q⟩ k3
def z0U:zE ["self"] ["self"] (zo Qe):=fs
def z7y{mg:SV}(S:Q5 K C "shares" "Live.shares" Qe ["self"])(T:Txt mg)(LT:U1 K C)(Sh:Def P w K mg base 6 "shares_shares" ["web","leap","leaps"] (z7K K))(Ev:Def P w K mg base 3 "even" ["web"] (Xh K)):ZO P w K mg base Yn 7 C "shares" ["self"] (jc K C):=S.def λf fd F=>by
 refine F.yh z0U λnd cdv A' outer s H vs Q E hr h=>?_;obtain⟨p,pd,lp,n,ps,Ws,A,rfl,l,n1,n12,few,lk,fA,ca,a0,a1,sA,k⟩:=h;refine⟨_,(q1 (qr (qd Sh (qa (qD (qv 0)) (qa (qD (qv 0)) (qa (qd Ev (qa (qD (qv 0)) qn)) qn)))))),?_⟩;obtain⟨now,us,lv,hw,m⟩:=id l;obtain⟨⟨dx,a⟩,q⟩:=id lv;obtain⟨t,ws,b,o,j⟩:=id hw;refine⟨_,rfl,p,C,dx,_,_,rfl,a,LT.cl,LT.nN,Z9 _ _ _,_,rfl,p,C,dx,_,_,rfl,a,LT.cl,LT.nL,QW _ _ _,_,rfl,p,C,dx,_,_,rfl,a,LT.cl,LT.nN,Z9 _ _ _,now,n,_,rfl,b,n1,n12,λev G1 vs s1 i f1=>?_⟩;exact⟨now,lp,ev,n,ps,A,J1 n,vs,(n:Int),rfl,yZ (hw.same s1) 00 lk (s1 _ _ fA) ca a0 a1 sA n1 n12 i f1,λt' G2 Ss c ok sz s2 d f2=>k t' G2 Ss c ok sz (s1.trans s2) d f2⟩
def z1m:zE ["self"] ["self"] (zo XX):=fs
def z8n{mg:SV}(S:Q5 K C "ranked" "Live.ranked" XX ["self"])(T:Txt mg)(LT:U1 K C)(Rk:Def P w K mg base 7 "ranked_shares" ["web","leap","leaps"] (Qk K tb zU))(Ev:Def P w K mg base 3 "even" ["web"] (Xh K)):ZO P w K mg base Yn 8 C "ranked" ["self"] (jS K C tb zU):=S.def λf fd F=>by
 refine F.yh z1m λnd cdv A' outer s H vs Q E hr h=>?_;obtain⟨p,pd,lp,n,ps,Ws,A,rfl,l,n1,n12,few,lk,fA,ca,a0,a1,sA,tab,k⟩:=h;refine⟨_,(q1 (qr (qd Rk (qa (qD (qv 0)) (qa (qD (qv 0)) (qa (qd Ev (qa (qD (qv 0)) qn)) qn)))))),?_⟩;obtain⟨now,us,lv,hw,y⟩:=id l;obtain⟨⟨dx,a⟩,B⟩:=id lv;obtain⟨t,ws,j,z,v⟩:=id hw;refine⟨_,rfl,p,C,dx,_,_,rfl,a,LT.cl,LT.nN,Z9 _ _ _,_,rfl,p,C,dx,_,_,rfl,a,LT.cl,LT.nL,QW _ _ _,_,rfl,p,C,dx,_,_,rfl,a,LT.cl,LT.nN,Z9 _ _ _,now,n,_,rfl,j,n1,n12,λev G1 vs s1 q f1=>?_⟩;have i:=yZ (hw.same s1) (show ps.length<=100 by lia) lk (s1 _ _ fA) ca a0 a1 sA n1 n12 q f1;refine⟨now,lp,ev,(n:Int),ps,A,J1 n,vs,(n:Int),140,rfl,i.g,i.pr,by have:=i.n12;lia,01,i.sA,i.sS,tab.same s1,λD G2 Ss r ok c k2 u m d=>?_⟩;rw[Z31] at ok c;exact k D G2 Ss r ok c (λb o e n=>k2 b o (s1 _ _ e) n) (s1.free u) m d
open L2
def z2v:zE ["places","many","found","turn","place"] ["places","many"] (zo YJ):=fs
def jG{mg:SV}{k:Nat}(S:ZH K mg "choices" YJ ["places","many"])(T:Txt mg)(Ch:Def P w K mg base k "choices" ["places","many"] (Z5j K M)):Def P w K mg base (k+1) "choices" ["places","many"] (JT K M):=S.def λf fd F=>by
 refine F.yh z2v λnd cdv A' outer s H vs Q E hr h=>?_;obtain⟨m,hM,p,l,rfl,ep,l12,kk⟩:=h;refine⟨_,(qc (qf (qk Ze (qv 1) qi) (q1 (qr (ql (qa (ql qn) qn)))) q0) (qc (qs 2 (ql qn)) (qc (qF ⟨VU 02 02 rfl T.enu (@ze _ _ _ _ _ 02 (pv 0) zF)⟩ (qJ (qH (qg 3) (qH (qg 4) qN))) (q1 (qX (qm Z2W PySem.F.slot_list_extend PySem.F.type_list_extend z5M (qv 2) (qa (qG (zo YJ) ["rest","place"] [none,some 4] (qL (qd Ch (qa (q9 VH (qv 0) (qQ (qo ZA (qv 3) qi)) qK) (qa (qo vQ (qv 1) qi) qn)))) ⟨016,trivial⟩ (λ_ _ _ _ _ _=>(qg 0)) (λ_ _ _ _ _=>qV) (λ_ _ _ _ _=>(qo Xk (ql (qa (qv 1) qn)) (qv 0)))) qn))))) (q1 (qr (qv 2)))))),?_⟩;refine 028;cases m with
 | zero =>
   refine Zy (decide_eq_true rfl) ?_;exact⟨zl0,λq G1 s1 m1 e1=>⟨zl1,λD G2 s2 m2 Z=>kk D G2 (s1.trans s2) (s1.free m2) (by
    rw[Pw.QT];exact (Z1.one (row:=[]) (X:=D) (zh e1 m2) (s2 _ _ e1)).Z4D Z (Xp.one m1))⟩⟩
 | succ m =>
   refine ZF (decide_eq_false (by simp;lia)) ?_;refine⟨zl0,λD G1 s1 m1 e1=>?_⟩;refine⟨_,rfl,p,_,rfl,zN.of (s1 _ _ ep),?_⟩;refine Z0U (K:=K) (a:=p) (xs:=l.map V.int) (λj σ G=>zC H G/\∃ (us:List V) (v3 v4:Option V),G D=some (.lst us)/\Z1 G (Pw.xD l m j) us D/\Xp H us/\σ=[some (.ref p),some (.int ((m+1:Nat):Int)),some (.ref D),v3,v4]) ?_ ?_ ?_ ?_;exact⟨s1,[],none,none,e1,Z1.nil _ _,Xp.nil _,rfl⟩;rintro j σ G ⟨O,_⟩;exact zN.of (O _ _ ep)
   · rintro j u σ G T' G' Y hj ⟨O,us,v3,v4,eD,U,nU,rfl⟩ mT sT eT
     rw[ZB] at hj;have hju:u=.int (l.getD j 0):=by
      rw[Z17,Xf hj] at Y;cases Y;rfl
     subst hju;have y:=sT _ _ eD;have t:zC H G':=O.trans sT;have rD':=U.keep (H':=G') λb o e _=>sT _ _ e;refine⟨T',_,rfl,zR.of eT,rfl,_,_,rfl,_,_,rfl,rfl,?_⟩;refine⟨_,rfl,.inl ⟨rfl,_,zN.of y⟩,_,rfl,_,rfl,_,_,rfl,rfl,_,rfl,p,_,rfl,zN.of (t _ _ ep),λq hq=>?_⟩;have s2:zC G' (upd G' q (.lst (yT (l.map V.int) (some (((j:Nat):Int)+1)) none))):=zC.new hq;have Z:(upd G' q (.lst (yT (l.map V.int) (some (((j:Nat):Int)+1)) none))) q=some (.lst ((l.drop (j+1)).map V.int)):=by
      rw[zB,Z0J (by rw[ZB];exact hj),List.map_drop]
     generalize upd G' q (.lst (yT (l.map V.int) (some (((j:Nat):Int)+1)) none))=G2 at s2 Z;refine⟨_,rfl,_,_,rfl,rfl,m,00,q,l.drop (j+1),?_,Z,by rw[Z3K];lia,λC G3 s3 m3 hM=>?_⟩;show [V.ref q,V.int (((m+1:Nat):Int) - 1)]=[V.ref q,V.int ((m:Nat):Int)];rw[show ((m+1:Nat):Int) - 1=((m:Nat):Int) by lia];obtain⟨cs,eC,lC,rC,_⟩:=hM;refine⟨C,rfl,⟨cs,zN.of eC⟩,λE hE=>?_⟩;have R:=s3 _ _ (s2 _ _ y);have hED:D≠E:=zh R hE;have few2:=Pw.VO (l.drop (j+1)) m;have few3:2 ^ (l.drop (j+1)).length<=2 ^ 12:=Z37 01 (by rw[Z3K];lia);refine Z3 (K:=K) (a:=C) (D:=E) (xs:=cs) (λi I σ G=>zC G3 G/\G E=some (.lst I)/\(∃ ws:List V,I=ws/\Z1 G (((Pw.Xs (l.drop (j+1)) m).map (l.getD j 0 :: ·)).take i) ws D/\(∀ w∈ws,w≠.ref E)/\Xp H ws)/\∃ r,σ=[r,some (.int (l.getD j 0))]) ?_ ?_ ?_ ?_
     exact⟨zC.new hE,zB,⟨[],rfl,Z1.nil _ _,λw hw=>by simp at hw,Xp.nil _⟩,none,rfl⟩;rintro i I σ G ⟨L,eg,_⟩;exact⟨zN.of (L _ _ eC),eg⟩
     · rintro i u I σ G Y hi ⟨L,eg,⟨ws,rfl,rg,ng,nW⟩,r0,rfl⟩
       have d:i<(Pw.Xs (l.drop (j+1)) m).length:=00;obtain⟨r,er,fr⟩:=rC i _ (Z03 d);rw[Y] at er;cases er;dsimp only [Zo];rw[if_pos rfl];refine⟨_,rfl,zl1,λq1 G4 s4 m4 e4=>⟨_,rfl,q1,r,_,_,rfl,rfl,e4,s4 _ _ (L _ _ fr),?_,λq2 G5 s5 N e5=>?_⟩⟩;have:=Pw.Jk (Z1z d);rw[sizeLine_eq,ZB,this];have h3:=(Pw.Yu.mp (Z1z d)).1.length_le;rw[Z3K] at h3;simp only[Z07,Z4K];lia;have B:=s4.trans s5;have eE5:=B _ _ eg;have nE:q2≠E:=(by rintro rfl;rw[s4 _ _ eg] at N;cases N);have nD:q2≠D:=(by rintro rfl;rw[s4 _ _ (L _ _ R)] at N;cases N);refine⟨eE5,?_,Wt.next hi ⟨λb o e=>?_,zB,⟨_,rfl,?_,?_,nW.append (Xp.one (t.free (s2.free (s3.free (L.free (s4.free N))))))⟩,_,rfl⟩⟩;have:=rg.1;rw[Z1r,ZB] at this;rw[sizeLine_eq];lia;rw[zD (zh e hE)];exact B _ _ (L _ _ e);rw[Z28,Z17,Z03 d];have A:∀ {G':Hp}{o:HO}{Fs:List (List Int)}{vs:List V},Z1 G' Fs vs D->(∀ v∈vs,v≠.ref E)->Z1 (upd G' E o) Fs vs D:=λ{G' o Fs vs} h hn=>⟨h.1,λi row e=>by
        obtain⟨r,a,n,b⟩:=h.2 i row e;exact⟨r,a,n,by rw[zD (λz=>hn _ (Z1q a) (by rw[z]))];exact b⟩⟩
       refine A ((rg.keep λb o e _=>B _ _ e).append (Z1.one nD e5)) λv c=>?_;rcases Z20.mp c with c | c;exact ng v c;rw[Z01.mp c];intro z;cases z;exact nE rfl;intro v c;rcases Z20.mp c with c | c;exact ng v c;rw[Z01.mp c];intro z;cases z;exact nE rfl
     rintro I σ G4 ⟨s4,e4,⟨ws,rfl,r4,n4,nW⟩,_⟩;rw[lC,Z12 (by rw[ZB];exact Z02 _)] at r4;have J:=s2.trans (s3.trans s4);have eD4:=J _ _ y;have l1:=U.1;have l2:=r4.1;have l3:=Pw.z2b l m j;rw[ZB] at l2;have l4:j * 2 ^ l.length<=12 * 2 ^ 12:=Nat.mul_le_mul 00 (Z37 01 l12);refine⟨D,E,us,I,rfl,rfl,eD4,e4,?_,?_⟩;rw[sizeLine_eq];lia;refine⟨λb o e=>?_,us ++ I,_,_,zB,?_,nU.append nW,rfl⟩;rw[zD (zh e m1)];exact J _ _ (t _ _ e);rw[Pw.Vh];exact ((rD'.keep λb o e _=>J _ _ e).append r4).keep λb o e nb=>by rw[zD nb];exact e
   rintro σ G ⟨O,us,v3,v4,eD,U,nU,rfl⟩;rw[ZB,Pw.Uy] at U;exact⟨_,rfl,kk D G O m1 (U.Z4D eD nU)⟩
theorem Xy{mg:SV}(S:ZH K mg "choices" YJ ["places","many"])(T:Txt mg):∀ M:Nat,Def P w K mg base (M+1) "choices" ["places","many"] (JT K M)
 | 0=>jG S T (S.bot (λvs H Q E h=>by obtain⟨a,e,_⟩:=h;lia) 0)
 | M+1=>jG S T ((Xy S T M).imp λvs H Q E h=>by
     obtain⟨a,e,h⟩:=h;exact⟨a,00,h⟩)
def z2A:zE ["one","other"] ["one","other"] (zo v5):=fs
def z5J{mg:SV}(S:ZH K mg "is_less" v5 ["one","other"])(T:Txt mg) :Def P w K mg base 1 "is_less" ["one","other"] (z1Q K):=S.def λf fd F=>by
 refine F.yh z2A λnd cdv A' outer s H vs Q E hr h=>?_;obtain⟨p,q,A,B,rfl,fA,a,sa,sb,k⟩:=h;refine⟨_,(q1 (qr (qe uH (qo Z7 026 (qx zJ (qv 1) qi)) (qo Z7 (qx zJ (qv 1) qi) 026)))),?_⟩;exact⟨_,rfl,p,_,_,_,rfl,rfl,JZ.of fA,rfl,_,rfl,q,_,_,_,rfl,rfl,JZ.of a,rfl,_,_,rfl,rfl,⟨sa.1.mono 01,sb.2.mono 01⟩,_,rfl,q,_,_,_,rfl,rfl,JZ.of a,rfl,_,rfl,p,_,_,_,rfl,rfl,JZ.of fA,rfl,_,_,rfl,rfl,⟨sb.1.mono 01,sa.2.mono 01⟩,_,_,rfl,rfl,k⟩
def z5G:zE ["web","chosen","page","place"] ["web","chosen","page"] (zo uO):=fs
def z6S{mg:SV}(S:ZH K mg "linked" uO ["web","chosen","page"])(T:Txt mg)(Wi:Def P w K mg base 1 "with_link" ["web","one","other"] (Jf K)):Def P w K mg base 2 "linked" ["web","chosen","page"] (z1w K):=S.def λf fd F=>by
 refine F.yh z5G λnd cdv A' outer s H vs Q E hr h=>?_;obtain⟨wa,C,n,x,ps,row,rfl,z,q,few,k⟩:=h;refine⟨_,(qc (qF (qL (qv 1)) (qg 3) (q1 (qs 0 (qd Wi (qa (qv 0) (qa (qv 3) (qa (qv 2) qn))))))) (q1 (qr (qv 0)))),?_⟩;refine⟨_,rfl,C,rfl,⟨_,zN.of q⟩,?_⟩;refine Qx (K:=K) (a:=C) (xs:=row.map V.int) (λj σ G=>zC H G/\∃ (tv:Addr) (ms:LI) (v:Option V),ZC K G tv n ms/\ms.Perm (ps ++ Pw.toL x (row.take j))/\σ=[some (.ref tv),some (.ref C),some (.int (x:Int)),v]) ?_ ?_ ?_ ?_;exact⟨zC.refl _,wa,ps,none,z,by unfold Pw.toL;simp,rfl⟩;rintro j σ G _ h;exact zN.of (h.1 _ _ q);rintro j u σ G d ⟨i,tv,ms,v,m,c,rfl⟩;have r:j<row.length:=by have:=(Z16.mp d).1;rw[ZB] at this;exact this
 rw[Z17,Z03 r] at d;cases d;have A:ms.length<=60:=by
  have:=c.length_eq;unfold Pw.toL at this;rw[Z10,ZB,Z1r] at this;lia
 refine⟨_,rfl,_,rfl,_,rfl,tv,n,row[j],(x:Int),ms,rfl,m,00,λb G8 p y B o l t=>⟨i.trans y,b,p,_,o,?_,rfl⟩⟩;refine l.trans ((c.append_right _).trans ?_);rw[Z2N,Z28,Z03 r];unfold Pw.toL;rw[show (Option.toList (some row[j]))=[row[j]] from rfl,Z13];exact List.Perm.refl _;rintro σ G ⟨i,tv,ms,v,m,c,rfl⟩;rw[ZB,Z12 (Z02 _)] at c;exact⟨_,rfl,k tv G ms i m c⟩
def z0E:zE ["web","leap","leaps","one","other","row"] ["web","leap","leaps","one","other"] (zo Qa):=fs
def z2f{mg:SV}(S:ZH K mg "is_ahead" Qa ["web","leap","leaps","one","other"])(T:Txt mg)(Sh:Def P w K mg base 6 "shares_shares" ["web","leap","leaps"] (z7K K))(Il:Def P w K mg base 1 "is_less" ["one","other"] (z1Q K)):Def P w K mg base 7 "is_ahead" ["web","leap","leaps","one","other"] (z4m K):=S.def λf fd F=>by
 refine F.yh z0E λnd cdv A' outer s H vs Q E hr h=>?_;obtain⟨wa,lp,ls,n,x,y,ps,A,Bs,us,S,rfl,i,m,l,k⟩:=h;refine⟨_,(qc (qs 5 (qd Sh (qa (qv 0) 033))) (q1 (qr (qd Il (qa (qx zJ (qv 5) (qv 4)) (qa (qx zJ (qv 5) (qv 3)) qn)))))),?_⟩;refine⟨_,rfl,_,rfl,_,rfl,wa,lp,ls,n,ps,A,Bs,us,S,rfl,i,λt G1 Ss o ok sz s1 a f1=>?_⟩;have r:=ok.len;obtain⟨p,c,fp⟩:=f1.at (j:=y) (A:=Ss.getD y (0,1)) (by rw[Z05,Z03 00];rfl);obtain⟨q,eq,b⟩:=f1.at (j:=x) (A:=Ss.getD x (0,1)) (by rw[Z05,Z03 00];rfl);have mp:=mem_getD (Bs:=Ss) (t:=y) 00;have d:=mem_getD (Bs:=Ss) (t:=x) 00;exact⟨_,rfl,_,rfl,ixt (zR.of a) (Zi c) ⟨_,rfl,_,rfl,ixt (zR.of a) (Zi eq) ⟨p,q,_,_,rfl,fp,b,(sz _ mp).mono 01,(sz _ d).mono 01,k G1 Ss ok s1⟩⟩⟩
def uZ:zE ["web","leap","leaps","one","other","places","rising","many","chosen"] ["web","leap","leaps","one","other","places"] (zo Yz):=fs
def U3{mg:SV}(S:ZH K mg "least_links" Yz ["web","leap","leaps","one","other","places"])(T:Txt mg)(Ch:Def P w K mg base 13 "choices" ["places","many"] (JT K 12))(Lk:Def P w K mg base 2 "linked" ["web","chosen","page"] (z1w K))(Ah:Def P w K mg base 7 "is_ahead" ["web","leap","leaps","one","other"] (z4m K)):Def P w K mg base 14 "least_links" ["web","leap","leaps","one","other","places"] (YH K):=S.def λf fd F=>by
 refine F.yh uZ λnd cdv A' outer s H vs Q E hr h=>?_;obtain⟨wa,lp,ls,pl,n,x,y,ps,A,Bs,us,S,l,ris,rfl,i,hx,hy,few,el,l12,X,pmr,U,kN,kS⟩:=h;refine⟨_,(qc (qs 6 (qy U6 T.srt boot_sorted (qa (qv 5) qn))) (qc (qF (qR T.range (qa (qo ZA (qy zY T.len Z38 (qa (qv 6) qn)) qi) qn)) (qg 7) (q1 (qF (qL (qd Ch (qa (qv 6) (qa (qv 7) qn)))) (qg 8) (q1 (qf (qp (qd Ah (qa (qd Lk (qa (qv 0) (qa (qv 8) (qa (qv 3) qn)))) (qa (qv 1) (qa (qv 2) (qa (qv 3) (qa (qv 4) qn))))))) (q1 (qr (qv 8))) q0))))) (q1 (qr ⟨V9⟩)))),?_⟩;have ca:=i.g.ca;have cb:=i.g.cb;have hb:Bs.length=n:=by have:=i.g.len;lia
 have pr:=i.pr;refine⟨_,rfl,pl,l,rfl,zN.of el,00,λrs R G1 L pw1 s1 m1 e1=>?_⟩;have ers:rs=ris:=z5Z (L.trans pmr.symm) pw1 U;subst ers;have lr:rs.length=l.length:=L.length_eq;have hrr:∀ r∈rs,0<=r/\r<(n:Int):=λr hr=>X r (L.mem_iff.mp hr);have hml:(rs.map V.int).length=rs.length:=ZB ..;refine⟨_,rfl,R,_,rfl,.inl (zN.of e1),_,_,rfl,rfl,_,rfl,00,00,?_⟩;rw[hml];have hN:(((rs.length:Nat):Int)+1).toNat=rs.length+1:=00
 rw[hN];refine YE (lo:=0) (n:=rs.length+1) (λm σ G=>zC H G/\G R=some (.lst (rs.map V.int))/\(∀ J r,J<m->r∈Pw.Xs rs J->¬ Pw.uI ps A Bs n x y r)/\∃ (Y I:Option V),σ=[some (.ref wa),some (.ref lp),some (.ref ls),some (.int (x:Int)),some (.int (y:Int)),some (.ref pl),some (.ref R),Y,I]) ?_ ?_ ?_;exact⟨s1,e1,λJ r h=>absurd h (Z4q _),none,none,rfl⟩;rintro m σ G hm ⟨N,eR,B,Y,I,rfl⟩;rw[Int.zero_add];refine⟨_,rfl,_,rfl,m,00,R,rs,rfl,eR,00,λC G2 s2 m2 hM=>?_⟩;obtain⟨cs,eC,lC,rC,nC⟩:=hM;refine⟨C,rfl,⟨cs,zN.of eC⟩,?_⟩;refine Qx (K:=K) (a:=C) (xs:=cs) (λj σ G'=>zC G2 G'/\(∀ t r,t<j->(Pw.Xs rs m)[t]?=some r->¬ Pw.uI ps A Bs n x y r)/\∃ I:Option V,σ=[some (.ref wa),some (.ref lp),some (.ref ls),some (.int (x:Int)),some (.int (y:Int)),some (.ref pl),some (.ref R),some (.int ((m:Nat):Int)),I]) ?_ ?_ ?_ ?_;exact⟨zC.refl _,λt r h=>absurd h (Z4q _),I,rfl⟩;rintro j σ G' _ h;exact zN.of (h.1 _ _ eC);rintro j u σ G' hu ⟨c,D,I,rfl⟩;have hj:j<cs.length:=(Z16.mp hu).1;have v:j<(Pw.Xs rs m).length:=00
 obtain⟨r,er,fr⟩:=rC j _ (Z03 v);rw[hu] at er;cases er;have sub:=(Pw.Yu.mp (Z1z v)).1;have d:∀ q∈(Pw.Xs rs m)[j],0<=q/\q<(n:Int):=λq hq=>hrr q (sub.subset hq);have lrow:=sub.length_le;have s2':=s2.trans c;have sH:=N.trans s2';have i2:=i.same sH;refine⟨_,rfl,_,rfl,_,rfl,wa,r,(n:Int),x,ps,(Pw.Xs rs m)[j],rfl,i2.g.web,c _ _ fr,00,λb G3 ms s3 hW3 O=>?_⟩;have i3:=(i2.same s3).links (row:=(Pw.Xs rs m)[j]) 00 hx d hW3 O;refine⟨_,rfl,_,rfl,_,rfl,_,rfl,b,lp,ls,n,x,y,ms,A,Bs,us,S,rfl,i3,hx,hy,λG4 Ss Z s4=>⟨_,rfl,?_⟩⟩;have iff:=Pw.z8Q (y:=y) ca cb hb pr (λp hp=>(i3.g.lk p hp).2.2) O Z;refine if2 (λh=>?_) (λh=>?_);refine⟨_,rfl,kS r G4 _ m j (sH.trans (s3.trans s4)) (N.free (nC r (Z1q hu))) (s4 _ _ (s3 _ _ (c _ _ fr))) (Z03 v) (iff.mpr h) B D⟩;refine⟨c.trans (s3.trans s4),λt r' M o=>?_,_,rfl⟩;by_cases e:t<j;exact D t r' e o;have:t=j:=00
 subst this;rw[Z03 v] at o;cases o;intro z;rw[iff.mp z] at h;cases h;rintro σ G' ⟨c,D,I,rfl⟩;refine⟨N.trans (s2.trans c),c _ _ (s2 _ _ eR),λJ r hm' o=>?_,_,_,rfl⟩;by_cases e:J<m;exact B J r e o;have:J=m:=00
 subst this;obtain⟨t,M,e'⟩:=Z4P o;exact D t r 00 (by rw[Z03 M,e']);rintro σ G ⟨N,eR,B,Y,I,rfl⟩;refine kN G N λm row d=>?_;have:=Pw.Yu.mp d;have h2:=this.1.length_le;exact B m row 00 d
open L2
def Vy:zE ["number","pieces"] ["number"] (zo Yh):=fs
def uh{mg:SV}(S:ZH K mg "show_figures" Yh ["number"])(T:Txt mg)(zstr:mg "str"=none)(zrev:mg "reversed"=none):Def P w K mg base 1 "show_figures" ["number"] UD:=S.def λf fd F=>by
 refine F.yh Vy λnd cdv A' outer s H vs Q E hr h=>?_;obtain⟨n,rfl,hn,k⟩:=h;refine⟨_,(qc (qs 1 (ql qn)) (qc ⟨UI PassesOwn.never (yW QN (pv 0) (Zr Ui zI zI) (Yc _)) (@Yj _ _ _ _ _ (z4e (z6Z Z2W Z44 Z43 ye (pv 1) (@ze _ _ _ _ _ 02 (z6Z Z1v PySem.F.slot_str_zfill PySem.F.type_str_zfill z6G (yf zQ 02 zstr boot_str (@ze _ _ _ _ _ 02 (Zr Y6 (pv 0) (Zr Ui zI zI)) zF)) (@ze _ _ _ _ _ 02 zI zF)) zF))) (@ZM _ _ _ (@xq _ _ 0 _ _ _ _ 02 018 nd rfl 018 (Zr yl (pv 0) (Zr Ui zI zI)))))⟩ (qc (qX (qm Z2W Z44 Z43 ye (qv 1) (qa (qY zQ zstr boot_str (qa (qv 0) qn)) qn))) (q1 (qr ⟨z1k rfl 02 zrev (@ze _ _ _ _ _ 02 (pv 1) zF)⟩))))),?_⟩;refine zG λRR d=>?_;refine⟨zl0,λb G1 s1 M Y=>?_⟩;show RR [_,_] _;subst d;refine zG λRR d=>?_;have a:((10:Int) ^ (Int.toNat 60))=((10 ^ 60:Nat):Int):=rfl;have i:0<10 ^ 60:=Nat.pow_pos 01;have O:∀ u:Nat,(Pw.pkS 60 u).cps.size=60:=λu=>by unfold Pw.pkS;rw[Z04,Pw.z2h]
 refine z4V (λσ G=>zC H G/\∃ (m:Nat) (us:List Str),G b=some (.lst (us.map V.str))/\m<2 ^ 1990/\(∀ u∈us,u.cps.size<=60)/\us.length * 60+(Pw.ns (m:Int)).cps.size<=600/\Txt.join (Str.ofString "") (Pw.ns (m:Int) :: us.reverse)=Pw.ns (n:Int)/\σ=[some (.int (m:Int)),some (.ref b)]) (λσ _=>match σ with | some (.int m) :: _=>m.toNat | _=>0) ?_ ?_
 exact⟨s1,n,[],Y,hn,λu h=>by simp at h,by have:=vM hn;simp only[Z4K];lia,rfl,rfl⟩;rintro B X σ G ⟨N,m,us,t,hm,L,hsz,J,rfl⟩;refine⟨_,rfl,_,_,rfl,rfl,⟨01,01,01⟩,_,_,rfl,rfl,_,rfl,if2 (λh=>?_) (λh=>?_)⟩;have h:((10:Int) ^ (Int.toNat 60))<=(m:Int):=of_decide_eq_true h;rw[a] at h;have h:10 ^ 60<=m:=00
 have hd:=Nat.div_add_mod m (10 ^ 60);have hr:=Nat.mod_lt m i;have U:0<m / 10 ^ 60:=Nat.div_pos h i;have p:m / 10 ^ 60<m:=Nat.div_lt_self 00 01;have l:=Pw.z0j U hr;rw[show m / 10 ^ 60 * 10 ^ 60+m % 10 ^ 60=m by rw[Nat.mul_comm];exact hd] at l;have zns:(Pw.ns (m:Int)).cps.size=(Pw.ns ((m / 10 ^ 60:Nat):Int)).cps.size+60:=by rw[l,zP,O]
 have R:(Pw.ns ((m / 10 ^ 60:Nat):Int)).cps.size ≥ 0:=Z15 _;have C:(((m % 10 ^ 60:Nat)):Int).natAbs.log2<1920:=by
  rw[Int.natAbs_natCast];refine lgN ?_;exact Nat.lt_trans hr 03
 have emod:(m:Int) % ((10:Int) ^ (Int.toNat 60))=((m % 10 ^ 60:Nat):Int):=by rw[a];exact (Int.natCast_emod ..).symm
 have ediv:(m:Int).fdiv ((10:Int) ^ (Int.toNat 60))=((m / 10 ^ 60:Nat):Int):=by
  rw[a,Z36 _ 00];exact (Int.natCast_ediv ..).symm
 have j:=Pw.z7l U hr (show m=m / 10 ^ 60 * 10 ^ 60+m % 10 ^ 60 by rw[Nat.mul_comm];exact hd.symm) us.reverse;rw[J] at j;have A:m / 10 ^ 60<2 ^ 1990:=Nat.lt_trans p hm;generalize hQ:m / 10 ^ 60=q at *;generalize hRm:m % 10 ^ 60=r at *;refine⟨_,wN,?_⟩;subst X;refine zG λR2 I=>?_;refine⟨_,rfl,.inl ⟨rfl,_,zN.of t⟩,_,rfl,_,_,rfl,rfl,⟨01,01,01⟩,_,_,rfl,rfl,(by rw[a];lia),(r:Int),congrArg (λz=>[V.int z]) emod,C,rfl,r,rfl,rfl,hr,b,_,_,rfl,rfl,t,?_,?_⟩;rw[ZB,sizeLine_eq];lia;show R2 [_,_] _;subst I;refine⟨_,rfl,_,_,rfl,rfl,⟨01,01,01⟩,_,_,rfl,rfl,?_,?_⟩;exact⟨by rw[a];lia,by rw[a];show (10 ^ 60:Nat)<2 ^ _;decide +kernel⟩;refine⟨⟨λc o e=>by rw[zD (zh e M)];exact N _ _ e,q,us ++ [Pw.pkS 60 r],?_,A,?_,?_,?_,congrArg (λz=>[some (V.int z),some (V.ref b)]) ediv⟩,?_⟩;rw[zB,Z13];rfl;intro u v;rcases Z20.mp v with z | z;exact L u z;rw[Z01.mp z,O];exact Z02 _;rw[Z10,Z41];lia;rw[List.reverse_append];exact j;show ((m:Int).fdiv ((10:Int) ^ (Int.toNat 60))).toNat<(m:Int).toNat;rw[ediv,Z31,Z31];exact p;show RR [_,_] _;subst d;have h:¬ ((10:Int) ^ (Int.toNat 60))<=(m:Int):=of_decide_eq_false h;rw[a] at h;have h:m<10 ^ 60:=00
 have D:((m:Nat):Int).natAbs.log2<1920:=by
  rw[Int.natAbs_natCast];refine lgN ?_;exact Nat.lt_trans h 03
 refine⟨_,rfl,.inl ⟨rfl,_,zN.of t⟩,_,rfl,(m:Int),rfl,D,b,_,_,rfl,rfl,t,?_,?_⟩;rw[ZB,sizeLine_eq];lia;have Z:∀ z∈(us ++ [Pw.ns (m:Int)]).reverse,z.cps.size<=600:=λz R=>by
  rcases Z20.mp (List.mem_reverse.mp R) with y | y;exact Z0Y (L z y) 01;rw[Z01.mp y];lia
 have zn:(Str.ofString "").cps.size=0:=03
 refine⟨_,rfl,b,us ++ [Pw.ns (m:Int)],rfl,?_,?_,XO Z ?_,?_⟩;rw[zB,Z13];rfl;rw[Z10,Z41];lia;rw[List.length_reverse,Z10,Z41,zn];have:us.length<=10:=00
 have:=Z5t (600+0) (show us.length+1<=11 by lia);lia;rw[List.reverse_append];show Q (.str (Txt.join (Str.ofString "") (Pw.ns (m:Int) :: us.reverse))) _;rw[J];exact k _ λc o e=>by rw[zD (zh e M)];exact N _ _ e
def uS:zE ["number"] ["number"] (zo YC):=fs
def UP{mg:SV}(S:ZH K mg "show_number" YC ["number"])(T:Txt mg)(Sf:Def P w K mg base 1 "show_figures" ["number"] UD):Def P w K mg base 2 "show_number" ["number"] z0T:=S.def λf fd F=>by
 refine F.yh uS λnd cdv A' outer s H vs Q E hr h=>?_;obtain⟨n,rfl,hn,k⟩:=h;refine⟨_,(qc (qf (qk uH (qv 0) qi) (q1 (qr (qo Zd qw (qd Sf (qa ⟨z4o Ji (pv 0)⟩ qn))))) q0) (q1 (qr (qd Sf (qa (qv 0) qn))))),?_⟩;refine⟨_,rfl,_,_,rfl,rfl,_,rfl,ZF (decide_eq_false 00) ?_⟩;exact⟨_,rfl,n,rfl,hn,k⟩
def vO:zE ["fraction"] ["fraction"] (zo yM):=fs
def Vw{mg:SV}(S:ZH K mg "show_fraction" yM ["fraction"])(T:Txt mg)(Sn:Def P w K mg base 2 "show_number" ["number"] z0T):Def P w K mg base 3 "show_fraction" ["fraction"] (z3w K):=S.def λf fd F=>by
 refine F.yh vO λnd cdv A' outer s H vs Q E hr h=>?_;obtain⟨p,A,rfl,c,j,i,d,k⟩:=h;refine⟨_,(q1 (qr (qo Zd (qo Zd (qd Sn (qa 026 qn)) qw) (qd Sn (qa 026 qn))))),?_⟩;obtain⟨a1,a2⟩:=A;obtain⟨a,rfl⟩:∃ m:Nat,a1=(m:Int):=⟨a1.toNat,by simp only at j;lia⟩;obtain⟨b,rfl⟩:∃ m:Nat,a2=(m:Int):=⟨a2.toNat,by simp only at i;lia⟩;have b1:a<2 ^ 1990:=Z0X (show a<2 ^ 1983 from d.1) (Z37 01 01);have b2:b<2 ^ 1990:=Z0X (show b<2 ^ 1983 from d.2) (Z37 01 01);have l:=vM b1;have o:=vM b2;have n:(Str.ofString "/").cps.size=1:=03
 refine⟨_,rfl,Zw c rfl ⟨a,rfl,b1,λG s=>⟨_,_,rfl,rfl,(by rw[yS,yS,sizeLine_eq];lia),?_⟩⟩⟩;refine⟨_,rfl,p,_,_,_,rfl,rfl,JZ.same c s,rfl,b,rfl,b2,λG2 s2=>⟨_,_,rfl,rfl,(by rw[yS,yS,zP,sizeLine_eq];lia),k G2 (s.trans s2)⟩⟩
def z5p:zE ["pages"] ["pages"] (zo Qu):=fs
def z7g{mg:SV}(S:ZH K mg "parted" Qu ["pages"])(T:Txt mg)(zstr:mg "str"=none):Def P w K mg base 1 "parted" ["pages"] (z3x K):=S.def λf fd F=>by
 refine F.yh z5p λnd cdv A' outer s H vs Q E hr h=>?_;obtain⟨L,l,rfl,t,A,n,k⟩:=h;refine⟨_,(q1 (qr (qm Z1v Z3R Z49 (YR (K:=K) rfl) qw (qa (qG (zo Qu) ["page"] [none] (qL (qv 0)) trivial (λ_ _ _ _ _ _=>(qg 0)) (λ_ _ _ _ _=>qV) (λ_ _ _ _ _=>(qY zQ zstr boot_str (qa (qv 0) qn)))) qn)))),?_⟩;have B:∀ i:Int,0<=i->i<100->i.natAbs.log2<1920:=λi h0 J=>Z24 (Z4S _) 00;refine⟨rfl,_,rfl,L,rfl,⟨_,t⟩,λD q=>?_⟩;refine Z3 (K:=K) (a:=L) (D:=D) (xs:=l.map V.int) (λi d σ G=>zC H G/\G D=some (.lst d)/\d=((l.take i).map Pw.ns).map V.str/\∃ v,σ=[v]) ?_ ?_ ?_ ?_;exact⟨zC.new q,zB,rfl,none,rfl⟩;rintro i d σ G ⟨c,e,_⟩;exact⟨c.seq t,e⟩
 · rintro i u d σ G m hi ⟨c,j,rfl,v,rfl⟩
   rw[ZB] at hi;rw[Z17,Z03 hi] at m;cases m;have b:=n _ (Z1z hi);dsimp only [Zo];refine Zy rfl ?_;refine⟨_,rfl,l[i],rfl,B _ b.1 b.2,j,(by rw[ZB,ZB,Z1r,sizeLine_eq];lia),Wt.next (by rw[ZB];exact hi) ⟨λb o e=>by rw[zD (zh e q)];exact c _ _ e,zB,?_,_,rfl⟩⟩;rw[Z28,Z03 hi,Z13,Z13];rfl
 rintro d σ G ⟨c,j,rfl,_⟩;rw[ZB,Z12 (Z02 _)] at j;have C:∀ z∈l.map Pw.ns,z.cps.size<=6:=λz h=>by
  obtain⟨p,y,rfl⟩:=Z18.mp h;have r:=n p y;have I:=Zb r.1 (show p<=99 by lia);show (Str.ofString (toString p)).cps.size<=6;lia
 have zn:(Str.ofString " ").cps.size=1:=03
 refine⟨_,D,_,rfl,rfl,zN.of j,XO C ?_,?_⟩;rw[ZB,zn];lia;exact k G c
def XC:zE ["live","page"] ["live","page"] (zo YV):=fs
def Jg{mg:SV}(S:ZH K mg "check_page" YV ["live","page"])(T:Txt mg)(LT:U1 K C)(XL:JS K mg "NoLink" Xl)(Wl:ZO P w K mg base Yn 1 C "web" ["self"] (vI K C)):Yk P w K mg base (Yo P w Xl) 2 "check_page" ["live","page"] (z2y K C Xl):=S.uP λf fd F=>by
 have nd:=XC.nd;refine F.okN XC 020 07;obtain⟨_,_,_,_,_,_,rfl,_⟩:=h;rfl;obtain⟨p,pd,lp,W,Ws,x,rfl,l,k,c⟩:=h;refine⟨_,@qz _ _ _ (q1 (qf (qk QN (qv 1) (qx zJ (q2 (qv 0) LT.cl Wl) qi)) (q1 ⟨ZP XL 02 (@ze _ _ _ _ _ 02 zK zF) 02 02 01⟩) q0)),?_⟩;obtain⟨now,us,lv,hw,j⟩:=id l;obtain⟨⟨dx,d⟩,n⟩:=id lv;refine⟨_,rfl,_,rfl,p,dx,_,rfl,d,yb _ _ _ 03 03 03,p,pd,lp,W,Ws,rfl,l,λa ha=>?_⟩;obtain⟨t,ws,b,m,i⟩:=id ha;refine Zw (zR.of b) rfl ⟨_,_,rfl,rfl,_,rfl,?_⟩;by_cases hx:x<W.1;exact ZF (decide_eq_false 00) (k hx H (zC.refl _));refine Zy (decide_eq_true 00) ⟨035,c hx H (zC.refl _)⟩
def v9:zE ["live","pages"] ["live","pages"] (zo Qc):=fs
def z3v{mg:SV}(S:ZH K mg "say_link" Qc ["live","pages"])(T:Txt mg)(LT:U1 K C)(c:mg "DONE"=some (.str vg tD))(Li:ZO P w K mg base (Yo P w Xl) 5 C "link" ["self","one","other"] (J8 K C Xl)):Yk P w K mg base (Yo P w Xl) 6 "say_link" ["live","pages"] (z4x K C Xl):=S.uP λf fd F=>by
 have nd:=v9.nd;refine F.okN v9 020 07;obtain⟨_,_,_,_,_,_,_,_,rfl,_⟩:=h;rfl;obtain⟨p,pd,lp,L,W,Ws,x,y,rfl,b,l,d,a,k,i⟩:=h;refine⟨_,@qz _ _ _ (qc (qX ⟨Yx 02 02 02 (pv 0) LT.cl Li 029 XF (@ze _ _ _ _ _ 02 (Zt zW (pv 1) zI 024) (@ze _ _ _ _ _ 02 (Zt zW (pv 1) zI 024) zF))⟩) (q1 (qr ⟨ZX (v:=.str vg) 02 c ⟨_,rfl⟩⟩))),?_⟩;obtain⟨now,us,lv,hw,m⟩:=id l;obtain⟨⟨dx,j⟩,n⟩:=id lv;refine⟨_,rfl,p,dx,_,rfl,j,yb _ _ _ 03 03 03,_,rfl,yN (zN.of b) rfl ⟨_,rfl,yN (zN.of b) rfl ⟨p,pd,lp,W,Ws,x,y,rfl,l,d,a,k,i⟩⟩⟩
def XA:zE ["live","pages"] ["live","pages"] (zo Y8):=fs
def j7{mg:SV}(S:ZH K mg "say_unlink" Y8 ["live","pages"])(T:Txt mg)(LT:U1 K C)(c:mg "DONE"=some (.str vg tD))(Un:ZO P w K mg base (Yo P w Xl) 5 C "unlink" ["self","one","other"] (Uu K C Xl)):Yk P w K mg base (Yo P w Xl) 6 "say_unlink" ["live","pages"] (jt K C Xl):=S.uP λf fd F=>by
 have nd:=XA.nd;refine F.okN XA 020 07;obtain⟨_,_,_,_,_,_,_,_,rfl,_⟩:=h;rfl;obtain⟨p,pd,lp,L,W,Ws,x,y,rfl,b,l,d,a,k,i⟩:=h;refine⟨_,@qz _ _ _ (qc (qX ⟨Yx 02 02 02 (pv 0) LT.cl Un 029 XF (@ze _ _ _ _ _ 02 (Zt zW (pv 1) zI 024) (@ze _ _ _ _ _ 02 (Zt zW (pv 1) zI 024) zF))⟩) (q1 (qr ⟨ZX (v:=.str vg) 02 c ⟨_,rfl⟩⟩))),?_⟩;obtain⟨now,us,lv,hw,m⟩:=id l;obtain⟨⟨dx,j⟩,n⟩:=id lv;refine⟨_,rfl,p,dx,_,rfl,j,yb _ _ _ 03 03 03,_,rfl,yN (zN.of b) rfl ⟨_,rfl,yN (zN.of b) rfl ⟨p,pd,lp,W,Ws,x,y,rfl,l,d,a,k,i⟩⟩⟩
def Vl:zE ["live","pages"] ["live","pages"] (zo qC):=fs
def z2o{mg:SV}(S:ZH K mg "say_page" qC ["live","pages"])(T:Txt mg)(LT:U1 K C)(zstr:mg "str"=none)(Pa:ZO P w K mg base (Yo P w Xl) 2 C "page" ["self"] (J9 K C Xl)):Yk P w K mg base (Yo P w Xl) 3 "say_page" ["live","pages"] (z4J K C Xl):=S.uP λf fd F=>by
 have nd:=Vl.nd;refine F.okN Vl 020 07;obtain⟨_,_,_,_,_,_,_,rfl,_⟩:=h;rfl;obtain⟨p,pd,lp,L,n,ps,Ws,rfl,l,a,n12,k,b⟩:=h;refine⟨_,@qz _ _ _ (q1 (qr (qY zQ zstr boot_str (qa ⟨uy 02 (pv 0) LT.cl Pa 029 XF⟩ qn)))),?_⟩;obtain⟨now,us,lv,hw,j⟩:=id l;obtain⟨⟨dx,d⟩,m⟩:=id lv;refine⟨_,rfl,p,dx,_,rfl,d,yb _ _ _ 03 03 03,p,pd,lp,_,Ws,rfl,l,a,λhn G i k2=>?_,λhn=>b λz=>hn (by show (n:Int)<12;lia)⟩;have hn:n<12:=by have c:(n:Int)<12:=hn;lia
 exact⟨n,rfl,Z24 (Z4S _) 00,k hn G i k2⟩
def z0m:zE ["live","pages"] ["live","pages"] (zo X4):=fs
def z3d{mg:SV}(S:ZH K mg "say_undo" X4 ["live","pages"])(T:Txt mg)(LT:U1 K C)(a:mg "DONE"=some (.str vg tD))(Ud:ZO P w K mg base Yn 1 C "undo" ["self"] (j9 K C)):Def P w K mg base 2 "say_undo" ["live","pages"] (z3G K C):=S.def λf fd F=>by
 refine F.yh z0m λnd cdv A' outer s H vs Q E hr h=>?_;obtain⟨p,pd,lp,L,W,Ws,rfl,l,k0,k1⟩:=h;refine⟨_,(q1 (qr (q8 (qp (q2 (qv 0) LT.cl Ud)) ⟨ZX (v:=.str vg) 02 a ⟨_,rfl⟩⟩ qw))),?_⟩;obtain⟨now,us,lv,hw,d⟩:=id l;obtain⟨⟨dx,b⟩,i⟩:=id lv;refine⟨_,rfl,p,dx,_,rfl,b,yb _ _ _ 03 03 03,p,pd,lp,W,_,rfl,l,λz G s=>?_,λW' Ws' z G c k2=>?_⟩;exact⟨_,rfl,ZF rfl (k0 z G s)⟩;exact⟨_,rfl,Zy rfl (k1 W' Ws' z G c k2)⟩
def z0D:zE ["live","pages"] ["live","pages"] (zo XQ):=fs
def z1J{mg:SV}(S:ZH K mg "say_show" XQ ["live","pages"])(T:Txt mg)(LT:U1 K C)(Wl:ZO P w K mg base Yn 1 C "web" ["self"] (vI K C))(Sw:Def P w K mg base 1 "show_web" ["web"] (Y3 K)):Def P w K mg base 2 "say_show" ["live","pages"] (jV K C):=S.def λf fd F=>by
 refine F.yh z0D λnd cdv A' outer s H vs Q E hr h=>?_;obtain⟨p,pd,lp,L,n,ps,Ws,A,rfl,lv,k⟩:=h;refine⟨_,(q1 (qr (qd Sw (qa (q2 (qv 0) LT.cl Wl) qn)))),?_⟩;obtain⟨now,us,b,hw,d⟩:=id lv.l;obtain⟨⟨dx,c⟩,i⟩:=id b;have n12:=lv.n12;refine⟨_,rfl,p,dx,_,rfl,c,yb _ _ _ 03 03 03,p,pd,lp,_,Ws,rfl,lv.l,λa ha=>?_⟩;exact⟨a,(n:Int),ps,rfl,ha,00,00,lv.few,lv.rng,k⟩
open L2
def Q3:zE ["live","pages"] ["live","pages"] (zo xU):=fs
def z1o{mg:SV}(S:ZH K mg "say_share" xU ["live","pages"])(T:Txt mg)(LT:U1 K C)(Cp:Yk P w K mg base (Yo P w Xl) 2 "check_page" ["live","page"] (z2y K C Xl))(Sh:ZO P w K mg base Yn 7 C "shares" ["self"] (jc K C))(Sr:Def P w K mg base 3 "show_fraction" ["fraction"] (z3w K)):Yk P w K mg base (Yo P w Xl) 8 "say_share" ["live","pages"] (J7 K C Xl):=S.uP λf fd F=>by
 have nd:=Q3.nd;refine F.okN Q3 020 07;obtain⟨_,_,_,_,_,_,_,_,_,rfl,_⟩:=h;rfl;obtain⟨p,pd,lp,L,n,c,ps,Ws,A,rfl,i,lv,k,o⟩:=h;refine⟨_,@qz _ _ _ (qc (qX ⟨YY 02 02 02 01 Cp 029 XF (@ze _ _ _ _ _ 02 (pv 0) (@ze _ _ _ _ _ 02 (Zt zW (pv 1) zI 024) zF))⟩) (q1 (qr (qd Sr (qa (qx zJ (q2 (qv 0) LT.cl Sh) (qx zW (qv 1) qi)) qn))))),?_⟩;obtain⟨now,us,b,hw,B⟩:=id lv.l;obtain⟨⟨dx,v⟩,D⟩:=id b;have n12:=lv.n12;have few:=lv.few;refine⟨_,rfl,_,rfl,yN (zN.of i) rfl ⟨p,pd,lp,_,Ws,(c:Int),rfl,lv.l,λa G1 s1=>?_,λa=>o λz=>a (by show (c:Int)<(n:Int);lia)⟩⟩;have a:c<n:=by have r:(c:Int)<(n:Int):=a;lia
 have k:=k a;refine⟨_,rfl,p,dx,_,rfl,s1 _ _ v,yb _ _ _ 03 03 03,p,pd,lp,n,ps,Ws,A,rfl,lv.l.same s1,lv.n1,n12,00,lv.rng,s1 _ _ lv.fA,lv.ca,lv.a0,lv.a1,lv.sA,λt G2 Ss G ok sz s2 u f2=>?_⟩;have I:=ok.len;have d:=mem_getD (Bs:=Ss) (t:=c) 00;obtain⟨y,ex,m⟩:=f2.at (j:=c) (A:=Ss.getD c (0,1)) (by rw[Z05,Z03 00];rfl);have J:=(ok.canon _ d).1;have q:=ok.nn _ d;refine⟨_,rfl,yN (zN.of (s2 _ _ (s1 _ _ i))) rfl (ixt (zR.of u) (Zi ex) ⟨y,Ss.getD c (0,1),rfl,JZ.of m,q,00,sz _ d,λG3 s3=>k G3 Ss ok sz (s1.trans (s2.trans s3))⟩)⟩
def z1D:zE ["live","pages"] ["live","pages"] (zo XU):=fs
def z2c{mg:SV}(S:ZH K mg "say_rank" XU ["live","pages"])(T:Txt mg)(LT:U1 K C)(Rk:ZO P w K mg base Yn 8 C "ranked" ["self"] (jS K C tb zU))(Pt:Def P w K mg base 1 "parted" ["pages"] (z3x K)):Def P w K mg base 9 "say_rank" ["live","pages"] (jj K C tb zU):=S.def λf fd F=>by
 refine F.yh z1D λnd cdv A' outer s H vs Q E hr h=>?_;obtain⟨p,pd,lp,L,n,ps,Ws,A,rfl,lv,tab,k⟩:=h;refine⟨_,(q1 (qr (qd Pt (qa (q2 (qv 0) LT.cl Rk) qn)))),?_⟩;obtain⟨now,us,c,hw,t⟩:=id lv.l;obtain⟨⟨dx,o⟩,u⟩:=id c;have few:=lv.few;have n12:=lv.n12;refine⟨_,rfl,p,dx,_,rfl,o,yb _ _ _ 03 03 03,p,pd,lp,n,ps,Ws,A,rfl,lv.l,lv.n1,n12,00,lv.rng,lv.fA,lv.ca,lv.a0,lv.a1,lv.sA,tab,λD G1 Ss r ok d kp q j a=>?_⟩;have b:z7p r=(r.map λ(k:Nat)=>(k:Int)).map V.int:=by unfold z7p;rw[Z59];rfl
 have v:r.length=n:=by rw[d.pm.length_eq,Z29]
 refine⟨D,_,rfl,zN.of (by rw[j,b]),by rw[ZB];lia,λx i=>?_,λG2 s2=>k G2 Ss r ok d (kp.trans (zC.kpd s2)) (a.same s2)⟩;obtain⟨m,hm,rfl⟩:=Z18.mp i;have:=Z25.mp (d.pm.mem_iff.mp hm);lia
def Vo:zE ["live","pages","web","places","chosen"] ["live","pages"] (zo X9):=fs
def z2u{mg:SV}(S:ZH K mg "say_pass" X9 ["live","pages"])(T:Txt mg)(LT:U1 K C)(XL:JS K mg "NoLink" Xl)(mM:mg "MOST_PLACES"=some (.int 6 tM))(zmin:mg "min"=none)(Cp:Yk P w K mg base (Yo P w Xl) 2 "check_page" ["live","page"] (z2y K C Xl))(Wl:ZO P w K mg base Yn 1 C "web" ["self"] (vI K C))(Ev:Def P w K mg base 3 "even" ["web"] (Xh K))(Ll:Def P w K mg base 14 "least_links" ["web","leap","leaps","one","other","places"] (YH K))(Pt:Def P w K mg base 1 "parted" ["pages"] (z3x K)):Yk P w K mg base (Yo P w Xl) 15 "say_pass" ["live","pages"] (z4g K C Xl):=S.uP λf fd F=>by
 have nd:=Vo.nd;refine F.okN Vo 020 07;obtain⟨_,_,_,_,_,_,_,_,_,_,rfl,_⟩:=h;rfl
 · obtain⟨p,pd,lp,L,n,x,y,ps,Ws,A,rfl,J,lv,k,X⟩:=h
   refine⟨_,@qz _ _ _ (qc (qX ⟨YY 02 02 02 01 Cp 029 XF (@ze _ _ _ _ _ 02 (pv 0) (@ze _ _ _ _ _ 02 (ZQ (z6f rfl) 02 T.max boot_max (@ze _ _ _ _ _ 02 (pv 1) zF)) zF))⟩) (qc (qf (qk Ze (qx zW (qv 1) qi) (qx zW (qv 1) qi)) (q1 ⟨ZP XL 02 (@ze _ _ _ _ _ 02 zK zF) 02 02 01⟩) q0) (qc (qs 2 (q2 (qv 0) LT.cl Wl)) (qc (qs 3 ⟨z3Z rfl rfl T.lst rfl T.range (@ze _ _ _ _ _ 02 (ZQ (vA rfl) 02 zmin boot_min (@ze _ _ _ _ _ 02 (ZX (v:=.int 6) 02 mM ⟨_,rfl⟩) (@ze _ _ _ _ _ 02 (Zt zJ (pv 2) zI 024) zF))) zF)⟩) (qc (qs 4 (qd Ll (qa (qv 2) (qa (qD (qv 0)) (qa (qd Ev (qa (qv 2) qn)) (qa (qx zW (qv 1) qi) (qa (qx zW (qv 1) qi) (qa (qv 3) qn)))))))) (qc (qf (qk z2L (qv 4) ⟨V9⟩) (q1 (qr qw)) q0) (q1 (qr (q8 ⟨jB (λ_=>rfl) (pv 4)⟩ (qd Pt (qa (qv 4) qn)) qw))))))))),?_⟩;refine zG λRR c=>?_;obtain⟨now,us,O,hw,hs⟩:=id lv.l;obtain⟨⟨dx,Y⟩,h2⟩:=id O;have n12:=lv.n12;have M:H L=some (.lst ([(x:Int),(y:Int)].map V.int)):=J;refine⟨_,rfl,_,rfl,L,_,rfl,M,05,λm hm D=>?_⟩;refine⟨p,pd,lp,_,Ws,m,rfl,lv.l,λu G1 s1=>?_,λu=>X λz=>u ?_⟩
   case refine_2 =>
    rcases Z08.mp hm with q | q;show m<(n:Int);lia;have:=Z01.mp q;show m<(n:Int);lia
   have u:m<(n:Int):=u;have hx:x<n:=by have:=D x 05;lia
   have Z:y<n:=by have:=D y 05;lia
   show RR [_,_,_,_,_] _;subst c;refine zG λRR c=>?_;refine⟨_,rfl,yN (zN.of (s1 _ _ J)) rfl ⟨_,rfl,yN (zN.of (s1 _ _ J)) rfl ⟨rfl,_,rfl,?_⟩⟩⟩;by_cases hxy:x=y;subst hxy;exact Zy 05 ⟨035,X (λz=>z.2.2 rfl) G1 s1⟩;obtain⟨few,k⟩:=k ⟨hx,Z,hxy⟩;refine ZF (decide_eq_false (λz=>by injection z with z;lia)) ?_;show RR [_,_,_,_,_] _;subst c;refine zG λRR c=>?_;refine⟨_,rfl,p,dx,_,rfl,s1 _ _ Y,yb _ _ _ 03 03 03,p,pd,lp,_,Ws,rfl,lv.l.same s1,λwa j=>?_⟩;show RR [_,_,_,_,_] _;have j:ZC K G1 wa (n:Int) ps:=j;obtain⟨t,ws,U,et,hp⟩:=id j;subst c;refine zG λRR c=>?_;have emin:(if (n:Int)<6 then (n:Int) else 6)=((min 6 n:Nat):Int):=by split <;> lia
   refine⟨_,rfl,Zw (zR.of U) rfl ⟨6,(n:Int),rfl,min 6 n,congrArg (λz=>[V.int z]) emin,00,λpl G2 s2 m2 e2=>?_⟩⟩;show RR [_,_,_,_,_] _;subst c;refine zG λRR c=>?_;have I:=s1.trans s2;have N:G2 pl=some (.lst ((oiL (List.range (min 6 n))).map V.int)):=by rw[e2];unfold oiL;rw[Z59];rfl
   refine⟨_,rfl,_,rfl,p,C,dx,_,_,rfl,I _ _ Y,LT.cl,LT.nL,QW _ _ _,_,rfl,wa,n,_,rfl,s2 _ _ U,lv.n1,n12,λev G3 vs s3 e3 f3=>?_⟩;have B:=I.trans s3;refine⟨_,rfl,yN (zN.of (B _ _ J)) rfl ⟨_,rfl,yN (zN.of (B _ _ J)) rfl ⟨_,rfl,?_⟩⟩⟩;refine ZZ ?_;show YH K [.ref wa,.ref lp,.ref ev,.int (x:Int),.int (y:Int),.ref pl] G3 _ _;have lo:(oiL (List.range (min 6 n))).length=min 6 n:=by unfold oiL;rw[ZB,Z29]
   have R:(oiL (List.range (min 6 n))).Pairwise (·<=·):=by
    unfold oiL;rw[List.pairwise_map];exact List.pairwise_lt_range.imp λ{a b} h=>by lia
   refine z0p (yZ (j.same (s2.trans s3)) (by have:=lv.few;lia) lv.rng (B _ _ lv.fA) lv.ca lv.a0 lv.a1 lv.sA lv.n1 n12 e3 f3) hx Z (by rw[lo];lia) (s3 _ _ N) (by rw[lo];lia) (λr hr=>?_) (List.Perm.refl _) R λfv G4 o s4 hF i nf=>?_;obtain⟨m,hm,rfl⟩:=Z18.mp hr;have:=Z25.mp hm;lia;show RR [_,_,_,_,_] _;subst c;refine zG λRR c=>?_;have d:=B.trans s4;rcases hF with⟨rfl,rfl⟩|⟨b,row,rfl,rfl,eb⟩;exact⟨_,rfl,rfl,_,rfl,Zy rfl (k G4 none i d)⟩;refine⟨_,rfl,rfl,_,rfl,ZF rfl ?_⟩;show RR [_,_,_,_,_] _;subst c;have sub:=i.sub.1;have G:=sub.length_le;rw[lo] at G;refine⟨_,rfl,_,.inl ⟨_,zN.of eb,rfl⟩,?_⟩;cases row with
   | nil=>exact ZF rfl (k G4 _ i d)
   | cons r0 row =>
     refine Zy rfl ⟨_,rfl,b,r0 :: row,rfl,zN.of eb,00,λq hq=>?_,λG5 s5=>k G5 _ i (d.trans s5)⟩;obtain⟨m,hm,rfl⟩:=Z18.mp (sub.subset hq);have:=Z25.mp hm;lia
open L2
def Z2d:zE ["thing"] ["thing"] (zo z6V):=fs
def z6i{mg:SV}(S:ZH K mg "is_leap" z6V ["thing"])(T:Txt mg)(If:Def P w K mg base 3 "is_fraction" ["thing"] (JK K)):Def P w K mg base 4 "is_leap" ["thing"] (jC K):=S.def λf fd F=>by
 refine F.yh Z2d λnd cdv A' outer s H vs Q E hr h=>?_;obtain⟨p,A,rfl,b,a,k⟩:=h;refine⟨_,(q1 (qr (q4 (qd If (qa (qv 0) qn)) (q6 ⟨Qw uH z0u zI (Zt zJ (pv 0) zI 024) (Zt zJ (pv 0) zI 024) (by with_unfolding_all rfl)⟩)))),?_⟩;obtain⟨d,c⟩:=a;refine⟨_,rfl,p,A,rfl,b,_,rfl,?_⟩;rw[decide_eq_true ⟨d,c⟩];refine Zy rfl ?_;refine⟨_,rfl,Zw b rfl ⟨_,_,rfl,rfl,_,rfl,?_⟩⟩;by_cases c3:0<A.1;rw[decide_eq_true c3];refine Zy rfl ⟨_,rfl,Zw b rfl ⟨_,_,rfl,rfl,?_⟩⟩;show Q (.bl (decide (A.1<=A.2))) H;rw[show decide (A.1<=A.2)=decide (0<A.1/\A.1<=A.2) by simp[c3]];exact k;rw[decide_eq_false c3];refine ZF rfl ?_;rw[show decide (0<A.1/\A.1<=A.2)=false by simp[c3]] at k;exact k
def QK:zE ["text","leap"] ["text"] (zo xW):=fs
def z1s{mg:SV}(S:ZH K mg "read_leap" xW ["text"])(T:Txt mg)(XT:JS K mg "NoText" Xt)(Rf:Yk P w K mg base (Yo P w Xt) 4 "read_fraction" ["text"] (z0i K Xt))(Ip:Def P w K mg base 4 "is_leap" ["thing"] (jC K)):Yk P w K mg base (Yo P w Xt) 5 "read_leap" ["text"] (z0h K Xt):=S.uP λf fd F=>by
 have nd:=QK.nd;refine F.okN QK 020 07;obtain⟨_,rfl,_⟩:=h;rfl;obtain⟨x,rfl,c,k⟩:=h;refine⟨_,@qz _ _ _ (qc (qs 1 ⟨YY 02 02 02 01 Rf 029 XF (@ze _ _ _ _ _ 02 (pv 0) zF)⟩) (qc (qf (qT (qp (qd Ip (qa (qv 1) qn)))) 015 q0) (q1 (qr (qv 1))))),?_⟩;rcases k with⟨A,fx,g,k⟩|⟨b |⟨A,fx,ng⟩,kE⟩;refine⟨_,rfl,x,rfl,c,.inl ⟨A,fx,λa G1 s1 f1=>⟨_,rfl,a,A,rfl,JZ.of f1,fx.2,_,rfl,?_⟩⟩⟩
 rw[decide_eq_true g.2];exact ZF rfl ⟨_,rfl,k a G1 s1 f1⟩;exact⟨_,rfl,x,rfl,c,.inr ⟨b,kE⟩⟩;refine⟨_,rfl,x,rfl,c,.inl ⟨A,fx,λa G1 s1 f1=>⟨_,rfl,a,A,rfl,JZ.of f1,fx.2,_,rfl,?_⟩⟩⟩;rw[decide_eq_false ng];exact Zy rfl ⟨035,kE G1 s1⟩
def Va:zE ["live","words","some","pages","answer"] ["live","words"] (zo Yb):=fs
def z3l{mg:SV}(S:ZH K mg "answered" Yb ["live","words"])(T:Txt mg)(XM:JS K mg "NoCommand" Xm)(zall:mg "all"=none)(mA:mg "ANSWERS"=some (.ref zA))(dc:DcK w K zA fz)(Fi:Def P w K mg base 1 "are_figures" ["text","most"] z1C):Yk P w K mg base (CXA P w [Xl,Xm]) 17 "answered" ["live","words"] (z3j P w K mg base 16 fz Xl Xm):=S.uP λf fd F=>by
 have nd:=Va.nd;refine F.okN Va 020 07;obtain⟨_,_,_,_,rfl,_⟩:=h;rfl
 · obtain⟨p,x,hd,ws,rfl,x8,R,wn,wz,k⟩:=h
   refine⟨_,@qz _ _ _ (qc (qs 2 (qm Z1v Z50 PySem.F.type_str_split um (qv 1) (qa qw qn))) (qc (qs 3 (q9 VH (qv 2) (qQ qi) qK)) (qc (qf (qW (qO (qk z5U (qx zW (qv 2) qi) ⟨ZX (v:=.ref zA) 02 mA rfl⟩) (qP (qT (qp (qy (Qv rfl) zall boot_all (qa (qG (zo Yb) ["each"] [none] (qL (qv 3)) trivial (λ_ _ _ _ _ _=>(qg 0)) (λ_ _ _ _ _=>qV) (λ_ _ _ _ _=>(qd Fi (qa (qv 0) (qa qi qn))))) qn))))))) (q1 ⟨vd (C:=Xm) 05 XM 02 (@ze _ _ _ _ _ 02 zK zF) 02 02 01⟩) q0) (qc (qs 4 ⟨z8r (ZX (v:=.ref zA) 02 mA rfl) (Zt zW (pv 2) zI 024) 024⟩) (qc (qf (qk Qy (qy zY T.len Z38 (qa (qv 3) qn)) (qx zJ (qv 4) qi)) (q1 ⟨vd (C:=Xm) 05 XM 02 (@ze _ _ _ _ _ 02 zK zF) 02 02 01⟩) q0) (q1 (qr ⟨z4X (CX:=Yo P w Xl) hr (z4L 05) (Zt zJ (pv 4) zI 024) (@ze _ _ _ _ _ 02 (pv 0) (@ze _ _ _ _ _ 02 (ZR ["each"] [none] rfl (@VJ _ _ _ _ (pv 3)) (by show ∀ y:Str×NameKind,y∈_->y.2=NameKind.free->(zo Yb).names.lookup y.1=some .cell;decide +kernel) 01 rfl 03 trivial (λcl C s H fp=>(z7 (i:=0) (show (["each"]:List Str).Nodup by decide +kernel) rfl 018 (.inr rfl))) (λcl C s H fp=>ym) (λcl C s H fp=>(yf ju 02 T.int boot_int (@ze _ _ _ _ _ 02 (pv 0) zF)))) zF))⟩))))))),?_⟩;refine zG λRR c=>?_;refine⟨_,rfl,rfl,x,32,rfl,z0o Z0O,x8,λso G1 s1 m1 U=>?_⟩;rw[R] at U;show RR [_,_,_,_,_] _;subst c;refine zG λRR c=>?_;refine⟨_,rfl,1,rfl,so,_,rfl,zN.of U,λpg X=>?_⟩;have s2:zC G1 (upd G1 pg (.lst (yT (List.map V.str (hd :: ws)) (some 1) none))):=zC.new X;have M:(upd G1 pg (.lst (yT (List.map V.str (hd :: ws)) (some 1) none))) pg=some (.lst (ws.map V.str)):=by
    rw[zB];have:=Z0J (xs:=List.map V.str (hd :: ws)) (i:=0) 05;rw[show (((0:Nat):Int)+1)=1 from rfl] at this;rw[this];rfl
   generalize upd G1 pg (.lst (yT (List.map V.str (hd :: ws)) (some 1) none))=G2 at s2 M;show RR [_,_,_,_,_] _;subst c;refine zG λRR c=>?_;have J:=s2 _ _ U;have lw:(ws.map V.str).length=ws.length:=by rw[ZB]
   refine⟨_,rfl,yN (v:=.str hd) (zN.of J) (Zi (j:=0) rfl) ⟨hd,zA,fz,rfl,rfl,dc,_,rfl,?_⟩⟩;cases ft:fz hd with
   | none =>
     refine Zy rfl (Zy rfl ⟨035,?_⟩);rcases k with⟨_,kE⟩|⟨t,f',m,fd',sp,ft',_⟩;exact kE G2 (s1.trans s2);rw[ft] at ft';cases ft'
   | some va =>
   refine ZF rfl ?_;refine⟨_,rfl,pg,rfl,⟨_,zN.of M⟩,λD hD=>?_⟩;refine Z3 (K:=K) (a:=pg) (D:=D) (xs:=ws.map V.str) (λi d σ G=>zC G2 G/\G D=some (.lst d)/\d=((ws.take i).map λz=>decide (Pw.Q9 2 z)).map V.bl/\∃ v,σ=[v]) ?_ ?_ ?_ ?_;exact⟨zC.new hD,zB,rfl,none,rfl⟩;rintro i d σ G ⟨r,e,_⟩;exact⟨zN.of (r _ _ M),e⟩
   · rintro i u d σ G I hi ⟨r,Y,rfl,v,rfl⟩
     rw[lw] at hi;rw[Z17,Z03 hi] at I;cases I;dsimp only [Zo];refine Zy rfl ?_;refine⟨_,rfl,ws[i],2,rfl,wz _ (Z1z hi),01,λG' s'=>?_⟩;have Z:=s' _ _ Y;refine⟨Z,(by rw[ZB,ZB,Z1r,sizeLine_eq];lia),Wt.next (by rw[lw];exact hi) ⟨λb o e=>by rw[zD (zh e hD)];exact s' _ _ (r _ _ e),zB,?_,_,rfl⟩⟩;rw[Z28,Z03 hi,Z13,Z13];rfl
   rintro d σ G3 ⟨s3,e3,rfl,_⟩;rw[lw,Z12 (Z02 _)] at e3;refine⟨D,ws.map λz=>decide (Pw.Q9 2 z),rfl,zN.of e3,_,rfl,?_⟩;have N:=s1.trans (s2.trans s3);by_cases af:∀ z∈ws,Pw.Q9 2 z
   case neg =>
    have ha:(ws.map λz=>decide (Pw.Q9 2 z)).all id=false:=by
     cases q:(ws.map λz=>decide (Pw.Q9 2 z)).all id with
     | false=>rfl
     | true =>
       exact absurd (λz L=>of_decide_eq_true (Z56.mp q _ (Z18.mpr ⟨z,L,rfl⟩))) af
    rw[ha];refine Zy rfl ⟨035,?_⟩;rcases k with⟨_,kE⟩|⟨t,f',m,fd',sp,ft',_,_,_,_,af',_⟩;exact kE G3 N;exact absurd af' af
   have ha:(ws.map λz=>decide (Pw.Q9 2 z)).all id=true:=by
    rw[Z56];intro b O;obtain⟨z,L,rfl⟩:=Z18.mp O;exact decide_eq_true (af z L)
   rw[ha];refine ZF rfl ?_;show RR [_,_,_,_,_] _;subst c;rcases k with⟨B,_⟩|⟨t,f',m,fd',sp,ft',ht,hk,O,F',_,k⟩;rcases B with B |⟨z,L,B⟩;rw[ft] at B;cases B;exact absurd (af z L) B;refine zG λRR c=>?_
   have l:=s3 _ _ M;refine⟨_,rfl,yN (v:=.str hd) (zN.of (s3 _ _ J)) (Zi (j:=0) rfl) ⟨zA,hd,fz,t,rfl,rfl,dc,ft',?_⟩⟩;show RR [_,_,_,_,_] _;subst c;refine zG λRR c=>?_;refine⟨_,rfl,pg,_,rfl,.inl (zN.of l),_,rfl,t,_,_,_,rfl,rfl,ht _,rfl,rfl,_,rfl,?_⟩;rw[lw];rcases k with⟨ne,kE⟩|⟨zs,rfl,wb,zm,m2,k⟩;exact Zy (vne λz=>ne 00) ⟨035,kE G3 N⟩
   have A:((zs.map Pw.ns).map V.str).length=zs.length:=by rw[ZB,ZB]
   refine ZF (by simp[zm]) ?_;show RR [_,_,_,_,_] _;subst c;refine⟨_,rfl,t,_,_,_,rfl,rfl,ht _,rfl,f',fd',_,sp,rfl,hk,O,F',_,rfl,_,rfl,pg,rfl,⟨_,zN.of l⟩,λD2 n=>?_⟩;refine Z3 (K:=K) (a:=pg) (D:=D2) (xs:=(zs.map Pw.ns).map V.str) (λi d σ G=>zC G3 G/\G D2=some (.lst d)/\d=(zs.take i).map V.int/\∃ v,σ=[v]) ?_ ?_ ?_ ?_;exact⟨zC.new n,zB,rfl,none,rfl⟩;rintro i d σ G ⟨r,e,_⟩;exact⟨zN.of (r _ _ l),e⟩
   · rintro i u d σ G I hi ⟨r,Y,rfl,v,rfl⟩
     rw[A] at hi;rw[Z17,Z17,Z03 hi] at I;cases I;have b:=wb _ (Z1z hi);obtain⟨fg,sz⟩:=JC b.1 b.2;dsimp only [Zo];refine Zy rfl ?_;refine⟨_,rfl,Pw.ns zs[i],zs[i],rfl,Z3m b.1 b.2,00,Y,(by rw[ZB,Z1r,sizeLine_eq];lia),Wt.next (by rw[A];exact hi) ⟨λb o e=>by rw[zD (zh e n)];exact r _ _ e,zB,?_,_,rfl⟩⟩;rw[Z28,Z03 hi,Z13];rfl
   rintro d σ G4 ⟨s4,e4,rfl,_⟩;rw[A,Z12 (Z02 _)] at e4;exact k D2 G4 (N.trans s4) (N.free n) e4
open L2
def z0P:zE ["self"] ["self"] (zo XR):=fs
def Z0e{mg:SV}(S:MkF K mg Cd "Desk" "Desk.__init__" XR ["self"])(T:Txt mg)(DT:DkT K Cd)(Mk:MkD P w K mg base Yn 1 C "Live" ["self","web","leap"] (Yr C)):MkD P w K mg base Yn 3 Cd "Desk" ["self"] (z0y K C Cd):=S.def λf fd F=>by
 refine F.yh z0P λnd cdv A' outer s H vs Q E hr h=>?_;obtain⟨d,dx,rfl,hd,k⟩:=h;refine⟨_,(q1 (q3 (qv 0) ⟨uU 02 02 02 01 Mk 029 XI (@ze _ _ _ _ _ 02 (@Zx _ _ _ _ _ (@ze _ _ _ _ _ 02 zI (@ze _ _ _ _ _ 02 (@Zx _ _ _ _ _ zF) zF))) (@ze _ _ _ _ _ 02 (@Zx _ _ _ _ _ (@ze _ _ _ _ _ 02 zI (@ze _ _ _ _ _ 02 zI zF))) zF))⟩)),?_⟩;refine⟨zl0,λt0 G1 s1 r q=>⟨zl2,λwa G2 s2 u m=>⟨zl2,λlp G3 s3 t l=>?_⟩⟩⟩;have a:=s1.trans (s2.trans s3);have hw:ZC K G3 wa 1 []:=⟨t0,[],s3 _ _ m,s3 _ _ (s2 _ _ q),Y4⟩;refine ZZ ?_;show ∀ x dx,G3 x=none->G3 dx=none->dx≠x->Yr C [.ref x,.ref wa,.ref lp] _ _ _;refine vG (W:=(1,[])) hw λp pd G4 mp i n s4=>?_;have c:=s4 _ _ (a _ _ hd);have np:p≠d:=Z32 (zh (a _ _ hd) mp);have j:pd≠d:=Z32 (zh (a _ _ hd) i);refine⟨rfl,_,rfl,d,Cd,dx,_,rfl,c,DT.cl,DT.nL,(by show 0<1000;decide),?_⟩;refine k p pd lp _ (a.free mp) (a.free i) ⟨dx,zB⟩ (n.Z2C c np j) ((z2n c).tup _ _ (s4 _ _ l)) λb o e nb=>?_;rw[zD nb];exact s4 _ _ (a _ _ e)
def Uw:zE ["self","words"] ["self","words"] (zo vq):=fs
def Z3Z{mg:SV}(S:Q5 K Cd "say" "Desk.say" vq ["self","words"])(T:Txt mg)(LT:U1 K C)(DT:DkT K Cd)(XM:JS K mg "NoCommand" Xm)(zstr:mg "str"=none)(J:mg "DONE"=some (.str vg tD))(Mk:MkD P w K mg base Yn 1 C "Live" ["self","web","leap"] (Yr C))(Wl:ZO P w K mg base Yn 1 C "web" ["self"] (vI K C))(Rw:Yk P w K mg base (Yo P w Xt) 6 "read_web" ["text"] (z4v K Xt))(Rl:Yk P w K mg base (Yo P w Xt) 5 "read_leap" ["text"] (z0h K Xt))(An:Yk P w K mg base (CXA P w [Xl,Xm]) 17 "answered" ["live","words"] (z3j P w K mg base 16 fz Xl Xm)):ZO P w K mg base (CXA P w [Xl,Xt,Xm]) 18 Cd "say" ["self","words"] (yp P w K mg base 16 fz C Cd Xl Xt Xm):=S.def λf fd F=>by
 have nd:=Uw.nd;refine F.okN Uw 020 07;obtain⟨_,_,_,_,_,_,_,_,rfl,_⟩:=h;rfl
 · obtain⟨d,p,pd,lp,x,W,Ws,A,rfl,⟨dx,hd⟩,l,fA,M,k⟩:=h
   refine⟨_,@qz _ _ _ (qc (qf (qT (qp (qy uo T.isi boot_isinstance (qa (qv 1) (qa ⟨Xe (v:=.ty "str") 02 zstr boot_str rfl⟩ qn))))) (q1 ⟨vd (C:=Xm) 05 XM 02 (@ze _ _ _ _ _ 02 zK zF) 02 02 01⟩) q0) (qc (qf (qp (qm Z1v Z47 Z5v V8 (qv 1) (qa qw qn))) (qc (q3 (qv 0) ⟨uU 02 02 02 01 Mk 029 XI (@ze _ _ _ _ _ 02 (YY 02 02 02 01 Rw 029 (z4L 05) (@ze _ _ _ _ _ 02 (Yi z2k (pv 1) (xm zI) YX) zF)) (@ze _ _ _ _ _ 02 (XS (XS (pv 0) rfl) rfl) zF))⟩) (q1 (qr ⟨ZX (v:=.str vg) 02 J ⟨_,rfl⟩⟩))) q0) (qc (qf (qp (qm Z1v Z47 Z5v V8 (qv 1) (qa qw qn))) (qc (q3 (qv 0) ⟨uU 02 02 02 01 Mk 029 XI (@ze _ _ _ _ _ 02 (uy 02 (XS (pv 0) rfl) LT.cl Wl 029 XI) (@ze _ _ _ _ _ 02 (YY 02 02 02 01 Rl 029 (z4L 05) (@ze _ _ _ _ _ 02 (Yi z2k (pv 1) (xm zI) YX) zF)) zF))⟩) (q1 (qr ⟨ZX (v:=.str vg) 02 J ⟨_,rfl⟩⟩))) q0) (q1 (qr ⟨YY 02 02 02 01 An 029 (Z3B 05) (@ze _ _ _ _ _ 02 (XS (pv 0) rfl) (@ze _ _ _ _ _ 02 (pv 1) zF))⟩))))),?_⟩;obtain⟨now,us,G,hw,U⟩:=id l;obtain⟨⟨dl,N⟩,_⟩:=id G;have O:(Str.ofString "web ").cps.size=4:=03
   have L:(Str.ofString "leap ").cps.size=5:=03
   refine zG λRR c=>?_;refine⟨_,rfl,_,_,_,true,rfl,.str x,Z3h _,_,rfl,ZF rfl ?_⟩;show RR [_,_] _;rcases k with⟨h1,h2,k⟩|⟨t,rfl,k⟩|⟨t,rfl,k⟩;subst c;refine zG λRR c=>?_
   refine⟨_,rfl,rfl,x,_,rfl,rfl,_,rfl,?_⟩;rw[h1];refine ZF rfl ?_;show RR [_,_] _;subst c;refine zG λRR c=>?_;refine⟨_,rfl,rfl,x,_,rfl,rfl,_,rfl,?_⟩;rw[h2];refine ZF rfl ?_;show RR [_,_] _;subst c;exact⟨_,rfl,d,Cd,dx,_,_,rfl,hd,DT.cl,DT.nL,uz _,_,rfl,k⟩
   · subst c
     refine zG λRR c=>?_;clear c;refine⟨_,rfl,rfl,_,_,rfl,rfl,_,rfl,?_⟩;rw[Pw.z3D];refine Zy rfl ?_;refine zG λR2 y=>?_;rw[zP] at M;refine⟨_,rfl,4,rfl,_,rfl,by rw[zP];lia,?_⟩;have B:=jr (Str.ofString "web ") t 4 O;rcases k with⟨n,ps,wt,k⟩|⟨⟨w,r,e,h⟩|⟨wp,ws,n,ps,e,hn,q,nb⟩,kE⟩
     rotate_left
     exact⟨t,congrArg (λz=>[V.str z]) B,00,.inl ⟨w,r,e,h,kE⟩⟩;exact⟨t,congrArg (λz=>[V.str z]) B,00,.inr ⟨wp,ws,n,ps,e,hn,q,λok=>absurd ok nb,λ_=>kE⟩⟩;obtain⟨wp,ws,e,hn,q⟩:=wt.words;refine⟨t,congrArg (λz=>[V.str z]) B,00,.inr ⟨wp,ws,n,ps,e,hn,q,λ_ wa G1 s1 u=>?_,λno=>absurd ⟨wt.n1,wt.n12,wt.few,wt.rng,wt.up⟩ no⟩⟩;refine⟨_,rfl,d,Cd,dx,_,_,rfl,s1 _ _ hd,DT.cl,DT.nL,uz _,p,C,dl,_,_,rfl,s1 _ _ N,LT.cl,LT.nL,QW _ _ _,?_⟩;refine ZZ ?_;show ∀ x dx,G1 x=none->G1 dx=none->dx≠x->Yr C [.ref x,.ref wa,.ref lp] _ _ _;refine vG (W:=((n:Int),ps)) u λD j G2 mp i I s2=>?_;have hd2:=s2 _ _ (s1 _ _ hd);have np:D≠d:=Z32 (zh (s1 _ _ hd) mp);have m:j≠d:=Z32 (zh (s1 _ _ hd) i);refine⟨rfl,_,rfl,d,Cd,dx,_,rfl,hd2,DT.cl,DT.nL,(by show 1<1000;decide),?_⟩;show R2 [_,_] _;subst y;rw[z3E];refine k D j _ (s1.free mp) (s1.free i) ⟨dx,zB⟩ (I.Z2C hd2 np m) λb o e nb=>?_;rw[zD nb];exact s2 _ _ (s1 _ _ e)
   · subst c
     refine zG λRR c=>?_;refine⟨_,rfl,rfl,_,_,rfl,rfl,_,rfl,?_⟩;rw[Pw.z1f 0 (a:=108) (b:=119) (by rw[Z26,Z21,Z39 (by rw[Z11,L];decide)];decide +kernel) 03 01];refine ZF rfl ?_;show RR [_,_] _;subst c;refine zG λRR c=>?_;clear c;refine⟨_,rfl,rfl,_,_,rfl,rfl,_,rfl,?_⟩;rw[Pw.z3D];refine Zy rfl ?_;refine zG λR2 y=>?_;rw[zP] at M;refine⟨_,rfl,d,Cd,dx,_,_,rfl,hd,DT.cl,DT.nL,uz _,p,dl,_,rfl,N,yb _ _ _ 03 03 03,p,pd,lp,W,Ws,rfl,l,λwa u=>?_⟩;refine⟨_,rfl,5,rfl,_,rfl,by rw[zP];lia,?_⟩;have B:=jr (Str.ofString "leap ") t 5 L;rcases k with⟨A',fx,ga,k⟩|⟨b,kE⟩
     rotate_left
     exact⟨t,congrArg (λz=>[V.str z]) B,00,.inr ⟨b,kE⟩⟩;refine⟨t,congrArg (λz=>[V.str z]) B,00,.inl ⟨A',fx,ga,λla G1 s1 R=>?_⟩⟩;refine ZZ ?_;show ∀ x dx,G1 x=none->G1 dx=none->dx≠x->Yr C [.ref x,.ref wa,.ref la] _ _ _;refine vG (W:=W) (u.same s1) λD j G2 mp i I s2=>?_;have hd2:=s2 _ _ (s1 _ _ hd);have np:D≠d:=Z32 (zh (s1 _ _ hd) mp);have m:j≠d:=Z32 (zh (s1 _ _ hd) i);refine⟨rfl,_,rfl,d,Cd,dx,_,rfl,hd2,DT.cl,DT.nL,(by show 1<1000;decide),?_⟩;show R2 [_,_] _;subst y;rw[z3E];refine k D j la _ (s1.free mp) (s1.free i) ⟨dx,zB⟩ (I.Z2C hd2 np m) ((z2n hd2).tup _ _ (s2 _ _ R)) λb o e nb=>?_;rw[zD nb];exact s2 _ _ (s1 _ _ e)
open L2
def z0F:zE ["desk","words","answer"] ["desk","words"] (zo X5):=fs
def z1U{mg:SV}(S:ZH K mg "_law_said" X5 ["desk","words"])(T:Txt mg)(DT:DkT K Cd)(XL:JS K mg "NoLink" Xl)(XT:JS K mg "NoText" Xt)(XM:JS K mg "NoCommand" Xm)(NS:z0d K [Xl,Xt,Xm])(Sy:ZO P w K mg base (CXA P w [Xl,Xt,Xm]) 18 Cd "say" ["self","words"] (yp P w K mg base 16 fz C Cd Xl Xt Xm)):Def P w K mg base 19 "_law_said" ["desk","words"] (Ja P w K mg base fz C Cd Xl Xt Xm):=S.def λf fd F=>by
 refine F.yh z0F λnd cdv A' outer s H vs Q E hr h=>?_;obtain⟨d,x,rfl,h⟩:=h;refine⟨_,(qc (qs 2 qw) (qc ⟨z9Y (Cs:=[Xl,Xt,Xm]) (Rx:=exQ Xl Xt Xm Q) (q:=[(Xl,_),(Xt,_),(Xm,_)]) rfl rfl (Z6h XL.kts XT.kts XM.kts) NS.2 (λ_=>(@ZM _ _ _ (@xq _ _ 2 _ _ _ _ 02 018 nd rfl 018 (Yx 02 02 02 (pv 0) DT.cl Sy 029 Z2I (@ze _ _ _ _ _ 02 (pv 1) zF))))) ⟨_,_,_,_,_,_,_,_,rfl,rfl,XL,02,01,λ_=>(@ZM _ _ _ (@xq _ _ 2 _ _ _ _ 02 018 nd rfl 018 zK)),_,_,_,_,_,_,_,_,rfl,rfl,XT,02,01,λ_=>(@ZM _ _ _ (@xq _ _ 2 _ _ _ _ 02 018 nd rfl 018 zK)),_,_,_,_,_,_,_,_,rfl,rfl,XM,02,01,λ_=>(@ZM _ _ _ (@xq _ _ 2 _ _ _ _ 02 018 nd rfl 018 zK)),rfl⟩⟩ (q1 (qr (qv 2))))),?_⟩;obtain⟨d',p,pd,lp,c,W,Ws,A,b,⟨dx,hd⟩,_⟩:=h Q λ_ _ z=>z;cases b;refine zG λRR a=>?_;show RR [_,_,_] _;subst a;refine⟨⟨_,rfl,d,dx,_,rfl,hd,DkO.no (Cd:=Cd) 03,_,rfl,h _ λv H' q=>⟨_,rfl,q⟩⟩,λC' G hC=>?_⟩;rcases hC with⟨rfl,q⟩|⟨rfl,q⟩|⟨rfl,q⟩;exact⟨_,(lk3 NS.1).1,_,rfl,q⟩;exact⟨_,(lk3 NS.1).2.1,_,rfl,q⟩;exact⟨_,(lk3 NS.1).2.2,_,rfl,q⟩
def z0G:zE ["state"] ["state"] (zo XY):=fs
def z2Q{mg:SV}(S:ZH K mg "_law_undo" XY ["state"])(T:Txt mg):Def P w K mg base 1 "_law_undo" ["state"] (z3Q K tb zU):=S.def λf fd F=>by
 refine F.yh z0G λnd cdv A' outer s H vs Q E hr h=>?_;obtain⟨st,x,y,rfl,h⟩:=h;refine⟨_,(qc (qf (qk (z1h hr) 013 (ql qn)) (q1 (qr qw)) q0) (qc ⟨yV (Zv hr) (pv 0) zK (z6U Z2W PySem.F.slot_list_pop PySem.F.type_list_pop z7Z (Zl (Zv hr) (pv 0) zK 024)) rfl⟩ (q1 (qr qw)))),?_⟩;obtain⟨ol,n,ps,Ws,A,b,tab,ok,old,G,ga,sA,_,k⟩:=h;obtain⟨wa,la,us,j,hw,C,i,p⟩:=id b;have ne:=b.ne;have B:=p.len;refine⟨_,rfl,dgc (ur j) ⟨Z15 _,λL G1 s1 n1 D=>⟨ol,L,us,rfl,rfl,.inr ⟨zN.of (s1 _ _ i),zN.of D⟩,_,rfl,?_⟩⟩⟩;rcases List.eq_nil_or_concat Ws with rfl |⟨Ws0,W0,rfl⟩;cases us with
 | nil=>exact Zy rfl (k noT n ps [] G1 (.inr ⟨λz=>z,.inl ⟨rfl,rfl,rfl,rfl,rfl⟩⟩) (b.same s1) (tab.same s1) s1.kx)
 | cons u us=>cases B
 rw[List.concat_eq_append] at b p old k;obtain⟨vs,a,rfl,l,m⟩:=p.z3q;refine ZF (by cases vs <;> rfl) ?_;refine⟨_,rfl,st,_,rfl,ur (s1 _ _ j),.inl ⟨rfl,_,zN.of (s1 _ _ i)⟩,ol,_,.ref a,rfl,rfl,s1 _ _ i,05,?_⟩;refine⟨_,rfl,st,_,rfl,vK (by rw[zD ne];exact s1 _ _ j),?_⟩;have o0:=old W0 05;obtain⟨d,q⟩:∃ d:Nat,W0.1=(d:Int):=⟨W0.1.toNat,by have:=o0.n1;lia⟩;have t:W0=((d:Int),W0.2):=Prod.ext q rfl;have k3:Kx [st,ol] H (upd (upd G1 ol (.lst (vs ++ [V.ref a]).dropLast)) st (.dK (ZS a la ol))):=λc o e v=>by
  rw[zD (λz=>v (by rw[z];simp)),zD (λz=>v (by rw[z];simp))];exact s1 _ _ e
 have r:=b.ku k3;refine k vg d W0.2 Ws0 _ (.inr ⟨λz=>z,.inr ⟨by rw[← t],rfl⟩⟩) ?_ (b.tab tab k3) (z3B k3);rw[← t];exact⟨a,la,vs,zB,m.ku r,r.tup _ _ C,by rw[zD ne.symm,zB,List.dropLast_concat],l.ku r⟩
def z0k:zE ["state","pages","links"] ["state"] (zo Qf):=fs
def z2Y{mg:SV}(S:ZH K mg "_law_page" Qf ["state"])(T:Txt mg)(zstr:mg "str"=none):Def P w K mg base 1 "_law_page" ["state"] (z3R K tb zU):=S.def λf fd F=>by
 refine F.yh z0k λnd cdv A' outer s H vs Q E hr h=>?_;obtain⟨st,x,y,rfl,h⟩:=h;refine⟨_,(qc ⟨vE (Zl (Zv hr) (pv 0) zK 024) (uC rfl (Za (z7 (i:=1) nd rfl 018) (Za (z7 (i:=2) nd rfl 018) yC)))⟩ (qc (qf (qk Ze (qv 1) qi) (q1 (qr qw)) q0) (qc (qX (qm Z2W Z44 Z43 ye 013 (qa 013 qn))) (qc ⟨yV (Zv hr) (pv 0) zK (@Zx _ _ _ _ _ (@ze _ _ _ _ _ 02 (Zr ZA (pv 1) zI) (@ze _ _ _ _ _ 02 (pv 2) zF))) rfl⟩ (q1 (qr (qY zQ zstr boot_str (qa (qv 1) qn)))))))),?_⟩;obtain⟨ol,n,ps,Ws,A,a,tab,ok,old,J,ga,sA,_,k⟩:=h;obtain⟨wa,la,us,d,hw,G,m,p⟩:=id a;obtain⟨u,B,t,r,C⟩:=id hw;have ne:=a.ne;have D:=p.len;have n1:1<=n:=by have:=ok.n1;change 1<=(n:Int) at this;lia
 have n12:n<=12:=by have:=ok.n12;change (n:Int)<=12 at this;lia
 refine⟨_,rfl,dgc (Yg d) ⟨wa,_,rfl,zR.of t,rfl,_,_,rfl,_,_,rfl,rfl,?_⟩⟩;refine 028;by_cases c:n=12;exact Zy (decide_eq_true (by rw[c];rfl)) (k nlT n ps Ws H (.inl ⟨show ¬ n<12 by lia,rfl,rfl,rfl,rfl⟩) a tab (Kx.refl _ _));refine ZF (decide_eq_false λz=>c (by injection z with z;change (n:Int)=12 at z;lia)) ?_;refine⟨_,rfl,dgc (ur d) ⟨.inl ⟨rfl,_,zN.of m⟩,_,rfl,dgc (Yg d) ⟨ol,_,_,rfl,rfl,m,(by rw[D,sizeLine_eq];lia),?_⟩⟩⟩;refine⟨_,rfl,_,_,rfl,rfl,_,rfl,zl2,λb G1 s1 v I=>?_⟩;refine⟨_,rfl,st,_,rfl,vK (s1 _ _ (by rw[zD ne];exact d)),?_⟩;have k3:Kx [st,ol] H (upd G1 st (.dK (ZS b la ol))):=λc o e q=>by
  rw[zD (λz=>q (by rw[z];simp))];exact s1 _ _ (by rw[zD (λz=>q (by rw[z];simp))];exact e)
 have j:=a.ku k3;have nb:b≠st:=Z32 (zh (H:=upd H ol (.lst (us ++ [.ref wa]))) (by rw[zD ne];exact d) v);refine⟨_,rfl,(n:Int),rfl,Z24 (Z4S _) 00,?_⟩;refine k (Pw.ns (n:Int)) (n+1) ps _ _ (.inr ⟨λz=>z 00,rfl,rfl,rfl,rfl⟩) ?_ (a.tab tab k3) (z3B k3);have l:ZC K (upd G1 st (.dK (ZS b la ol))) b ((n+1:Nat):Int) ps:=⟨u,B,by rw[zD nb];exact I,j.tup _ _ r,C.ku j⟩;exact⟨b,la,us ++ [.ref wa],zB,l,j.tup _ _ G,by rw[zD ne.symm];exact s1 _ _ zB,(p.ku j).snoc (hw.ku j)⟩
open L2
def UX:zE ["state","head","one","other","pages","links","at"] ["state","head","one","other"] (zo YT):=fs
def JX{mg:SV}(S:ZH K mg "_law_linked" YT ["state","head","one","other"])(T:Txt mg):Def P w K mg base 1 "_law_linked" ["state","head","one","other"] (jJ K tb zU):=S.def λf fd F=>by
 refine F.yh UX λnd cdv A' outer s H vs Q E hr h=>?_;obtain⟨st,h',x,y,rfl,hh,h⟩:=h;refine⟨_,(qc ⟨vE (Zl (Zv hr) (pv 0) zK 024) (uC rfl (Za (z7 (i:=4) nd rfl 018) (Za (z7 (i:=5) nd rfl 018) yC)))⟩ (qc (qf (qk QN (qy (vL rfl) T.max boot_max (qa (qv 2) (qa (qv 3) qn))) (qv 4)) (q1 (qr qw)) q0) (qc (qf (qk Ze (qv 1) qw) (qc (qf (qk Ze (qy zY T.len Z38 (qa (qv 5) qn)) qi) (q1 (qr qw)) q0) (qc (qX (qm Z2W Z44 Z43 ye 013 (qa 013 qn))) (qc ⟨yV (Zv hr) (pv 0) zK (@Zx _ _ _ _ _ (@ze _ _ _ _ _ 02 (pv 4) (@ze _ _ _ _ _ 02 (yf yu 02 T.tup boot_tuple (@ze _ _ _ _ _ 02 (ZQ Xx 02 T.srt boot_sorted (@ze _ _ _ _ _ 02 (Zr Q6 (pv 5) (@Zx _ _ _ _ _ (@ze _ _ _ _ _ 02 (@Zx _ _ _ _ _ (@ze _ _ _ _ _ 02 (pv 2) (@ze _ _ _ _ _ 02 (pv 3) zF))) zF))) zF)) zF)) zF))) rfl⟩ (q1 (qr qw))))) q0) (qc (qf (qk (jP hr) (qt (qa (qv 2) (qa (qv 3) qn))) (qv 5)) (q1 (qr qw)) q0) (qc (qs 6 ⟨z3p 02 02 02 02 02 PySem.F.plainAttrs_tuple PySem.F.slot_tuple_index PySem.F.type_tuple_index (jd hr) (pv 5) (@ze _ _ _ _ _ 02 (@Zx _ _ _ _ _ (@ze _ _ _ _ _ 02 (pv 2) (@ze _ _ _ _ _ 02 (pv 3) zF))) zF)⟩) (qc (qX (qm Z2W Z44 Z43 ye 013 (qa 013 qn))) (qc ⟨yV (Zv hr) (pv 0) zK (@Zx _ _ _ _ _ (@ze _ _ _ _ _ 02 (pv 4) (@ze _ _ _ _ _ 02 (Zr Q6 (Yi QI (pv 5) YX (xm (pv 6))) (Yi QI (pv 5) (xm (Zr ZA (pv 6) zI)) YX)) zF))) rfl⟩ (q1 (qr qw))))))))),?_⟩;obtain⟨ol,n,ps,Ws,A,r,tab,ok,old,hz,ga,sA,_,k⟩:=h;obtain⟨wa,la,us,B,hw,fl,G,U⟩:=id r;obtain⟨v,o,ea,u,C⟩:=id hw;have ne:=r.ne;have hl:=U.len;have L:o.length=ps.length:=C.len;have few:ps.length<=60:=ok.few;refine zG λRR a=>?_;refine⟨_,rfl,dgc (Yg B) ⟨wa,_,rfl,zR.of ea,rfl,_,_,rfl,_,_,rfl,rfl,?_⟩⟩;show RR [_,_,_,_,_,_,_] _;subst a;refine zG λRR a=>?_;refine⟨_,rfl,_,rfl,(x:Int),(y:Int),rfl,_,rfl,_,_,rfl,rfl,_,rfl,?_⟩;by_cases hb:x<n/\y<n
 case neg =>
  refine Zy (decide_eq_true ?_) (k nlT n ps Ws H (.inl ⟨?_,rfl,rfl,rfl,rfl⟩) r tab (Kx.refl _ _));show (n:Int)<=if (y:Int) > (x:Int) then (y:Int) else (x:Int);split <;> lia;rcases hh with rfl | rfl <;> exact λz=>hb ⟨z.1,z.2.1⟩
 refine ZF (decide_eq_false ?_) ?_;show ¬ (n:Int)<=if (y:Int) > (x:Int) then (y:Int) else (x:Int);split <;> lia;show RR [_,_,_,_,_,_,_] _;subst a;have J:us.length<sizeLine:=by rw[hl,sizeLine_eq];lia
 refine zG λRR a=>?_;refine 028;rcases hh with rfl | rfl;refine Zy (decide_eq_true rfl) ?_;refine⟨_,rfl,v,_,rfl,.inr (zR.of u),rfl,_,rfl,?_⟩;by_cases c:ps.length=60;exact Zy (decide_eq_true (by rw[L,c];rfl)) (k nlT n ps Ws H (.inl ⟨λz=>by have:=z.2.2;lia,rfl,rfl,rfl,rfl⟩) r tab (Kx.refl _ _))
 refine ZF (decide_eq_false λz=>c (by injection z with z;lia)) ?_;refine⟨_,rfl,dgc (ur B) ⟨.inl ⟨rfl,_,zN.of G⟩,_,rfl,dgc (Yg B) ⟨ol,_,_,rfl,rfl,G,J,?_⟩⟩⟩;obtain⟨t,j,fin⟩:=z6Q r (zC.refl H) B hw fl G U;generalize upd H ol (.lst (us ++ [.ref wa]))=G0 at t j fin;refine⟨_,rfl,_,rfl,_,rfl,_,rfl,zl2,λq G1 s1 m1 Z=>⟨zl1,λq1 G2 s2 m2 c2=>?_⟩⟩;have d:=s1.trans s2;refine⟨v,q1,o,[.ref q],rfl,rfl,d _ _ (t.tup _ _ u),c2,?_,λp G3 s3 O=>?_⟩;rw[sizeLine_eq,L];simp only[Z07,Z4K];lia;have M:=d.trans s3;have hp3:Zm K G3 (ps ++ [((x:Int),(y:Int))]) (o ++ [.ref q]):=Zm.snoc (p:=((x:Int),(y:Int))) (zR.of (s3 _ _ (s2 _ _ Z))) ((C.ku t).kl M.kl);refine⟨p,_,_,rfl,zR.of O,hp3,?_,λws ms D2 G4 pm pw X s4 m4 N=>?_⟩;rw[Z10,Z41];lia;refine⟨D2,ws,rfl,zN.of N,λt2 G5 s5 m5 R=>⟨zl2,λb G6 D Y c6=>?_⟩⟩;have m:=M.trans (s4.trans s5);have l:=m.trans D;refine⟨_,rfl,st,_,rfl,vK (l _ _ j),?_⟩;have nb:b≠st:=Z32 (zh (m _ _ j) Y);obtain⟨f1,f2⟩:=fin b G6 (n:Int) ms l ⟨t2,ws,c6,D _ _ R,X.kl (s5.trans D).kl⟩ nb;exact k vg n ms _ _ (.inr ⟨λz=>z ⟨hb.1,hb.2,00⟩,rfl,rfl,pm,pw,rfl⟩) f1 (r.tab tab f2) (z3B f2)
 · refine ZF (decide_eq_false λz=>by injection z with z;revert z;decide +kernel) ?_
   show RR [_,_,_,_,_,_,_] _;subst a;refine zG λRR a=>?_;refine⟨_,rfl,_,rfl,zl2,λq G1 s1 m1 Z=>⟨_,rfl,q,v,o,ps,((x:Int),(y:Int)),rfl,rfl,zR.of Z,zR.of (s1 _ _ u),C.kl s1.kl,_,rfl,?_⟩⟩;by_cases hm:((x:Int),(y:Int))∈ps
   case neg =>
    rw[decide_eq_false hm];exact Zy rfl (k nlT n ps Ws G1 (.inl ⟨λz=>hm z.2.2,rfl,rfl,rfl,rfl⟩) (r.same s1) (tab.same s1) s1.kx)
   rw[decide_eq_true hm];refine ZF rfl ?_;show RR [_,_,_,_,_,_,_] _;subst a;have hi:=List.idxOf_lt_length_of_mem hm;refine zG λRR a=>?_;refine⟨_,rfl,⟨v,o,rfl,s1 _ _ u⟩,_,rfl,_,rfl,zl2,λq2 G2 s2 m2 c2=>?_⟩;have d:=s1.trans s2;refine⟨v,q2,o,ps,((x:Int),(y:Int)),rfl,rfl,d _ _ u,C.kl d.kl,zR.of c2,hm,?_⟩;have I:ps.idxOf ((x:Int),(y:Int))<o.length:=00
   show RR [_,_,_,_,_,_,_] _;subst a;have d1:=d _ _ B;have d2:=d _ _ G;refine⟨_,rfl,dgc (ur d1) ⟨.inl ⟨rfl,_,zN.of d2⟩,_,rfl,dgc (Yg d1) ⟨ol,_,_,rfl,rfl,d2,J,?_⟩⟩⟩;obtain⟨t,j,fin⟩:=z6Q r d B hw fl G U;generalize upd G2 ol (.lst (us ++ [.ref wa]))=G0 at t j fin;refine⟨_,rfl,_,rfl,_,rfl,_,rfl,v,o,rfl,zR.of (t.tup _ _ u),?_,λp1 G3 s3 m3 O=>?_⟩;rw[HT.yG,HT.Z4];lia;refine⟨_,rfl,_,rfl,_,_,rfl,rfl,_,rfl,v,o,rfl,zR.of (s3 _ _ (t.tup _ _ u)),?_,λp2 G4 s4 m4 N=>?_⟩;rw[show ((ps.idxOf ((x:Int),(y:Int)):Nat):Int)+1=((ps.idxOf ((x:Int),(y:Int))+1:Nat):Int) from rfl,HT.yG,HT.Z4];lia;rw[Z4b I] at O;rw[Z0J I] at N;refine⟨p1,p2,_,_,rfl,rfl,s4 _ _ O,N,?_,λp3 G5 s5 R=>⟨zl2,λb G6 D Y c6=>?_⟩⟩;rw[Z1r,Z3K,sizeLine_eq];lia;have m:=s3.trans (s4.trans s5);have l:=m.trans D;refine⟨_,rfl,st,_,rfl,vK (l _ _ j),?_⟩;have nb:b≠st:=Z32 (zh (m _ _ j) Y);have hpp:Zm K G6 (ps.erase ((x:Int),(y:Int))) (o.take (ps.idxOf ((x:Int),(y:Int))) ++ o.drop (ps.idxOf ((x:Int),(y:Int))+1)):=by
    rw[← xr ps hm];exact Zm.append (((C.ku t).kl l.kl).drop _) (((C.ku t).kl l.kl).take _)
   obtain⟨f1,f2⟩:=fin b G6 (n:Int) _ l ⟨p3,_,c6,D _ _ R,hpp⟩ nb;exact k vg n _ _ _ (.inr ⟨λz=>z ⟨hb.1,hb.2,hm⟩,rfl,rfl,rfl,rfl⟩) f1 (r.tab tab f2) (z3B f2)
open L2
def z1v:zE ["state","one","other","web","found"] ["state","one","other"] (zo YZ):=fs
def z3k{mg:SV}(S:ZH K mg "_law_pass" YZ ["state","one","other"])(T:Txt mg)(zstr:mg "str"=none)(zmin:mg "min"=none)(Ev:Def P w K mg base 3 "even" ["web"] (Xh K))(Ll:Def P w K mg base 14 "least_links" ["web","leap","leaps","one","other","places"] (YH K)):Def P w K mg base 15 "_law_pass" ["state","one","other"] (z3z K tb zU):=S.def λf fd F=>by
 refine F.yh z1v λnd cdv A' outer s H vs Q E hr h=>?_;obtain⟨st,x,y,rfl,h⟩:=h;refine⟨_,(qc (qs 3 013) (qc (qf (qW (qO (qk Ze (qv 1) (qv 2)) (qP (qk QN (qy (vL rfl) T.max boot_max 033) (qx zJ (qv 3) qi))))) (q1 (qr qw)) q0) (qc (qs 4 (qd Ll (qa (qv 3) (qa 013 (qa (qd Ev (qa (qv 3) qn)) (qa (qv 1) (qa (qv 2) (qa ⟨z3Z rfl rfl T.lst rfl T.range (@ze _ _ _ _ _ 02 (ZQ (vA rfl) 02 zmin boot_min (@ze _ _ _ _ _ 02 zI (@ze _ _ _ _ _ 02 (Zt zJ (pv 3) zI 024) zF))) zF)⟩ qn)))))))) (qc (qf (qk z2L (qv 4) ⟨V9⟩) (q1 (qr qw)) q0) (q1 (qr (q8 (qk (z1h hr) (qv 4) (ql qn)) qw (qm Z1v Z3R Z49 (YR (K:=K) rfl) qw (qa (qG (zo YZ) ["page"] [none] (qL (qv 4)) trivial (λ_ _ _ _ _ _=>(qg 0)) (λ_ _ _ _ _=>qV) (λ_ _ _ _ _=>(qY zQ zstr boot_str (qa (qv 0) qn)))) qn))))))))),?_⟩;obtain⟨ol,n,ps,Ws,A,L,tab,ok,old,hz,ga,sA,h6,k⟩:=h;have Y:=h6 rfl;obtain⟨wa,la,us,Z,hw,fl,e2,U⟩:=id L;have hw:ZC K H wa (n:Int) ps:=hw;obtain⟨tw,vw,R,et,hp⟩:=id hw;have n1:1<=n:=by have:=ok.n1;change 1<=(n:Int) at this;lia
 have n12:n<=12:=by have:=ok.n12;change (n:Int)<=12 at this;lia
 refine zG λRR c=>?_;refine⟨_,rfl,dgc (Yg Z) ?_⟩;show RR [_,_,_,_,_] _;subst c;refine zG λRR c=>?_;refine⟨_,rfl,_,rfl,rfl,_,rfl,?_⟩;by_cases hxy:x=y;subst hxy;exact Zy 05 (Zy rfl (k nlT n ps Ws H (.inl ⟨λz=>z.2.2 rfl,rfl,rfl,rfl,rfl⟩) L tab (Kx.refl _ _)));refine ZF (decide_eq_false λz=>by injection z with z;lia) ?_;refine⟨_,rfl,_,rfl,(x:Int),(y:Int),rfl,_,rfl,Zw (zR.of R) rfl ⟨_,_,rfl,rfl,_,rfl,?_⟩⟩;by_cases hb:x<n/\y<n
 case neg =>
  refine Zy (decide_eq_true ?_) (k nlT n ps Ws H (.inl ⟨λz=>hb ⟨z.1,z.2.1⟩,rfl,rfl,rfl,rfl⟩) L tab (Kx.refl _ _));show (n:Int)<=if (y:Int) > (x:Int) then (y:Int) else (x:Int);split <;> lia
 refine ZF (decide_eq_false ?_) ?_;show ¬ (n:Int)<=if (y:Int) > (x:Int) then (y:Int) else (x:Int);split <;> lia;show RR [_,_,_,_,_] _;subst c;have J:¬ z2M .pass x y n ps:=λz=>z ⟨hb.1,hb.2,hxy⟩;have fin:∀ G o,zC H G->Pw.YU (Pw.uI ps A (J1 n) n x y) (oiL (List.range (min 6 n))) o->Q (.str (Pw.z8D o)) G:=λG o s lo=>k _ n ps Ws G (.inr ⟨J,⟨o,lo,rfl⟩,rfl,rfl,rfl⟩) (L.same s) (tab.same s) s.kx;refine zG λRR c=>?_;have emin:(if (n:Int)<6 then (n:Int) else 6)=((min 6 n:Nat):Int):=by split <;> lia
 refine⟨_,rfl,_,rfl,dgc (z3b Z) ⟨_,rfl,wa,n,_,rfl,R,n1,n12,λev G3 vs s3 e3 f3=>?_⟩⟩;refine⟨_,rfl,_,rfl,_,rfl,Zw (zR.of (s3 _ _ R)) rfl ⟨6,(n:Int),rfl,min 6 n,congrArg (λz=>[V.int z]) emin,00,λpl G4 s4 m4 e4=>?_⟩⟩;have O:G4 pl=some (.lst ((oiL (List.range (min 6 n))).map V.int)):=by rw[e4];unfold oiL;rw[Z59];rfl
 have l:=s3.trans s4;refine ZZ ?_;show YH K [.ref wa,.ref la,.ref ev,.int (x:Int),.int (y:Int),.ref pl] G4 _ _;have lo:(oiL (List.range (min 6 n))).length=min 6 n:=by unfold oiL;rw[ZB,Z29]
 have X:(oiL (List.range (min 6 n))).Pairwise (·<=·):=by
  unfold oiL;rw[List.pairwise_map];exact List.pairwise_lt_range.imp λ{a b} h=>by lia
 refine z0p (yZ (hw.same l) (by have:ps.length<=60:=ok.few;lia) ok.rng (l _ _ fl) ga.1 ga.2.1 ga.2.2 sA.1 n1 n12 (s4 _ _ e3) (f3.same s4)) hb.1 hb.2 (by rw[lo];lia) O (by rw[lo];lia) (λr hr=>?_) (List.Perm.refl _) X λfv G5 o s5 hF j nf=>?_;obtain⟨m,hm,rfl⟩:=Z18.mp hr;have:=Z25.mp hm;lia;show RR [_,_,_,_,_] _;subst c;refine zG λRR c=>?_;have d:=l.trans s5;rcases hF with⟨rfl,rfl⟩|⟨b,row,rfl,rfl,eb⟩;exact⟨_,rfl,rfl,_,rfl,Zy rfl (fin G5 none d j)⟩
 · refine⟨_,rfl,rfl,_,rfl,ZF rfl ?_⟩
   show RR [_,_,_,_,_] _;subst c;have sub:=j.sub.1;have t:=sub.length_le;rw[lo] at t;have hx:∀ q∈row,0<=q/\q<100:=λq hq=>by
    obtain⟨m,hm,rfl⟩:=Z18.mp (sub.subset hq);have:=Z25.mp hm;lia
   refine⟨_,rfl,Z15 _,λbb G6 I n6 e6=>⟨b,bb,_,rfl,rfl,.inr ⟨zN.of (I _ _ eb),zN.of e6⟩,_,rfl,?_⟩⟩;cases row with
   | nil=>exact Zy rfl (fin G6 _ (d.trans I) j)
   | cons M row =>
     refine ZF rfl ?_;have lg:∀ i:Int,0<=i->i<100->i.natAbs.log2<1920:=λi h0 h1=>Z24 (Z4S _) 00;refine⟨rfl,_,rfl,b,rfl,⟨_,zN.of (I _ _ eb)⟩,λD hD=>?_⟩;refine Z3 (K:=K) (a:=b) (D:=D) (xs:=(M :: row).map V.int) (λi C σ G=>zC G6 G/\G D=some (.lst C)/\C=(((M :: row).take i).map Pw.ns).map V.str/\∃ v,σ=[v]) ?_ ?_ ?_ ?_;exact⟨zC.new hD,zB,rfl,none,rfl⟩;rintro i C σ G ⟨B,e,_⟩;exact⟨B.seq (zN.of (I _ _ eb)),e⟩
     · rintro i u C σ G U hi ⟨B,N,rfl,v,rfl⟩
       rw[ZB] at hi;rw[Z17,Z03 hi] at U;cases U;have b:=hx _ (Z1z hi);dsimp only [Zo];refine Zy rfl ?_;refine⟨_,rfl,(M :: row)[i],rfl,lg _ b.1 b.2,N,(by rw[ZB,ZB,Z1r,sizeLine_eq];lia),Wt.next (by rw[ZB];exact hi) ⟨λb o e=>by rw[zD (zh e hD)];exact B _ _ e,zB,?_,_,rfl⟩⟩;rw[Z28,Z03 hi,Z13,Z13];rfl
     rintro C σ G ⟨B,N,rfl,_⟩;rw[ZB,Z12 (Z02 _)] at N;have m5:∀ z∈(M :: row).map Pw.ns,z.cps.size<=6:=λz h=>by
      obtain⟨p,hp,rfl⟩:=Z18.mp h;have r:=hx p hp;have z1:=Zb r.1 (show p<=99 by lia);show (Str.ofString (toString p)).cps.size<=6;lia
     have zn:(Str.ofString " ").cps.size=1:=03;refine⟨_,D,_,rfl,rfl,zN.of N,XO m5 ?_,?_⟩;rw[ZB,zn];lia;exact fin G _ (d.trans (I.trans B)) j
open L2
def z1N:zE ["state","head","one","other","web","share"] ["state","head","one","other"] (zo Xb):=fs
def z5u{mg:SV}(S:ZH K mg "_law_due" Xb ["state","head","one","other"])(T:Txt mg)(zstr:mg "str"=none)(Dl:Def P w K mg base 1 "_law_linked" ["state","head","one","other"] (jJ K tb zU))(Dp:Def P w K mg base 1 "_law_page" ["state"] (z3R K tb zU))(Ds:Def P w K mg base 15 "_law_pass" ["state","one","other"] (z3z K tb zU))(Du:Def P w K mg base 1 "_law_undo" ["state"] (z3Q K tb zU))(Sw:Def P w K mg base 1 "_law_web_shown" ["web"] (Y3 K))(Ev:Def P w K mg base 3 "even" ["web"] (Xh K))(Rk:Def P w K mg base 7 "ranked_shares" ["web","leap","leaps"] (Qk K tb zU))(Ss:Def P w K mg base 6 "shares_shares" ["web","leap","leaps"] (z7K K)):Def P w K mg base 16 "_law_due" ["state","head","one","other"] (z7t K tb zU):=S.def λf fd F=>by
 refine F.yh z1N λnd cdv A' outer s H vs Q E hr h=>?_;obtain⟨st,h',x,y,rfl,h⟩:=h;refine⟨_,(qc (qf (qk jR (qv 1) (qt (qa qw (qa qw qn)))) (q1 (qr (qd Dl (qa (qv 0) (qa (qv 1) (qa (qv 2) (qa (qv 3) qn))))))) q0) (qc (qf (qk Ze (qv 1) qw) (q1 (qr (qd Dp (qa (qv 0) qn)))) q0) (qc (qf (qk Ze (qv 1) qw) (q1 (qr (qd Ds (qa (qv 0) (qa (qv 2) (qa (qv 3) qn)))))) q0) (qc (qf (qk Ze (qv 1) qw) (q1 (qr (qd Du (qa (qv 0) qn)))) q0) (qc (qf (qk Ze (qv 1) qw) (q1 (qr (qd Sw (qa 013 qn)))) q0) (qc (qs 4 013) (qc (qf (qk Ze (qv 1) qw) (q1 (qr (qm Z1v Z3R Z49 (YR (K:=K) rfl) qw (qa (qG (zo Xb) ["page"] [none] (qL (qd Rk (qa (qv 4) (qa 013 (qa (qd Ev (qa (qv 4) qn)) qn))))) trivial (λ_ _ _ _ _ _=>(qg 0)) (λ_ _ _ _ _=>qV) (λ_ _ _ _ _=>(qY zQ zstr boot_str (qa (qv 0) qn)))) qn)))) q0) (qc (qf (qk QN (qv 2) (qx zJ (qv 4) qi)) (q1 (qr qw)) q0) (qc (qs 5 (qx zJ (qd Ss (qa (qv 4) (qa 013 (qa (qd Ev (qa (qv 4) qn)) qn)))) (qv 2))) (q1 (qr (qo Zd (qo Zd (qY zQ zstr boot_str (qa (qx zJ (qv 5) qi) qn)) qw) (qY zQ zstr boot_str (qa (qx zJ (qv 5) qi) qn)))))))))))))),?_⟩;refine zG λRR d=>?_;refine⟨_,rfl,zl2,λt G1 s1 m1 c1=>⟨t,_,rfl,.inr (zR.of c1),rfl,rfl,_,rfl,?_⟩⟩;have C:=h.same s1;clear h c1 m1;by_cases c:h'=.link\/h'=.unlink;exact Zy (by rcases c with rfl | rfl <;> decide +kernel) ⟨_,rfl,_,rfl,_,rfl,_,rfl,st,h',x,y,rfl,c,C⟩;refine ZF (by cases h' <;> first | exact absurd (.inl rfl) c | exact absurd (.inr rfl) c | decide +kernel) ?_
 show RR [_,_,_,_,_,_] _;subst d;refine zG λRR d=>?_;refine 028;by_cases c2:h'=.page;subst c2;exact Zy (decide_eq_true rfl) ⟨_,rfl,st,x,y,rfl,C⟩;refine ZF (decide_eq_false λz=>c2 (Hd.inj (b:=.page) (by injection z))) ?_;show RR [_,_,_,_,_,_] _;subst d;refine zG λRR d=>?_;refine 028;by_cases c3:h'=.pass;subst c3;exact Zy (decide_eq_true rfl) ⟨_,rfl,_,rfl,_,rfl,st,x,y,rfl,C⟩;refine ZF (decide_eq_false λz=>c3 (Hd.inj (b:=.pass) (by injection z))) ?_;show RR [_,_,_,_,_,_] _;subst d;refine zG λRR d=>?_;refine 028;by_cases c4:h'=.undo;subst c4;exact Zy (decide_eq_true rfl) ⟨_,rfl,st,x,y,rfl,C⟩;refine ZF (decide_eq_false λz=>c4 (Hd.inj (b:=.undo) (by injection z))) ?_;show RR [_,_,_,_,_,_] _;subst d;obtain⟨ol,n,ps,Ws,A,M,tab,ok,old,hz,ga,sA,h6,k⟩:=C;obtain⟨wa,la,us,N,hw,fl,e2,hu⟩:=id M;have hw:ZC K G1 wa (n:Int) ps:=hw;obtain⟨tw,vw,ea,et,X⟩:=id hw;have n1:1<=n:=by have:=ok.n1;change 1<=(n:Int) at this;lia
 have n12:n<=12:=by have:=ok.n12;change (n:Int)<=12 at this;lia
 have few:ps.length<=60:=ok.few;have rng:∀ p∈ps,0<=p.1/\p.1<(n:Int)/\0<=p.2/\p.2<(n:Int):=ok.rng;refine zG λRR d=>?_;refine 028;by_cases c5:h'=.show;subst c5;exact Zy (decide_eq_true rfl) ⟨_,rfl,dgc (Yg N) ⟨wa,(n:Int),ps,rfl,hw,00,00,few,rng,λG2 s2=>k _ n ps Ws G2 (.inr ⟨λz=>z,rfl,rfl,rfl,rfl⟩) (M.same s2) (tab.same s2) s2.kx⟩⟩;refine ZF (decide_eq_false λz=>c5 (Hd.inj (b:=.show) (by injection z))) ?_;show RR [_,_,_,_,_,_] _;subst d;refine zG λRR d=>?_;refine⟨_,rfl,dgc (Yg N) ?_⟩;show RR [_,_,_,_,_,_] _;subst d;refine zG λRR d=>?_;refine 028;by_cases c6:h'=.rank
 · subst c6
   refine Zy (decide_eq_true rfl) ?_;refine⟨rfl,_,rfl,_,rfl,dgc (z3b N) ⟨_,rfl,wa,n,_,rfl,ea,n1,n12,λev G3 vs s3 e3 f3=>?_⟩⟩;have i:=yZ (hw.same s3) 00 rng (s3 _ _ fl) ga.1 ga.2.1 ga.2.2 sA.1 n1 n12 e3 f3;refine ZZ ?_;show Qk K tb zU [.ref wa,.ref la,.ref ev] G3 _ _;refine⟨wa,la,ev,(n:Int),ps,A,J1 n,vs,(n:Int),140,rfl,i.g,i.pr,00,01,i.sA,i.sS,tab.same s3,λL G4 Ss r yh R U m4 Z t4=>?_⟩;rw[Z31] at yh R;have l:=tab.same s3;have hs3:=M.same s3;have u4:KU G3 G4:=⟨λb xs e=>U b _ e (l.ne e 017),λb q u e=>U b _ e (l.ne e 017)⟩;have hs4:UK K G4 st ol ((n:Int),ps) Ws A:=hs3.kx (S:=[tb]) (λb q e nb=>U b q e λz=>nb (Z01.mpr z)) u4 (λz=>l.ne (s3 _ _ N) 017 (Z01.mp z)) (λz=>l.ne (s3 _ _ e2) 017 (Z01.mp z));have fin:∀ G,zC G4 G->Q (.str (Pw.ptT (r.map λ(k:Nat)=>(k:Int)))) G:=λG B=>k _ n ps Ws G (.inr ⟨λz=>z,⟨Ss,r,yh,R,rfl⟩,rfl,rfl,rfl⟩) (hs4.same B) (t4.same B) (λb o e nb=>B _ _ (U b o (s3 _ _ e) λz=>nb (by rw[z];simp)));have J:G4 L=some (.lst ((r.map λ(k:Nat)=>(k:Int)).map V.int)):=by rw[Z];unfold z7p;rw[Z59];rfl
   have O:∀ q∈(r.map λ(k:Nat)=>(k:Int)),0<=q/\q<100:=λq hq=>by
    obtain⟨m,hm,rfl⟩:=Z18.mp hq;have:=Z25.mp (R.pm.mem_iff.mp hm);lia
   have lrow:(r.map λ(k:Nat)=>(k:Int)).length<=12:=by rw[ZB,R.pm.length_eq,Z29];exact n12
   generalize (r.map λ(k:Nat)=>(k:Int))=row at *;have lg:∀ i:Int,0<=i->i<100->i.natAbs.log2<1920:=λi h0 C=>Z24 (Z4S _) 00;refine⟨L,rfl,⟨_,zN.of J⟩,λD hD=>?_⟩;refine Z3 (K:=K) (a:=L) (D:=D) (xs:=(row).map V.int) (λi I σ G=>zC G4 G/\G D=some (.lst I)/\I=(((row).take i).map Pw.ns).map V.str/\∃ v,σ=[v]) ?_ ?_ ?_ ?_;exact⟨zC.new hD,zB,rfl,none,rfl⟩;rintro i I σ G ⟨B,e,_⟩;exact⟨B.seq (zN.of J),e⟩
   · rintro i u I σ G hu hi ⟨B,Y,rfl,v,rfl⟩
     rw[ZB] at hi;rw[Z17,Z03 hi] at hu;cases hu;have b:=O _ (Z1z hi);dsimp only [Zo];refine Zy rfl ?_;refine⟨_,rfl,(row)[i],rfl,lg _ b.1 b.2,Y,(by rw[ZB,ZB,Z1r,sizeLine_eq];lia),Wt.next (by rw[ZB];exact hi) ⟨λb o e=>by rw[zD (zh e hD)];exact B _ _ e,zB,?_,_,rfl⟩⟩;rw[Z28,Z03 hi,Z13,Z13];rfl
   rintro I σ G ⟨B,Y,rfl,_⟩;rw[ZB,Z12 (Z02 _)] at Y;have m5:∀ z∈(row).map Pw.ns,z.cps.size<=6:=λz h=>by
    obtain⟨p,X,rfl⟩:=Z18.mp h;have r:=O p X;have z1:=Zb r.1 (show p<=99 by lia);show (Str.ofString (toString p)).cps.size<=6;lia
   have zn:(Str.ofString " ").cps.size=1:=03
   refine⟨_,D,_,rfl,rfl,zN.of Y,XO m5 ?_,?_⟩;rw[ZB,zn];lia;exact fin G B
 refine ZF (decide_eq_false λz=>c6 (Hd.inj (b:=.rank) (by injection z))) ?_;show RR [_,_,_,_,_,_] _;subst d;have c7:h'=.share:=by cases h' <;> first | rfl | exact absurd rfl c2 | exact absurd rfl c3 | exact absurd rfl c4 | exact absurd rfl c5 | exact absurd rfl c6 | exact absurd (.inl rfl) c | exact absurd (.inr rfl) c
 subst c7;refine zG λRR d=>?_;refine⟨_,rfl,_,rfl,Zw (zR.of ea) rfl ⟨_,_,rfl,rfl,_,rfl,?_⟩⟩;by_cases O:x<n
 case neg=>exact Zy (decide_eq_true (show (n:Int)<=(x:Int) by lia)) (k nlT n ps Ws G1 (.inl ⟨O,rfl,rfl,rfl,rfl⟩) M tab (Kx.refl _ _))
 refine ZF (decide_eq_false (show ¬ (n:Int)<=(x:Int) by lia)) ?_;show RR [_,_,_,_,_,_] _;subst d;refine zG λRR d=>?_;refine⟨_,rfl,_,rfl,dgc (z3b N) ⟨_,rfl,wa,n,_,rfl,ea,n1,n12,λev G3 vs s3 e3 f3=>?_⟩⟩;refine ZZ ?_;show z7K K [.ref wa,.ref la,.ref ev] G3 _ _;refine⟨wa,la,ev,n,ps,A,J1 n,vs,(n:Int),rfl,yZ (hw.same s3) 00 rng (s3 _ _ fl) ga.1 ga.2.1 ga.2.2 sA.1 n1 n12 e3 f3,λt' G4 Ss I yh sz s4 Z f4=>?_⟩;have l8:=yh.len;have mS:=mem_getD (Bs:=Ss) (t:=x) 00;obtain⟨px,ex,fx⟩:=f4.at (j:=x) (A:=Ss.getD x (0,1)) (by rw[Z05,Z03 00];rfl);have zS:=z6g 00 (λp X=>(rng p X).2.2) ga sA.2 n1 n12 yh _ mS;obtain⟨⟨c8,b1⟩,c9,b2⟩:=zS;have fq:zR K G4 px [.int (Ss.getD x (0,1)).1,.int (Ss.getD x (0,1)).2]:=zR.of fx;refine⟨_,rfl,ixt (zR.of Z) (Zi ex) ?_⟩;show RR [_,_,_,_,_,_] _;subst d;have z1:(Pw.ns (Ss.getD x (0,1)).1).cps.size<=600:=by
  have e:(Ss.getD x (0,1)).1=(((Ss.getD x (0,1)).1.toNat:Nat):Int):=00
  rw[e];exact vM (Z0X (show (Ss.getD x (0,1)).1.toNat<2 ^ 1920 by lia) (Z37 01 01))
 have z2:(Pw.ns (Ss.getD x (0,1)).2).cps.size<=600:=by
  have e:(Ss.getD x (0,1)).2=(((Ss.getD x (0,1)).2.toNat:Nat):Int):=00
  rw[e];exact vM (Z0X (show (Ss.getD x (0,1)).2.toNat<2 ^ 1920 by lia) (Z37 01 01))
 have zg:(Str.ofString "/").cps.size=1:=03
 refine⟨_,rfl,Zw fq rfl ⟨(Ss.getD x (0,1)).1,rfl,lgN b1,_,_,rfl,rfl,?_,_,rfl,Zw fq rfl ⟨(Ss.getD x (0,1)).2,rfl,lgN b2,_,_,rfl,rfl,?_,?_⟩⟩⟩;show (Pw.ns (Ss.getD x (0,1)).1).cps.size+(Str.ofString "/").cps.size<=sizeLine;rw[sizeLine_eq];lia;show (Pw.ns (Ss.getD x (0,1)).1 ++ Str.ofString "/").cps.size+(Pw.ns (Ss.getD x (0,1)).2).cps.size<=sizeLine;rw[zP,sizeLine_eq];lia;exact k (Pw.frT (Ss.getD x (0,1))) n ps Ws G4 (.inr ⟨λz=>z O,⟨Ss,yh,rfl⟩,rfl,rfl,rfl⟩) (M.same (s3.trans s4)) (tab.same (s3.trans s4)) (s3.trans s4).kx
open L2
def z2I:zE ["deck","some"] ["deck"] (zo vo):=fs
def z6h{mg:SV}(S:ZH K mg "_law_bad" vo ["deck"])(T:Txt mg)(Tk:Def P w K mg base 1 "_law_take" ["deck","many"] yo):Def P w K mg base 2 "_law_bad" ["deck"] (z7F K):=S.def λf fd F=>by
 refine F.yh z2I λnd cdv A' outer s H vs Q E hr h=>?_;obtain⟨d,B,rfl,G,hd,k⟩:=h;refine⟨_,(qc (qs 1 (ql (qa qw (qa qw (qa qw (qa qw (qa qw (qa qw (qa qw qn))))))))) (qc (qf (qk Ze (qd Tk (qa (qv 0) (qa qi qn))) qi) (q1 (qr (qt (qa (qx zW (qv 1) (qd Tk (qa (qv 0) (qa qi qn)))) (qa qw qn))))) q0) (qc (qs 1 (ql (qa qw (qa qw (qa qw (qa qw (qa qw (qa qw (qa qw (qa qw (qa qw (qa qw qn)))))))))))) (q1 (qr (qt (qa (qx zW (qv 1) (qd Tk (qa (qv 0) (qa qi qn)))) (qa qw qn)))))))),?_⟩;refine⟨(by show 7<=sizeLine;decide),λL G1 s1 n1 n=>?_⟩;have n:G1 L=some (.lst ((["leap x","leap 0/1","leap 2/1","leap ","web x","web pages 0","web pages 2 1>0 0>1"]:List Str).map V.str)):=n;have nL:L≠d:=hd.ne n1;have u:=hd.same s1;refine tkc rfl 01 01 00 u λw G2 D C a k2=>⟨rfl,_,rfl,?_⟩;by_cases c:w=0;refine Zy (decide_eq_true (by rw[c])) ?_;refine⟨_,rfl,tkc rfl 01 01 00 a λj G3 l v y k3=>?_⟩;obtain⟨i,rfl⟩:=Z46 l;have hi:i<(["leap x","leap 0/1","leap 2/1","leap ","web x","web pages 0","web pages 2 1>0 0>1"]:List Str).length:=by show i<7;lia
 refine J0 (zN.of (k3 _ _ (k2 _ _ n nL) nL)) (Zi (by rw[Z17,Z03 hi];rfl)) ⟨zl2,λp G4 s4 I q=>?_⟩;exact k p _ _ G4 (.inl ⟨rfl,Z1z hi⟩) q ((y.same s4).up 00) (s1.kp.trans (k2.trans (k3.trans s4.kp)));refine ZF (decide_eq_false λz=>c (by injection z)) ?_;refine⟨(by show 10<=sizeLine;decide),λL2 G3 s3 t b=>?_⟩;have b:G3 L2=some (.lst ((["undo 1","link 0","leap","web","share x","pass 0","Show","rank 0","link 00 0","page 1"]:List Str).map V.str)):=b;have m:L2≠d:=a.ne t;refine⟨_,rfl,tkc rfl 01 01 00 (a.same s3) λj G4 l v r o=>?_⟩;obtain⟨i,rfl⟩:=Z46 l;have hi:i<(["undo 1","link 0","leap","web","share x","pass 0","Show","rank 0","link 00 0","page 1"]:List Str).length:=by show i<10;lia
 refine J0 (zN.of (o _ _ b m)) (Zi (by rw[Z17,Z03 hi];rfl)) ⟨zl2,λp G5 s5 J A=>?_⟩;exact k p _ _ G5 (.inr ⟨rfl,Z1z hi⟩) A ((r.same s5).up 00) (s1.kp.trans (k2.trans (s3.kp.trans (o.trans s5.kp))))
open L2
def z0Y:zE ["deck","pages","links","k"] ["deck"] (zo X7):=fs
def z3u{mg:SV}(S:ZH K mg "_law_many" X7 ["deck"])(T:Txt mg)(Tk:Def P w K mg base 1 "_law_take" ["deck","many"] yo):Def P w K mg base 2 "_law_many" ["deck"] (z3I K):=S.def λf fd F=>by
 refine F.yh z0Y λnd cdv A' outer s H vs Q E hr h=>?_;obtain⟨d,B,rfl,hB,hd,k⟩:=h;refine⟨_,(qc (qs 1 (qo ZA qi (qd Tk (qa (qv 0) (qa qi qn))))) (qc (qs 2 (ql qn)) (qc (qF (qR T.range (qa (qo ZA qi (qd Tk (qa (qv 0) (qa qi qn)))) qn)) (qg 3) (q1 (qX (qm Z2W Z44 Z43 ye (qv 2) (qa (qt (qa (qd Tk (qa (qv 0) (qa (qv 1) qn))) (qa (qd Tk (qa (qv 0) (qa (qv 1) qn))) qn))) qn))))) (q1 (qr (qt (qa (qv 1) (qa (qY yu T.tup boot_tuple (qa (qy XJ T.srt boot_sorted (qa (qv 2) qn)) qn)) qn)))))))),?_⟩;refine tkc rfl 01 01 00 hd λa0 G1 p0 p1 d1 k1=>?_;refine⟨_,_,rfl,rfl,?_⟩;change xj _ _ _ [some (.ref d),some (.int (6+a0)),none,none] G1;obtain⟨n,hn⟩:∃ n:Int,6+a0=n:=⟨_,rfl⟩;rw[hn];refine⟨Z15 _,λL G2 s2 Y e2=>?_⟩;have nL:L≠d:=d1.ne Y;have hL:H L=none:=by
  cases z:H L with
  | none=>rfl
  | some o=>have:=k1 L o z nL;rw[Y] at this;cases this
 have d2:=d1.same s2;refine tkc rfl 01 01 00 d2 λw G3 w0 w1 d3 k3=>?_;obtain⟨N,hN⟩:∃ N:Nat,28+w=(N:Int):=⟨(28+w).toNat,00⟩;refine⟨_,_,rfl,rfl,(N:Int),congrArg (λz=>[V.int z]) hN,00,00,?_⟩;rw[Z31];have e3:G3 L=some (.lst []):=k3 _ _ e2 nL;have R:Kp d H G3:=k1.trans (s2.kp.trans k3);refine YE (lo:=0) (n:=N) (λj σ G=>Kp d H G/\zO G d (B+2+2 * j)/\(∃ ps i,G L=some (.lst i)/\Zm K G ps i/\ps.length=j/\∀ p∈ps,0<=p.1/\p.1<n/\0<=p.2/\p.2<n)/\∃ v,σ=[some (.ref d),some (.int n),some (.ref L),v]) ?_ ?_ ?_;exact⟨R,d3,⟨[],[],e3,rfl,rfl,λ_ h=>absurd h 05⟩,none,rfl⟩;intro j σ G hj m;obtain⟨M,C,⟨ps,i,A,m,X,rng⟩,v,rfl⟩:=m;have U:=m.len;refine⟨_,rfl,.inl ⟨rfl,_,zN.of A⟩,_,rfl,_,rfl,d,n,_,rfl,00,00,00,C,λx G5 x0 x1 Z k5=>?_⟩;refine⟨_,rfl,_,rfl,d,n,_,rfl,00,00,00,Z,λy G6 y0 y1 d6 O=>?_⟩;refine⟨zl2,λt G7 c m7 I=>?_⟩;have r:G7 L=some (.lst i):=c _ _ (O _ _ (k5 _ _ A nL) nL);have D:KL G G7:=(C.kl k5).trans ((Z.kl O).trans c.kl);have k8:KL G7 (upd G7 L (.lst (i ++ [.ref t]))):=KL.set r;refine⟨L,i,_,rfl,rfl,r,by rw[U,X,sizeLine_eq];lia,?_⟩;refine⟨λb o e nb=>?_,?_,⟨ps ++ [(x,y)],_,zB,Zm.snoc (zR.of (k8.tup I)) (Zm.kl k8 (Zm.kl D m)),by rw[Z10,X];rfl,λp l=>?_⟩,_,rfl⟩;rw[zD (zh e hL)];exact c _ _ (O _ _ (k5 _ _ (M _ _ e nb) nb) nb);exact ((d6.same c).kp (Kp.set (p:=L)) (Z32 nL)).up 00;rcases Z20.mp l with l | l;exact rng p l;rw[Z01.mp l];exact⟨x0,x1,y0,y1⟩;rintro σ G ⟨M,C,⟨ps,i,A,m,X,rng⟩,v,rfl⟩;refine⟨_,rfl,_,rfl,L,i,ps,rfl,zN.of A,m,00,λq ms D2 G6 pm pw J s6 mD e6=>?_⟩
 refine⟨D2,q,rfl,zN.of e6,λt G7 c m7 I=>⟨zl2,λa G8 u m8 e8=>?_⟩⟩;exact k a n ms G8 ⟨t,q,e8,u _ _ I,Zm.kl (c.trans u).kl J⟩ ⟨by show 1<=n;lia,by show n<=12;lia,by show ms.length<=60;rw[pm.length_eq];lia,pw,λp l=>rng p (pm.mem_iff.mp l)⟩ ((C.same (s6.trans (c.trans u))).up 00) (M.trans (s6.trans (c.trans u)).kp)
open L2
def Jm:zE ["head","one","other"] ["head","one","other"] (zo xx):=fs
def z0S{mg:SV}(S:ZH K mg "_law_words" xx ["head","one","other"])(T:Txt mg)(zstr:mg "str"=none):Def P w K mg base 1 "_law_words" ["head","one","other"] uB:=S.def λf fd F=>by
 refine F.yh Jm λnd cdv A' outer s H vs Q E hr h=>?_;obtain⟨h',x,y,rfl,o,n,k⟩:=h;refine⟨_,(qc (qf (qk jR (qv 0) (qt (qa qw (qa qw (qa qw (qa qw qn)))))) (q1 (qr (qv 0))) q0) (q1 (qr (qm Z1v Z3R Z49 (YR (K:=K) rfl) qw (qa (qo Xk (ql (qa (qv 0) (qa (qY zQ zstr boot_str (qa (qv 1) qn)) qn))) (qo z9x (ql (qa (qY zQ zstr boot_str (qa (qv 2) qn)) qn)) (qY YI T.int boot_int (qa (qe Qy (qv 0) qw) qn)))) qn))))),?_⟩;have D:(x:Int).natAbs.log2<1920:=Z24 (Z4S _) 00;have I:(y:Int).natAbs.log2<1920:=Z24 (Z4S _) 00;have sp:Str.ofString " "=ZD 32:=Pw.Z4J;have r:∀ z∈h'.tx :: (h'.ar x y).map Pw.ns,z.cps.size<=8:=λz u=>by
  rcases Z08.mp u with e | e;rw[e];exact h'.short.1;obtain⟨q,C,rfl⟩:=Z18.mp e;have b:=h'.bound o n q C;have:=(JC b.1 b.2).2;lia
 refine zG λRR d=>?_;refine⟨_,rfl,(by show 4<=sizeLine;decide),λt G1 s1 l A=>⟨t,_,rfl,.inr (zR.of A),rfl,rfl,_,rfl,?_⟩⟩;by_cases c:h'=.page\/h'=.undo\/h'=.show\/h'=.rank;refine Zy (by rcases c with rfl | rfl | rfl | rfl <;> decide +kernel) ⟨_,rfl,?_⟩;have:=k G1 s1;rwa [show h'.cm x y=h'.tx by rcases c with rfl | rfl | rfl | rfl <;> exact Pw.Z2w _ _] at this;refine ZF (by cases h' <;> first | exact absurd (.inl rfl) c | exact absurd (.inr (.inl rfl)) c | exact absurd (.inr (.inr (.inl rfl))) c | exact absurd (.inr (.inr (.inr rfl))) c | decide +kernel) ?_
 show RR [_,_,_] _;subst d;refine⟨rfl,_,rfl,_,rfl,(x:Int),rfl,D,zl2,λL1 G2 s2 L B=>⟨_,rfl,(y:Int),rfl,I,zl1,λL2 G3 s3 J p=>?_⟩⟩;refine⟨_,rfl,rfl,.inr ⟨_,rfl,?_⟩⟩;obtain⟨m,v,l,em⟩:∃ m:Nat,(if (!decide (V.str h'.tx=V.str (Str.ofString "share")))=true then (1:Int) else 0)=(m:Int)/\m<=1/\(h'.ar x y).map Pw.ns=Pw.ns (x:Int) :: (List.replicate m [Pw.ns (y:Int)]).flatten:=by
  cases h';exact⟨1,03,01,rfl⟩;exact⟨1,03,01,rfl⟩;exact absurd (.inl rfl) c;exact absurd (.inr (.inl rfl)) c;exact absurd (.inr (.inr (.inl rfl))) c;exact⟨0,03,01,rfl⟩;exact absurd (.inr (.inr (.inr rfl))) c;exact⟨1,03,01,rfl⟩
 rw[v];refine⟨L2,(m:Int),_,rfl,rfl,p,00,00,by rw[Z31,sizeLine_eq];show 1 * m<=_;lia,λL3 G4 s4 N j=>?_⟩;rw[Z31] at j;have a:m=0\/m=1:=00
 refine⟨L1,L3,_,_,rfl,rfl,s4 _ _ (s3 _ _ B),j,by rcases a with rfl | rfl <;> first | (show 2+0<=sizeLine;decide) | (show 2+1<=sizeLine;decide),λL4 G5 s5 M G=>?_⟩
 have i:G5 L4=some (.lst ((h'.tx :: (h'.ar x y).map Pw.ns).map V.str)):=by
  rw[G,em];rcases a with rfl | rfl <;> rfl
 have zn:(Str.ofString " ").cps.size=1:=03
 refine⟨_,L4,_,rfl,rfl,zN.of i,XO r ?_,?_⟩;rw[Z07,ZB,h'.z7I,zn];have:h'.nr<=2:=by cases h' <;> decide
 lia;show Q (.str (Txt.join (Str.ofString " ") (h'.tx :: (h'.ar x y).map Pw.ns))) G5;rw[sp];exact k G5 (s1.trans (s2.trans (s3.trans (s4.trans s5))))
open L2
def z0Z:zE ["cell","k"] ["cell","k"] (zo qZ):=fs
def z1R{mg:SV}(S:ZH K mg "_law_deck" qZ ["cell","k"])(T:Txt mg) :Def P w K mg base 1 "_law_deck" ["cell","k"] z2s:=S.def λf fd F=>by
 refine F.yh z0Z λnd cdv A' outer s H vs Q E hr h=>?_;obtain⟨x,n,rfl,k⟩:=h;refine⟨_,(qc (qf (qk QN (qv 0) (qo Ui qi qi)) (q1 (qr (ql (qa (qo vQ (qv 0) (qo Ui qi qi)) (qa qi (qa (qv 1) qn)))))) q0) (q1 (qr (ql (qa (qv 0) (qa qi (qa (qv 1) qn))))))),?_⟩;refine⟨_,rfl,_,_,rfl,rfl,⟨01,01,01⟩,_,_,rfl,rfl,_,rfl,?_⟩;refine if2 (λh=>?_) (λh=>?_);exact⟨_,rfl,_,_,rfl,rfl,⟨01,01,01⟩,_,_,rfl,rfl,_,rfl,(by show 3<=sizeLine;decide),λd G s m e=>k d G s m ⟨_,_,_,e,00,Int.le_refl _⟩⟩;exact⟨_,rfl,_,rfl,(by show 3<=sizeLine;decide),λd G s m e=>k d G s m ⟨_,_,_,e,00,Int.le_refl _⟩⟩
def z0n:zE ["deck","many","come","number"] ["deck","many"] (zo qu):=fs
def z2G{mg:SV}(S:ZH K mg "_law_take" qu ["deck","many"])(T:Txt mg) :Def P w K mg base 1 "_law_take" ["deck","many"] yo:=S.def λf fd F=>by
 refine F.yh z0n λnd cdv A' outer s H vs Q E hr h=>?_;obtain⟨d,m,B,rfl,m0,l,p,hd,k⟩:=h;refine⟨_,(qc (qf (qk Ze (qx zW (qv 0) qi) qi) (qc (qs 2 (qo Y6 (qx zW (qv 0) qi) (qv 1))) (qc ⟨vE (Zr yl (Zt zW (pv 0) zI 024) (pv 1)) (z8z (pv 0) zI set_list)⟩ (q1 (qr (qv 2))))) q0) (qc ⟨vE (Zr ZA (Zt zW (pv 0) zI 024) zI) (z8z (pv 0) zI set_list)⟩ (qc (qs 3 (qo Z7 (qo Y6 (qx zW (qv 0) qi) qi) (qo ZA (qo Z7 (qx zW (qv 0) qi) (qx zW (qv 0) qi)) qi))) (qc (qs 3 (qo Y6 (qo ZA (qo ZA (qv 3) (qx zW (qv 0) qi)) qi) qi)) (qc (qs 3 (qo Y6 (qo Z7 (qv 3) (qv 3)) qi)) (q1 (qr (qo Y6 (qo Z0q (qo Y6 (qo z8O (qv 3) qi) qi) qi) (qv 1))))))))),?_⟩;obtain⟨a,b,c,e,j,o⟩:=hd;refine⟨_,rfl,yN (zN.of e) rfl ⟨rfl,_,rfl,?_⟩⟩;refine if2 (λh=>?_) (λh=>?_);have sl:Sz 9000 m:=yk 60 00;refine⟨_,rfl,yN (zN.of e) rfl ⟨_,rfl,_,_,rfl,rfl,m0,?_⟩⟩;refine⟨_,rfl,yN (zN.of e) rfl ⟨_,rfl,_,_,rfl,rfl,⟨00,sl⟩,_,rfl,d,_,_,0,rfl,rfl,e,rfl,?_⟩⟩;refine⟨_,rfl,?_⟩;exact k _ _ (Z5z _ 00) (Int.emod_lt_of_pos _ m0) ⟨_,b,c,zB,j,00⟩ Kp.set;refine⟨_,rfl,yN (zN.of e) rfl ⟨_,_,rfl,rfl,_,rfl,d,_,_,2,rfl,rfl,e,rfl,?_⟩⟩;have i:(upd H d (.lst [.int a,.int b,.int (c+1)])) d=some (.lst [.int a,.int b,.int (c+1)]):=zB;have k1:Kp d H (upd H d (.lst [.int a,.int b,.int (c+1)])):=Kp.set;change xj _ _ _ _ (upd H d (.lst [.int a,.int b,.int (c+1)]));generalize upd H d (.lst [.int a,.int b,.int (c+1)])=G at i k1 ⊢;have sc:Sz 1000 (c+1):=yk 40 00;refine⟨_,rfl,yN (zN.of i) rfl ⟨_,_,rfl,rfl,(by show (0:Int)<2147483647;decide),_,rfl,yN (zN.of i) rfl ⟨_,rfl,yN (zN.of i) rfl ⟨_,_,rfl,rfl,?_,?_⟩⟩⟩⟩;exact⟨sc.mono 01,sc.mono 01⟩;have q:Sz 100000 ((c+1) * (c+1)+48271):=Sz.mono (Sz.add (n:=2000) (sc.mul sc) (yk 16 01)) 01;refine⟨_,_,rfl,rfl,_,_,rfl,rfl,⟨z6z 01 01,q⟩,?_⟩;refine⟨_,rfl,_,rfl,yN (zN.of i) rfl ⟨_,_,rfl,rfl,_,_,rfl,rfl,_,_,rfl,rfl,(by show (0:Int)<2147483629;decide),?_⟩⟩;refine⟨_,rfl,_,rfl,_,_,rfl,rfl,⟨z6z 01 01,z6z 01 01⟩,_,_,rfl,rfl,(by show (0:Int)<2147483587;decide),?_⟩;refine⟨_,rfl,_,_,rfl,rfl,.inr ⟨01,01⟩,_,_,rfl,rfl,(by show (0:Int)<2147483563;decide),_,_,rfl,rfl,⟨01,01⟩,_,rfl,_,_,rfl,rfl,m0,?_⟩;exact k _ G (Z5z _ 00) (Int.emod_lt_of_pos _ m0) ⟨a,b,c+1,i,00,00⟩ k1
def Z4s:zE ["deck","most","pages","many","links"] ["deck","most"] (zo z9v):=fs
def z5d{mg:SV}(S:ZH K mg "_law_web" z9v ["deck","most"])(T:Txt mg)(Tk:Def P w K mg base 1 "_law_take" ["deck","many"] yo):Def P w K mg base 2 "_law_web" ["deck","most"] (z3X K):=S.def λf fd F=>by
 refine F.yh Z4s λnd cdv A' outer s H vs Q E hr h=>?_;obtain⟨d,m,B,rfl,m1,m12,hB,hd,k⟩:=h;refine⟨_,(qc (qs 2 (qo ZA qi (qd Tk (qa (qv 0) (qa (qv 1) qn))))) (qc (qs 3 (qd Tk (qa (qv 0) (qa (qo ZA (qx zW (ql (qa qi (qa (qo ZA (qo z8O qi (qv 2)) qi) qn))) (qd Tk (qa (qv 0) (qa qi qn)))) qi) qn)))) (qc (qI 4 (zo z9v) ["k","deck","pages"] [none,some 0,some 2] (qR T.range (qa (qv 3) qn)) ⟨016,016,trivial⟩ (λ_ _ _ _ _ _=>(qg 0)) (λ_ _ _ _ _=>qV) (λ_ _ _ _ _=>(qt (qa (qd Tk 033) (qa (qd Tk 033) qn))))) ⟨@z9p _ _ _ _ _ (@z7r _ _ _ _ _ _ _ _ (PW.pt (z7W (yW (z8H hr) (pv 4) (@QE _ _ _ _ zF) (Yc _)) (z3A (yW Ze (Z0 02 02 02 01 Tk 029 (@ze _ _ _ _ _ 02 (pv 0) (@ze _ _ _ _ _ 02 zI zF))) zI (Yc _))))) (@ZM _ _ _ (@xq _ _ 4 _ _ _ _ 02 018 nd rfl 018 (Zr Xk (pv 4) (Yi VH (pv 4) YX (xm zI))))) JI) (@ZM _ _ _ (@V1 _ _ _ _ (@Zx _ _ _ _ _ (@ze _ _ _ _ _ 02 (pv 2) (@ze _ _ _ _ _ 02 (yf yu 02 T.tup boot_tuple (@ze _ _ _ _ _ 02 (ZQ XJ 02 T.srt boot_sorted (@ze _ _ _ _ _ 02 (pv 4) zF)) zF)) zF)))))⟩))),?_⟩;refine⟨_,rfl,_,rfl,d,m,B,rfl,00,00,00,hd,λn1 G1 a0 a1 d1 k1=>?_⟩;refine⟨_,_,rfl,rfl,?_⟩;change xj _ _ _ [some (.ref d),some (.int m),some (.int (1+n1)),none,none] G1;obtain⟨n,en⟩:∃ n:Int,1+n1=n:=⟨_,rfl⟩;rw[en];have n1':1<=n:=00
 have nm:n<=m:=00
 refine⟨_,rfl,_,rfl,_,_,rfl,rfl,.inl ⟨01,01⟩,_,_,rfl,rfl,zl2,λl G2 s2 m2 e2=>?_⟩;have nld:l≠d:=λz=>by obtain⟨_,_,_,h,_⟩:=d1;rw[z,h] at m2;cases m2
 refine⟨_,rfl,d,2,B+1,rfl,01,01,00,d1.same s2,λj G3 j0 j1 d3 k3=>?_⟩;obtain⟨q,hq,q1,q2⟩:∃ q:Int,JL [V.int 3,V.int (2 * n+1)] j=some (.int q)/\1<=q/\q<=25:=by
  have:j=0\/j=1:=00
  rcases this with rfl | rfl;exact⟨3,rfl,01,01⟩;exact⟨2 * n+1,rfl,00,00⟩
 refine J0 (zN.of (k3 _ _ e2 nld)) hq ⟨_,_,rfl,rfl,d,q+1,B+1+1,rfl,00,00,00,d3,λmany G4 b0 b1 d4 k4=>?_⟩;have k04:Kp d H G4:=k1.trans (s2.kp.trans (k3.trans k4));refine⟨_,rfl,many,rfl,00,00,λD hD=>?_⟩;have A:D≠d:=d4.ne hD;refine Qh (lo:=0) (n:=many.toNat) (λi c σ G=>Kp d G4 G/\zO G d (B+3+2 * i)/\G D=some (.lst c)/\(∃ ps,Zm K G ps c/\ps.length=i/\∀ p∈ps,0<=p.1/\p.1<n/\0<=p.2/\p.2<n)/\∃ v,σ=[v,some (.ref d),some (.int n)]) ?_ ?_ ?_ ?_;exact⟨Kp.new hD,d4.same (zC.new hD),zB,⟨[],rfl,rfl,λ_ h=>absurd h 05⟩,none,rfl⟩;rintro i c σ G ⟨_,_,e,_⟩;exact e
 · rintro i c σ G hi ⟨kG,O,eD,⟨ps,C,hl,rng⟩,v,rfl⟩
   have lys:=C.len;dsimp only [Zo];rw[if_pos rfl];refine⟨_,rfl,_,rfl,d,n,_,rfl,00,00,00,O,λx G5 x0 x1 d5 k5=>?_⟩;refine⟨_,rfl,_,rfl,d,n,_,rfl,00,00,00,d5,λy G6 y0 y1 d6 J=>?_⟩;refine⟨zl2,λt G7 u m7 e7=>?_⟩;have Z:G7 D=some (.lst c):=u _ _ (J _ _ (k5 _ _ eD A) A);have kl7:KL G G7:=(O.kl k5).trans ((d5.kl J).trans u.kl);have k1:KL G7 (upd G7 D (.lst (c ++ [.ref t]))):=KL.set Z;refine⟨Z,by rw[lys,hl,sizeLine_eq];lia,Wt.next hi ⟨λb o e nb=>?_,?_,zB,⟨ps ++ [(x,y)],Zm.snoc (zR.of (k1.tup e7)) (Zm.kl k1 (Zm.kl kl7 C)),by rw[Z10,hl];rfl,λp r=>?_⟩,_,rfl⟩⟩;rw[zD (zh e hD)];exact u _ _ (J _ _ (k5 _ _ (kG _ _ e nb) nb) nb);exact ((d6.same u).kp (Kp.set (p:=D)) (Z32 A)).up 00;rcases Z20.mp r with r | r;exact rng p r;rw[Z01.mp r];exact⟨x0,x1,y0,y1⟩
 rintro c σ G ⟨kG,O,eD,⟨ps,C,hl,rng⟩,v,rfl⟩;have lys:=C.len;have k0:Kp d H G:=k04.trans kG;have ml:many.toNat<=25:=00
 refine⟨λU G'=>∃ L us ps,G' L=some (.lst us)/\Zm K G' ps us/\ps.length<=30/\(∀ p∈ps,0<=p.1/\p.1<n/\0<=p.2/\p.2<n)/\zO G' d (B+100)/\Kp d H G'/\U=[some (.ref d),some (.int m),some (.int n),some (.int many),some (.ref L)],?_,?_⟩;refine⟨_,rfl,zl0,λb G5 s5 m5 e5=>⟨D,b,c,rfl,rfl,.inr ⟨zN.of (s5 _ _ eD),zN.of e5⟩,_,rfl,?_⟩⟩;refine if2 (λhne=>?_) (λhne=>?_);refine tkc rfl 01 01 00 (O.same s5) λj G6 j0 j1 d6 J=>⟨rfl,_,rfl,?_⟩;have M:G6 D=some (.lst c):=J _ _ (s5 _ _ eD) A;have hP6:Zm K G6 ps c:=Zm.kl ((O.same s5).kl J) (Zm.kl s5.kl C);have X:Kp d H G6:=k0.trans (s5.kp.trans J);refine if2 (λhj=>?_) (λhj=>?_);refine⟨_,rfl,_,rfl,_,rfl,D,c,rfl,zN.of M,λp r=>?_⟩;have u:zC G6 (upd G6 p (.lst (yT c none (some 2)))):=zC.new r;refine⟨D,p,c,_,rfl,rfl,u _ _ M,zB,?_,λp2 G8 N m8 e8=>?_⟩;rw[show (some (2:Int))=some ((2:Nat):Int) from rfl,Z2r,Z1r,sizeLine_eq];lia;rw[show (some (2:Int))=some ((2:Nat):Int) from rfl,Z2r] at e8;have I:zC G6 G8:=u.trans (by rw[show (some (2:Int))=some ((2:Nat):Int) from rfl,Z2r] at *;exact N);have Y:Zm K G8 ps c:=Zm.kl I.kl hP6;refine⟨p2,_,ps ++ ps.take 2,e8,Zm.append (Zm.take 2 Y) Y,?_,λp r=>?_,(d6.same I).up 00,X.trans I.kp,rfl⟩;rw[Z10,Z1r];lia;rcases Z20.mp r with r | r;exact rng p r;exact rng p (List.mem_of_mem_take r);exact⟨D,c,ps,M,hP6,00,rng,d6.up 00,X,rfl⟩;exact⟨D,c,ps,s5 _ _ eD,Zm.kl s5.kl C,00,rng,(O.same s5).up 00,k0.trans s5.kp,rfl⟩;rintro U G' ⟨L,us,ps,eL,C,few,rng,dG',kH,rfl⟩;refine⟨_,rfl,_,rfl,L,us,ps,rfl,zN.of eL,C,00,λR ms D2 G6 pm pw hP2 s6 mD e6=>?_⟩
 refine⟨D2,R,rfl,zN.of e6,λt G7 u m7 e7=>⟨zl2,λa G8 N m8 e8=>?_⟩⟩;refine k a n ms G8 ⟨t,R,e8,N _ _ e7,Zm.kl (u.trans N).kl hP2⟩ n1' nm (by rw[pm.length_eq];exact few) (λp r=>rng p (pm.mem_iff.mp r)) pw (dG'.same (s6.trans (u.trans N))) (kH.trans (s6.trans (u.trans N)).kp)
def vW:zE ["web"] ["web"] (zo Z8):=fs
def Vv{mg:SV}(S:ZH K mg "_law_web_shown" Z8 ["web"])(T:Txt mg)(zstr:mg "str"=none):Def P w K mg base 1 "_law_web_shown" ["web"] (Y3 K):=S.def λf fd F=>by
 refine F.yh vW λnd cdv A' outer s H vs Q E hr h=>?_;obtain⟨a,n,ps,rfl,hw,N,n12,few,rng,k⟩:=h;refine⟨_,(q1 (qr (qm Z1v Z3R Z49 (YR (K:=K) rfl) qw (qa (qo Xk (ql (qa qw (qa (qY zQ zstr boot_str (qa 026 qn)) qn))) (qG (zo Z8) ["one","other"] [none,none] (qU 026) trivial (λ_ _ _ _ _ _=>(qj K 2 (qH (qg 0) (qH (qg 1) qN)))) (λ_ _ _ _ _=>qV) (λ_ _ _ _ _=>(qo Zd (qo Zd (qY zQ zstr boot_str (qa (qv 0) qn)) qw) (qY zQ zstr boot_str (qa (qv 1) qn)))))) qn)))),?_⟩;obtain⟨t,us,M,L,m⟩:=hw;have hl:=m.len;have B:∀ i:Int,0<=i->i<=99->i.natAbs.log2<1920:=λi h0 h1=>Z4l 00 00;refine⟨rfl,_,rfl,Zw (zR.of M) rfl ⟨n,rfl,B n N 00,zl2,λl G1 s1 m1 X=>?_⟩⟩;refine⟨_,rfl,Zw (zR.of (s1 _ _ M)) rfl ⟨t,rfl,⟨_,zR.of (s1 _ _ L)⟩,λD O=>?_⟩⟩;have y:=m.kl s1.kl;refine xC (K:=K) (a:=t) (D:=D) (xs:=us) (λi j σ G=>zC G1 G/\G D=some (.lst j)/\j=((ps.take i).map Pw.wd).map V.str/\∃ v w,σ=[v,w]) ⟨zC.new O,zB,rfl,none,none,rfl⟩ ?_ ?_ ?_;rintro i j σ G ⟨s,e,_⟩;exact⟨zR.of (s _ _ (s1 _ _ L)),e⟩
 · rintro i x j σ G hx I ⟨d,u,rfl,v,w',rfl⟩
   obtain⟨R,c,ex,rfl,J⟩:=(y.kl d.kl).get hx;have r:=rng c (Z1q ex);have A:=Zb r.1 (show c.1<=99 by lia);have z2:=Zb r.2.2.1 (show c.2<=99 by lia);have zg:(Str.ofString ">").cps.size=1:=03
   refine⟨R,_,rfl,J,rfl,_,_,rfl,_,_,rfl,rfl,?_⟩;refine Zy rfl ?_;refine⟨_,rfl,c.1,rfl,B _ r.1 00,_,_,rfl,rfl,?_,_,rfl,c.2,rfl,B _ r.2.2.1 00,_,_,rfl,rfl,?_,u,(by rw[ZB,ZB,Z1r,sizeLine_eq];lia),Wt.next I ⟨λb o e=>by rw[zD (zh e O)];exact d _ _ e,zB,?_,_,_,rfl⟩⟩;rw[yS,yS,sizeLine_eq];lia;rw[yS,yS,zP,sizeLine_eq];lia;rw[Z28,ex,Z13,Z13];rfl
 rintro j σ G ⟨d,u,rfl,_⟩;rw[Z12 00] at u;have zp:(Str.ofString "pages").cps.size=5:=03
 have A:=Zb N (show n<=99 by lia);have Y:∀ z∈[Str.ofString "pages",Pw.ns n] ++ ps.map Pw.wd,z.cps.size<=5:=λz h=>by
  rcases Z20.mp h with h | h;rcases Z08.mp h with rfl | h;lia;rw[Z01.mp h];exact Z0Y A 01;obtain⟨p,m,rfl⟩:=Z18.mp h;have r:=rng p m;have A:=Zb r.1 (show p.1<=99 by lia);have z2:=Zb r.2.2.1 (show p.2<=99 by lia);have zb:(Str.ofString ">").cps.size=1:=03
  unfold Pw.wd;rw[zP,zP];show (Str.ofString (toString p.1)).cps.size+_+(Str.ofString (toString p.2)).cps.size<=5;lia
 have Z:([Str.ofString "pages",Pw.ns n] ++ ps.map Pw.wd).length<=62:=by
  rw[Z10,ZB];show 2+_<=62;lia
 have C:(Str.ofString " ").cps.size=1:=03
 refine z8B (xs:=[Str.ofString "pages",Pw.ns n]) (zs:=ps.map Pw.wd) (d _ _ X) u (by rw[ZB];show 2+_<=_;lia) λq G2 s2 m2 U=>?_;refine⟨_,q,_,rfl,rfl,zN.of U,XO Y ?_,?_⟩;rw[C];exact Z0Y (Z5t _ Z) 01;rw[Z0O];exact k G2 (s1.trans (d.trans s2))
def Z0K:zE ["deck","some","below","above","one","two"] ["deck"] (zo z2w):=fs
def z3c{mg:SV}(S:ZH K mg "_law_leap" z2w ["deck"])(T:Txt mg)(Tk:Def P w K mg base 1 "_law_take" ["deck","many"] yo):Def P w K mg base 2 "_law_leap" ["deck"] (z3C K):=S.def λf fd F=>by
 refine F.yh Z0K λnd cdv A' outer s H vs Q E hr h=>?_;obtain⟨d,B,rfl,hB,hd,k⟩:=h;refine⟨_,(qc (qs 1 (ql (qa (qt (qa qi (qa qi qn))) (qa (qt (qa qi (qa qi qn))) (qa (qt (qa qi (qa qi qn))) (qa (qt (qa qi (qa qi qn))) (qa (qt (qa qi (qa qi qn))) (qa (qt (qa qi (qa qi qn))) qn)))))))) (qc (qs 2 (qo ZA qi (qd Tk (qa (qv 0) (qa qi qn))))) (qc (qs 3 (qo ZA qi (qd Tk (qa (qv 0) (qa (qo vQ (qv 2) qi) qn))))) (qc ⟨z8i rfl nd (i:=4) (j:=5) rfl rfl 01 rfl rfl (@ze _ _ _ _ _ 02 (pv 3) (@ze _ _ _ _ _ 02 (pv 2) zF)) 02⟩ (qc ⟨UI PassesOwn.never (yW z1e (pv 4) zI (Yc _)) (@ZM _ _ _ (z8i rfl nd (i:=4) (j:=5) rfl rfl 01 rfl rfl (@ze _ _ _ _ _ 02 (Zr Y6 (pv 5) (pv 4)) (@ze _ _ _ _ _ 02 (pv 4) zF)) 02))⟩ (q1 (qr (qx zW (qo Xk (qv 1) (ql (qa (qt (qa (qo yl (qv 3) (qv 5)) (qa (qo yl (qv 2) (qv 5)) qn))) qn))) (qd Tk (qa (qv 0) (qa qi qn))))))))))),?_⟩;refine⟨zl2,λt1 G1 s1 m1 e1=>⟨zl2,λt2 G2 s2 m2 e2=>⟨zl2,λt3 G3 s3 m3 e3=>⟨zl2,λt4 G4 s4 m4 e4=>⟨zl2,λt5 G5 s5 m5 e5=>⟨zl2,λt6 G6 n m6 e6=>⟨(by show 6<=sizeLine;decide),λL G7 m m7 X=>?_⟩⟩⟩⟩⟩⟩⟩;have M:yK K G7 ([] ++ [(1,2)] ++ [(1,1)] ++ [(1,7)] ++ [(3,20)] ++ [(99,100)] ++ [(1,1000)]) ([] ++ [.ref t1] ++ [.ref t2] ++ [.ref t3] ++ [.ref t4] ++ [.ref t5] ++ [.ref t6]) :=
  yK.snoc (m _ _ e6) (yK.snoc (m _ _ (n _ _ e5)) (yK.snoc (m _ _ (n _ _ (s5 _ _ e4))) (yK.snoc (m _ _ (n _ _ (s5 _ _ (s4 _ _ e3)))) (yK.snoc (m _ _ (n _ _ (s5 _ _ (s4 _ _ (s3 _ _ e2))))) (yK.snoc (m _ _ (n _ _ (s5 _ _ (s4 _ _ (s3 _ _ (s2 _ _ e1)))))) rfl)))))
 obtain⟨xs,X,M,ln,small⟩:∃ (xs:List V),G7 L=some (.lst xs)/\yK K G7 [(1,2),(1,1),(1,7),(3,20),(99,100),(1,1000)] xs/\xs.length=6/\∀ A∈([(1,2),(1,1),(1,7),(3,20),(99,100),(1,1000)]:LI),(0<A.2/\Int.gcd A.1 A.2=1)/\0<A.1/\A.1<=A.2/\A.2<=1000:=⟨_,X,M,rfl,01⟩;have l:zC H G7:=s1.trans (s2.trans (s3.trans (s4.trans (s5.trans (n.trans m)))));have Y:L≠d:=(hd.same (s1.trans (s2.trans (s3.trans (s4.trans (s5.trans n)))))).ne m7;clear e1 e2 e3 e4 e5 e6 m1 m2 m3 m4 m5 m6 m7;refine tkc rfl 01 01 00 (hd.same l) λa G8 a0 a1 d8 k8=>⟨_,_,rfl,rfl,?_⟩;change xj _ _ _ [some (.ref d),some (.ref L),some (.int (2+a)),none,none,none] G8;obtain⟨bl,ebl⟩:∃ b:Int,2+a=b:=⟨_,rfl⟩;rw[ebl];refine⟨_,rfl,_,rfl,_,_,rfl,rfl,d,bl - 1,B+1,rfl,00,00,00,d8,λc G9 c0 c1 d9 k9=>⟨_,_,rfl,rfl,?_⟩⟩;change xj _ _ _ [some (.ref d),some (.ref L),some (.int bl),some (.int (1+c)),none,none] G9;obtain⟨ab,eab⟩:∃ b:Int,1+c=b:=⟨_,rfl⟩;rw[eab];refine⟨_,rfl,_,rfl,_,_,rfl,?_⟩;refine z1z (λσ G'=>∃ u v:Int,σ=[some (.ref d),some (.ref L),some (.int bl),some (.int ab),some (.int u),some (.int v)]/\0<=u/\0<v/\v<=1000/\u<=1000/\Int.gcd u v=Int.gcd ab bl/\G'=G9)
  (λσ _=>match σ with | [_,_,_,_,some (.int u),_]=>u.toNat | _=>0) ⟨ab,bl,rfl,00,00,00,00,rfl,rfl⟩ ?_
 rintro σ G' ⟨u,v,rfl,u0,v0,v1,r,hg,rfl⟩;refine⟨_,rfl,_,_,rfl,rfl,_,rfl,if2 (λh=>⟨_,wN,?_⟩) (λh=>?_)⟩;have p:0<u:=of_decide_eq_true h;have h1:=Z5z v (show u≠0 by lia);have h2:=Int.emod_lt_of_pos v p;refine⟨_,rfl,_,rfl,_,_,rfl,rfl,p,_,rfl,_,_,rfl,⟨v % u,u,rfl,h1,p,r,00,by rw[Int.gcd_comm,Pw.z0r (Z51 v0) p,Int.gcd_comm,hg],rfl⟩,?_⟩;show (v % u).toNat<u.toNat;lia;have sv:Sz 9000 v:=yk 20 00;have I:=k8.trans k9;have e9:=I _ _ X Y;have N:yK K _ _ xs:=yK.kl (((hd.same l).kl k8).trans (d8.kl k9)) M;have p:u=0:=by have:¬ 0<u:=of_decide_eq_false h;lia
 have ev:v=(Int.gcd ab bl:Int):=by rw[← hg,p,Int.gcd_zero_left];lia
 have bl0:0<bl:=00
 have R:(ab.fdiv v,bl.fdiv v)=Pw.mk ab bl:=by
  unfold Pw.mk;rw[if_neg 00,ev]
 have cm:=Pw.YS (a:=ab) (b:=bl) 00;rw[← R] at cm;have D:(v:Int)∣ab:=by rw[ev];exact Int.gcd_dvd_left ..
 have G:(v:Int)∣bl:=by rw[ev];exact Int.gcd_dvd_right ..
 obtain⟨J,O⟩:=D;obtain⟨y,eb'⟩:=G;have fd:∀ z:Int,(v * z).fdiv v=z:=λz=>by rw[Z36 _ 00,Int.mul_ediv_cancel_left _ 00]
 have last:0<ab.fdiv v/\ab.fdiv v<=bl.fdiv v/\bl.fdiv v<=1000:=by
  rw[O,eb',fd,fd];have h1:0<v * J:=00
  have h2:v * J<=v * y:=00
  have a0':0<J:=Int.lt_of_mul_lt_mul_left (a:=v) (by rw[Int.mul_zero];exact h1) (Z51 v0);have ab':J<=y:=Int.le_of_mul_le_mul_left h2 v0;refine⟨a0',ab',?_⟩;have h3:v * y<=1000:=00
  have h4:1 * y<=v * y:=Int.mul_le_mul_of_nonneg_right 00 00;lia
 refine⟨_,rfl,_,rfl,_,rfl,_,_,rfl,rfl,⟨00,sv⟩,_,rfl,_,rfl,_,_,rfl,rfl,⟨00,sv⟩,zl2,λt F1 r n1 f1=>⟨zl1,λb F2 C n2 f2=>?_⟩⟩;refine⟨L,b,xs,_,rfl,rfl,C _ _ (r _ _ e9),f2,(by rw[ln];show 7<=sizeLine;decide),λL2 F3 u3 n3 f3=>?_⟩;have U:yK K F3 _ (xs ++ [.ref t]):=yK.snoc (A:=(ab.fdiv v,bl.fdiv v)) (u3 _ _ (C _ _ f1)) (yK.kl (r.trans (C.trans u3)).kl N);have o:=r.trans (C.trans u3);refine tkc rfl 01 01 00 (d9.same o) λj F4 j0 j1 d4 k4=>?_;obtain⟨i,rfl⟩:=Z46 j0;have hi:i<(xs ++ [V.ref t]).length:=by rw[Z10,ln];show i<7;lia
 have nL2:L2≠d:=(d9.same (r.trans C)).ne n3;have Z:yK K F4 _ (xs ++ [.ref t]):=yK.kl ((d9.same o).kl k4) U;obtain⟨q,A,mA,hq,eq⟩:=Z.JL (i:=(i:Int)) 00 (by rw[Z10];show (i:Int)<((6+1:Nat):Int);lia);refine J0 (zN.of (k4 _ _ f3 nL2)) eq ?_;obtain⟨q1,q2,q3,q4⟩:(0<A.2/\Int.gcd A.1 A.2=1)/\0<A.1/\A.1<=A.2/\A.2<=1000:=by
  rcases Z20.mp mA with h | h;exact small A h;rw[Z01.mp h];exact⟨cm,last⟩
 exact k q A F4 hq ⟨q1,q2,q3⟩ q4 (d4.up 00) (l.kp.trans (I.trans (o.kp.trans k4)))
open L2
def JO:zE ["desk","deck","state","most","leap"] ["desk","deck","state","most"] (zo xN):=fs
def z1g{mg:SV}(S:ZH K mg "_law_begun" xN ["desk","deck","state","most"])(T:Txt mg)(DT:DkT K Cd)(zstr:mg "str"=none)(Sy:ZO P w K mg base (CXA P w [Xl,Xt,Xm]) 18 Cd "say" ["self","words"] (yp P w K mg base 16 fz C Cd Xl Xt Xm))(Tk:Def P w K mg base 1 "_law_take" ["deck","many"] yo)(Lp:Def P w K mg base 2 "_law_leap" ["deck"] (z3C K))(Wd:Def P w K mg base 2 "_law_web" ["deck","most"] (z3X K))(Mn:Def P w K mg base 2 "_law_many" ["deck"] (z3I K))(Sw:Def P w K mg base 1 "_law_web_shown" ["web"] (Y3 K)):Def P w K mg base 19 "_law_begun" ["desk","deck","state","most"] (z4z K C Cd tb zU):=S.def λf fd F=>by
 refine F.yh JO λnd cdv A' outer s H vs Q E hr h=>?_;obtain⟨d,dk,st,p,pd,lp,ol,B,n,ps,Ws,A,most,rfl,m1,m12,hB,sd,hd,nd1,nd2,k⟩:=h;refine⟨_,(qc (qf (qk Ze (qd Tk (qa (qv 1) (qa qi qn))) qi) (qc (qs 4 (qd Lp (qa (qv 1) qn))) (qc ⟨yV (Zv hr) (pv 2) zK (pv 4) rfl⟩ (qc ⟨yV (Zv hr) (pv 2) zK (@QE _ _ _ _ zF) rfl⟩ (q1 (qr (qe Ze ⟨Yx 02 02 02 (pv 0) DT.cl Sy 029 z8g (@ze _ _ _ _ _ 02 (Zr Zd (Zr Zd (Zr Zd zK (yf zQ 02 zstr boot_str (@ze _ _ _ _ _ 02 (Zt zJ (pv 4) zI 024) zF))) zK) (yf zQ 02 zstr boot_str (@ze _ _ _ _ _ 02 (Zt zJ (pv 4) zI 024) zF))) zF)⟩ qw)))))) q0) (qc ⟨yV (Zv hr) (pv 2) zK (Z0 02 02 02 01 Wd 029 (@ze _ _ _ _ _ 02 (pv 1) (@ze _ _ _ _ _ 02 (pv 3) zF))) rfl⟩ (qc (qf (qW (qA (qk Ze (qv 3) qi) (qB (qk Ze (qd Tk (qa (qv 1) (qa qi qn))) qi)))) (q1 ⟨yV (Zv hr) (pv 2) zK (Z0 02 02 02 01 Mn 029 (@ze _ _ _ _ _ 02 (pv 1) zF)) rfl⟩) q0) (qc ⟨yV (Zv hr) (pv 2) zK (@QE _ _ _ _ zF) rfl⟩ (q1 (qr (qe Ze ⟨Yx 02 02 02 (pv 0) DT.cl Sy 029 z8g (@ze _ _ _ _ _ 02 (Zr Zd zK (Z0 02 02 02 01 Sw 029 (@ze _ _ _ _ _ 02 (Zl (Zv hr) (pv 2) zK 024) zF))) zF)⟩ qw))))))),?_⟩;obtain⟨zs,el⟩:=hd.lst;have v:dk≠st:=by
  obtain⟨wa,la,us,e1,_⟩:=id sd.s;exact zX el e1 (by intro z;cases z)
 have fresh:∀ {G:Hp}{b:Addr},Kx [d,st,dk] H G->(∃ o,G d=some o)->(∃ o,G st=some o)->(∃ o,G dk=some o)->G b=none->H b=none:=λ{G b} x h1 h2 h3 X=>by
  cases z:H b with
  | none=>rfl
  | some o =>
    have:b∉[d,st,dk]:=λq=>by
     simp only[Z08,Z3a,or_false] at q;rcases q with rfl | rfl | rfl;obtain⟨o,h⟩:=h1;rw[h] at X;cases X;obtain⟨o,h⟩:=h2;rw[h] at X;cases X;obtain⟨o,h⟩:=h3;rw[h] at X;cases X
    rw[x b o z this] at X;cases X
 refine zG λRR hRR=>?_;refine tkc rfl 01 01 00 hd λz9 G1 w0 w1 d1 k1=>⟨rfl,_,rfl,?_⟩;obtain⟨sd1,u1,x1⟩:=sd.Z2a hd k1 nd1 nd2;by_cases c:z9=0;refine Zy (decide_eq_true (by rw[c])) ?_;clear hRR;refine zG λR2 hR2=>?_;refine⟨_,rfl,dk,_,rfl,00,d1,λla A' G2 fA ga a3 d2 k2=>?_⟩;obtain⟨sd2,u2,x2⟩:=sd1.Z2a d1 k2 nd1 nd2;show R2 [_,_,_,_,_] _;subst hR2;obtain⟨wa,lo,us,e1,hw,fl,e2,hu⟩:=id sd2.s;refine⟨_,rfl,_,rfl,st,_,rfl,Z3n e1,?_⟩;obtain⟨D3,u3,k3⟩:=sd2.h.st (kv':=ZS wa la ol) e1;refine⟨Z15 _,λi G4 s4 m4 e4=>⟨_,rfl,st,_,rfl,z7z (s4 _ _ zB),?_⟩⟩;obtain⟨D5,Y,k5⟩:=(D3.same s4).st (kv':=ZS wa la i) (s4 _ _ zB);have d5:=((d2.kp k3 v).same s4).kp k5 v;have nol:i≠st:=Z32 (zh zB m4);have e5:=k5 _ _ e4 nol;have f5:Xw K _ la A':=Y.tup _ _ (s4 _ _ (u3.tup _ _ fA));have w5:=((hw.ku u3).same s4).ku Y;have y:upd G4 st (.dK (ZS wa la i)) st=some (.dK (ZS wa la i)):=zB;have x5:Kx [d,st,dk] H (upd G4 st (.dK (ZS wa la i))):=x1.trans (x2.trans ((k3.kx 05).trans (s4.kx.trans (k5.kx 05))));have u05:=u1.trans (u2.trans (u3.trans (s4.ku.trans Y)));have nG4:i≠pd:=λz=>by
  obtain⟨_,_,⟨_,q⟩,_⟩:=id D3.h.s.l;rw[z,q] at m4;cases m4
 have hol:H i=none:=fresh (x1.trans (x2.trans (k3.kx 05))) (let ⟨dx,e⟩:=D3.h.o;⟨_,e⟩) ⟨_,zB⟩ (let ⟨_,e⟩:=(d2.kp k3 v).lst;⟨_,e⟩) m4;generalize upd G4 st (.dK (ZS wa la i))=G5 at D5 Y k5 d5 e5 f5 w5 y x5 u05;obtain⟨dx5,M⟩:=id D5.h.o;have zl:(Str.ofString "leap ").cps.size=5:=03
 have zq:(Str.ofString "/").cps.size=1:=03
 have big:∀ {m:Int},0<=m->m<=1000->(Pw.ns m).cps.size<=600/\m.natAbs.log2<1920:=λ{m} h0 h1=>by
  obtain⟨q,rfl⟩:∃ q:Nat,m=(q:Int):=⟨m.toNat,00⟩;exact⟨vM (Z24 (show q<=1000 by lia) 03),Z24 (Z4S _) 00⟩
 obtain⟨ca,a0,a1⟩:=id ga;obtain⟨b1,g1⟩:=big (m:=A'.1) 00 00;obtain⟨b2,g2⟩:=big (m:=A'.2) 00 00;refine⟨_,rfl,d,dx5,_,rfl,M,DkO.no (Cd:=Cd) 03,?_⟩;refine⟨_,rfl,la,_,_,_,rfl,rfl,JZ.of f5,rfl,A'.1,rfl,g1,_,_,rfl,rfl,(by rw[yS,yS,zl,sizeLine_eq];show 5+(Pw.ns A'.1).cps.size<=_;lia),_,_,rfl,rfl,(by rw[yS,yS,zP,zl,zq,sizeLine_eq];show 5+(Pw.ns A'.1).cps.size+1<=_;lia),?_⟩;refine⟨_,rfl,la,_,_,_,rfl,rfl,JZ.of f5,rfl,A'.2,rfl,g2,_,_,rfl,rfl,(by rw[yS,yS,zP,zP,zl,zq,sizeLine_eq];show 5+(Pw.ns A'.1).cps.size+1+(Pw.ns A'.2).cps.size<=_;lia),?_⟩;refine ZZ ?_;show yp P w K mg base 16 fz C Cd Xl Xt Xm [.ref d,.str (Str.ofString "leap " ++ Pw.ns A'.1 ++ Str.ofString "/" ++ Pw.ns A'.2)] _ _ _;have ex:Str.ofString "leap " ++ Pw.ns A'.1 ++ Str.ofString "/" ++ Pw.ns A'.2=Str.ofString "leap " ++ Pw.frT A':=by unfold Pw.frT;simp only[Pw.z5Y]
 rw[ex];refine z5a D5 ga a3 λp' pd' lp' G6 mp J D6 U Z=>⟨rfl,?_⟩;show Q (.bl (decide (V.str vg=V.str (Str.ofString "ok")))) G6;rw[decide_eq_true (show V.str vg=V.str (Str.ofString "ok") from rfl)];have I:∀ {b:Addr}{o:HO},G5 b=some o->(∀ C dx fs,o≠.ins C dx fs)->b≠d:=λ{b o} q n z=>by rw[z,M] at q;cases q;exact n _ _ _ rfl
 have ex5:∀ {b:Addr},G5 b=none->H b=none:=λX=>fresh x5 ⟨_,M⟩ ⟨_,y⟩ (let ⟨_,e⟩:=d5.lst;⟨_,e⟩) X;have l5:=d5.lst;refine k p' pd' lp' i n ps A' G6 ⟨D6,⟨wa,la,[],U _ _ y (I y λ_ _ _ z=>by cases z),w5.ku Z,Z.tup _ _ f5,U _ _ e5 (I e5 λ_ _ _ z=>by cases z),UJ.nil⟩,a3,λz=>by rw[z,e5] at J;cases J⟩ ?_ (x5.trans (U.kx 05)) (u05.trans Z) (ex5 mp) (ex5 J) hol;obtain⟨zz,l5⟩:=l5;exact (d5.kp U (I l5 λ_ _ _ z=>by cases z)).up 00
 · refine ZF (decide_eq_false λz=>c (by injection z)) ?_
   show RR [_,_,_,_,_] _;subst hRR;obtain⟨wa,lo,us,e1,hw,fl,e2,hu⟩:=id sd1.s;refine zG λR2 hR2=>?_;refine⟨_,rfl,_,rfl,dk,most,_,rfl,00,00,00,d1,λL n2 ps2 G2 hw2 n21 n2m few2 rng2 up2 d2 k2=>?_⟩;obtain⟨sd2,u2,x2⟩:=sd1.Z2a d1 k2 nd1 nd2;have e12:G2 st=some (.dK (ZS wa lo ol)):=k2 _ _ e1 (Z32 v);have fl2:Xw K G2 lo A:=u2.tup _ _ fl;refine⟨_,rfl,st,_,rfl,vK e12,?_⟩;obtain⟨D3,u3,k3⟩:=sd2.h.st (kv':=ZS L lo ol) e12;have d3:=d2.kp k3 v;have x3:Kx [d,st,dk] H (upd G2 st (.dK (ZS L lo ol))):=x1.trans (x2.trans (k3.kx 05));have u03:=u1.trans (u2.trans u3);have fl3:=u3.tup _ _ fl2;have hw3:=hw2.ku u3;have e13:upd G2 st (.dK (ZS L lo ol)) st=some (.dK (ZS L lo ol)):=zB;obtain⟨N2,rfl⟩:∃ N:Nat,n2=(N:Int):=⟨n2.toNat,00⟩;have ok3:OkL ((N2:Int),ps2):=⟨n21,by show (N2:Int)<=12;lia,by show ps2.length<=60;lia,up2,rng2⟩;generalize upd G2 st (.dK (ZS L lo ol))=G3 at D3 u3 k3 d3 x3 u03 fl3 hw3 e13;show R2 [_,_,_,_,_] _;subst hR2;refine zG λR3 hR3=>?_;have fin:∀ (G:Hp) (r:Addr) (n':Nat) (ps':LI) (B':Nat),X0 K C Cd tb zU G d p pd lp n ps Ws A->G st=some (.dK (ZS r lo ol))->ZC K G r (n':Int) ps'->OkL ((n':Int),ps')->Xw K G lo A->zO G dk B'->B'<=B+650->Kx [d,st,dk] H G->KU H G->R3 [some (.ref d),some (.ref dk),some (.ref st),some (.int most),none] G:=by
    intro G r n' ps' B' D eS hW R fA dG hB' xG uG;rw[hR3];refine⟨Z15 _,λi G4 s4 m4 e4=>⟨_,rfl,st,_,rfl,z7z (s4 _ _ eS),?_⟩⟩;obtain⟨D5,Y,k5⟩:=(D.same s4).st (kv':=ZS r lo i) (s4 _ _ eS);have d5:=(dG.same s4).kp k5 v;have nol:i≠st:=Z32 (zh eS m4);have e5:=k5 _ _ e4 nol;have f5:Xw K _ lo A:=Y.tup _ _ (s4 _ _ fA);have w5:=(hW.same s4).ku Y;have y:upd G4 st (.dK (ZS r lo i)) st=some (.dK (ZS r lo i)):=zB;have x5:Kx [d,st,dk] H (upd G4 st (.dK (ZS r lo i))):=xG.trans (s4.kx.trans (k5.kx 05));have u05:=uG.trans (s4.ku.trans Y);have hol:H i=none:=fresh xG (let ⟨dx,e⟩:=D.h.o;⟨_,e⟩) ⟨_,eS⟩ (let ⟨_,e⟩:=dG.lst;⟨_,e⟩) m4;generalize upd G4 st (.dK (ZS r lo i))=G5 at D5 Y k5 d5 e5 f5 w5 y x5 u05;obtain⟨dx5,M⟩:=id D5.h.o;have zw:(Str.ofString "web ").cps.size=4:=03;have h1':=R.n1;have h2':=R.n12;change 1<=(n':Int) at h1';change (n':Int)<=12 at h2';refine⟨_,rfl,d,dx5,_,rfl,M,DkO.no (Cd:=Cd) 03,?_⟩;refine⟨_,rfl,dgc (Yg y) ⟨r,(n':Int),ps',rfl,w5,00,00,R.few,R.rng,λG7 O=>⟨_,_,rfl,rfl,(by rw[yS,yS,zw,sizeLine_eq];have:=z0N (ps:=ps') (n:=(n':Int)) R;lia),?_⟩⟩⟩;refine ZZ ?_;show yp P w K mg base 16 fz C Cd Xl Xt Xm [.ref d,.str (Str.ofString "web " ++ Pw.wbT (n':Int) ps')] _ _ _;refine z8j (D5.same O) R λp' pd' G6 mp J D6 U Z=>⟨rfl,?_⟩;show Q (.bl (decide (V.str vg=V.str (Str.ofString "ok")))) G6;rw[decide_eq_true (show V.str vg=V.str (Str.ofString "ok") from rfl)];have I:∀ {b:Addr}{o:HO},G7 b=some o->(∀ C dx fs,o≠.ins C dx fs)->b≠d:=λ{b o} q n z=>(by rw[z,O _ _ M] at q;cases q;exact n _ _ _ rfl);have ex5:∀ {b:Addr},G7 b=none->H b=none:=λX=>fresh (x5.trans O.kx) ⟨_,O _ _ M⟩ ⟨_,O _ _ y⟩ (let ⟨_,e⟩:=d5.lst;⟨_,O _ _ e⟩) X;obtain⟨zz,l5⟩:=d5.lst;have st7:=O _ _ y;have e7:=O _ _ e5;exact k p' pd' lp i n' ps' A G6 ⟨D6,⟨r,lo,[],U _ _ st7 (I st7 λ_ _ _ z=>by cases z),(w5.same O).ku Z,Z.tup _ _ (O _ _ f5),U _ _ e7 (I e7 λ_ _ _ z=>by cases z),UJ.nil⟩,sd.a3,λz=>by rw[z,e7] at J;cases J⟩ (((d5.same O).kp U (I (O _ _ l5) λ_ _ _ z=>by cases z)).up 00) (x5.trans (O.kx.trans (U.kx 05))) (u05.trans (O.ku.trans Z)) (ex5 mp) (ex5 J) hol
   refine 028;by_cases c12:most=12
   case neg=>exact ZF (decide_eq_false λz=>c12 (by injection z)) (ZF rfl (fin G3 L N2 ps2 _ D3 e13 hw3 ok3 fl3 d3 00 x3 u03))
   refine Zy (decide_eq_true (by rw[c12])) ?_;refine tkc rfl 01 01 00 d3 λj G4 j0 j1 d4 k4=>⟨rfl,_,rfl,?_⟩;have mv:∀ {G G':Hp}{Bb r:_},X0 K C Cd tb zU G d p pd lp n ps Ws A->G st=some (.dK (ZS r lo ol))->Xw K G lo A->zO G dk Bb->Kp dk G G'->(X0 K C Cd tb zU G' d p pd lp n ps Ws A/\G' st=some (.dK (ZS r lo ol))/\Xw K G' lo A/\KU G G'/\Kx [d,st,dk] G G'):=λ{G G' Bb r} D e f dG kG=>by
    obtain⟨zs,el⟩:=dG.lst;have u:KU G G':=kG.ku (.inl ⟨_,el⟩);obtain⟨dx,ed⟩:=id D.h.o;obtain⟨now,us,⟨⟨dl,hl⟩,hpd⟩,_⟩:=id D.h.s.l;have m:∀ {b:Addr}{o:HO},G b=some o->(∀ xs,o≠.lst xs)->b≠dk:=λ{b o} q n z=>(by rw[z,el] at q;cases q;exact n _ rfl);have kx:Kx [dk] G G':=kG.kx 05;exact⟨⟨⟨⟨dx,kG _ _ ed (m ed λ_ z=>by cases z)⟩,{ D.h.s with l:=D.h.s.l.kx kx u (λz=>m hl 017 (Z01.mp z)) (λz=>nd1 (Z01.mp z).symm),fA:=u.tup _ _ D.h.s.fA },D.h.t.kp kG el⟩,D.up,D.old⟩,kG _ _ e (Z32 v),u.tup _ _ f,u,kG.kx 05⟩
   obtain⟨D4,e14,fl4,u4,x4⟩:=mv D3 e13 fl3 d3 k4;by_cases cj:j=0
   case neg=>exact ZF (decide_eq_false λz=>cj (by injection z)) (fin G4 L N2 ps2 _ D4 e14 (hw3.ku u4) ok3 fl4 d4 00 (x3.trans x4) (u03.trans u4))
   refine Zy (decide_eq_true (by rw[cj])) ?_;refine⟨_,rfl,dk,_,rfl,00,d4,λa n4 ps4 G5 hw5 ok5 d5 k5=>?_⟩;obtain⟨D5,e15,fl5,Y,x5⟩:=mv D4 e14 fl4 d4 k5;refine⟨_,rfl,st,_,rfl,vK e15,?_⟩;obtain⟨D6,Z,U⟩:=D5.st (kv':=ZS a lo ol) e15;obtain⟨N4,rfl⟩:∃ N:Nat,n4=(N:Int):=⟨n4.toNat,by have:=ok5.n1;change 1<=n4 at this;lia⟩;exact fin _ a N4 ps4 _ D6 zB (hw5.ku Z) ok5 (Z.tup _ _ fl5) (d5.kp U v) 00 (x3.trans (x4.trans (x5.trans (U.kx 05)))) (u03.trans (u4.trans (Y.trans Z)))
open L2
noncomputable def VF(K:FR)(tb:Addr):Sp:=λvs H Q _=>∃ (a:Addr) (ns:List Int),vs=[.ref a]/\zN K H a (ns.map V.int)/\ns.length<=63/\Tab tb zU Yl H/\∀ H',Q (.bl true) H'
def Z3S:zE ["script","desks","states","heads","passed","k","deck","at","state","words","due","most","head","one","other","told"] ["script"] (zo Uj):=fs
def Z3C{mg:SV}(F:vc K "law" "law" Uj f fd)(T:Txt mg)(DT:DkT K Cd)(zstr:mg "str"=none)(zmin:mg "min"=none)(an:∀ h:Hd,AnX P w K mg base fz Xl h.tx h.nr (h.sp K C Xl tb zU))(z1:fz (Str.ofString "leap")=none)(z2:fz (Str.ofString "web")=none)(z3:fz (Str.ofString "Show")=none)(Mk:MkD P w K mg base Yn 3 Cd "Desk" ["self"] (z0y K C Cd))(Dk:Def P w K mg base 1 "_law_deck" ["cell","k"] z2s)(Tk:Def P w K mg base 1 "_law_take" ["deck","many"] yo)(Bd:Def P w K mg base 2 "_law_bad" ["deck"] (z7F K))(Sa:Def P w K mg base 19 "_law_said" ["desk","words"] (Ja P w K mg base fz C Cd Xl Xt Xm))(Bg:Def P w K mg base 19 "_law_begun" ["desk","deck","state","most"] (z4z K C Cd tb zU))(Wo:Def P w K mg base 1 "_law_words" ["head","one","other"] uB)(Du:Def P w K mg base 16 "_law_due" ["state","head","one","other"] (z7t K tb zU)):Zu P w K mg base Yn 20 f fd ["script"] (VF K tb):=by
 refine F.yh Z3S λnd cdv A' outer s H vs Q E hr h=>?_;obtain⟨a,ns,rfl,hS,hlen,tab,k⟩:=h;refine⟨_,(qc (qs 1 (ql (qa ⟨jF 02 01 Mk 029 XI⟩ (qa ⟨jF 02 01 Mk 029 XI⟩ qn)))) (qc (qI 2 (zo Uj) ["k"] [none] (qR T.range (qa qi qn)) trivial (λ_ _ _ _ _ _=>(qg 0)) (λ_ _ _ _ _=>qV) (λ_ _ _ _ _=>⟨@Z0G _ _ _ _ _ (@V3 _ _ _ _ _ _ _ _ _ zK (@Zx _ _ _ _ _ (@ze _ _ _ _ _ 02 zI (@ze _ _ _ _ _ 02 (@Zx _ _ _ _ _ zF) zF))) (@V3 _ _ _ _ _ _ _ _ _ zK (@Zx _ _ _ _ _ (@ze _ _ _ _ _ 02 zI (@ze _ _ _ _ _ 02 zI zF))) (@V3 _ _ _ _ _ _ _ _ _ zK (@QE _ _ _ _ zF) Z0S))) rfl rfl 05 01⟩)) (qc (qs 3 (ql (qa qw (qa qw (qa qw (qa qw (qa qw (qa qw (qa qw (qa qw (qa qw (qa qw (qa qw qn))))))))))))) (qc (qs 4 qi) (qc (qF ⟨z4R rfl T.range (@ze _ _ _ _ _ 02 zI (@ze _ _ _ _ _ 02 (ZQ (vA rfl) 02 zmin boot_min (@ze _ _ _ _ _ 02 (ZQ zY 02 T.len Z38 (@ze _ _ _ _ _ 02 (pv 0) zF)) (@ze _ _ _ _ _ 02 zI zF))) zF))⟩ (qg 5) (qc (qs 6 (qd Dk (qa (qx (ZI (K:=K) rfl) (qv 0) (qv 5)) (qa (qo ZA qi (qv 5)) qn)))) (qc (qs 7 (qY YI T.int boot_int (qa (qe Ze (qd Tk (qa (qv 6) (qa qi qn))) qi) qn))) (qc (qs 8 (qx (ZI (K:=K) rfl) (qv 2) (qv 7))) (qc (qf (qk Ze (qd Tk (qa (qv 6) (qa qi qn))) qi) (qc ⟨vE (Z0 02 02 02 01 Bd 029 (@ze _ _ _ _ _ 02 (pv 6) zF)) (uC (n:=2) rfl (Za (z7 (i:=9) nd rfl 018) (Za (z7 (i:=10) nd rfl 018) yC)))⟩ (q1 (qf (qk Qy (qd Sa (qa (qx (ZI (K:=K) rfl) (qv 1) (qv 7)) (qa (qv 9) qn))) (qv 10)) (q1 (qr qb)) q0))) q0) (qc (qf (qW (qO (qk Ze (qv 5) qi) (qP (qk Ze (qd Tk (qa (qv 6) (qa qi qn))) qi)))) (qc (qs 11 (qx (ZI (K:=K) rfl) (ql (qa qi (qa qi qn))) (qY YI T.int boot_int (qa (q4 (qe Ze (qv 5) qi) (q6 (qe Ze (qd Tk (qa (qv 6) (qa qi qn))) qi))) qn)))) (q1 (qf (qT (qp (qd Bg (qa (qx (ZI (K:=K) rfl) (qv 1) (qv 7)) (qa (qv 6) (qa (qv 8) (qa (qv 11) qn))))))) (q1 (qr qb)) q0))) q0) (qc (qs 12 (qx (ZI (K:=K) rfl) (qv 3) (qd Tk (qa (qv 6) (qa qi qn))))) (qc (qs 4 (qo ZA (qv 4) (qY YI T.int boot_int (qa (qe Ze (qv 12) qw) qn)))) (qc (qf (qW (qA (qk Ze (qv 12) qw) (qB (qW (qO (qk z1e (qv 4) qi) (qP (qk z1e (qy zY T.len Z38 (qa (qx (VD (K:=K) rfl) ⟨Zl (Zv hr) (pv 8) zK 024⟩ qi) qn)) qi))))))) (q1 (qs 12 qw)) q0) (qc ⟨vE (ZR ["j","deck","state"] [none,some 6,some 8] rfl (vN rfl T.range (@ze _ _ _ _ _ 02 zI zF)) (by show ∀ y:Str×NameKind,y∈_->y.2=NameKind.free->(zo Uj).names.lookup y.1=some .cell;decide +kernel) 01 rfl 03 ⟨016,016,trivial⟩ (λcl C s H fp=>(z7 (i:=0) (show (["j","deck","state"]:List Str).Nodup by decide +kernel) rfl 018 (.inr rfl))) (λcl C s H fp=>ym) (λcl C s H fp=>(Z0 02 02 02 01 Tk 029 (@ze _ _ _ _ _ 02 (pv 1) (@ze _ _ _ _ _ 02 (Zr ZA (Zt (VD (K:=K) rfl) (Zl (Zv hr) (pv 2) zK 024) zI 024) (yf YI 02 T.int boot_int (@ze _ _ _ _ _ 02 (z4w Ze (Z0 02 02 02 01 Tk 029 (@ze _ _ _ _ _ 02 (pv 1) (@ze _ _ _ _ _ 02 zI zF))) zI (Yc _)) zF))) zF))))) (Z3E (n:=2) rfl (Za (z7 (i:=13) nd rfl 018) (Za (z7 (i:=14) nd rfl 018) yC)))⟩ (qc (qs 15 (qd Sa (qa (qx (ZI (K:=K) rfl) (qv 1) (qv 7)) (qa (qd Wo (qa (qv 12) (qa (qv 13) (qa (qv 14) qn)))) qn)))) (q1 (qf (qk Qy (qv 15) (qd Du (qa (qv 8) (qa (qv 12) (qa (qv 13) (qa (qv 14) qn)))))) (q1 (qr qb)) q0))))))))))))) (qc (qF (qR T.range (qa qi qn)) (qg 7) (q1 (qF (qL (ql (qa qw (qa qw (qa qw (qa qw (qa qw (qa qw qn)))))))) (qg 12) (qc (qs 15 (qd Sa (qa (qx (ZI (K:=K) rfl) (qv 1) (qv 7)) (qa (qd Wo (qa (qv 12) (qa qi (qa qi qn)))) qn)))) (q1 (qf (qk Qy (qv 15) (qd Du (qa (qx (ZI (K:=K) rfl) (qv 2) (qv 7)) (qa (qv 12) (qa qi (qa qi qn)))))) (q1 (qr qb)) q0)))))) (q1 (qr qb)))))))),?_⟩;refine Uq λU hU=>?_;refine zG λRR r=>?_;intro d0 dx0 hd0 hdx0 ne0;refine⟨d0,dx0,rfl,zB,λp0 q0 l0 G1 mp0 mq0 o0 v0 f0 k0=>⟨rfl,?_⟩⟩;have t1:=z4d (o1:=.own d0) (o2:=.ins Cd dx0 []) hd0 hdx0;have s1:zC H G1:=λb o e=>k0 b o (t1 b o e) (zh e hd0);have h0:Ds K C Cd tb zU G1 d0 p0 q0 l0 1 [] [] (1,2):=⟨o0,⟨v0,01,01,01,(λq M=>by cases M),f0,⟨01,01⟩,01,01,⟨yk 41 01,yk 41 01⟩⟩,tab.same s1⟩;intro I dx1 hd1 hdx1 ne1;refine⟨I,dx1,rfl,zB,λp1 q1 l1 G2 mp1 mq1 o1 v1 f1 k1=>⟨rfl,?_⟩⟩;have t2:=z4d (o1:=.own I) (o2:=.ins Cd dx1 []) hd1 hdx1;have s2:zC G1 G2:=λb o e=>k1 b o (t2 b o e) (zh e hd1);have s12:=s1.trans s2;have h1:Ds K C Cd tb zU G2 I p1 q1 l1 1 [] [] (1,2):=⟨o1,⟨v1,01,01,01,(λq M=>by cases M),f1,⟨01,01⟩,01,01,⟨yk 41 01,yk 41 01⟩⟩,tab.same s12⟩;refine⟨zl2,λLD G3 s3 m3 e3=>?_⟩;have h03:=(h0.same s2).same s3;have h13:=h1.same s3;have tab3:=h03.t;have a1:=t1.free mp0;have a2:=t1.free mq0;have b1:=t2.free mp1;have b2:=t2.free mq1;have a3:d0≠I:=by obtain⟨_,e⟩:=o0;exact zh e hd1
 have a4:p0≠p1:=by obtain⟨_,_,⟨⟨_,e⟩,_⟩,_⟩:=id v0;exact zh e b1
 have a5:q0≠q1:=by obtain⟨_,_,⟨_,e⟩,_⟩:=id v0;exact zh e b2
 have x3:zC H G3:=s12.trans s3;have a6:LD≠q0/\LD≠q1:=by
  obtain⟨_,_,⟨_,e⟩,_⟩:=id (h0.same s2).s.l;obtain⟨_,_,⟨_,e'⟩,_⟩:=id v1;exact⟨(zh e m3).symm,(zh e' m3).symm⟩
 have g0:H I=none/\H p1=none/\H q1=none:=⟨s1.free hd1,s1.free b1,s1.free b2⟩;show RR [_,_,_,_,_,_,_,_,_,_,_,_,_,_,_,_] _;subst r;clear t1 t2 mp0 mq0 mp1 mq1 k0 k1 hdx0 hdx1 ne0 ne1 b1 b2 h0 h1 v0 v1 o0 o1 f0 f1 s1 s12 s2 s3 m3;refine zG λRR r=>?_;refine⟨2,rfl,01,01,λLS L=>?_⟩;have x4:zC G3 (upd G3 LS (.lst [])):=zC.new L;generalize hG4:upd G3 LS (.lst [])=G4 at x4;have X:G4 LS=some (.lst []):=by rw[← hG4];exact zB
 clear hG4;refine Qh (lo:=0) (n:=2) (D:=LS) (λj ys σ G=>(Kp LS G4 G/\KU G4 G)/\G LS=some (.lst ys)/\(∃ x,σ=[x])/\z9C K G4 G j ys) ?_ ?_ ?_ ?_;exact⟨⟨λb o e _=>e,KU.refl _⟩,X,⟨none,rfl⟩,.inl ⟨rfl,rfl⟩⟩;rintro j ys σ G ⟨_,e,_⟩;exact e
 · rintro j ys σ G hj ⟨⟨kG,uG⟩,eL,⟨x,rfl⟩,fy⟩
   dsimp only [Zo];rw[if_pos rfl];intro st hst;refine⟨Z15 _,λet Ga sa ma ea=>⟨zl2,λwa Gb sb mb eb=>⟨zl2,λla Gc sc mc ec=>⟨Z15 _,λol Gd sd md ed=>⟨?_,[(US,.ref wa),(UT,.ref la),(UL,.ref ol)],rfl,by show 3<=15;decide,?_⟩⟩⟩⟩⟩;exact sd _ _ (sc _ _ (sb _ _ (sa _ _ zB)))
   · rw[z6d]
     obtain⟨q1,q2,q3,q4⟩:=fy.next hj kG uG eL ⟨_,X⟩ hst (sa.trans (sb.trans (sc.trans sd))) (sd _ _ (sc _ _ (sb _ _ ea))) (sd _ _ (sc _ _ eb)) (sd _ _ ec) ((zC.new hst).free (sa.free (sb.free (sc.free md)))) ed;exact⟨q1,q2,Wt.next hj ⟨q3,zB,⟨_,rfl⟩,q4⟩⟩
 rintro ys σ G5 ⟨⟨k5,u5⟩,eL5,⟨x,rfl⟩,fy⟩;rcases fy with⟨z,_⟩|⟨z,_⟩|⟨_,s0,o0,s1,o1,rfl,N0,N1,ns,no⟩;cases z;cases z;show RR [_,_,_,_,_,_,_,_,_,_,_,_,_,_,_,_] _;subst r;refine zG λRR r=>?_
 refine⟨(by show 11<=sizeLine;decide),λLH G6 s6 m6 e6=>?_⟩;have O:Kp LS G3 G5:=(x4.kp).trans k5;have s56:zC G5 G6:=s6;have eLD:G5 LD=some (.lst [.ref d0,.ref I]):=O _ _ e3 (zh e3 L);have tabLS:LS≠tb:=tab3.free L;have lift:∀ {b:Addr}{o:HO},G3 b=some o->G6 b=some o:=λ{b o} e=>s6 _ _ (O _ _ e (zh e L));have s36:zC G3 G6:=λb o e=>lift e;have f4:∀ {b:Addr},G4 b=none->H b=none:=λe=>x3.free (x4.free e);have q3:∀ {b:Addr},G4 b=none->G3 b=none:=λe=>x4.free e;have nd:∀ {b c:Addr},(∃ o,G3 c=some o)->G4 b=none->c≠b:=λ⟨o,e⟩ n=>zh e (q3 n);have z0:∃ o,G3 q0=some o:=let ⟨_,_,⟨_,e⟩,_⟩:=h03.s.l;⟨_,e⟩;have Y:∃ o,G3 q1=some o:=let ⟨_,_,⟨_,e⟩,_⟩:=h13.s.l;⟨_,e⟩;have R0:Run K C Cd tb zU H G6 LD LS LH (f2 d0 I) (f2 p0 p1) (f2 q0 q1) (f2 l0 l1) (f2 s0 s1) (f2 o0 o1) (λ_=>1) (λ_=>[]) (λ_=>[]) (λ_=>(1,2)):=by
  obtain⟨⟨wa0,la0,us0,i1,i2,i3,i4,i5⟩,n01,S⟩:=id N0;obtain⟨⟨wa1,la1,us1,j1,j2,j3,j4,j5⟩,n11,n12⟩:=id N1;refine Run.start (h03.same s36) (h13.same s36) (N0.1.same s6) (N1.1.same s6) (x3.kx.trans s36.kx) (s6 _ _ eLD) (s6 _ _ eL5) e6 ⟨hd0,a1,a2,f4 n01,f4 S⟩ ⟨g0.1,g0.2.1,g0.2.2,f4 n11,f4 n12⟩ ⟨a3,a4,a5,ns,no⟩ ⟨nd z0 S,nd z0 n12,nd Y S,nd Y n12⟩ λb hb=>?_;have fr5:∃ o,G5 b=some o:=by
   simp only[Z08,Z3a,or_false] at hb;rcases hb with rfl | rfl | rfl | rfl;obtain⟨o,e⟩:=z0;exact⟨o,O _ _ e (zh e L)⟩;obtain⟨o,e⟩:=Y;exact⟨o,O _ _ e (zh e L)⟩;exact⟨_,i4⟩;exact⟨_,j4⟩
  refine⟨?_,?_,λz=>by obtain⟨o,e⟩:=fr5;rw[← z,m6] at e;cases e⟩;simp only[Z08,Z3a,or_false] at hb;rcases hb with rfl | rfl | rfl | rfl;exact a6.1;exact a6.2;exact nd ⟨_,e3⟩ S;exact nd ⟨_,e3⟩ n12;simp only[Z08,Z3a,or_false] at hb;rcases hb with rfl | rfl | rfl | rfl;obtain⟨o,e⟩:=z0;exact (zh e L).symm;obtain⟨o,e⟩:=Y;exact (zh e L).symm;exact zh X S;exact zh X n12
 obtain⟨d,p,pd,lp,st,ol,n,ps,Ws,A,R,J⟩:∃ d p pd lp st ol n ps Ws A,Run K C Cd tb zU H G6 LD LS LH d p pd lp st ol n ps Ws A/\∀ i,i<2->(Ws i).length<=0:=⟨_,_,_,_,_,_,_,_,_,_,R0,λ_ _=>Z02 0⟩;show RR [_,_,_,_,_,_,_,_,_,_,_,_,_,_,_,_] _;subst r;clear R0 h03 h13 tab3 a1 a2 a3 a4 a5 a6 x3 g0 x4 X k5 u5 eL5 N0 N1 ns no O s56 eLD tabLS lift s36 f4 q3 nd z0 Y e6 m6 s6 e3 L hd0 hd1;refine zG λRR r=>?_;show RR [_,_,_,_,_,_,_,_,_,_,_,_,_,_,_,_] _;subst r;subst hU;refine zG λRR r=>?_;have sc:∀ {G:Hp},Kx [tb] H G->zN K G a (ns.map V.int):=λkx=>hS.kx kx λo e n z=>tab.ne e n (Z01.mp z);refine⟨_,rfl,a,_,rfl,.inl (sc R.x),_,_,rfl,1,_,rfl,⟨01,01,?_,?_⟩,?_⟩;show -(2 ^ 62)<=(if (41:Int)<((ns.map V.int).length:Int) then (41:Int) else ((ns.map V.int).length:Int));split <;> lia;show (if (41:Int)<((ns.map V.int).length:Int) then (41:Int) else ((ns.map V.int).length:Int))<2 ^ 62;split <;> lia;refine YE (lo:=1) (z6T K C Cd tb zU H a LD LS LH d st) ?_ ?_ ?_;exact z6T.of R J
 · clear R J p pd lp ol n ps Ws A r
   rintro j σ G hj ⟨p,pd,lp,ol,n,ps,Ws,A,v,R,J,vv,rfl⟩;have hj':j<40/\1+j<ns.length:=by
    rw[ZB] at hj;split at hj <;> lia
   obtain⟨hj4,hjn⟩:=hj';clear hj;refine z0C λDD N=>?_;have hnx:=congrArg Ends.nx N;clear N;refine Uq λU hU=>?_;refine zG λRR r=>?_;refine⟨_,rfl,_,rfl,J0 (v:=.int (ns[1+j])) (sc R.x) (by rw[show (1+(j:Int))=((1+j:Nat):Int) by lia];exact Zi (by rw[Z17,Z03 hjn];rfl)) ⟨_,rfl,_,_,rfl,rfl,?_⟩⟩;refine ZZ ?_;refine⟨_,4+j,by rw[show ((4+j:Nat):Int)=3+(1+(j:Int)) by lia];rfl,λdk G1 s1 m1 I=>?_⟩;obtain⟨zs1,e1⟩:=I.lst;obtain⟨R1,B1⟩:=R.bes s1 m1 e1;show RR [_,_,_,_,_,_,_,_,_,_,_,_,_,_,_,_] _;subst r;clear R s1 m1 e1;refine zG λRR r=>?_;refine tkc rfl 01 01 00 I λy2 G2 y20 y21 d2 k2=>⟨rfl,.inr ⟨_,rfl,?_⟩⟩;obtain⟨R2,zs2,B2⟩:=R1.draw B1 d2 k2;obtain⟨i,hi,ei⟩:∃ i:Nat,i<2/\(if decide (V.int y2=V.int 0)=true then (1:Int) else 0)=(i:Int):=by
    split;exact⟨1,01,rfl⟩;exact⟨0,01,rfl⟩
   rw[ei];show RR [_,_,_,_,_,_,_,_,_,_,_,_,_,_,_,_] _;subst r;clear R1 B1 I k2 ei y20 y21;refine zG λRR r=>?_;refine⟨_,rfl,_,rfl,J0 (zN.of R2.T.ls) (at2 hi) ?_⟩;show RR [_,_,_,_,_,_,_,_,_,_,_,_,_,_,_,_] _;subst r;refine zG λR4 hR4=>?_
   suffices fin4:∀ (G:Hp) (B:Nat) (zs:List V) (w9 wa:Option V),Run K C Cd tb zU H G LD LS LH d p pd lp st ol n ps Ws A->Vu H G LD LS LH pd ol dk zs->zO G dk B->B<=200->R4 [some 027,some (.ref LD),some (.ref LS),some (.ref LH),some (.int v),some (.int (1+(j:Int))),some (.ref dk),some (.int (i:Int)),some (.ref (st i)),w9,wa,vv 11,vv 12,vv 13,vv 14,vv 15] G by
    clear hR4;refine tk0 rfl 01 01 00 d2 λy3 G3 y30 y31 d3 k3=>if2 (λ_=>?_) (λ_=>?_);obtain⟨R3,zs3,B3⟩:=R2.draw B2 d3 k3;refine zG λR5 hR5=>?_;refine⟨_,rfl,dk,_,rfl,00,d3,λq t due G4 bw eq d4 k4=>⟨q,_,rfl,zR.of eq,rfl,?_⟩⟩;obtain⟨R4',zs4,B4⟩:=R3.draw B3 d4 k4;refine⟨_,_,rfl,_,_,rfl,rfl,?_⟩;show R5 [_,_,_,_,_,_,_,_,_,_,_,_,_,_,_,_] _;subst hR5;refine⟨_,rfl,_,rfl,J0 (zN.of R4'.T.ld) (at2 hi) ⟨_,rfl,?_⟩⟩;refine ZZ ?_;refine R4'.Z5S hi an z1 z2 z3 bw λG5 s5=>⟨_,rfl,rfl,_,rfl,ZF 05 ?_⟩;exact fin4 _ _ _ _ _ (R4'.same s5) (B4.same s5) (d4.same s5) 00;obtain⟨R3,zs3,B3⟩:=R2.draw B2 d3 k3;exact fin4 _ _ _ _ _ R3 B3 d3 00
   clear R2 B2 d2;intro G3 B zs w9 wa R B1 I hB;subst hR4;subst hU;refine Uq λU hU=>?_;refine zG λR5 hR5=>?_
   suffices fin5:∀ (G:Hp) (p pd lp ol:Nat->Addr) (n:Nat->Nat) (ps:Nat->LI) (Ws:Nat->List Wb) (A:Nat->Int×Int) (B:Nat) (zs:List V) (wb:Option V),Run K C Cd tb zU H G LD LS LH d p pd lp st ol n ps Ws A->Vu H G LD LS LH pd ol dk zs->(∀ i,i<2->(Ws i).length<=j)->zO G dk B->B<=1000->R5 [some 027,some (.ref LD),some (.ref LS),some (.ref LH),some (.int v),some (.int (1+(j:Int))),some (.ref dk),some (.int (i:Int)),some (.ref (st i)),w9,wa,wb,vv 12,vv 13,vv 14,vv 15] G by
    clear hR5;refine Z3i (λG=>∃ B zs,Run K C Cd tb zU H G LD LS LH d p pd lp st ol n ps Ws A/\Vu H G LD LS LH pd ol dk zs/\zO G dk B/\B<=201) (λG=>∃ B zs,Run K C Cd tb zU H G LD LS LH d p pd lp st ol n ps Ws A/\Vu H G LD LS LH pd ol dk zs/\zO G dk B/\B<=201) (λT U hT hU=>?_) ?_ ?_;refine⟨_,rfl,rfl,_,rfl,if2 (λ_=>Zy rfl (hT _ ⟨_,_,R,B1,I,00⟩)) (λ_=>tk0 rfl 01 01 00 I λy3 G4 y30 y31 d4 k4=>?_)⟩;obtain⟨R4,zs4,B4⟩:=R.draw B1 d4 k4;exact if2 (λ_=>hT _ ⟨_,_,R4,B4,d4,00⟩) (λ_=>hU _ ⟨_,_,R4,B4,d4,00⟩);clear R B1 I hB B zs;rintro G4 ⟨B,zs,R,B1,I,hB⟩;refine zG λR6 hR6=>?_
    suffices fin6:∀ (most:Int) (G:Hp) (B:Nat) (zs:List V),1<=most->most<=12->Run K C Cd tb zU H G LD LS LH d p pd lp st ol n ps Ws A->Vu H G LD LS LH pd ol dk zs->zO G dk B->B<=205->R6 [some 027,some (.ref LD),some (.ref LS),some (.ref LH),some (.int v),some (.int (1+(j:Int))),some (.ref dk),some (.int (i:Int)),some (.ref (st i)),w9,wa,some (.int most),vv 12,vv 13,vv 14,vv 15] G by
     clear hR6;refine⟨zl2,λl2 G5 s5 m5 e5=>⟨_,rfl,rfl,_,rfl,if2 (λ_=>tkc rfl 01 01 00 (I.same s5) λy4 G6 y40 y41 d6 k6=>⟨rfl,.inr ⟨_,rfl,?_⟩⟩) (λ_=>.inr ⟨_,rfl,?_⟩)⟩⟩;obtain⟨R6',zs6,B6⟩:=(R.same s5).draw (B1.same s5) d6 k6;have e6:=k6 _ _ e5 (zh B1.e m5).symm;by_cases c:y4=3;subst c;exact J0 (v:=V.int 12) (zN.of e6) rfl (fin6 12 _ _ _ 01 01 R6' B6 d6 00);rw[decide_eq_false (show ¬ V.int y4=V.int 3 from λz=>c (by injection z))];exact J0 (v:=V.int 6) (zN.of e6) rfl (fin6 6 _ _ _ 01 01 R6' B6 d6 00);exact J0 (v:=V.int 6) (zN.of e5) rfl (fin6 6 _ _ _ 01 01 (R.same s5) (B1.same s5) (I.same s5) 00)
    clear R B1 I hB B zs;intro most G B zs h1 h12 R B1 I hB;subst hR6;refine⟨_,rfl,_,rfl,J0 (zN.of R.T.ld) (at2 hi) ⟨_,rfl,_,rfl,_,rfl,?_⟩⟩;refine ZZ ?_;refine⟨d i,dk,st i,p i,pd i,lp i,ol i,B,n i,ps i,Ws i,A i,most,rfl,h1,h12,00,R.T.sd i hi,I,(B1.nk i hi).1,(B1.nk i hi).2,λp' pd' lp' ol' n' ps' A' G7 sd' d7 x7 u7 mp mpd mol=>⟨_,rfl,ZF rfl ?_⟩⟩;obtain⟨zs7,e7⟩:=d7.lst;obtain⟨R7,B7⟩:=R.to B1 hi (x7.sub 05) u7 e7 sd' (.inr mp) (.inr mpd) (.inr mol);exact fin5 _ _ _ _ _ _ _ _ _ _ _ _ R7 B7 (λt ht=>by
     by_cases c:t=i;subst c;rw[ZW];exact Z15 _;rw[yq _ _ c];exact J t ht) d7 00
    clear R B1 I hB B zs;rintro G4 ⟨B,zs,R,B1,I,hB⟩;exact fin5 _ _ _ _ _ _ _ _ _ _ _ _ R B1 J I 00
   clear R B1 I hB B zs J p pd lp ol n ps Ws A;intro G p pd lp ol n ps Ws A B zs wb R B1 J I hB;subst hR5;refine zG λRR r=>?_;refine⟨_,rfl,tkc rfl 01 01 00 I λy5 G4 y50 y51 d4 k4=>?_⟩;obtain⟨R4,zs4,B4⟩:=R.draw B1 d4 k4;obtain⟨h,eh⟩:=Z4k y50 y51;refine J0 (zN.of R4.T.lh) eh ?_;show RR [_,_,_,_,_,_,_,_,_,_,_,_,_,_,_,_] _;subst r;clear R B1 I k4 eh y50 y51;refine zG λRR r=>?_;refine⟨_,rfl,_,rfl,rfl,.inr ⟨_,rfl,_,_,rfl,rfl,?_⟩⟩;obtain⟨v',ev⟩:∃ v':Int,v'=v+(if decide (V.str h.tx=V.str (Str.ofString "pass"))=true then 1 else 0):=⟨_,rfl⟩;show RR [_,_,_,_,some (.int (v+(if decide (V.str h.tx=V.str (Str.ofString "pass"))=true then 1 else 0))),_,_,_,_,_,_,_,_,_,_,_] _;rw[← ev];subst r;clear ev;refine zG λR8 hR8=>?_
   suffices fin8:∀ h:Hd,(h=.pass->(ps i).length<=54)->R8 [some 027,some (.ref LD),some (.ref LS),some (.ref LH),some (.int v'),some (.int (1+(j:Int))),some (.ref dk),some (.int (i:Int)),some (.ref (st i)),w9,wa,wb,some (.str h.tx),vv 13,vv 14,vv 15] G4 by
    clear hR8;obtain⟨wa',la',us',e1,⟨t,us,hw1,hw2,hpr⟩,_⟩:=(R4.T.sd i hi).s;refine⟨_,rfl,rfl,_,rfl,if2 (λ_=>⟨_,rfl,_,_,rfl,rfl,_,rfl,if2 (λ_=>Zy rfl (fin8 .show nofun)) (λ_=>⟨_,rfl,st i,_,rfl,Yg e1,Zw (zR.of hw1) rfl ⟨t,us,rfl,.inr (zR.of hw2),_,_,rfl,rfl,_,rfl,if2 (λ_=>fin8 .show nofun) (λc=>fin8 h λ_=>?_)⟩⟩)⟩) (λc=>ZF rfl (fin8 h λz=>?_))⟩;have:=of_decide_eq_false c;have l:=hpr.len;change us.length=(ps i).length at l;lia;subst z;exact absurd c 03
   clear h;intro h hp;subst hR8;subst hU;refine zG λR9 hR9=>?_
   suffices fin9:∀ (x y:Nat) (G:Hp) (zs:List V),x<100->y<100->Run K C Cd tb zU H G LD LS LH d p pd lp st ol n ps Ws A->Vu H G LD LS LH pd ol dk zs->R9 [some 027,some (.ref LD),some (.ref LS),some (.ref LH),some (.int v'),some (.int (1+(j:Int))),some (.ref dk),some (.int (i:Int)),some (.ref (st i)),w9,wa,wb,some (.str h.tx),some (.int (x:Int)),some (.int (y:Int)),vv 15] G by
    clear hR9;refine⟨2,rfl,01,01,λLQ Z=>?_⟩;obtain⟨RQ,BQ⟩:=R4.bes (zC.new Z) Z (zs:=[]) zB;have nq:dk≠LQ:=zh B4.e Z;have BD:=B4.same (zC.new (o:=.lst []) Z);have dD:=d4.same (zC.new (o:=.lst []) Z);refine Qh (lo:=0) (n:=2) (D:=LQ) (Z6n K C Cd tb zU H LD LS LH d p pd lp st ol n ps Ws A dk LQ (st i) B) ?_ ?_ ?_ ?_;exact⟨_,_,none,RQ,BD,dD,Z02 _,BQ,rfl,nofun,rfl⟩;rintro q ys σ G ⟨_,_,_,_,_,_,_,b,_⟩;exact b.e
    · rintro q ys σ G M ⟨B',zs,x,R,B1,I,hB',b,lq,hz,rfl⟩
      dsimp only [Zo];rw[if_pos rfl];obtain⟨wa',la',us',e1,⟨t,us,hw1,hw2,hpr⟩,_⟩:=(R.T.sd i hi).s;have n1:=(R.T.sd i hi).h.h.s.n1;have n12:=(R.T.sd i hi).h.h.s.n12;refine⟨_,rfl,dgv rfl (Yg e1) (Zw (zR.of hw1) rfl (tkc rfl 01 01 00 I λy6 G5 y60 y61 d5 k5=>⟨rfl,.inr ⟨_,rfl,_,_,rfl,rfl,?_⟩⟩))⟩;obtain⟨R5,zs5,B5⟩:=R.draw B1 d5 k5;have b5:=b.kp k5 nq.symm;obtain⟨m,em,m0,m13⟩:∃ m:Int,m=((n i:Nat):Int)+(if decide (V.int y6=V.int 0)=true then 1 else 0)/\0<m/\m<=13:=⟨_,rfl,by split <;> lia,by split <;> lia⟩;refine⟨dk,m,_,by rw[em];rfl,m0,00,00,d5,λy7 G6 y70 y71 d6 k6=>?_⟩;obtain⟨R6,zs6,B6⟩:=R5.draw B5 d6 k6;have b6:=b5.kp k6 nq.symm;have kq:Kp LQ G6 (upd G6 LQ (.lst (ys ++ [.int y7]))):=Kp.set;obtain⟨R7,b7⟩:=R6.wr b6 (zs':=ys ++ [.int y7]) zB kq;refine⟨b6.e,by rw[lq,sizeLine_eq];lia,Wt.next M ⟨_,_,_,R7,B6.kp kq nq,d6.kp kq nq,00,b7,by rw[Z10,lq];rfl,λu hu=>?_,rfl⟩⟩;rcases Z20.mp hu with z | z;exact hz u z;exact⟨y7.toNat,by rw[Z01.mp z];congr 1;lia,00⟩
    rintro ys σ G5 ⟨B',zs,x,R,B1,I,hB',b,lq,hz,rfl⟩;obtain⟨x,y,rfl,hx,hy⟩:=z6L lq hz;exact⟨LQ,_,rfl,zN.of b.e,rfl,_,_,rfl,_,_,rfl,rfl,fin9 x y G5 zs hx hy R B1⟩
   clear R4 B4 d4 zs4;intro x y G zs hx hy R B1;subst hR9;refine zG λRR r=>?_;have hz:(Ws i).length<=5000:=Z0Y (J i hi) 00;have hp':h=.pass->(ps i).length+6<=60:=λz=>by have:=hp z;lia
   refine⟨_,rfl,_,rfl,J0 (zN.of R.T.ld) (at2 hi) ⟨_,rfl,_,rfl,_,rfl,?_⟩⟩;refine ZZ ?_;refine⟨h,x,y,rfl,hx,hy,λG5 s5=>?_⟩;refine ZZ ?_;refine (R.same s5).told hi (an h) hz hx hy hp' λa' n' ps' Ws' G6 o D kx=>?_;show RR [_,_,_,_,_,_,_,_,_,_,_,_,_,_,_,_] _;subst r;refine⟨_,rfl,_,rfl,_,rfl,_,rfl,_,rfl,?_⟩;refine ZZ ?_;refine⟨st i,h,x,y,rfl,(R.same s5).due (B1.same s5) hi hz hp' o D kx λG7 hl R7 B7=>⟨rfl,_,rfl,ZF 05 ?_⟩⟩;exact Z1H hnx (z6T.of R7 λt ht=>by
    by_cases c:t=i;subst c;rw[ZW];have:=J t ht;lia;rw[yq _ _ c];have:=J t ht;lia)
 rintro σ G ⟨p,pd,lp,ol,n,ps,Ws,A,v,R,J,vv,rfl⟩;have hW':∀ i,i<2->(Ws i).length<=40:=λi hi=>Z0Y (J i hi) (by rw[ZB];split <;> lia);show RR _ _;subst r;clear J;refine zG λRR r=>?_;refine⟨2,rfl,01,01,?_⟩;refine YE (lo:=0) (z7v K C Cd tb zU H a LD LS LH d st) ?_ ?_ ?_;exact z7v.of R hW';clear R hW' p pd lp ol n ps Ws A r vv;rintro q σ G M ⟨p,pd,lp,ol,n,ps,Ws,A,R,J,vv,rfl⟩;refine⟨(by show 6<=sizeLine;decide),λLX G1 s1 m1 e1=>⟨LX,rfl,⟨_,zN.of e1⟩,?_⟩⟩;obtain⟨R1,B1⟩:=R.bes s1 m1 e1;refine Qx (xs:=hd6.map λh=>V.str h.tx) (LawC K C Cd tb zU H a LD LS LH LX d st q) ?_ ?_ ?_ ?_;exact LawC.of R1 B1 J;rintro e σ G _ ⟨_,_,_,_,_,_,_,_,_,b,_⟩;exact zN.of b.e;clear R R1 B1 J p pd lp ol n ps Ws A vv;rintro e x σ G hx ⟨p,pd,lp,ol,n,ps,Ws,A,R,B,J,vv,rfl⟩;have he:e<6:=(Z16.mp hx).1;obtain⟨h,rfl,hp⟩:=Z2A hx;refine z0C λDD N=>?_;have hnx:=congrArg Ends.nx N;clear N;refine zG λRR r=>?_;have hz:(Ws q).length<=5000:=Z0Y (J q M) 00;refine⟨_,rfl,_,rfl,J0 (zN.of R.T.ld) (by rw[Int.zero_add];exact at2 M) ⟨_,rfl,?_⟩⟩;refine⟨h,0,0,rfl,01,01,λG5 s5=>?_⟩;refine ZZ ?_;refine (R.same s5).told M (an h) hz 01 01 (λz=>absurd z hp) λa' n' ps' Ws' G6 o D kx=>?_;show RR [_,_,_,_,_,_,_,_,_,_,_,_,_,_,_,_] _;subst r;refine⟨_,rfl,_,rfl,_,rfl,J0 (zN.of ((R.same s5).ls M kx)) (by rw[Int.zero_add];exact at2 M) ⟨_,rfl,?_⟩⟩;refine⟨st q,h,0,0,rfl,(R.same s5).due (B.same s5) M hz (λz=>absurd z hp) o D kx λG7 hl R7 B7=>⟨rfl,_,rfl,ZF 05 ?_⟩⟩;exact Z1H hnx (LawC.of R7 B7 λt ht=>by
  by_cases c:t=q;subst c;rw[ZW];have:=J t ht;lia;rw[yq _ _ c];have:=J t ht;lia)
 rintro σ G ⟨p,pd,lp,ol,n,ps,Ws,A,R,B,J,vv,rfl⟩;exact z7v.of R λi hi=>Z0Y (J i hi) (by show 40+6 * q+6<=40+6 * (q+1);lia);rintro σ G ⟨p,pd,lp,ol,n,ps,Ws,A,R,_,vv,rfl⟩;show RR _ _;subst r;exact k _
open L2
def all_mk{l:PySem.W.OpenLaw}{w:World}{K:FR}{h:Heap}{mg:SV}{fa f91 :Addr}(XK:K.In h)(G:h.Ns mainGlobals mg)(hfa:mg "law"=some (.ref fa))
 {od an:Option Addr}{sl:Array (Option Value)}{oc kV dc pm cd ct:Value}
 (A6:FnAt K "is_whole" z2e)
 (A7:FnAt K "common" Xg)
 (A8:FnAt K "is_pair_of_wholes" z8U)
 (A9:FnAt K "is_fraction" Z3l)
 (A10:FnAt K "made" z4c)
 (A11:FnAt K "is_less" v5)
 (A12:FnAt K "shared_below" z1L)
 (A13:FnAt K "aboves" VT)
 (A15:FnAt K "cleared" QA)
 (A16:FnAt K "solved" QO)
 (A20:FnAt K "is_link" vF)
 (A21:FnAt K "are_rising" yU)
 (A22:FnAt K "are_links" Yv)
 (A23:FnAt K "is_web" uL)
 (A24:FnAt K "leads" uA)
 (A25:FnAt K "is_leap" z6V)
 (A26:FnAt K "even" z8k)
 (A28:FnAt K "parts" z2K)
 (A29:FnAt K "factor" Jb)
 (A30:FnAt K "equation" xY)
 (A31:FnAt K "visits" Ql)
 (A32:FnAt K "shares" VI)
 (A34:FnAt K "ranked" JE)
 (A37:FnAt K "with_link" z8x)
 (A38:FnAt K "without_link" ua)
 (A43:FnAt K "show_figures" Yh)
 (A44:FnAt K "show_number" YC)
 (A45:FnAt K "show_fraction" yM)
 (A46:FnAt K "show_web" xh)
 (A47:FnAt K "are_figures" yy)
 (A48:FnAt K "read_number" YB)
 (A49:FnAt K "read_pair" xJ)
 (A50:FnAt K "read_fraction" yO)
 (A51:FnAt K "read_web" Y7)
 (A53:FnAt K "choices" YJ)
 (A54:FnAt K "linked" uO)
 (A55:FnAt K "is_ahead" Qa)
 (A56:FnAt K "least_links" Yz)
 (A60:FnAt K "parted" Qu)
 (A61:FnAt K "check_page" YV)
 (A62:FnAt K "say_link" Qc)
 (A63:FnAt K "say_unlink" Y8)
 (A64:FnAt K "say_page" qC)
 (A65:FnAt K "say_undo" X4)
 (A66:FnAt K "say_show" XQ)
 (A67:FnAt K "say_share" xU)
 (A68:FnAt K "say_rank" XU)
 (A69:FnAt K "say_pass" X9)
 (A71:FnAt K "read_leap" xW)
 (A72:FnAt K "answered" Yb)
 (A76:FnAt K "_law_take" qu)
 (A77:FnAt K "_law_deck" qZ)
 (A78:FnAt K "_law_web" z9v)
 (A79:FnAt K "_law_leap" z2w)
 (A80:FnAt K "_law_web_shown" Z8)
 (A81:FnAt K "_law_said" X5)
 (A82:FnAt K "_law_linked" YT)
 (A83:FnAt K "_law_page" Qf)
 (A84:FnAt K "_law_pass" YZ)
 (A85:FnAt K "_law_undo" XY)
 (A86:FnAt K "_law_due" Xb)
 (A87:FnAt K "_law_bad" vo)
 (A88:FnAt K "_law_many" X7)
 (A89:FnAt K "_law_words" xx)
 (A90:FnAt K "_law_begun" xN)
 (aL:PySem.W.nsIn K mainGlobals "law"=some (some (.ref f91))) (lL:K.lookup f91=some ⟨oc,od,.func (PySem.W.fnOf "law" "law" (ZT Uj) (Zs Uj) (zo Uj) .none kV dc pm an cd ct),sl⟩) (cL:PySem.W.codeIn K cd "law"=true) (kL:PySem.W.keepIn K (.ref f91)=true)
 (zabs:PySem.W.nsIn K mainGlobals "abs"=some none)
 (zisi:PySem.W.nsIn K mainGlobals "isinstance"=some none)
 (ztup:PySem.W.nsIn K mainGlobals "tuple"=some none)
 (zint:PySem.W.nsIn K mainGlobals "int"=some none)
 (zbool:PySem.W.nsIn K mainGlobals "bool"=some none)
 (zlst:PySem.W.nsIn K mainGlobals "list"=some none)
 (zenu:PySem.W.nsIn K mainGlobals "enumerate"=some none)
 (zlen:PySem.W.nsIn K mainGlobals "len"=some none)
 (zrange:PySem.W.nsIn K mainGlobals "range"=some none)
 (zsrt:PySem.W.nsIn K mainGlobals "sorted"=some none)
 (zsum:PySem.W.nsIn K mainGlobals "sum"=some none)
 (zzip:PySem.W.nsIn K mainGlobals "zip"=some none)
 (zmax:PySem.W.nsIn K mainGlobals "max"=some none)
 (zrev:PySem.W.nsIn K mainGlobals "reversed"=some none)
 (zstr:PySem.W.nsIn K mainGlobals "str"=some none)
 (zall:PySem.W.nsIn K mainGlobals "all"=some none)
 (zmin:PySem.W.nsIn K mainGlobals "min"=some none)
 {C:Addr}(aC:z0B K "Live" C)
 (n_now:PySem.W.findIn K (.ref C) "now"=some none)
 (n_leap:PySem.W.findIn K (.ref C) "leap"=some none)
 (n_past:PySem.W.findIn K (.ref C) "past"=some none)
 (M_init:jk K C "__init__" "Live.__init__" Ue)
 (M_turn:jk K C "turn" "Live.turn" Ur)
 (M_check:jk K C "check" "Live.check" vR)
 (M_link:jk K C "link" "Live.link" ux)
 (M_unlink:jk K C "unlink" "Live.unlink" X8)
 (M_undo:jk K C "undo" "Live.undo" uK)
 (M_page:jk K C "page" "Live.page" Ub)
 (M_web:jk K C "web" "Live.web" JR)
 (M_shares:jk K C "shares" "Live.shares" Qe)
 (M_ranked:jk K C "ranked" "Live.ranked" XX)
 (I_MOST_PAGES:VA K "MOST_PAGES" 12)
 (I_MOST_LINKS:VA K "MOST_LINKS" 60)
 (I_MOST_FIGURES:VA K "MOST_FIGURES" 13)
 (I_MOST_PLACES:VA K "MOST_PLACES" 6)
 (L_shares_shares:z0O K "shares" "shares_shares")
 (L_ranked_shares:z0O K "ranked" "ranked_shares")
 {Xc_NoLink:Addr}(E_NoLink:UQ K "NoLink" Xc_NoLink)
 {Xc_NoText:Addr}(E_NoText:UQ K "NoText" Xc_NoText)
 {Xc_NoCommand:Addr}(E_NoCommand:UQ K "NoCommand" Xc_NoCommand)
 {Cd:Addr}(aD:z0B K "Desk" Cd)
 (n_live:PySem.W.findIn K (.ref Cd) "live"=some none)
 (M_dinit:jk K Cd "__init__" "Desk.__init__" XR)
 (M_say:jk K Cd "say" "Desk.say" vq)
 (S_DONE:z5B K "DONE" vg)
 {fz:SV}(D_ANS:Z0b w K "ANSWERS" fz)
 (F_link:Yp K fz (Str.ofString "link") 2 "say_link")
 (F_unlink:Yp K fz (Str.ofString "unlink") 2 "say_unlink")
 (F_page:Yp K fz (Str.ofString "page") 0 "say_page")
 (F_undo:Yp K fz (Str.ofString "undo") 0 "say_undo")
 (F_show:Yp K fz (Str.ofString "show") 0 "say_show")
 (F_share:Yp K fz (Str.ofString "share") 1 "say_share")
 (F_rank:Yp K fz (Str.ofString "rank") 0 "say_rank")
 (F_pass:Yp K fz (Str.ofString "pass") 2 "say_pass")
 (fzl:fz (Str.ofString "leap")=none)
 (fzw:fz (Str.ofString "web")=none)
 (fzS:fz (Str.ofString "Show")=none)
 (x1:Xc_NoLink≠Xc_NoText)
 (x2:Xc_NoLink≠Xc_NoCommand)
 (x3:Xc_NoText≠Xc_NoCommand)
 (y1:PySem.W.mroIn K Xc_NoLink (.ref Xc_NoText)=some false)
 (y2:PySem.W.mroIn K Xc_NoLink (.ref Xc_NoCommand)=some false)
 (y3:PySem.W.mroIn K Xc_NoText (.ref Xc_NoLink)=some false)
 (y4:PySem.W.mroIn K Xc_NoText (.ref Xc_NoCommand)=some false)
 (y5:PySem.W.mroIn K Xc_NoCommand (.ref Xc_NoLink)=some false)
 (y6:PySem.W.mroIn K Xc_NoCommand (.ref Xc_NoText)=some false)
 {cR tb:Addr}(CO:xK K "ranked" cR) (hC:PySem.W.codeHdIn K cR tb=true)
:∃ fd:FuncData,(∀ (s:Shared) (v:Value),BindsTo s fd ⟨[v],[]⟩ [("script",v)])/\∀ base:Heap,K.In base->base.Ns mainGlobals mg->Bm base mg->Zu l.prog w K mg base Yn 20 fa fd ["script"] (VF K tb):=by
 have e:=hfa.symm.trans (Z45 XK G aL)
 cases e
 have F91:=z2F (st:=Uj) lL cL kL
 have mk_Live:=aC.mkf ["self","web","leap"] M_init XK G (by intro _ _ _ _ _ _ us hl;rcases us with _ |⟨_,_ |⟨_,_ |⟨_,_ |⟨_,_⟩⟩⟩⟩ <;> first | rfl | (simp at hl))
 have LT:U1 K C:=⟨aC.cl,n_now,n_leap,n_past⟩
 obtain⟨t_MOST_PAGES,i_MOST_PAGES⟩:=I_MOST_PAGES.mg XK G
 obtain⟨t_MOST_LINKS,i_MOST_LINKS⟩:=I_MOST_LINKS.mg XK G
 obtain⟨t_MOST_FIGURES,i_MOST_FIGURES⟩:=I_MOST_FIGURES.mg XK G
 obtain⟨t_MOST_PLACES,i_MOST_PLACES⟩:=I_MOST_PLACES.mg XK G
 have l_shares_shares:=L_shares_shares.mg XK G
 have l_ranked_shares:=L_ranked_shares.mg XK G
 have XT_NoLink:=E_NoLink.xt XK G
 have XT_NoText:=E_NoText.xt XK G
 have XT_NoCommand:=E_NoCommand.xt XK G
 have mk_Desk:=aD.mkf ["self"] M_dinit XK G (by intro _ _ _ _ _ _ us hl;rcases us with _ |⟨_,_ |⟨_,_⟩⟩ <;> first | rfl | (simp at hl))
 have DT:DkT K Cd:=⟨aD.cl,n_live⟩
 obtain⟨t_DONE,i_DONE⟩:=S_DONE.mg XK G
 obtain⟨zANS,aANS,dcANS⟩:=D_ANS
 have mANS:=Z45 XK G aANS
 have T:Txt mg:=⟨Z22 XK G zabs,Z22 XK G zisi,Z22 XK G ztup,Z22 XK G zint,Z22 XK G zbool,Z22 XK G zlst,Z22 XK G zenu,Z22 XK G zlen,Z22 XK G zrange,Z22 XK G zsrt,Z22 XK G zsum,Z22 XK G zzip,Z22 XK G zmax⟩
 have zrev:=Z22 XK G zrev
 have zstr:=Z22 XK G zstr
 have zall:=Z22 XK G zall
 have zmin:=Z22 XK G zmin
 refine⟨PySem.W.fnOf "law" "law" (ZT Uj) (Zs Uj) (zo Uj) .none kV dc pm an cd ct,λs v=>.of_eq rfl,λbase KB _ hBm=>?_⟩
 · skip
   have dM:Def l.prog w K mg base 2 "made" ["above","below"] VM:=Z3q (A10.g XK G) (A7.g XK G) T
   have dCo:Def l.prog w K mg base 1 "common" ["one","other"] YM:=z8Z (A7.g XK G)
   have dBe:=z9t (A12.g XK G) dCo
   have dAb:Def l.prog w K mg base 1 "aboves" ["some","below"] (Qz K):=z9g (A13.g XK G)
   have dLd:Def l.prog w K mg base 1 "leads" ["web","page"] (VG K Pw.outs):=Z0y (A24.g XK G)
   have dPa:=z9G (A28.g XK G) T dLd
   have dFa:=z9f (A29.g XK G) T dPa
   have dEq:=z2i (A30.g XK G) T dFa
   have dCl:Def l.prog w K mg base 1 "cleared" ["equation","chosen","place","before"] (vZ K):=z5b (A15.g XK G) T
   have dSo:=z8u (A16.g XK G) T dCl
   have dVi:=z6I (A31.g XK G) T dAb dBe dSo dEq dPa
   have dSh:=z9d (A32.g XK G) T dVi dM
   have dWh:Def l.prog w K mg base 1 "is_whole" ["thing"] QZ:=z2j (A6.g XK G) T
   have dPa:=Xr (A8.g XK G) T dWh
   have dIf:=UM (A9.g XK G) T dPa dCo
   have dIl:=z6m (A20.g XK G) T dPa
   have dRi:Def l.prog w K mg base 1 "are_rising" ["links"] (vh K):=Jp (A21.g XK G) T zall
   have dAl:=z1a (A22.g XK G) T i_MOST_PAGES i_MOST_LINKS zall dIl dRi
   have dIw:=z8m (A23.g XK G) T i_MOST_PAGES i_MOST_LINKS dWh dAl
   have dFi:Def l.prog w K mg base 1 "are_figures" ["text","most"] z1C:=U0 (A47.g XK G) T zall
   have dRn:=UY (A48.g XK G) T i_MOST_FIGURES dFi
   have dRp:=z1r (A49.g XK G) T XT_NoText dRn
   have dRq:Def l.prog w K mg base 3 "read_pair" ["text","between"] z1d:=dRp.calm λvs H Q E ⟨x,c,A,e,x8,hA,k⟩=>⟨x,c,e,x8,.inl ⟨A,hA,k⟩⟩
   have dRf:=Vx (A50.g XK G) T XT_NoText dRp dIf
   have dRw:=z2B (A51.g XK G) T XT_NoText dRn dRq dIw
   have dSs:=(dSh.sh).Z2X l_shares_shares
   have dWi:Def l.prog w K mg base 1 "with_link" ["web","one","other"] (Jf K):=J3 (A37.g XK G) T
   have dWo:Def l.prog w K mg base 1 "without_link" ["web","one","other"] (vD K):=uM (A38.g XK G) T
   have dEv:=Z1V (A26.g XK G) T dM
   have dIlI:Def l.prog w K mg base 3 "is_link" ["pages","thing"] (z0l K):=dIl.imp λvs H Q E h=>by obtain⟨n,x,y,q,e,hq,k⟩:=h;exact⟨n,x,y,q,e,zR.of hq,k⟩
   have eMk:MkD l.prog w K mg base Yn 1 C "Live" ["self","web","leap"] (Yr C):=Z3r mk_Live T LT
   have eTu:ZO l.prog w K mg base Yn 1 C "turn" ["self","web"] (Qs C):=Z1P M_turn.g T LT
   have eCh:=z9P M_check.g T LT XT_NoLink dIlI
   have eLi:=Z2i M_link.g T LT XT_NoLink i_MOST_PAGES i_MOST_LINKS eCh eTu dWi
   have eUn:=z7O M_unlink.g T LT XT_NoLink eCh eTu dWo
   have ePa:=Z2Q M_page.g T LT XT_NoLink i_MOST_PAGES i_MOST_LINKS eTu
   have eUd:ZO l.prog w K mg base Yn 1 C "undo" ["self"] (j9 K C):=Z1U M_undo.g T LT
   have eWe:ZO l.prog w K mg base Yn 1 C "web" ["self"] (vI K C):=Z4E M_web.g T LT
   have eSh:=z7y M_shares.g T LT dSs dEv
   have dSv:=dSh.Z2X l_shares_shares
   have eRkD:=(z8y (A34.g XK G) T hBm KB CO XK G hC dSv dAb dBe).Z2X l_ranked_shares
   have eRk:=z8n M_ranked.g T LT eRkD dEv
   have dIs:Def l.prog w K mg base 1 "is_less" ["one","other"] (z1Q K):=z5J (A11.g XK G) T
   have dLk:=z6S (A54.g XK G) T dWi
   have dAh:=z2f (A55.g XK G) T dSs dIs
   have dCh:Def l.prog w K mg base 13 "choices" ["places","many"] (JT K 12):=Xy (A53.g XK G) T 12
   have dLl:=U3 (A56.g XK G) T dCh dLk dAh
   have dGf:Def l.prog w K mg base 1 "show_figures" ["number"] UD:=uh (A43.g XK G) T zstr zrev
   have dGn:=UP (A44.g XK G) T dGf
   have dGr:=Vw (A45.g XK G) T dGn
   have dSw:Def l.prog w K mg base 1 "show_web" ["web"] (Y3 K):=z1Y (A46.g XK G) T zstr
   have dPt:Def l.prog w K mg base 1 "parted" ["pages"] (z3x K):=z7g (A60.g XK G) T zstr
   have dCp:=Jg (A61.g XK G) T LT XT_NoLink eWe
   have dYl:=z3v (A62.g XK G) T LT i_DONE eLi
   have dYn:=j7 (A63.g XK G) T LT i_DONE eUn
   have dYg:=z2o (A64.g XK G) T LT zstr ePa
   have dYu:=z3d (A65.g XK G) T LT i_DONE eUd
   have dYs:=z1J (A66.g XK G) T LT eWe dSw
   have dYh:=z1o (A67.g XK G) T LT dCp eSh dGr
   have dYr:=z2c (A68.g XK G) T LT eRk dPt
   have dYp:=z2u (A69.g XK G) T LT XT_NoLink i_MOST_PLACES zmin dCp eWe dEv dLl dPt
   have dIp:=z6i (A25.g XK G) T dIf
   have dRl:=z1s (A71.g XK G) T XT_NoText dRf dIp
   have dAn:=z3l (Xl:=Xc_NoLink) (A72.g XK G) T XT_NoCommand zall mANS dcANS dFi
   have eDi:=Z0e mk_Desk T DT eMk
   have eSy:=Z3Z M_say.g T LT DT XT_NoCommand zstr i_DONE eMk eWe dRw dRl dAn
   have an:∀ h:Hd,AnX l.prog w K mg base fz Xc_NoLink h.tx h.nr (h.sp K C Xc_NoLink tb zU):=λh=>by
    cases h
    exact F_link.anx XK G dYl 01
    exact F_unlink.anx XK G dYn 01
    exact F_page.anx XK G dYg 01
    exact (F_undo.anc XK G dYu 01).x
    exact (F_show.anc XK G dYs 01).x
    exact F_share.anx XK G dYh 01
    exact (F_rank.anc XK G dYr 01).x
    exact F_pass.anx XK G dYp 01
   have NS:z0d K [Xc_NoLink,Xc_NoText,Xc_NoCommand]:=z0d.of x1 x2 x3 y1 y2 y3 y4 y5 y6
   have dDk:Def l.prog w K mg base 1 "_law_deck" ["cell","k"] z2s:=z1R (A77.g XK G) T
   have dTk:Def l.prog w K mg base 1 "_law_take" ["deck","many"] yo:=z2G (A76.g XK G) T
   have dWd:=z5d (A78.g XK G) T dTk
   have dLd:=z3c (A79.g XK G) T dTk
   have dSl:Def l.prog w K mg base 1 "_law_web_shown" ["web"] (Y3 K):=Vv (A80.g XK G) T zstr
   have dSa:=z1U (A81.g XK G) T DT XT_NoLink XT_NoText XT_NoCommand NS eSy
   have dDu:=z2Q (K:=K) (P:=l.prog) (w:=w) (base:=base) (tb:=tb) (A85.g XK G) T
   have dDp:=z2Y (K:=K) (P:=l.prog) (w:=w) (base:=base) (tb:=tb) (A83.g XK G) T zstr
   have dDl:=JX (K:=K) (P:=l.prog) (w:=w) (base:=base) (tb:=tb) (A82.g XK G) T
   have dDs:=z3k (tb:=tb) (A84.g XK G) T zstr zmin dEv dLl
   have dDe:=z5u (A86.g XK G) T zstr dDl dDp dDs dDu dSl dEv eRkD dSs
   have dBd:=z6h (A87.g XK G) T dTk
   have dMn:=z3u (A88.g XK G) T dTk
   have dWo2:Def l.prog w K mg base 1 "_law_words" ["head","one","other"] uB:=z0S (A89.g XK G) T zstr
   have dBg:=z1g (tb:=tb) (A90.g XK G) T DT zstr eSy dTk dLd dWd dMn dSl
   exact Z3C F91 T DT zstr zmin an fzl fzw fzS eDi dDk dTk dBd dSa dBg dWo2 dDe
def walk{l:PySem.W.OpenLaw}{d:DefRec}{K:Params->FR}(hn:l.most=some 63)(b:d.params.defaults=[])(o:∀ (w:World) (h:Heap),YP w h->(K w.params).In h)(r:∀ (w:World) (h:Heap),YP w h->h.get? tb=some (PySem.W.tabObj #[]))(i:∀ p:Params,(K p).lookup tb=none)(hC:∀ p:Params,PySem.W.codeHdIn (K p) c tb=true)(F:∀ (w:World) (mg:SV) (j:Addr) (h:Heap),(K w.params).In h->h.Ns mainGlobals mg->mg d.name=some (.ref j)->
  ∃ fd:FuncData,(∀ (s:Shared) (u:Value),BindsTo s fd ⟨[u],[]⟩ [("script",u)])/\∀ base:Heap,(K w.params).In base->base.Ns mainGlobals mg->Bm base mg->Zu l.prog w (K w.params) mg base Yn 20 j fd ["script"] (VF (K w.params) tb)) :
 PySem.W.WalkO q loose XP YP l.row.toRowW d [] (λf vs=>PySem.call f vs) :=
 L2.z8t (n:=63) (k:=20) (x:="script") (c:=c) (tb:=tb) (CX:=λ_=>Yn) (sp:=λw=>VF (K w.params) tb) hn 01 b ⟨rfl,01,01,rfl⟩ o r i hC F (λ_ _ a ns v t m=>⟨a,ns,rfl,m,v,.inl t.1,λ_=>rfl⟩) λ_ _ _ _ _ z=>z
end Lw
open PySem PySem.W PyProof.Rows
set_option maxRecDepth 100000 in
def PySem.W.Fast:Unit:=() where
 tw11836059580559789245:=()
 tw3473709981996185889:=()
 tw8572088992754908465:=()
 tw8780014910558954252:=()
 tw15665420566224063974:=()
 tw13928088700337504432:=()
 tw16969967229199832010:=()
 tw16011474114223779375:=()
 tw4090094474804523900:=()
 tw2043780644420345318:=()
 tw11640779580498036073:=()
 tw2159030820291249157:=()
 tw7914153287828254026:=()
 tw3626474314936750838:=()
 tw17572922911713830295:=()
 tw10304039226520923748:=()
 tw10161807981588623687:=()
 tw9642899873180981662:=()
 tw12758597751103964486:=()
 tw17264176117909106336:=()
 tw9393639471570973445:=()
 tw17923729308252453781:=()
 tw15791526508909497636:=()
 tw3897211735458472615:=()
 tw8687926363186491382:=()
 tw14478209191698752207:=()
 tw7366831124222035074:=()
 tw11558665042444392221:=()
 tw13185337959243548795:=()
 tw17797298616462558447:=()
 tw671283176936341199:=()
 tw17200826443815014035:=()
 tw3693717252364732747:=()
 tw17098618938639588045:=()
 tw11795183421464883532:=()
 tw10525660019001417459:=()
 tw13490983062722272916:=()
 tw15988652559464977422:=()
 tw1877565862890378060:=()
 tw6194253332301452433:=()
 tw6671280296164802248:=()
 tw16561598927513053800:=()
 tw7020385589401076957:=()
 tw4855987563808040360:=()
 tw2943423402860582518:=()
 tw16930566834740019819:=()
 tw1014326585337191937:=()
 tw8276681473759426691:=()
 tw17523731926174713915:=()
 tw3303591860937508676:=()
 tw3302615812366730085:=()
 tw9489352884377267473:=()
 tw3909059503311581521:=()
 tw8591175442566355830:=()
 tw3100237313773308791:=()
 tw394314171456116950:=()
 tw8160958897220139584:=()
 tw15981298044069062239:=()
 tw10350559623883580834:=()
 tw15654896337022887189:=()
 tw1023311045889427527:=()
 tw379538758425808604:=()
 tw1901247290832148220:=()
 tw10754043532114371673:=()
 tw6393998829673404110:=()
 tw14882934882220685940:=()
 tw17617571382553197650:=()
 tw10828194086848048580:=()
 tw4144060564430515570:=()
 tw7999353641282348824:=()
 tw10695359555631210478:=()
 tw4029215504372550812:=()
 tw2410029736680680391:=()
 tw6484518706690009407:=()
 tw18237945686766605299:=()
 tw1347245537847599032:=()
 tw13274437173226307287:=()
 tw1659909779333873993:=()
 tw7997268953290356122:=()
 tw11865778496683771912:=()
 tw14022045959702815835:=()
 tw11247621653799272988:=()
 tw10529021381992091489:=()
 tw15009847932053119061:=()
 tw8500598091877205002:=()
 tw10371699138313498906:=()
 tw6313328107892665001:=()
 tw6598862973268303878:=()
 tw65497798969591520:=()
 tw2081954961224668246:=()
 tw3079472281871173846:=()
 tw5048651783746421006:=()
 tw11814403858513116875:=()
 tw2840624791184182445:=()
 tw10716590573480635795:=()
 tw5597563886250330119:=()
 tw10745707425464227485:=()
 tw11267351518013694251:=()
 tw3371334487872382397:=()
 tw10121357265057302482:=()
 tw6051761106345962074:=()
 tw1721671533152577605:=()
 tw16648976622239067272:=()
 tw5553628485762865651:=()
 tw7204341050766930478:=()
 tw13787278359760310695:=()
 tw1660161828288151053:=()
 tw15229824969670079079:=()
 tw17403058764757182577:=()
 tw17380197998818687350:=()
 tw1129535599374616078:=()
 tw4896919581356764536:=()
 tw7585959437978009350:=()
 tw13894498239312510210:=()
 tw4539945116031595803:=()
 tw12119644467857848355:=()
 tw17426471646619706777:=()
 tw11304675307703931996:=()
 tw10866267501418136886:=()
 tw14085702760035186306:=()
 tw7990813527914125391:=()
 tw386512082985739720:=()
 tw13216724768668922470:=()
 tw13311009550529114567:=()
 tw4718431564555595338:=()
 tw15968515667646459437:=()
 tw12790231872963161005:=()
 tw2340361590249953807:=()
 tw16792182779620086536:=()
 tw1747351035459750204:=()
 tw9664324483832122321:=()
 tw7906894515461495392:=()
 tw13743474493024694735:=()
 tw16592289274729842454:=()
 tw5953941977131852868:=()
 tw9484924899462272612:=()
 tw18343390716205217095:=()
 tw8593973579363865383:=()
 tw7078583545835255470:=()
 tw10755015276349305224:=()
 tw14649762272247370338:=()
 tw1354089289645918181:=()
 tw18335396433776572227:=()
 tw8599072926348993844:=()
 tw16774211894660689131:=()
 tw4307596341387437978:=()
 tw17053912125290967553:=()
 tw18300862952973660063:=()
 tw238496853728934497:=()
 tw13203602961491067729:=()
 tw13218784193015221458:=()
 tw11006381508877964916:=()
 tw571968640700099939:=()
 tw2681202792907593900:=()
 tw8695202900661546923:=()
 tw2149192550654727362:=()
 tw15219972862913943140:=()
 tw14589971887812460407:=()
 tw5879202351756526501:=()
 tw11737441222702670982:=()
 tw8397109146103267290:=()
 tw11234111028422248813:=()
 tw7066740416024152207:=()
 tw1220466779951762848:=()
 tw17594161063869853758:=()
 tw7892993031685374461:=()
 tw1904197825162834865:=()
 tw8166035352838485549:=()
 tw2328276953244936331:=()
 tw8776796356359453239:=()
 tw7074553098333399398:=()
 tw4428991515980382909:=()
 tw3060539220762446196:=()
 tw15947915208890798053:=()
 tw5118245479197848488:=()
 tw17026211417813455001:=()
 tw16623401316720336294:=()
 tw8716046412338828934:=()
 tw1501935106202517725:=()
 tw4905223523636866067:=()
 tw10627438454999133588:=()
 tw3454489020411900096:=()
 tw11200343595587705279:=()
 tw3997036916754183829:=()
 tw13085632514240037322:=()
 tw17486702774423906728:=()
 tw10804999175974227044:=()
 tw11851375158653280177:=()
 tw8714722532363011573:=()
 tw13751042230584848608:=()
 tw17485205656993940979:=()
 tw17381926829990453713:=()
 tw4089545485105382039:=()
 tw11321705031295932372:=()
 tw3955678481010554233:=()
 tw6622926371205137641:=()
 tw271684568162653620:=()
 tw12737189854694401569:=()
 tw14295206024477044829:=()
 tw9218266122179378505:=()
 tw4872559918609624303:=()
 tw1124144075813148167:=()
 tw7483741358946606058:=()
 tw11789141947091458108:=()
 tw2783630115708497922:=()
 tw14363377916480492354:=()
 tw3839978965530179253:=()
 tw4051077731294608003:=()
 tw14097915352884336166:=()
 tw16208448935622582048:=()
 tw11138878401077971504:=()
 tw13004214418144870913:=()
 tw13338039200850320620:=()
 tw8690440545307520408:=()
 tw1796574784952563701:=()
 tw1549505160015805618:=()
 tw15970730906543281950:=()
 tw14741284047286513546:=()
 tw2215712595968171358:=()
 tw15075221570962609736:=()
 tw2110622075081087793:=()
 tw16292769567546185244:=()
 tw7261380603261884424:=()
 tw16832710646563135863:=()
 tw14278440143051813868:=()
 tw11448578562822967757:=()
 tw14991091574920048237:=()
 tw725405895922517424:=()
 tw4135644116533132207:=()
 tw17660274407397567229:=()
 tw4010031920864691649:=()
 tw15502452727209015386:=()
 tw10133849839643953637:=()
 tw7178560870943879067:=()
 tw1410321248094629911:=()
 tw14815822429626711524:=()
 tw6045338216543213395:=()
 tw17730576187726964989:=()
 tw897451588869552343:=()
 tw2355441508004434170:=()
 tw16477557138953067918:=()
 tw9379496332498162564:=()
 tw11752519057372007508:=()
 tw13857354158495358419:=()
 tw8575292957595617505:=()
 tw10393834667352282109:=()
 tw15825061105422638006:=()
 tw14356314896935122894:=()
 tw10286656197268287371:=()
 tw12002920258258114445:=()
 tw5823746578729486891:=()
 tw7028261292386350307:=()
 tw10941115858219892736:=()
 tw13725581955108751346:=()
 tw11338945062206007123:=()
 tw8197369373451392469:=()
 tw2181573100966834346:=()
 tw5342470051331163603:=()
 tw903343386663072105:=()
 tw17151092986923706794:=()
 tw4697053874554312005:=()
 tw1125600256723498123:=()
 tw979479703450229904:=()
 tw14800730937403548483:=()
 tw13505719836910718160:=()
 tw350288386202050977:=()
 tw2406490798860911043:=()
 tw16398750909647281754:=()
 tw7781416179309595331:=()
 tw16929279914775160960:=()
 tw10265637237844932953:=()
 tw10810850542340853477:=()
 tw15167447520702719052:=()
 tw8361167606175576956:=()
 tw16517869881022215203:=()
 tw15868494045726006982:=()
 tw698897705698411450:=()
 tw7698743164843306210:=()
 tw14290845454937796193:=()
 tw7337474331130546259:=()
 tw11467741856165626029:=()
 tw11405773346107188201:=()
 tw15837427431750415692:=()
 tw16754532648733471741:=()
 tw16025993472839577005:=()
 tw5095179729714978275:=()
 tw16831519196876513562:=()
 tw15028887068651301403:=()
 tw16182823703812103278:=()
 tw16540234164939544728:=()
 tw7407385341340220521:=()
 tw14224120383570786044:=()
 tw4821711831270475287:=()
 tw10516238333896096827:=()
 tw13988466942689253329:=()
 tw7765398428771179401:=()
 tw4761720357042825450:=()
 tw12763894848270015984:=()
 tw61949140243496516:=()
 tw5907085946276209485:=()
 tw6853397768438729337:=()
 tw3811730939726937192:=()
 tw17126105599595164195:=()
 tw13324380900515881493:=()
 tw15805258475413031758:=()
 tw8217852079607357262:=()
 tw1794642140028239662:=()
 tw2439063955063433534:=()
 tw17994542504544168740:=()
 tw16203765976416496284:=()
 tw7172097173540951733:=()
 tw8019712706314035472:=()
 tw2765378063790767973:=()
 tw17842742746064451400:=()
 tw12992268958104728572:=()
 tw927102848023161730:=()
 tw3045147679835224363:=()
 tw9755772652037928531:=()
 tw3554431341041640993:=()
 tw7375143854181106720:=()
 tw11356991343611544480:=()
 tw531778810324418118:=()
 tw11784036954415989921:=()
 tw10157530618503332231:=()
 tw12387772920651651053:=()
 tw815402955499613355:=()
 tw16882906622443662593:=()
 tw16939048191625925020:=()
 tw11890714414663520457:=()
 tw14506522319270056842:=()
 tw16996062625157863705:=()
 tw2481531264138878113:=()
 tw14283952521330172046:=()
 tw999582973867418943:=()
 tw10105536297189357357:=()
 tw1302097588286889650:=()
 tw18075581863468678841:=()
 tw1914991746528937459:=()
 tw8918428033344902108:=()
 tw13618191296432938385:=()
 tw13664554390177321754:=()
 tw12429327651279038468:=()
 tw6438624953224031329:=()
 tw6931185205195419498:=()
 tw13024763957652049510:=()
 tw17694703703112817969:=()
 tw15099701679698979265:=()
 tw12388730009476388308:=()
 tw9848455183576439591:=()
 tw651915190581552461:=()
 tw797845222018702332:=()
 tw8035942377299076051:=()
 tw7649312246705097569:=()
 tw7784726854575684847:=()
 tw10939627147270660086:=()
 tw8708682848535270346:=()
 tw6343136603569823217:=()
 tw98179886646685458:=()
 tw6372423407325013932:=()
 tw1925892722567046340:=()
 tw13594435441942885434:=()
 tw10842606889035651461:=()
 tw7199817276066214621:=()
 tw17416235453307023124:=()
 tw3572200436431306275:=()
 tw10213455668208224049:=()
 tw8921010324843104635:=()
 tw13939622451819634013:=()
 tw3940779131259449007:=()
 tw16207991423198405292:=()
 tw12015121142814095033:=()
 tw14612792938401796071:=()
 tw18352587587666166815:=()
 tw9334432009452624257:=()
 tw10493429176932236243:=()
 tw1336276917674544208:=()
 tw210956325326526477:=()
 tw2891827508009398465:=()
 tw4006591462209263298:=()
 tw4897169185360091800:=()
 tw8193323564162440792:=()
 tw6814257231440451198:=()
 tw6997866106275194709:=()
 tw15277651327548969085:=()
 tw13497660662561494892:=()
 tw4445550669783849847:=()
 tw4005365074592142226:=()
 tw18285411595295779807:=()
 tw11474992382023525364:=()
 tw1688222887624395627:=()
 tw15924066223133909372:=()
 tw6183587277722717617:=()
 tw2177896035634817893:=()
 tw1280841708092229501:=()
 tw10831491645967582185:=()
 tw3396231936893325066:=()
 tw2965338877329959831:=()
 tw9226841917560969705:=()
 tw15404297521413270013:=()
 tw5898570426077154948:=()
 tw2716101609745007080:=()
 tw2416276807855823346:=()
 tw15475443083446988724:=()
 tw9543393212914183044:=()
 tw15005189475226923218:=()
 tw1796851331963943165:=()
 tw13578607467126797907:=()
 tw15956752833761767975:=()
 tw5223093694470513438:=()
 tw8525008659414681207:=()
 tw12726950302059875287:=()
 tw1631020371935707493:=()
 tw9200637448885829987:=()
 tw6654570649200634478:=()
 tw12743782264556302696:=()
 tw9933200219703646255:=()
 tw7171682048317199945:=()
 tw6704600747711331666:=()
 tw8074728687321578067:=()
 tw16785201749277379935:=()
 tw14836184384665226767:=()
 tw17555335544990065979:=()
 tw8791004685498085865:=()
 tw2554231815382781174:=()
 tw4704526992054780457:=()
 tw12277233392366453799:=()
 tw17719300531542773780:=()
 tw5343098080091776206:=()
 tw12281301079930262046:=()
 tw17835442845936710097:=()
 tw16591954851303417268:=()
 tw12565577166563334536:=()
 tw7945558002223797022:=()
 tw10893879643522396558:=()
 tw15455158489569778315:=()
 tw11957128929122128339:=()
 tw16642429381991553452:=()
 tw12205926266668672601:=()
 tw12697950659965883315:=()
 tw16403674225619709818:=()
 tw6961669886016865045:=()
 tw3306163718685201820:=()
 tw9248734380989189670:=()
 tw4938836011092694686:=()
 tw536677682574680837:=()
 tw9843269866860665338:=()
 tw18355722233654939915:=()
 tw14360957701086986143:=()
theorem PySem.Challenge.cw_pagewalks_k55_desk_answers_holds : PySem.Challenge.rw_pagewalks_k55_desk_answers.Holds := by
 w_on;o_law;k_head;(case hw=>w_witness2)
 k_fill
 refine Lw.walk (l:=PySem.Challenge.rw_pagewalks_k55_desk_answers) (c:=205) (tb:=201) rfl rfl (λw h Y=>PySem.W.km_in_of Y) (λw h Y=>PySem.W.km_tabs_of Y _ (.head _)) (λp=>by kernel_rfl) (λp=>by kernel_rfl) ?F
 case F =>
  intro w mg fa h KX G hmg
  refine' Lw.all_mk KX G hmg ?A6 ?A7 ?A8 ?A9 ?A10 ?A11 ?A12 ?A13 ?A15 ?A16 ?A20 ?A21 ?A22 ?A23 ?A24 ?A25 ?A26 ?A28 ?A29 ?A30 ?A31 ?A32 ?A34 ?A37 ?A38 ?A43 ?A44 ?A45 ?A46 ?A47 ?A48 ?A49 ?A50 ?A51 ?A53 ?A54 ?A55 ?A56 ?A60 ?A61 ?A62 ?A63 ?A64 ?A65 ?A66 ?A67 ?A68 ?A69 ?A71 ?A72 ?A76 ?A77 ?A78 ?A79 ?A80 ?A81 ?A82 ?A83 ?A84 ?A85 ?A86 ?A87 ?A88 ?A89 ?A90 ?aL ?lL ?cL ?kL ?zabs ?zisi ?ztup ?zint ?zbool ?zlst ?zenu ?zlen ?zrange ?zsrt ?zsum ?zzip ?zmax ?zrev ?zstr ?zall ?zmin ?aC ?n_now ?n_leap ?n_past ?M_init ?M_turn ?M_check ?M_link ?M_unlink ?M_undo ?M_page ?M_web ?M_shares ?M_ranked ?I_MOST_PAGES ?I_MOST_LINKS ?I_MOST_FIGURES ?I_MOST_PLACES ?L_shares_shares ?L_ranked_shares ?E_NoLink ?E_NoText ?E_NoCommand ?aD ?n_live ?M_dinit ?M_say ?S_DONE ?D_ANS ?F_link ?F_unlink ?F_page ?F_undo ?F_show ?F_share ?F_rank ?F_pass ?fzl ?fzw ?fzS ?x1 ?x2 ?x3 ?y1 ?y2 ?y3 ?y4 ?y5 ?y6 (cR:=205) (tb:=201) ?CO ?hC
  any_goals (refine' L2.FnAt.of ?a ?l ?c ?k;(case a=>k_is);(case l=>k_is);(case c=>k_is);(case k=>k_is))
  (case aL=>k_is)
  (case lL=>k_is)
  (case cL=>k_is)
  (case kL=>k_is)
  (case zabs=>k_is)
  (case zisi=>k_is)
  (case ztup=>k_is)
  (case zint=>k_is)
  (case zbool=>k_is)
  (case zlst=>k_is)
  (case zenu=>k_is)
  (case zlen=>k_is)
  (case zrange=>k_is)
  (case zsrt=>k_is)
  (case zsum=>k_is)
  (case zzip=>k_is)
  (case zmax=>k_is)
  (case zrev=>k_is)
  (case zstr=>k_is)
  (case zall=>k_is)
  (case zmin=>k_is)
  (case aC=>refine' L2.z0B.of ?a ?pg ?hd ?po ?sa ?mk ?kc;(case a=>k_is);(case pg=>k_is);(case hd=>k_is);(case po=>k_is);(case sa=>k_is);(case mk=>k_is);(case kc=>k_is))
  (case n_now=>k_is)
  (case n_leap=>k_is)
  (case n_past=>k_is)
  (case I_MOST_PAGES=>refine' L2.VA.of ?a;(case a=>k_is))
  (case I_MOST_LINKS=>refine' L2.VA.of ?a;(case a=>k_is))
  (case I_MOST_FIGURES=>refine' L2.VA.of ?a;(case a=>k_is))
  (case I_MOST_PLACES=>refine' L2.VA.of ?a;(case a=>k_is))
  (case L_shares_shares=>refine' L2.z0O.of ?a ?b;(case a=>k_is);(case b=>k_is))
  (case L_ranked_shares=>refine' L2.z0O.of ?a ?b;(case a=>k_is);(case b=>k_is))
  (case E_NoLink=>refine' L2.UQ.of ?a ?e ?t;(case a=>k_is);(case e=>kernel_rfl);(case t=>kernel_rfl))
  (case E_NoText=>refine' L2.UQ.of ?a ?e ?t;(case a=>k_is);(case e=>kernel_rfl);(case t=>kernel_rfl))
  (case E_NoCommand=>refine' L2.UQ.of ?a ?e ?t;(case a=>k_is);(case e=>kernel_rfl);(case t=>kernel_rfl))
  (case aD=>refine' L2.z0B.of ?a ?pg ?hd ?po ?sa ?mk ?kc;(case a=>k_is);(case pg=>k_is);(case hd=>k_is);(case po=>k_is);(case sa=>k_is);(case mk=>k_is);(case kc=>k_is))
  (case n_live=>k_is)
  (case S_DONE=>refine' L2.z5B.of ?a;(case a=>k_is))
  (case D_ANS=>refine' L2.Z0b.of ?a ?l ?z ?k;(case a=>k_is);(case l=>k_is);(case z=>decide);(case k=>exact⟨⟨_,_,rfl,rfl⟩,⟨_,_,rfl,rfl⟩,⟨_,_,rfl,rfl⟩,⟨_,_,rfl,rfl⟩,⟨_,_,rfl,rfl⟩,⟨_,_,rfl,rfl⟩,⟨_,_,rfl,rfl⟩,⟨_,_,rfl,rfl⟩,trivial⟩))
  (case F_link=>refine' L2.Yp.of ?a ?l ?n;(case a=>first | rfl | kernel_rfl);(case l=>k_is);(case n=>k_is))
  (case F_unlink=>refine' L2.Yp.of ?a ?l ?n;(case a=>first | rfl | kernel_rfl);(case l=>k_is);(case n=>k_is))
  (case F_page=>refine' L2.Yp.of ?a ?l ?n;(case a=>first | rfl | kernel_rfl);(case l=>k_is);(case n=>k_is))
  (case F_undo=>refine' L2.Yp.of ?a ?l ?n;(case a=>first | rfl | kernel_rfl);(case l=>k_is);(case n=>k_is))
  (case F_show=>refine' L2.Yp.of ?a ?l ?n;(case a=>first | rfl | kernel_rfl);(case l=>k_is);(case n=>k_is))
  (case F_share=>refine' L2.Yp.of ?a ?l ?n;(case a=>first | rfl | kernel_rfl);(case l=>k_is);(case n=>k_is))
  (case F_rank=>refine' L2.Yp.of ?a ?l ?n;(case a=>first | rfl | kernel_rfl);(case l=>k_is);(case n=>k_is))
  (case F_pass=>refine' L2.Yp.of ?a ?l ?n;(case a=>first | rfl | kernel_rfl);(case l=>k_is);(case n=>k_is))
  (case fzl=>first | rfl | kernel_rfl)
  (case fzw=>first | rfl | kernel_rfl)
  (case fzS=>first | rfl | kernel_rfl)
  (case x1=>decide)
  (case x2=>decide)
  (case x3=>decide)
  (case y1=>(first | k_is | kernel_rfl))
  (case y2=>(first | k_is | kernel_rfl))
  (case y3=>(first | k_is | kernel_rfl))
  (case y4=>(first | k_is | kernel_rfl))
  (case y5=>(first | k_is | kernel_rfl))
  (case y6=>(first | k_is | kernel_rfl))
  (case CO=>refine' L2.xK.of ?a ?l ?c;(case a=>k_is);(case l=>k_is);(case c=>rfl))
  (case hC=>kernel_rfl)
  any_goals (refine' L2.jk.of ?a ?i ?l ?c ?k;(case a=>k_is);(case i=>k_is);(case l=>k_is);(case c=>k_is);(case k=>k_is))

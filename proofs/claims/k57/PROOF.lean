import PyProof.Rows.All
import Wide.All
import OpenK.AllK
import Wide.FinOn
import Lean
import PyProof.EqAt
import PyProof.EqKinds
import PyProof.TupleCall
import PyProof.NeKinds
import PyProof.EnumMake
import PyProof.Draws
import PyProof.ListNew
import PyProof.Rows.IntBool
import KE.LcSums
import PyProof.ListMulRoad
import PyProof.WalksT
import PyProof.ZipIter
import PyProof.Rows.ZipGen
import PyProof.SumWalk
import PyProof.Rows.CallKwBuiltin
import PyProof.AutoListH
import PyProof.WalkInts
import KE.KRevIter
import PyProof.ListStr
import PyProof.ListRange
import KE.KSortTup
import KE.KLam
import KE.KNestM
import KE.KFind
import KE.KTryDeep
import KE.KIsAll
import PyProof.ExcArgsOwn
import PyProof.Rows.SetFrom
import PyProof.StrWalks
import PyProof.CollectIter
import PyProof.FactsAll.set
import PyProof.StrCalls2
import PyProof.StrLawsIn
import PyProof.SliceStr2
import PyProof.StrOps2
import PyProof.StrBlockH
import PyProof.Rows.StrItems
import PyProof.Rows.StrSplitAre
import PyProof.StrLawsTight
import KE.KIntText
import KE.IntTextText
import PyProof.CompFree
import PyProof.Rows.StrSplitJoin
import PyProof.Rows.FStr
import PyProof.FactsAll.bool_1
import PyProof.ReprLen
import PyProof.FactsAll.NoneType_1
import PyProof.FitsInt
import PyProof.StrBlock
import PyProof.JoinWalk
import PySem.Challenge.RW_pagewalks_k57_whole_by_the_desk
set_option maxHeartbeats 0
set_option Elab.async false
set_option bootstrap.genMatcherCode false
set_option genSizeOfSpec false
set_option genSizeOf false
set_option linter.all false
set_option maxRecDepth 100000
noncomputable section
theorem ZB:type_of% @List.length_map:=@List.length_map
theorem Z00:type_of% @PySem.Heap.get?_push_of_some:=@PySem.Heap.get?_push_of_some
theorem Z01:type_of% @List.getElem?_eq_getElem:=@List.getElem?_eq_getElem
theorem Z02:type_of% @List.getD_eq_getElem?_getD:=@List.getD_eq_getElem?_getD
theorem Z03:type_of% @Nat.le_refl:=@Nat.le_refl
theorem Z04:type_of% @List.mem_singleton:=@List.mem_singleton
theorem Z05:type_of% @List.size_toArray:=@List.size_toArray
theorem Z06:type_of% @Array.length_toList:=@Array.length_toList
theorem Z07:type_of% @List.mem_cons_of_mem:=@List.mem_cons_of_mem
theorem Z08:type_of% @PySem.Heap.get?_push_size:=@PySem.Heap.get?_push_size
theorem Z09:type_of% @PySem.Heap.lt_size:=@PySem.Heap.lt_size
theorem Z0u:type_of% @List.length_cons:=@List.length_cons
theorem Z0y:type_of% @List.mem_cons_self:=@List.mem_cons_self
theorem Z0z:type_of% @List.mem_cons:=@List.mem_cons
theorem Z0A:type_of% @List.take_of_length_le:=@List.take_of_length_le
theorem Z0L:type_of% @Rat.intCast_mul:=@Rat.intCast_mul
theorem Z0M:type_of% @List.length_append:=@List.length_append
theorem Z0T:type_of% @Nat.ne_of_lt:=@Nat.ne_of_lt
theorem Z10:type_of% @Bool.false_ne_true:=@Bool.false_ne_true
theorem Z11:type_of% @Nat.le_trans:=@Nat.le_trans
theorem Z12:type_of% @List.getElem?_eq_some_iff:=@List.getElem?_eq_some_iff
theorem Z13:type_of% @Nat.lt_of_lt_of_le:=@Nat.lt_of_lt_of_le
theorem Z14:type_of% @List.getElem?_map:=@List.getElem?_map
theorem Z15:type_of% @List.map_append:=@List.map_append
theorem Z16:type_of% @Rat.intCast_le_intCast:=@Rat.intCast_le_intCast
theorem Z17:type_of% @List.mem_map:=@List.mem_map
theorem Z18:type_of% @Nat.zero_le:=@Nat.zero_le
theorem Z19:type_of% @Array.toList_append:=@Array.toList_append
theorem Z1y:type_of% @List.map_cons:=@List.map_cons
theorem Z1G:type_of% @PySem.F.plainAttrs_str:=@PySem.F.plainAttrs_str
theorem Z1X:type_of% @Option.some.inj:=@Option.some.inj
theorem Z20:type_of% @List.length_take:=@List.length_take
theorem Z21:type_of% @List.mem_of_getElem?:=@List.mem_of_getElem?
theorem Z22:type_of% @List.append_assoc:=@List.append_assoc
theorem Z23:type_of% @List.mem_range:=@List.mem_range
theorem Z24:type_of% @PySem.W.mg_none_of:=@PySem.W.mg_none_of
theorem Z25:type_of% @List.mem_append:=@List.mem_append
theorem Z26:type_of% @List.getElem_mem:=@List.getElem_mem
theorem Z27:type_of% @PySem.Str.cps_append:=@PySem.Str.cps_append
theorem Z28:type_of% @List.mem_append_right:=@List.mem_append_right
theorem Z29:type_of% @Nat.lt_of_le_of_lt:=@Nat.lt_of_le_of_lt
theorem Z2o:type_of% @Array.toList_inj:=@Array.toList_inj
theorem Z2G:type_of% @List.length_eq_zero_iff:=@List.length_eq_zero_iff
theorem Z2H:type_of% @List.getElem?_append_left:=@List.getElem?_append_left
theorem Z2I:type_of% @List.length_range:=@List.length_range
theorem Z2J:type_of% @Int.toNat_natCast:=@Int.toNat_natCast
theorem Z2K:type_of% @List.length_pos_iff:=@List.length_pos_iff
theorem Z2L:type_of% @PyProof.Rows.callWith_type1:=@PyProof.Rows.callWith_type1
theorem Z2M:type_of% @PySem.F.slot_str_split:=@PySem.F.slot_str_split
theorem Z2N:type_of% @Nat.lt_irrefl:=@Nat.lt_irrefl
theorem Z2O:type_of% @PySem.boot_len:=@PySem.boot_len
theorem Z30:type_of% @List.length_drop:=@List.length_drop
theorem Z31:type_of% @List.take_add_one:=@List.take_add_one
theorem Z32:type_of% @Int.fdiv_eq_ediv_of_nonneg:=@Int.fdiv_eq_ediv_of_nonneg
theorem Z33:type_of% @Nat.ne_of_gt:=@Nat.ne_of_gt
theorem Z34:type_of% @Int.mul_ne_zero:=@Int.mul_ne_zero
theorem Z35:type_of% @Array.getElem?_eq_getElem:=@Array.getElem?_eq_getElem
theorem Z36:type_of% @PySem.mem_of_lookup:=@PySem.mem_of_lookup
theorem Z37:type_of% @List.length_singleton:=@List.length_singleton
theorem Z38:type_of% @Array.getElem?_toList:=@Array.getElem?_toList
theorem Z39:type_of% @PySem.W.kia_one:=@PySem.W.kia_one
theorem Z3a:type_of% @Nat.pow_le_pow_right:=@Nat.pow_le_pow_right
theorem Z3F:type_of% @List.not_mem_nil:=@List.not_mem_nil
theorem Z3H:type_of% @List.getElem?_append_right:=@List.getElem?_append_right
theorem Z40:type_of% @PyProof.Rows.slot_tuple_getitem:=@PyProof.Rows.slot_tuple_getitem
theorem Z41:type_of% @Nat.not_lt_zero:=@Nat.not_lt_zero
theorem Z42:type_of% @List.map_nil:=@List.map_nil
theorem Z43:type_of% @List.append_nil:=@List.append_nil
theorem Z44:type_of% @Int.le_of_lt:=@Int.le_of_lt
theorem Z45:type_of% @PySem.Around.under_plainId:=@PySem.Around.under_plainId
theorem Z46:type_of% @Nat.log2_le_self:=@Nat.log2_le_self
theorem Z47:type_of% @PySem.F.plainAttrs_list:=@PySem.F.plainAttrs_list
theorem Z48:type_of% @Rat.intCast_sub:=@Rat.intCast_sub
theorem Z49:type_of% @PySem.F.slot_str_startswith:=@PySem.F.slot_str_startswith
theorem Z4i:type_of% @PySem.F.type_str_split:=@PySem.F.type_str_split
theorem Z4l:type_of% @List.take_succ:=@List.take_succ
theorem Z4m:type_of% @Int.mul_nonneg:=@Int.mul_nonneg
theorem Z4n:type_of% @PySem.W.mg_of:=@PySem.W.mg_of
theorem Z4o:type_of% @List.replicate_succ:=@List.replicate_succ
theorem Z4p:type_of% @PySem.Heap.size_push:=@PySem.Heap.size_push
theorem Z4q:type_of% @Ne.symm:=@Ne.symm
theorem Z4r:type_of% @List.length_replicate:=@List.length_replicate
theorem Z4s:type_of% @Int.mul_pos:=@Int.mul_pos
theorem Z4t:type_of% @Int.emod_nonneg:=@Int.emod_nonneg
theorem Z4x:type_of% @Rat.mul_nonneg:=@Rat.mul_nonneg
theorem Z4F:type_of% @List.all_eq_true:=@List.all_eq_true
theorem Z4G:type_of% @Bool.and_eq_true:=@Bool.and_eq_true
theorem Z4L:type_of% @PySem.Heap.get?_update_other:=@PySem.Heap.get?_update_other
theorem Z4O:type_of% @Rat.le_of_lt:=@Rat.le_of_lt
theorem Z4X:type_of% @List.pairwise_cons:=@List.pairwise_cons
theorem Z50:type_of% @Int.eq_ofNat_of_zero_le:=@Int.eq_ofNat_of_zero_le
theorem Z51:type_of% @Int.emod_lt_of_pos:=@Int.emod_lt_of_pos
theorem Z52:type_of% @Array.getElem?_eq_none:=@Array.getElem?_eq_none
theorem Z53:type_of% @Rat.mul_pos:=@Rat.mul_pos
theorem Z54:type_of% @List.flatten_cons:=@List.flatten_cons
theorem Z55:type_of% @PySem.F.slot_str_join:=@PySem.F.slot_str_join
theorem Z56:type_of% @Nat.pow_succ:=@Nat.pow_succ
theorem Z57:type_of% @List.map_map:=@List.map_map
theorem Z58:type_of% @Int.zero_add:=@Int.zero_add
theorem Z59:type_of% @Nat.le_add_right:=@Nat.le_add_right
theorem Z5f:type_of% @List.ext_getElem:=@List.ext_getElem
theorem Z5j:type_of% @Nat.mul_le_mul_right:=@Nat.mul_le_mul_right
theorem Z5k:type_of% @List.cons.inj:=@List.cons.inj
theorem Z5l:type_of% @PySem.Str.ext':=@PySem.Str.ext'
theorem Z5m:type_of% @Rat.intCast_add:=@Rat.intCast_add
theorem Z5n:type_of% @PySem.F.type_str_startswith:=@PySem.F.type_str_startswith
theorem Z5o:type_of% @Nat.min_eq_left:=@Nat.min_eq_left
theorem Z5p:type_of% @List.range_succ:=@List.range_succ
theorem Z5q:type_of% @List.length_nil:=@List.length_nil
theorem Z5r:type_of% @List.getElem?_range:=@List.getElem?_range
theorem Z5s:type_of% @List.forIn_cons:=@List.forIn_cons
open PySem PySem.Spec PyProof PyProof.Rows PySem.W
variable{K:PySem.W.Frag}{s:Shared}{n:Nat}
theorem zl0:0<=PySem.sizeLine:=by decide
theorem zl1:1<=PySem.sizeLine:=by decide
theorem zl2:2<=PySem.sizeLine:=by decide
namespace L2
abbrev Key:=Sum Int Str
def Z0c:Key->Value->Bool
 | .inl k,v=>Value.isInt k v
 | .inr x,v=>Value.isStrOf x v
def Z4M(w:World):Key->Int
 | .inl k=>hashInt k
 | .inr x=>hashStr w x
theorem Zu:∀ {k:Key}{v:Value},Z0c k v=true->(∃ i t,k=Sum.inl i/\v=Value.int i t)\/(∃ x t,k=Sum.inr x/\v=Value.str x t)
 | .inl i,v,h=>by
   obtain⟨t,e⟩:=Value.isInt_shape (k:=i) (v:=v) h;exact .inl ⟨i,t,rfl,e⟩
 | .inr x,v,h=>by
   obtain⟨t,e⟩:=Value.isStrOf_shape (x:=x) (v:=v) h;exact .inr ⟨x,t,rfl,e⟩
theorem Z2s(a b:Int):decide ((Sum.inl a:Key)=Sum.inl b)=(a == b):=by
 by_cases e:a=b;subst e;simp;have h:¬ (Sum.inl a:Key)=Sum.inl b:=fun q=>e (Sum.inl.inj q);rw[decide_eq_false h];exact (beq_eq_false_iff_ne.mpr e).symm
theorem Z1V(a b:Str):decide ((Sum.inr a:Key)=Sum.inr b)=decide (a=b):=by
 by_cases e:a=b;subst e;simp;have h:¬ (Sum.inr a:Key)=Sum.inr b:=fun q=>e (Sum.inr.inj q);rw[decide_eq_false h,decide_eq_false e]
theorem Z2b(a:Int)(b:Str):decide ((Sum.inl a:Key)=Sum.inr b)=false:=decide_eq_false (fun q=>nomatch q)
theorem Z1g(a:Str)(b:Int):decide ((Sum.inr a:Key)=Sum.inl b)=false:=decide_eq_false (fun q=>nomatch q)
def Jb(prog:Program)(w:World):PySem.KeyKind prog w Key where
 is:=Z0c
 hash:=Z4M w
 inj:=fun v a b ha hb=>by
  rcases Zu ha with⟨i,t,rfl,rfl⟩|⟨x,t,rfl,rfl⟩;rcases Zu hb with⟨j,u,rfl,e⟩|⟨y,u,rfl,e⟩;injection e with e1 _;rw[e1];exact nomatch e;rcases Zu hb with⟨j,u,rfl,e⟩|⟨y,u,rfl,e⟩;exact nomatch e;injection e with e1 _;rw[e1]
 byValue:=fun k v h=>by
  rcases Zu h with⟨i,t,rfl,rfl⟩|⟨x,t,rfl,rfl⟩ <;> rfl
 pyHash:=fun hv h=>by
  rcases Zu hv with⟨i,t,rfl,rfl⟩|⟨x,t,rfl,rfl⟩;exact wpAny_pyHash_int h;exact wpAny_pyHash_str h
 eqBool:=fun hu hv h=>by
  rcases Zu hu with⟨i,t,rfl,rfl⟩|⟨x,t,rfl,rfl⟩;rcases Zu hv with⟨j,u,rfl,rfl⟩|⟨y,u,rfl,rfl⟩;rw[Z2s] at h;exact wpAny_eqBool_int h;rw[Z2b] at h;exact SeqAt.EqAt.int_str i t y u _ _ _ _ h;rcases Zu hv with⟨j,u,rfl,rfl⟩|⟨y,u,rfl,rfl⟩;rw[Z1g] at h;exact SeqAt.EqAt.str_int x t j u _ _ _ _ h;rw[Z1V] at h;exact wpAny_eqBool_str h
 «strs»:=fun k x t v h=>by
  rcases Zu h with⟨i,u,rfl,e⟩|⟨y,u,rfl,e⟩;exact nomatch e;injection e with e1 _;subst e1;cases v <;> rfl
inductive V where
 | Zr | bl (b:Bool) | int (i:Int) | str (x:Str) | byt (b:Array UInt8) | flt (b:UInt64) | ref (a:Addr) | ty (n:String)
 deriving DecidableEq
def RelV:V->Value->Prop
 | .Zr,u=>u=Value.none
 | .bl b,u=>u=Value.bool b
 | .int i,u=>∃ t,u=Value.int i t
 | .str x,u=>∃ t,u=Value.str x t
 | .byt b,u=>∃ t,u=Value.bytes b t
 | .flt b,u=>∃ t,u=Value.float b t
 | .ref a,u=>u=Value.ref a
 | .ty n,u=>u=Value.type n
abbrev Vals:List V->List Value->Prop:=Paired RelV
theorem Vals.length(r:Vals xs us):xs.length=us.length:=Paired.length r
theorem Vals.get:∀ {xs:List V}{us:List Value}{i:Nat}{x:V},Vals xs us->xs[i]?=some x->∃ u,us[i]?=some u/\RelV x u
 | _,_,_,_,.nil,e=>by simp at e
 | _,_,0,_,.cons r _,e=>by simp at e;subst e;exact⟨_,rfl,r⟩
 | _,_,i+1,x,.cons _ t,e=>by
   obtain⟨u,h1,h2⟩:=Vals.get (i:=i) (x:=x) t (by simpa using e);exact⟨u,by simpa using h1,h2⟩
theorem Vals.set(r:RelV x u):∀ {xs:List V}{us:List Value}(i:Nat),Vals xs us->Vals (xs.set i x) (us.set i u)
 | _,_,_,.nil=>.nil
 | _,_,0,.cons _ t=>.cons r t
 | _,_,i+1,.cons q t=>.cons q (Vals.set r i t)
theorem Vals.append:∀ {xs ys:List V}{us ws:List Value},Vals xs us->Vals ys ws->Vals (xs ++ ys) (us ++ ws)
 | _,_,_,_,.nil,s=>s
 | _,_,_,_,.cons r t,s=>.cons r (Vals.append t s)
theorem Vals.take:∀ {xs:List V}{us:List Value}(n:Nat),Vals xs us->Vals (xs.take n) (us.take n)
 | _,_,0,_=>.nil
 | _,_,_+1,.nil=>.nil
 | _,_,n+1,.cons r t=>.cons r (Vals.take n t)
theorem Vals.drop:∀ {xs:List V}{us:List Value}(n:Nat),Vals xs us->Vals (xs.drop n) (us.drop n)
 | _,_,0,r=>r
 | _,_,_+1,.nil=>.nil
 | _,_,n+1,.cons _ t=>Vals.drop n t
def Uj:Option V->Option Value->Prop
 | some v,some u=>RelV v u
 | none,none=>True
 | _,_=>False
def KV{κ:Type}:List (κ×V)->List (κ×Value)->Prop:=Paired fun (p:κ×V) (q:κ×Value)=>p.1=q.1/\RelV p.2 q.2
def kV:Key->V
 | .inl i=>.int i
 | .inr x=>.str x
inductive HO where
 | lst (xs:List V)
 | tup (xs:List V)
 | dK (kvs:List (Key×V)) | dT (kvs:List (List Key×V))
 | set (S:Int->Bool) (n:Nat)
 | ins (C dx:Addr) (fs:List (Str×V))
 | own (x:Addr)
 | xd (fs:List (Str×V))
 | met (f x:Addr)
 | rng (lo hi:Int)
 | frz (o:Obj) (u:HO)
 | vp (ps:Array Value)
 | ext (φ:Heap->Prop)
abbrev Hp:=Addr->Option HO
def upd(H:Hp)(a:Addr)(o:HO):Hp:=fun b=>if b=a then some o else H b
theorem zh:upd H a o a=some o:=by unfold upd;rw[if_pos rfl]
theorem zD(h:b≠a):upd H a o b=H b:=by unfold upd;rw[if_neg h]
theorem Z0o{H:Hp}{a b:Addr}{o u:HO}(h:H a=some o)(h':H b=some u)(d:o≠u):a≠b:=by
 intro e;subst e;rw[h] at h';exact d (Z1X h')
theorem zo{H:Hp}{a b:Addr}{o:HO}(h:H a=some o)(h':H b=none):a≠b:=by
 intro e;subst e;rw[h] at h';cases h'
def yr(h:Heap)(a:Addr)(items:Array Value):Prop:=∃ o,h.get? a=some o/\(o.cls,o.dict)=(Value.type "tuple",(none:Option Addr))/\∃ n,o.data=.seq items n
theorem yr.tup{h:Heap}{a:Addr}{items:Array Value}(p:yr h a items):PyProof.Rows.IsTup h a items:=by
 obtain⟨o,e,c,n,d⟩:=p;exact⟨o,e,congrArg Prod.fst c,n,d⟩
theorem yr.new(h:Heap)(items:Array Value):yr (h.push { cls:=.type "tuple",data:=.seq items }) h.objs.size items:=⟨_,Z08 _ rfl,rfl,_,rfl⟩
section
variable(P:Program)(w:World)
def Zw(H:Hp)(h:Heap)(a:Addr):HO->Prop
 | .lst xs=>xs.length<=sizeLine/\∃ (its:List Value) (n:Nat),Vals xs its/\h.get? a=some { cls:=.type "list",data:=.seq its.toArray n }
 | .tup xs=>xs.length<=sizeLine/\∃ its:List Value,Vals xs its/\yr h a its.toArray
 | .dK kvs=>kvs.length<=sizeLine/\(a == sysModules)=false/\∃ vs,KV kvs vs/\h.DictOf (Jb P w) a vs
 | .dT kvs=>kvs.length<=sizeLine/\(a == sysModules)=false/\∃ xs:List (List Key×Addr×Value),
  Paired (fun (p:List Key×V) (q:List Key×Addr×Value)=>p.1=q.1/\H q.2.1=some (.tup (p.1.map kV))/\RelV p.2 q.2.2) kvs xs/\
  ∃ o es ep,h.get? a=some o/\o.ExactDict/\o.data=.dict es ep/\es.toList=xs.map (entryOfKey (tupleKind (Jb P w)))/\(xs.map (·.1)).Nodup
 | .set S n=>h.SetOf (intKind P w) a S n
 | .ins C dx fs=>H dx=some (.own a)/\fs.length<=1000/\dx≠a/\h.get? a=some (PySem.W.instObj C dx)/\
  ∃ mA,h.Ns1 dx mA/\(∀ f,Uj (fs.lookup f) (mA f))/\PySem.Within mA (fs.map (·.1))
 | .own _=>∃ o,h.get? a=some o
 | .xd fs=>∃ mA,h.Ns1 a mA/\∀ f,Uj (fs.lookup f) (mA f)
 | .rng lo hi=>∃ t u v,h.get? a=some { cls:=.type "range",data:=.fields #[.int lo t,.int hi u,.int 1 v] }
 | .frz o u=>h.get? a=some o/\Zw H h a u
 | .vp ps=>h.get? a=some { cls:=.none,data:=.fields ps }
 | .met f x=>h.get? a=some (PySem.W.methodObj (.ref f) (.ref x))
 | .ext φ=>φ h/\(∃ o,h.get? a=some o)/\∀ h1 h2:Heap,φ h1->(∀ o,h1.get? a=some o->h2.get? a=some o)->φ h2
def Va(H:Hp)(h:Heap):Prop:=∀ a o,H a=some o->Zw P w H h a o
end
theorem Zw.lt(x:Zw P w H h a o):a<h.objs.size:=by
 cases o with
 | lst xs=>obtain⟨_,_,_,_,e⟩:=x;exact Z09 e
 | tup xs=>obtain⟨_,_,_,p⟩:=x;exact p.tup.lt
 | dK kvs=>obtain⟨_,_,_,_,o,_,_,e,_⟩:=x;exact Z09 e
 | dT kvs=>obtain⟨_,_,_,_,o,_,_,e,_⟩:=x;exact Z09 e
 | set S n=>obtain⟨o,_,_,_,e,_⟩:=x;exact Z09 e
 | ins C dx fs=>obtain⟨_,_,_,e,_⟩:=x;exact Z09 e
 | own y=>obtain⟨_,e⟩:=x;exact Z09 e
 | xd fs=>obtain⟨_,⟨_,_,_,e,_⟩,_⟩:=x;exact Z09 e
 | rng lo hi=>obtain⟨_,_,_,e⟩:=x;exact Z09 e
 | frz ob u=>obtain⟨e,_⟩:=x;exact Z09 e
 | vp ps=>exact Z09 (show h.get? a=some _ from x)
 | met f y=>exact Z09 (show h.get? a=some _ from x)
 | ext φ=>obtain⟨_,⟨_,e⟩,_⟩:=x;exact Z09 e
theorem Paired.Z1q{α β:Type}{F G:α->β->Prop}:∀ {l₁:List α}{l₂:List β},Paired F l₁ l₂->(∀ a b,F a b->G a b)->Paired G l₁ l₂
 | _,_,.nil,_=>.nil
 | _,_,.cons r t,f=>.cons (f _ _ r) (Paired.Z1q t f)
theorem Zw.stay(x:Zw P w H h a o)(k:∀ b u,(b=a\/H b=some (.own a))->h.get? b=some u->h'.get? b=some u)(ho:∀ b,H b=some (.own a)->H' b=some (.own a))(ht:∀ b xs,H b=some (.tup xs)->H' b=some (.tup xs)):Zw P w H' h' a o:=by
 induction o with
 | lst xs=>obtain⟨z,its,n,r,e⟩:=x;exact⟨z,its,n,r,k _ _ (.inl rfl) e⟩
 | tup xs=>obtain⟨z,its,r,ob,e,c⟩:=x;exact⟨z,its,r,ob,k _ _ (.inl rfl) e,c⟩
 | dK kvs=>obtain⟨z,y,vs,r,ob,es,ep,e,c⟩:=x;exact⟨z,y,vs,r,ob,es,ep,k _ _ (.inl rfl) e,c⟩
 | dT kvs =>
   obtain⟨z,y,xs,r,ob,es,ep,e,c⟩:=x;exact⟨z,y,xs,Paired.Z1q r fun p q z=>⟨z.1,ht _ _ z.2.1,z.2.2⟩,ob,es,ep,k _ _ (.inl rfl) e,c⟩
 | set S n=>obtain⟨ob,es,ep,t,e,c⟩:=x;exact⟨ob,es,ep,t,k _ _ (.inl rfl) e,c⟩
 | ins C dx fs =>
   obtain⟨d,z,ne,e,mA,⟨od,es,ep,e2,c⟩,r⟩:=x;exact⟨ho _ d,z,ne,k _ _ (.inl rfl) e,mA,⟨od,es,ep,k _ _ (.inr d) e2,c⟩,r⟩
 | own y=>obtain⟨ob,e⟩:=x;exact⟨ob,k _ _ (.inl rfl) e⟩
 | xd fs=>obtain⟨mA,⟨od,es,ep,e,c⟩,r⟩:=x;exact⟨mA,⟨od,es,ep,k _ _ (.inl rfl) e,c⟩,r⟩
 | rng lo hi=>obtain⟨t,u,v,e⟩:=x;exact⟨t,u,v,k _ _ (.inl rfl) e⟩
 | frz ob u ih=>obtain⟨e,q⟩:=x;exact⟨k _ _ (.inl rfl) e,ih q⟩
 | vp ps =>
   have e:h.get? a=some { cls:=.none,data:=.fields ps }:=x;show h'.get? a=some { cls:=.none,data:=.fields ps };exact k a _ (.inl rfl) e
 | met f y =>
   have e:h.get? a=some (PySem.W.methodObj (.ref f) (.ref y)):=x;show h'.get? a=some (PySem.W.methodObj (.ref f) (.ref y));exact k a _ (.inl rfl) e
 | ext φ=>obtain⟨p,⟨o,e⟩,st⟩:=x;exact⟨st _ _ p fun o q=>k _ _ (.inl rfl) q,⟨o,k _ _ (.inl rfl) e⟩,st⟩
theorem Va.lt(x:Va P w H h)(e:H a=some o):a<h.objs.size:=(x a o e).lt
theorem Va.fresh{h:Heap}{a:Addr}(x:Va P w H h)(e:h.objs.size<=a):H a=none:=by
 cases q:H a with
 | none=>rfl
 | some u=>exact absurd (Z13 (x.lt q) e) (Z2N _)
theorem Va.kept(x:Va P w H h)(k:∀ b u,h.get? b=some u->h'.get? b=some u):Va P w H h':=fun a o e =>
 (x a o e).stay (fun b u _ q=>k b u q) (fun _ q=>q) fun _ _ q=>q
theorem Va.laid{h h':Heap}{a:Addr}(x:Va P w H h)(k:∀ b u,h.get? b=some u->h'.get? b=some u)(hp:h.objs.size<=a)(new:Zw P w (upd H a o) h' a o):Va P w (upd H a o) h':=fun b u e=>by
 have hn:=x.fresh hp;by_cases hb:b=a;subst hb;rw[zh] at e;cases e;exact new;rw[zD hb] at e;exact (x b u e).stay (fun c v _ q=>k c v q) (fun c q=>by rw[zD (zo q hn)];exact q) fun c xs q=>by rw[zD (zo q hn)];exact q
def Rd(H:Hp)(a:Addr)(u:HO):Prop:=H a=some u\/∃ o,H a=some (.frz o u)
theorem Rd.ok(r:Rd H a u)(x:Va P w H h):Zw P w H h a u:=by
 rcases r with r |⟨o,r⟩;exact x a u r;obtain⟨_,q⟩:=x a _ r;exact q
def Mut:Option HO->Prop
 | some (.lst _)=>True
 | some (.dK _)=>True
 | some (.dT _)=>True
 | some (.set _ _)=>True
 | some (.ins _ _ _)=>True
 | some (.ext _)=>True
 | _=>False
theorem Va.write{e:Addr}(ok:Va P w H h)(mu:Mut (H x))(he:e=x\/H e=some (.own x))(k:∀ b u,b≠e->h.get? b=some u->h'.get? b=some u)(heo:∃ u,h'.get? e=some u)(new:Zw P w (upd H x o') h' x o'):Va P w (upd H x o') h':=fun b u q=>by
 have nown:∀ c y,H c=some (.own y)->c≠x:=fun c y r z=>by subst z;rw[r] at mu;exact mu
 have ntup:∀ c xs,H c=some (.tup xs)->c≠x:=fun c xs r z=>by subst z;rw[r] at mu;exact mu
 by_cases hb:b=x;subst hb;rw[zh] at q;cases q;exact new;rw[zD hb] at q;by_cases hbe:b=e;have q':H b=some (.own x):=by
  rcases he with z | z;exact absurd (hbe.trans z) hb;rw[hbe];exact z
 rw[q] at q';cases q';obtain⟨v,hv⟩:=heo;exact⟨v,by rw[hbe];exact hv⟩;refine (ok b u q).stay (fun c v hc r=>k c v ?_ r) (fun c r=>by rw[zD (nown c b r)];exact r) fun c xs r=>by rw[zD (ntup c xs r)];exact r
 rcases hc with rfl | hc;exact hbe;rintro rfl;rcases he with z | z;exact nown c b hc z;rw[hc] at z;cases z;exact hb rfl
structure Un(fs ex:List Addr)(H H':Hp)(h h':Heap):Prop where
 keep:∀ b o,h.get? b=some o->H b=none->b∉fs->b∉ex->h'.get? b=some o
 slot:∀ b o,h.get? b=some o->H b=none->b∈fs->b∉ex->∃ sl,h'.get? b=some { o with slots:=sl }
 free:∀ b o,h.get? b=some o->H b=none->b∉ex->H' b=none
 there:∀ b o,h.get? b=some o->b∉ex->∃ o',h'.get? b=some o'
 tups:∀ b xs,H b=some (.tup xs)->H' b=some (.tup xs)
 frzs:∀ b o u,H b=some (.frz o u)->H' b=some (.frz o u)
 tbls:∀ b ps,H b=some (.vp ps)->∃ more,H' b=some (.vp (ps ++ more))
theorem Un.any{fs:List Addr}(u:Un fs ex H H1 h h1)(q:h.get? b=some ob)(n:H b=none)(hx:b∉ex):∃ sl,h1.get? b=some { ob with slots:=sl }:=by
 by_cases hb:b∈fs;exact u.slot b ob q n hb hx;exact⟨ob.slots,u.keep b ob q n hb hx⟩
theorem Un.kept{fs:List Addr}(k:∀ b u,h.get? b=some u->h'.get? b=some u):Un fs ex H H h h' :=
 ⟨fun b ob q _ _ _=>k b ob q,fun b ob q _ _ _=>⟨ob.slots,k b ob q⟩,fun _ _ _ n _=>n,fun b ob q _=>⟨ob,k b ob q⟩,fun _ _ q=>q,fun _ _ _ q=>q,fun _ ps q=>⟨#[],by rw[q];simp⟩⟩
theorem Un.refl{fs:List Addr}:Un fs ex H H h h:=Un.kept fun _ _ q=>q
theorem Un.laid{fs:List Addr}(k:∀ b u,h.get? b=some u->h'.get? b=some u)(hp:h.objs.size<=a)(hn:H a=none):Un fs ex H (upd H a o) h h' where
 keep:=fun b u q _ _ _=>k b u q
 slot:=fun b u q _ _ _=>⟨u.slots,k b u q⟩
 free:=fun b u q n _=>by rw[zD (Z0T (Z13 (Z09 q) hp))];exact n
 there:=fun b u q _=>⟨u,k b u q⟩
 tups:=fun b xs q=>by rw[zD (zo q hn)];exact q
 frzs:=fun b u xs q=>by rw[zD (zo q hn)];exact q
 tbls:=fun b ps q=>⟨#[],by rw[zD (zo q hn),q];simp⟩
theorem Un.write{fs:List Addr}{e:Addr}(mu:Mut (H x))(he:e=x\/H e=some (.own x))(k:∀ b u,b≠e->h.get? b=some u->h'.get? b=some u)(heo:∃ u,h'.get? e=some u):Un fs ex H (upd H x o) h h':=by
 have hx:∀ b,H b=none->b≠x:=fun b n z=>by subst z;rw[n] at mu;exact mu
 have hb:∀ b,H b=none->b≠e:=fun b n z=>by
  subst z;rcases he with r | r;exact hx b n r;rw[n] at r;cases r
 have hm:∀ b u,H b=some u->¬ Mut (some u)->b≠x:=fun b u q nm z=>by subst z;rw[q] at mu;exact nm mu
 refine⟨fun b u q n _ _=>k b u (hb b n) q,fun b u q n _ _=>⟨u.slots,k b u (hb b n) q⟩,fun b u q n _=>by rw[zD (hx b n)];exact n,fun b u q _=>?_,
  fun b xs q=>by rw[zD (hm b _ q fun z=>z)];exact q,fun b u xs q=>by rw[zD (hm b _ q fun z=>z)];exact q,fun b ps q=>⟨#[],by rw[zD (hm b _ q fun z=>z),q];simp⟩⟩
 by_cases hbe:b=e;subst hbe;exact heo;exact⟨u,k b u hbe q⟩
def trk(h:Heap)(H:Hp):List Addr:=(List.range h.objs.size).filter fun a=>(H a).isSome
def Ue(h:Heap)(H:Hp):Heap:=PySem.W.hideAll h (trk h H)
theorem z5t(h:Heap)(H:Hp):(Ue h H).objs.size=h.objs.size:=PySem.W.hideAll_size _ _
theorem z7G(e:h.get? b=some o)(n:H b=none):(Ue h H).get? b=some o :=
 PySem.W.hideAll_get _ e fun hm=>by
  have q:(H b).isSome=true:=(List.mem_filter.mp hm).2;rw[n] at q;simp at q
theorem ji(e:(Ue h H).get? b=some o):h.get? b=some o/\H b=none:=by
 have e':h.get? b=some o:=PySem.W.of_hideAll (trk h H) e;refine⟨e',?_⟩;cases q:H b with
 | none=>rfl
 | some x =>
   have hm:b∈trk h H:=List.mem_filter.mpr ⟨Z23.mpr (Z09 e'),by simp[q]⟩;have z:(Ue h H).get? b=none:=PySem.W.hideAll_none (trk h H) hm;rw[z] at e;cases e
def yC(g h:Heap)(L:Addr):List (Addr×Obj):=(List.range h.objs.size).filterMap fun a=>if a=L\/(g.get? a).isSome=true then none else (h.get? a).map fun o=>(a,o)
theorem vK(h1:a≠L)(h2:g.get? a=none)(h3:h.get? a=some o):(a,o)∈yC g h L :=
 List.mem_filterMap.mpr ⟨a,Z23.mpr (Z09 h3),by simp[h1,h2,h3]⟩
theorem xW(hp:p∈yC g h L):p.1≠L/\g.get? p.1=none/\h.get? p.1=some p.2:=by
 obtain⟨b,_,e⟩:=List.mem_filterMap.mp hp;split at e;cases e;rename_i hn;cases q:h.get? b with
 | none=>rw[q] at e;simp at e
 | some u =>
   rw[q] at e;simp only[Option.map_some,Option.some.injEq] at e;subst e;refine⟨fun z=>hn (.inl z),?_,q⟩;show g.get? b=none;cases r:g.get? b with
   | none=>rfl
   | some v=>exact (hn (.inr (by simp[r]))).elim
theorem JV:News g L h (yC g h L):=fun p hp=>let ⟨a,b,c⟩:=xW hp;⟨c,a,b⟩
structure Mod(K:PySem.W.Frag)(mg:Str->Option Value)(base:Heap):Prop where
 kin:K.In base
 glob:base.Ns mainGlobals mg
 blt:∃ mb,base.Ns builtinsNs mb/\∀ x:Str,x≠"__name__"->mb x=bootBuiltins x
 nolimit:base.NoLimit
set_option genInjectivity false in
set_option genInjectivity false in
structure Cx where
 prog:Program
 w:World
 K:PySem.W.Frag
 mg:Str->Option Value
 base:Heap
 A:Around
 N:List Str
 s₀:Shared
 H₀:Hp
 env:Env
 outer:List Env
 stack:List Env
 ex:List Addr
 fn:Str->Bool
 calm:Bool
 pn:List (Addr×Obj)
 xe:Value->Shared->Prop
def frs(l:List Env):List Addr:=l.filterMap (·.frame)
abbrev Cx.fs(X:Cx):List Addr:=frs X.outer
def Vis(sc:Scope)(x:Str):Prop:=sc.names.lookup x=some .local\/sc.names.lookup x=some .cell\/sc.names.lookup x=some .free
def Loc(sc:Scope)(x:Str):Prop:=sc.names.lookup x=some .local\/sc.names.lookup x=some .cell
def Look(env:Env)(h:Heap)(m:Str->Option Value)(x:Str)(u:Value):Prop :=
 (env.kindOf x=some .local/\m x=some u)\/((env.kindOf x=some .cell\/env.kindOf x=some .free)/\∃ c,env.cells.lookup x=some c/\h.IsCell c (some u))
set_option genInjectivity false in
structure Cx.Ok(X:Cx):Prop where
 mod:Mod X.K X.mg X.base
 kind:X.env.scope.kind=.function
 glob:X.env.globals=mainGlobals
 blt:X.env.builtins=builtinsNs
 above:X.s₀.heap.objs.size<=X.env.locals
 inj:∀ x y c,X.env.cells.lookup x=some c->X.env.cells.lookup y=some c->x=y
 has:∀ x,(X.env.kindOf x=some .cell\/X.env.kindOf x=some .free)->∃ c,X.env.cells.lookup x=some c
 cab:∀ x c,X.fn x=true->X.env.cells.lookup x=some c->X.s₀.heap.objs.size<=c
 hd:X.calm=true->X.A.handled=none
 frames:X.A.frames=some X.stack
 stk:X.stack=X.outer\/(X.stack=X.env :: X.outer/\X.env.frame=some X.env.locals)
 exf:∀ b∈X.ex,b≠X.env.locals/\∀ x c,X.env.cells.lookup x=some c->c≠b
 bs:∀ b o,X.base.get? b=some o->X.s₀.heap.get? b=some o/\X.H₀ b=none
 bsz:X.base.objs.size<=X.s₀.heap.objs.size
 noex:∀ b o,X.base.get? b=some o->b∉X.ex
 exfs:∀ b∈X.ex,b∉X.fs
 vR:X.s₀.heap.FunFrames X.base X.outer
 frf:∀ b∈X.fs,X.H₀ b=none
set_option genInjectivity false in
structure Inv(X:Cx)(pins:List (Addr×Obj))(σ:List (Option V))(H:Hp)(s:Shared):Prop where
 ok:X.Ok
 os:s.os=X.s₀.os
 bare:AllBare s.gens
 base:Un X.fs X.ex X.H₀ H X.s₀.heap s.heap
 loc:∃ m,s.heap.Ns X.env.locals m/\∀ (i:Nat) (x:Str) (v:V),X.N[i]?=some x->σ[i]?=some (some v)->Vis X.env.scope x->∃ u,RelV v u/\Look X.env s.heap m x u
 cell:∀ x c,X.env.cells.lookup x=some c->∃ v,s.heap.IsCell c v
 free:H X.env.locals=none
 freeC:∀ x c,X.env.cells.lookup x=some c->H c=none
 pin:∀ p∈X.pn ++ pins,s.heap.get? p.1=some p.2/\H p.1=none/\p.1≠X.env.locals/\p.1∉X.fs/\∀ v,p.2.data≠.cell v
 hok:Va X.prog X.w H s.heap
 len:σ.length=X.N.length
theorem Cx.Ok.Z4C{X:Cx}(ok:X.Ok)(e:X.base.get? b=some o):b∉X.fs:=fun hb=>by
 have:=(ok.vR.mem hb).1;rw[e] at this;cases this
theorem Inv.bs(I:Inv X pins σ H s):∀ b o,X.base.get? b=some o->s.heap.get? b=some o/\H b=none:=fun b o e =>
 ⟨I.base.keep b o (I.ok.bs b o e).1 (I.ok.bs b o e).2 (I.ok.Z4C e) (I.ok.noex b o e),I.base.free b o (I.ok.bs b o e).1 (I.ok.bs b o e).2 (I.ok.noex b o e)⟩
theorem Inv.bk(I:Inv X pins σ H s):∀ b o,X.base.get? b=some o->s.heap.get? b=some o:=fun b o e=>(I.bs b o e).1
theorem Inv.mod(I:Inv X pins σ H s):Mod X.K X.mg X.base:=I.ok.mod
theorem Inv.QB(I:Inv X pins σ H s):X.K.In s.heap:=I.ok.mod.kin.keeps I.bk
theorem Inv.lt(I:Inv X pins σ H s):X.env.locals<s.heap.objs.size:=let ⟨_,hn,_⟩:=I.loc;hn.lt
theorem Inv.sz(I:Inv X pins σ H s):X.s₀.heap.objs.size<=s.heap.objs.size:=Z11 I.ok.above (Nat.le_of_lt I.lt)
theorem Inv.Z5i{X:Cx}{a:Addr}(I:Inv X pins σ H s)(h:s.heap.objs.size<=a):a∉X.fs:=fun hb=>by
 obtain⟨_,o,ho,_⟩:=I.ok.vR.mem hb;exact absurd (Z13 (Z09 ho) (Z11 I.sz h)) (Z2N _)
theorem Inv.cne(I:Inv X pins σ H s):∀ x c,X.env.cells.lookup x=some c->c≠X.env.locals:=fun x c e z=>by
 obtain⟨v,o,ho,hd⟩:=I.cell x c e;obtain⟨m,⟨o',es,ep,ho',hd',_⟩,_⟩:=I.loc;rw[z,ho'] at ho;cases ho;rw[hd'] at hd;cases hd
theorem Inv.vR(I:Inv X pins σ H s):s.heap.FunFrames X.base X.outer:=by
 have all:∀ (l:List Env),(∀ b∈frs l,b∈X.fs)->X.s₀.heap.FunFrames X.base l->s.heap.FunFrames X.base l:=by
  intro l
  induction l with
  | nil=>intro _ _;trivial
  | cons env r ih =>
    intro hs hl;obtain⟨hk,⟨L,o,hf,hn,ho,hd⟩,hr⟩:=hl;have hL:L∈X.fs:=hs L (by unfold frs;rw[List.filterMap_cons,hf];exact Z0y);obtain⟨sl,e⟩:=I.base.slot L o ho (I.ok.frf L hL) hL fun z=>I.ok.exfs L z hL;exact⟨hk,⟨L,_,hf,hn,e,hd⟩,ih (fun b hb=>hs b (by unfold frs;rw[List.filterMap_cons,hf];exact Z07 _ hb)) hr⟩
 exact all X.outer (fun _ hb=>hb) I.ok.vR
theorem Inv.stack(I:Inv X pins σ H s):s.heap.FunFrames X.base X.stack:=by
 rcases I.ok.stk with e |⟨e,hf⟩;rw[e];exact I.vR;rw[e];obtain⟨m,hn,_⟩:=I.loc;refine .cons (by rw[I.ok.kind];decide) hf hn ?_ I.vR;exact Heap.get?_none_of_le (Z11 I.ok.bsz I.ok.above)
theorem Inv.jN(I:Inv X pins σ H s):∀ b∈frs X.stack,b∈X.env.locals :: X.fs:=fun b hb=>by
 rcases I.ok.stk with e |⟨e,hf⟩;rw[e] at hb;exact Z07 _ hb;rw[e] at hb;unfold frs at hb;rw[List.filterMap_cons,hf] at hb;exact hb
theorem Inv.jV(I:Inv X pins σ H s):∀ b∈frs X.stack,H b=none:=fun b hb=>by
 rcases Z0z.mp (I.jN b hb) with e | hb;rw[e];exact I.free;obtain⟨_,o,ho,_⟩:=I.ok.vR.mem hb;exact I.base.free b o ho (I.ok.frf b hb) fun z=>I.ok.exfs b z hb
theorem Inv.step{X:Cx}{pins:List (Addr×Obj)}{σ:List (Option V)}{H H':Hp}{s:Shared}{h':Heap}{g':Array GenState}{t':Nat}{d':Drawn}{ch:List Addr}(I:Inv X pins σ H s)
 (hch:∀ b∈ch,(b∈X.ex\/X.s₀.heap.objs.size<=b)/\b≠X.env.locals/\(∀ x c,X.env.cells.lookup x=some c->c≠b)/\∀ p∈X.pn ++ pins,p.1≠b)
 (keep:∀ b o,b≠X.env.locals->b∉X.fs->b∉ch->s.heap.get? b=some o->H b=none->h'.get? b=some o)
 (slot:∀ b o,b≠X.env.locals->b∈X.fs->b∉ch->s.heap.get? b=some o->H b=none->∃ sl,h'.get? b=some { o with slots:=sl }) (free:∀ b o,b∉ch->s.heap.get? b=some o->H b=none->H' b=none)
 (there:∀ b o,b∉ch->s.heap.get? b=some o->∃ o',h'.get? b=some o')
 (tups:∀ b xs,H b=some (.tup xs)->H' b=some (.tup xs)) (frzs:∀ b o u,H b=some (.frz o u)->H' b=some (.frz o u)) (tbls:∀ b ps,H b=some (.vp ps)->∃ more,H' b=some (.vp (ps ++ more)))
 (ns:∀ m,s.heap.Ns X.env.locals m->h'.Ns X.env.locals m) (hok:Va X.prog X.w H' h') (hg:AllBare g') :
 Inv X pins σ H' { s with heap:=h',gens:=g',drawn:=d',toks:=t' }:=by
 have neL:∀ b o,X.s₀.heap.get? b=some o->b≠X.env.locals:=fun b o e=>Z0T (Z13 (Z09 e) I.ok.above);have neC:∀ b o,X.s₀.heap.get? b=some o->b∉X.ex->b∉ch:=fun b o e hx hb=>by
  rcases (hch b hb).1 with z | z;exact hx z;exact absurd (Z13 (Z09 e) z) (Z2N _)
 have cellK:∀ x c,X.env.cells.lookup x=some c->∀ v,s.heap.IsCell c v->h'.IsCell c v:=fun x c e v ⟨o,ho,hd⟩=>by
  have nch:c∉ch:=fun z=>(hch c z).2.2.1 x c e rfl;by_cases hc:c∈X.fs;obtain⟨sl,q⟩:=slot c o (I.cne x c e) hc nch ho (I.freeC x c e);exact⟨_,q,hd⟩;exact⟨o,keep c o (I.cne x c e) hc nch ho (I.freeC x c e),hd⟩
 refine⟨I.ok,I.os,hg,⟨fun b o e n hb hx=>?_,fun b o e n hb hx=>?_,fun b o e n hx=>?_,fun b o e hx=>?_,fun b xs e=>tups b xs (I.base.tups b xs e),fun b o xs e=>frzs b o xs (I.base.frzs b o xs e),fun b ps e=>?_⟩,?_,fun x c e=>?_,?_,fun x c e=>?_,fun p hp=>?_,hok,I.len⟩;exact keep b o (neL b o e) hb (neC b o e hx) (I.base.keep b o e n hb hx) (I.base.free b o e n hx);obtain⟨sl,e1⟩:=I.base.slot b o e n hb hx;obtain⟨sl',e2⟩:=slot b _ (neL b o e) hb (neC b o e hx) e1 (I.base.free b o e n hx);exact⟨sl',e2⟩;obtain⟨o',e1⟩:=I.base.there b o e hx;exact free b o' (neC b o e hx) e1 (I.base.free b o e n hx);obtain⟨o',e1⟩:=I.base.there b o e hx;exact there b o' (neC b o e hx) e1;obtain⟨m1,e1⟩:=I.base.tbls b ps e;obtain⟨m2,e2⟩:=tbls b _ e1;exact⟨m1 ++ m2,by rw[e2,Array.append_assoc]⟩;obtain⟨m,hn,hl⟩:=I.loc;refine⟨m,ns m hn,fun i x v e1 e2 e3=>?_⟩;obtain⟨u,r,l⟩:=hl i x v e1 e2 e3;refine⟨u,r,?_⟩;rcases l with l |⟨k,c,e,z⟩;exact .inl l;exact .inr ⟨k,c,e,cellK x c e _ z⟩;obtain⟨v,z⟩:=I.cell x c e;exact⟨v,cellK x c e v z⟩;obtain⟨m,⟨o,_,_,ho,_⟩,_⟩:=I.loc;exact free _ o (fun z=>(hch _ z).2.1 rfl) ho I.free
 obtain⟨v,o,ho,hd⟩:=I.cell x c e;exact free c o (fun z=>(hch c z).2.2.1 x c e rfl) ho (I.freeC x c e);obtain⟨e,n,ne,nf,d⟩:=I.pin p hp;have nch:p.1∉ch:=fun z=>(hch p.1 z).2.2.2 p hp rfl;exact⟨keep p.1 p.2 ne nf nch e n,free p.1 p.2 nch e n,ne,nf,d⟩
theorem Inv.un(I:Inv X pins σ H s)(u:Un X.fs [] H H' s.heap h')(hok:Va X.prog X.w H' h'):Inv X pins σ H' { s with heap:=h',toks:=t' }:=by
 obtain⟨m,⟨o,es,ep,ho,r⟩,_⟩:=id I.loc;obtain⟨sl,hL⟩:=u.any ho I.free (by simp);exact I.step (g':=s.gens) (d':=s.drawn) (ch:=[]) (fun _ z=>nomatch z) (fun b o _ hb _ e n=>u.keep b o e n hb (by simp)) (fun b o _ hb _ e n=>u.slot b o e n hb (by simp)) (fun b o _ e n=>u.free b o e n (by simp)) (fun b o _ e=>u.there b o e (by simp)) u.tups u.frzs u.tbls (fun m' hm=>by
  obtain⟨o',es',ep',ho',r'⟩:=hm;rw[ho] at ho';cases ho';exact⟨_,es',ep',hL,r'⟩) hok I.bare
theorem Inv.call(I:Inv X pins σ H s)(u:Un (frs X.stack) ch H H' s.heap h')(hok:Va X.prog X.w H' h')(hg:AllBare g')(hch:∀ b∈ch,(b∈X.ex\/X.s₀.heap.objs.size<=b)/\b≠X.env.locals/\(∀ x c,X.env.cells.lookup x=some c->c≠b)/\∀ p∈X.pn ++ pins,p.1≠b) :
 Inv X pins σ H' { s with heap:=h',gens:=g',drawn:=d',toks:=t' }:=by
 obtain⟨m,⟨o,es,ep,ho,r⟩,_⟩:=id I.loc;obtain⟨sl,hL⟩:=u.any ho I.free fun z=>(hch _ z).2.1 rfl;exact I.step (ch:=ch) hch (fun b o hL hb hc e n=>u.keep b o e n (fun z=>(Z0z.mp (I.jN b z)).elim hL hb) hc) (fun b o _ _ hc e n=>u.any e n hc) (fun b o hc e n=>u.free b o e n hc) (fun b o hc e=>u.there b o e hc) u.tups u.frzs u.tbls (fun m' hm=>by
  obtain⟨o',es',ep',ho',r'⟩:=hm;rw[ho] at ho';cases ho';exact⟨_,es',ep',hL,r'⟩) hok hg
theorem Inv.turned(I:Inv X pins σ H s)(k:∀ b o,b≠it->s.heap.get? b=some o->h'.get? b=some o)(hn:H it=none)(hL:it≠X.env.locals)(h1:it∈X.ex\/X.s₀.heap.objs.size<=it)(h2:∀ x c,X.env.cells.lookup x=some c->c≠it)(h3:∀ p∈X.pn ++ pins,p.1≠it):Inv X pins σ H { s with heap:=h',toks:=t' }:=by
 have nit:∀ b u,H b=some u->b≠it:=fun b u e z=>by rw[z,hn] at e;cases e
 refine I.step (g':=s.gens) (d':=s.drawn) (ch:=[it]) (fun b hb=>?_) (fun b o _ _ hc e _=>k b o (fun z=>hc (by simp[z])) e) (fun b o _ _ hc e _=>⟨o.slots,k b o (fun z=>hc (by simp[z])) e⟩) (fun _ _ _ _ n=>n)
  (fun b o hc e=>⟨o,k b o (fun z=>hc (by simp[z])) e⟩) (fun _ _ e=>e) (fun _ _ _ e=>e) (fun b ps e=>⟨#[],by rw[e];simp⟩) (fun m hm=>?_) (fun b u e=>?_) I.bare
 have e:b=it:=by simpa using hb
 subst e;exact⟨h1,hL,h2,h3⟩;obtain⟨o,es,ep,ho,r⟩:=hm;exact⟨o,es,ep,k _ o (Z4q hL) ho,r⟩;refine (I.hok b u e).stay (fun c v hc q=>k c v ?_ q) (fun _ q=>q) fun _ _ q=>q;rcases hc with z | z;rw[z];exact nit b u e;exact nit c _ z
theorem Inv.tok(I:Inv X pins σ H s)(t:Nat):Inv X pins σ H { s with toks:=t }:=I.un (h':=s.heap) (t':=t) Un.refl I.hok
theorem Inv.kept(I:Inv X pins σ H s)(k:∀ b u,s.heap.get? b=some u->h'.get? b=some u):Inv X pins σ H { s with heap:=h',toks:=t' }:=I.un (Un.kept k) (I.hok.kept k)
theorem Inv.laid{X:Cx}{h':Heap}{a:Addr}(I:Inv X pins σ H s)(k:∀ b u,s.heap.get? b=some u->h'.get? b=some u)(hp:s.heap.objs.size<=a)(new:Zw X.prog X.w (upd H a o) h' a o) :
 Inv X pins σ (upd H a o) { s with heap:=h',toks:=t' }:=I.un (Un.laid k hp (I.hok.fresh hp)) (I.hok.laid k hp new)
theorem Inv.write{e:Addr}(I:Inv X pins σ H s)(mu:Mut (H x))(he:e=x\/H e=some (.own x))(k:∀ b u,b≠e->s.heap.get? b=some u->h'.get? b=some u)(heo:∃ u,h'.get? e=some u)(new:Zw X.prog X.w (upd H x o) h' x o):Inv X pins σ (upd H x o) { s with heap:=h',toks:=t' }:=I.un (Un.write mu he k heo) (I.hok.write mu he k heo new)
theorem Inv.z2V(I:Inv X pins σ H s)(h:∀ p∈pins',s.heap.get? p.1=some p.2/\H p.1=none/\p.1≠X.env.locals/\p.1∉X.fs/\∀ v,p.2.data≠.cell v):Inv X pins' σ H s :=
 ⟨I.ok,I.os,I.bare,I.base,I.loc,I.cell,I.free,I.freeC,fun p hp=>(Z25.mp hp).elim (fun z=>I.pin p (List.mem_append_left _ z)) (h p),I.hok,I.len⟩
theorem z0V{N:List Str}(hN:N.Nodup){i j:Nat}{x:Str}(a:N[i]?=some x)(b:N[j]?=some x):i=j:=by
 obtain⟨h1,e1⟩:=Z12.mp a;obtain⟨h2,e2⟩:=Z12.mp b;exact (List.getElem_inj hN).mp (e1.trans e2.symm)
theorem UW(I:Inv X pins σ H s)(hN:X.N.Nodup)(hi:X.N[i]?=some x)(hx:Loc X.env.scope x)(r:RelV v u)(h:∀ s',Inv X pins (σ.set i (some v)) H s'->(∃ a,Heap.SameBut a s.heap s'.heap/\(a=X.env.locals\/X.env.cells.lookup x=some a))->Q () s')(hf:X.fn x=true\/X.env.scope.names.lookup x=some .local:=by first | exact .inl rfl | exact .inr rfl | assumption):wpAny M A (storeName X.env x u) Q E s:=by
 obtain⟨m,hn,hl⟩:=id I.loc;have hcls:(X.env.scope.kind == .class || (X.env.scope.kind == .module && X.env.locals != X.env.globals))=false:=by rw[I.ok.kind];rfl
 have hiσ:i<σ.length:=by rw[I.len];exact (Z12.mp hi).1
 have cne:=I.cne;have tracked:∀ {a:Addr}{h':Heap},(∃ o,s.heap.get? a=some o/\H a=none)->Heap.SameBut a s.heap h'->Va X.prog X.w H h':=fun {a h'} ha hs b ob e=>by
  obtain⟨_,_,hfree⟩:=ha;refine (I.hok b ob e).stay (fun c w' hc q=>(hs.2 c ?_).trans q) (fun _ q=>q) fun _ _ q=>q;rintro rfl;rcases hc with rfl | hc;rw[hfree] at e;cases e;rw[hfree] at hc;cases hc
 rcases hx with hk | hk;refine wpAny_storeName_local hk hn (fun h' hn' hs=>?_) hcls
 obtain⟨oL,_,_,hoL,_⟩:=id hn;refine h _ ⟨I.ok,I.os,I.bare,⟨fun b o e n hb hx=>?_,fun b o e n hb hx=>?_,I.base.free,fun b o e hx=>?_,I.base.tups,I.base.frzs,I.base.tbls⟩,⟨_,hn',fun j y v' e1 e2 e3=>?_⟩,fun y c e=>?_,I.free,I.freeC,fun p hp=>?_,tracked ⟨oL,hoL,I.free⟩ hs,by simpa using I.len⟩ ⟨_,hs,.inl rfl⟩;exact (hs.2 b (Z0T (Z13 (Z09 e) I.ok.above))).trans (I.base.keep b o e n hb hx);obtain⟨sl,e1⟩:=I.base.slot b o e n hb hx;exact⟨sl,(hs.2 b (Z0T (Z13 (Z09 e) I.ok.above))).trans e1⟩;obtain⟨o',e1⟩:=I.base.there b o e hx;exact⟨o',(hs.2 b (Z0T (Z13 (Z09 e) I.ok.above))).trans e1⟩;by_cases hj:j=i;subst hj;rw[hi] at e1;cases e1;rw[List.getElem?_set_self hiσ] at e2;cases e2;exact⟨u,r,.inl ⟨hk,by simp⟩⟩;rw[List.getElem?_set_ne (Z4q hj)] at e2;obtain⟨u',r',q⟩:=hl j y v' e1 e2 e3;refine⟨u',r',?_⟩;rcases q with⟨k,e⟩|⟨k,c,e,z⟩;refine .inl ⟨k,?_⟩;have:y≠x:=fun e=>hj (z0V hN e1 (e ▸ hi))
 simp[this,e];exact .inr ⟨k,c,e,z.sameBut hs (cne y c e)⟩;obtain⟨w',z⟩:=I.cell y c e;exact⟨w',z.sameBut hs (cne y c e)⟩;obtain⟨e,n,ne,nf,d⟩:=I.pin p hp;exact⟨(hs.2 p.1 ne).trans e,n,ne,nf,d⟩;have hfn:X.fn x=true:=by
  rcases hf with z | z;exact z;rw[z] at hk;cases hk
 obtain⟨c,hc⟩:=I.ok.has x (.inl hk);obtain⟨w',z⟩:=I.cell x c hc;refine wpAny_storeName_cell I.ok.kind hk hc z (fun h' hc' hs=>?_);obtain⟨oc,hoc,hocd⟩:=id z;refine h { s with heap:=h' } ⟨I.ok,I.os,I.bare,⟨fun b o e n hb hx=>?_,fun b o e n hb hx=>?_,I.base.free,fun b o e hx=>?_,I.base.tups,I.base.frzs,I.base.tbls⟩,⟨m,hn.sameBut hs (Z4q (cne x c hc)),fun j y v' e1 e2 e3=>?_⟩,fun y c' e=>?_,I.free,I.freeC,fun p hp=>?_,tracked ⟨oc,hoc,I.freeC x c hc⟩ hs,by simpa using I.len⟩ ⟨c,hs,.inr hc⟩;exact (hs.2 b (Z0T (Z13 (Z09 e) (I.ok.cab x c hfn hc)))).trans (I.base.keep b o e n hb hx);obtain⟨sl,e1⟩:=I.base.slot b o e n hb hx;exact⟨sl,(hs.2 b (Z0T (Z13 (Z09 e) (I.ok.cab x c hfn hc)))).trans e1⟩;obtain⟨o',e1⟩:=I.base.there b o e hx;exact⟨o',(hs.2 b (Z0T (Z13 (Z09 e) (I.ok.cab x c hfn hc)))).trans e1⟩;by_cases hj:j=i;subst hj;rw[hi] at e1;cases e1;rw[List.getElem?_set_self hiσ] at e2;cases e2;exact⟨u,r,.inr ⟨.inl hk,c,hc,hc'⟩⟩;rw[List.getElem?_set_ne (Z4q hj)] at e2;obtain⟨u',r',q⟩:=hl j y v' e1 e2 e3;refine⟨u',r',?_⟩;rcases q with q |⟨k,c',e,z'⟩;exact .inl q;refine .inr ⟨k,c',e,z'.sameBut hs ?_⟩;rintro rfl;exact hj (z0V hN e1 (I.ok.inj _ _ _ e hc ▸ hi));by_cases hcc:c'=c;subst hcc;exact⟨_,hc'⟩;obtain⟨w2,z2⟩:=I.cell y c' e;exact⟨w2,z2.sameBut hs hcc⟩;obtain⟨e,n,ne,nf,d⟩:=I.pin p hp;refine⟨(hs.2 p.1 ?_).trans e,n,ne,nf,d⟩;intro q;rw[q,hoc] at e;have q':oc=p.2:=Z1X e;exact d w' (by rw[← q'];exact hocd)
theorem qS(I:Inv X pins σ H s)(hN:X.N.Nodup)(hi:X.N[i]?=some x)(hx:Loc X.env.scope x)(r:RelV v u)(h:∀ s',Inv X pins (σ.set i (some v)) H s'->Q () s')(hf:X.fn x=true\/X.env.scope.names.lookup x=some .local:=by first | exact .inl rfl | exact .inr rfl | assumption):wpAny M A (storeName X.env x u) Q E s :=
 UW I hN hi hx r (fun s' I' _=>h s' I') hf
theorem Inv.z7n(I:Inv X pins σ H s)(ho:s'.os=s.os)(u:Un (frs X.stack) ch H H' s.heap s'.heap)(hok:Va X.prog X.w H' s'.heap)(hg:AllBare s'.gens)(hch:∀ b∈ch,(b∈X.ex\/X.s₀.heap.objs.size<=b)/\b≠X.env.locals/\(∀ x c,X.env.cells.lookup x=some c->c≠b)/\∀ p∈X.pn ++ pins,p.1≠b):Inv X pins σ H' s':=by
 obtain⟨h',g',d',t',o'⟩:=s';have e:o'=s.os:=ho;subst e;exact I.call (g':=g') (t':=t') (d':=d') u hok hg hch
abbrev XK:=Value->Option Addr->Hp->Prop
abbrev St:=List (Option V)
abbrev VK:=V->Hp->Prop
abbrev TE:=St->Hp->VK->Prop
abbrev TT:=St->Hp->(Bool->Hp->Prop)->Prop
abbrev TA:=St->Hp->(List V->Hp->Prop)->Prop
set_option genInjectivity false in
structure Ends where
 nx:St->Hp->Prop
 rt:VK
 bk:St->Hp->Prop:=fun _ _=>False
 ct:St->Hp->Prop:=fun _ _=>False
abbrev TS:=Ends->St->Hp->Prop
def EP(X:Cx)(pins:List (Addr×Obj))(σ:St)(Q:VK)(u:Value)(s':Shared):Prop:=∃ v H',Inv X pins σ H' s'/\RelV v u/\Q v H'
def TP(X:Cx)(pins:List (Addr×Obj))(σ:St)(Q:Bool->Hp->Prop)(b:Bool)(s':Shared):Prop:=∃ H',Inv X pins σ H' s'/\Q b H'
def AP(X:Cx)(pins:List (Addr×Obj))(σ:St)(Q:List V->Hp->Prop)(us:List Value)(s':Shared):Prop:=∃ vs H',Inv X pins σ H' s'/\Vals vs us/\Q vs H'
def SP(X:Cx)(pins:List (Addr×Obj))(D:Ends)(f:Flow)(s':Shared):Prop :=
 match f with
 | .next=>∃ σ' H',Inv X pins σ' H' s'/\D.nx σ' H'
 | .brk=>∃ σ' H',Inv X pins σ' H' s'/\D.bk σ' H'
 | .cont=>∃ σ' H',Inv X pins σ' H' s'/\D.ct σ' H'
 | .ret u=>∃ v σ' H',Inv X pins σ' H' s'/\RelV v u/\D.rt v H'
def PE(X:Cx)(e:Expr)(t:TE):Prop :=
 ∀ (pins:List (Addr×Obj)) (s:Shared) (σ:St) (H:Hp) (Q:VK),Inv X pins σ H s->t σ H Q->wpAny (model X.prog X.w) X.A (eval e X.env) (EP X pins σ Q) X.xe s
def PT(X:Cx)(e:Expr)(t:TT):Prop :=
 ∀ (pins:List (Addr×Obj)) (s:Shared) (σ:St) (H:Hp) (Q:Bool->Hp->Prop),Inv X pins σ H s->t σ H Q->wpAny (model X.prog X.w) X.A (isTrue e X.env (eval e X.env)) (TP X pins σ Q) X.xe s
def PW(X:Cx)(e:Expr)(t:TT):Prop :=
 ∀ (whole:Sem Value) (pins:List (Addr×Obj)) (s:Shared) (σ:St) (H:Hp) (Q:Bool->Hp->Prop),Inv X pins σ H s->t σ H Q->wpAny (model X.prog X.w) X.A (isTrue e X.env whole) (TP X pins σ Q) X.xe s
theorem PW.pt{e:Expr}(h:PW X e t):PT X e t:=h _
def PA(X:Cx)(es:List Expr)(t:TA):Prop :=
 ∀ (pos:Pos) (pins:List (Addr×Obj)) (s:Shared) (σ:St) (H:Hp) (Q:List V->Hp->Prop),Inv X pins σ H s->t σ H Q->wpAny (model X.prog X.w) X.A (spliced (backTo pos (starEach es X.env))) (AP X pins σ Q) X.xe s
def PS(X:Cx)(st:Stmt)(t:TS):Prop :=
 ∀ (pins:List (Addr×Obj)) (s:Shared) (σ:St) (H:Hp) (D:Ends),Inv X pins σ H s->t D σ H->wpAny (model X.prog X.w) X.A (exec st X.env) (SP X pins D) X.xe s
def QW(X:Cx)(st:List Stmt)(t:TS):Prop :=
 ∀ (pins:List (Addr×Obj)) (s:Shared) (σ:St) (H:Hp) (D:Ends),Inv X pins σ H s->t D σ H->wpAny (model X.prog X.w) X.A (execs st X.env) (SP X pins D) X.xe s
theorem Zj{α:Type}{t:Sem α}{Q Q':α->Shared->Prop}(h:wpAny M A t Q E s)(hQ:∀ a s,Q a s->Q' a s):wpAny M A t Q' E s:=wpAny_mono h hQ fun _ _ x=>x
def z2T(i:Nat):TE:=fun σ H Q=>∃ v,σ[i]?=some (some v)/\Q v H
def tC(v:V):TE:=fun _ H Q=>Q v H
theorem Z1o{X:Cx}{i:Nat}{x:Str}{pos:Pos}(hN:X.N[i]?=some x)(hv:Vis X.env.scope x)(hd:(x == ("__debug__":Str))=false:=by decide)(hcd:(x == ("__classdict__":Str))=false:=by decide):PE X (.Name x pos) (z2T i):=by
 intro pins s σ H Q I h;obtain⟨v,e,h⟩:=h;obtain⟨m,hn,hl⟩:=I.loc;obtain⟨u,r,l⟩:=hl i x v hN e hv;have fin:EP X pins σ Q u s:=⟨v,H,I,r,h⟩;rcases l with⟨hk,hm⟩|⟨hk,c,hc,hcell⟩;exact wpAny_Name (wpAny_loadName_local I.ok.kind hk hn hm fin) hd;rcases hk with hk | hk;exact wpAny_Name (wpAny_loadName_cell I.ok.kind hk hc hcell fin) hd;exact wpAny_Name (wpAny_loadName_free I.ok.kind hk hc hcell fin hcd) hd
theorem zP{i j pos}:PE X (.Constant (.int i) j pos) (tC (.int i)):=fun _ _ _ H _ I h=>wpAny_Constant_int ⟨.int i,H,I.tok _,⟨_,rfl⟩,h⟩
theorem Z3z{b j pos}:PE X (.Constant (.bool b) j pos) (tC (.bl b)):=fun _ _ _ H _ I h=>Constant_bool ⟨.bl b,H,I,rfl,h⟩
theorem z6M{j pos}:PE X (.Constant .none j pos) (tC .Zr):=fun _ _ _ H _ I h=>Constant_none ⟨.Zr,H,I,rfl,h⟩
theorem z1t{x j pos}:PE X (.Constant (.str x) j pos) (tC (.str x)):=fun _ _ _ H _ I h=>Calls.Constant_str ⟨.str x,H,I.tok _,⟨_,rfl⟩,h⟩
def Gl(X:Cx)(x:Str):Prop:=X.env.kindOf x=some .globalImplicit
theorem Vu{X:Cx}{σ:St}(I:Inv X pins σ H s)(hg:Gl X x)(hm:X.mg x=some u)(h:Q u s)(hd:(x == ("__debug__":Str))=false:=by decide):wpAny (model X.prog X.w) X.A (eval (.Name x pos) X.env) Q E s :=
 Calls.Name_function_global I.ok.kind hg (Calls.loadGlobal_global (by rw[I.ok.glob];exact I.mod.glob.keeps I.bk) hm h) hd
theorem yn{X:Cx}{E:Value->Shared->Prop}{pins:List (Addr×Obj)}{s:Shared}{σ:St}{H:Hp}{x:Str}{u:Value}{pos:Pos}{Q:Value->Shared->Prop}(I:Inv X pins σ H s)(hg:Gl X x)(hm:X.mg x=none)(hv:bootBuiltins x=some u)(h:Q u s)
 (hn:x≠"__name__":=by decide) (hd:(x == ("__debug__":Str))=false:=by decide):wpAny (model X.prog X.w) X.A (eval (.Name x pos) X.env) Q E s:=by
 obtain⟨mb,h1,h2⟩:=I.mod.blt;exact Calls.Name_function_global I.ok.kind hg (Calls.loadGlobal_builtin (by rw[I.ok.glob];exact I.mod.glob.keeps I.bk) hm (by rw[I.ok.blt];exact h1.keeps I.bk) ((h2 x hn).trans hv) h) hd
theorem yf(hg:Gl X x)(hm:X.mg x=some u)(r:RelV v u)(hd:(x == ("__debug__":Str))=false:=by decide):PE X (.Name x pos) (tC v) :=
 fun _ _ _ H _ I h=>Vu I hg hm ⟨v,H,I,r,h⟩ hd
theorem Xr{X:Cx}{x:Str}{v:V}{u:Value}{pos:Pos}(hg:Gl X x)(hm:X.mg x=none)(hv:bootBuiltins x=some u)(r:RelV v u)(hn:x≠"__name__":=by decide)(hd:(x == ("__debug__":Str))=false:=by decide):PE X (.Name x pos) (tC v) :=
 fun _ _ _ H _ I h=>yn I hg hm hv ⟨v,H,I,r,h⟩ hn hd
def tB(t:TE):TT:=fun σ H Q=>t σ H fun x H1=>∃ c,x=.bl c/\Q c H1
theorem Z2g{e:Expr}(h:PE X e t)(he:∀ whole,isTrue e X.env whole=(do let v ←whole;standAt e.pos;holding [v] (truthy v)):=by intro _;rfl):PT X e (tB t):=by
 intro pins s σ H Q I hw;refine isTrue_plain (Zj (h pins s σ H _ I hw) fun v s1 ⟨x,H1,I1,r1,q1⟩=>?_) (he _);obtain⟨d,rfl,q⟩:=q1;cases r1;exact wpAny_truthy_bool ⟨H1,I1,q⟩
def Z3q(t u:TT):TT:=fun σ H Q=>t σ H fun c H1=>if c=true then u σ H1 Q else Q false H1
def tOr(t u:TT):TT:=fun σ H Q=>t σ H fun c H1=>if c=true then Q true H1 else u σ H1 Q
def Z1W(t:TT):TT:=fun σ H Q=>t σ H fun c H1=>Q (!c) H1
theorem z4j(ha:PT X a tA):PW X (.BoolOp .And [a] pos) tA:=by
 intro wh pins s σ H Q I h;refine isTrue_and (Zj (ha pins s σ H Q I h) fun c s1 e=>?_);cases c with
 | true=>exact isTrue_and_nil e
 | false=>exact e
theorem Z1v(ha:PT X a tA):PW X (.BoolOp .Or [a] pos) tA:=by
 intro wh pins s σ H Q I h;refine isTrue_or (Zj (ha pins s σ H Q I h) fun c s1 e=>?_);cases c with
 | false=>exact isTrue_or_nil e
 | true=>exact e
theorem z7m(ha:PT X a tA)(hb:PW X (.BoolOp .And (b :: rest) pos) tB'):PW X (.BoolOp .And (a :: b :: rest) pos) (Z3q tA tB'):=by
 intro wh pins s σ H Q I h;refine isTrue_and (Zj (ha pins s σ H _ I h) fun c s1 ⟨H1,I1,q1⟩=>?_);cases c with
 | true=>exact hb wh pins s1 σ H1 Q I1 q1
 | false=>exact⟨H1,I1,q1⟩
theorem Z3J(ha:PT X a tA)(hb:PW X (.BoolOp .Or (b :: rest) pos) tB'):PW X (.BoolOp .Or (a :: b :: rest) pos) (tOr tA tB'):=by
 intro wh pins s σ H Q I h;refine isTrue_or (Zj (ha pins s σ H _ I h) fun c s1 ⟨H1,I1,q1⟩=>?_);cases c with
 | true=>exact⟨H1,I1,q1⟩
 | false=>exact hb wh pins s1 σ H1 Q I1 q1
theorem Z1B(ha:PT X a tA):PT X (.UnaryOp .Not a pos) (Z1W tA):=by
 intro pins s σ H Q I h;exact isTrue_not (ha pins s σ H (fun c H1=>Q (!c) H1) I h)
def Z0r(ta tb:TE):TE:=fun σ H Q=>ta σ H fun x H1=>∃ c,x=.bl c/\if c=true then tb σ H1 Q else Q (.bl false) H1
def Z3w(ta tb:TE):TE:=fun σ H Q=>ta σ H fun x H1=>∃ c,x=.bl c/\if c=true then Q (.bl true) H1 else tb σ H1 Q
def Z0J(ta:TE):TE:=fun σ H Q=>ta σ H fun x H1=>∃ c,x=.bl c/\Q (.bl (!c)) H1
theorem Z1w{op}(h:PE X a t):PE X (.BoolOp op [a] pos) t:=fun pins s σ H Q I hw=>BoolOp_one (h pins s σ H Q I hw)
theorem Z0X(ha:PE X a ta)(hb:PE X (.BoolOp .And (b :: rest) pos) tb):PE X (.BoolOp .And (a :: b :: rest) pos) (Z0r ta tb):=by
 intro pins s σ H Q I h;refine BoolOp_and (Zj (ha pins s σ H _ I h) fun v s1 ⟨x,H1,I1,r1,q1⟩=>?_);obtain⟨c,rfl,q1⟩:=q1;cases r1;refine wpAny_truthy_bool ?_;cases c with
 | true=>exact hb pins s1 σ H1 Q I1 q1
 | false=>exact⟨.bl false,H1,I1,rfl,q1⟩
theorem Z4g(ha:PE X a ta)(hb:PE X (.BoolOp .Or (b :: rest) pos) tb):PE X (.BoolOp .Or (a :: b :: rest) pos) (Z3w ta tb):=by
 intro pins s σ H Q I h;refine BoolOp_or (Zj (ha pins s σ H _ I h) fun v s1 ⟨x,H1,I1,r1,q1⟩=>?_);obtain⟨c,rfl,q1⟩:=q1;cases r1;refine wpAny_truthy_bool ?_;cases c with
 | false=>exact hb pins s1 σ H1 Q I1 q1
 | true=>exact⟨.bl true,H1,I1,rfl,q1⟩
theorem Z0W(ha:PE X a ta):PE X (.UnaryOp .Not a pos) (Z0J ta):=by
 intro pins s σ H Q I h;refine UnaryOp_ (Zj (ha pins s σ H _ I h) fun v s1 ⟨x,H1,I1,r1,q1⟩=>?_);obtain⟨c,rfl,q1⟩:=q1;cases r1;exact not_of (wpAny_truthy_bool ⟨.bl (!c),H1,I1,rfl,q1⟩)
def tIf(t:TT)(ta tb:TE):TE:=fun σ H Q=>t σ H fun c H1=>if c=true then ta σ H1 Q else tb σ H1 Q
theorem z0T(hc:PT X c tA)(ha:PE X a ta)(hb:PE X b tb):PE X (.IfExp c a b pos) (tIf tA ta tb):=by
 intro pins s σ H Q I h;refine wpAny_IfExp (Zj (hc pins s σ H _ I h) fun d s1 ⟨H1,I1,q1⟩=>?_);cases d with
 | true=>exact ha pins s1 σ H1 Q I1 q1
 | false=>exact hb pins s1 σ H1 Q I1 q1
def zQ(K:PySem.W.Frag)(H:Hp)(a:Addr)(xs:List V):Prop :=
 Rd H a (.lst xs)\/
  ∃ (o:Obj) (its:Array Value) (n:Nat),K.lookup a=some o/\o.cls=.type "list"/\o.dict=none/\o.data=.seq its n/\its.size<=sizeLine/\Vals xs its.toList
def zX(K:PySem.W.Frag)(H:Hp)(a:Addr)(xs:List V):Prop :=
 Rd H a (.tup xs)\/
  ∃ (o:Obj) (its:Array Value) (n:Nat),K.lookup a=some o/\o.cls=.type "tuple"/\o.data=.seq its n/\its.size<=sizeLine/\Vals xs its.toList
def Z4Z:Value->Option V
 | .none=>some .Zr
 | .bool b=>some (.bl b)
 | .int i _=>some (.int i)
 | .str x _=>some (.str x)
 | .bytes b _=>some (.byt b)
 | .float b _=>some (.flt b)
 | .ref a=>some (.ref a)
 | .type n=>some (.ty n)
 | _=>none
theorem RelV.abs(r:RelV x u):Z4Z u=some x:=by
 cases x with
 | Zr=>cases r;rfl
 | bl _=>cases r;rfl
 | int _=>obtain⟨t,rfl⟩:=r;rfl
 | str _=>obtain⟨t,rfl⟩:=r;rfl
 | byt _=>obtain⟨t,rfl⟩:=r;rfl
 | flt _=>obtain⟨t,rfl⟩:=r;rfl
 | ref _=>cases r;rfl
 | ty _=>cases r;rfl
theorem RelV.inj(r:RelV x u)(q:RelV y u):x=y:=Z1X (r.abs.symm.trans q.abs)
theorem Vals.inj:∀ {xs ys:List V}{us:List Value},Vals xs us->Vals ys us->xs=ys
 | _,_,_,.nil,.nil=>rfl
 | _,_,_,.cons r t,.cons r' t'=>by rw[r.inj r',Vals.inj t t']
theorem zQ.of(h:H a=some (.lst xs)):zQ K H a xs:=.inl (.inl h)
theorem zX.of(h:H a=some (.tup xs)):zX K H a xs:=.inl (.inl h)
theorem Inv.list{X:Cx}{σ:St}{xs:List V}(I:Inv X pins σ H s)(h:zQ X.K H a xs):∃ its:List Value,Vals xs its/\PlainL s.heap a its.toArray/\xs.length<=sizeLine:=by
 rcases h with h |⟨o,its,n,hk,hc,hd,hs,hz,r⟩;obtain⟨z,its,n,r,e⟩:=h.ok I.hok;exact⟨its,r,⟨_,n,e,rfl,rfl,rfl⟩,z⟩;refine⟨its.toList,r,⟨o,n,I.QB a o hk,hc,hd,by simpa using hs⟩,?_⟩;have e:=r.length;simp only[Z06] at e;lia
theorem Inv.tuple{X:Cx}{σ:St}{xs:List V}(I:Inv X pins σ H s)(h:zX X.K H a xs):∃ its:List Value,Vals xs its/\IsTup s.heap a its.toArray/\xs.length<=sizeLine:=by
 rcases h with h |⟨o,its,n,hk,hc,hs,hz,r⟩;obtain⟨z,its,r,p⟩:=h.ok I.hok;exact⟨its,r,p.tup,z⟩;refine⟨its.toList,r,⟨o,I.QB a o hk,hc,n,by simpa using hs⟩,?_⟩;have e:=r.length;simp only[Z06] at e;lia
theorem Inv.Qx{X:Cx}{σ:St}(I:Inv X pins σ H s)(h:zQ X.K H a xs)(h':zQ X.K H a ys):xs=ys:=by
 obtain⟨its,r,⟨o,n,e,_,_,d⟩,_⟩:=I.list h;obtain⟨its',r',⟨o',n',e',_,_,d'⟩,_⟩:=I.list h';rw[e] at e';cases e';rw[d] at d';injection d' with d1 _;have:its=its':=by simpa using congrArg Array.toList d1
 subst this;exact r.inj r'
theorem Inv.Y3{X:Cx}{σ:St}(I:Inv X pins σ H s)(h:zX X.K H a xs)(h':zX X.K H a ys):xs=ys:=by
 obtain⟨its,r,⟨o,e,_,n,d⟩,_⟩:=I.tuple h;obtain⟨its',r',⟨o',e',_,n',d'⟩,_⟩:=I.tuple h';rw[e] at e';cases e';rw[d] at d';injection d' with d1 _;have:its=its':=by simpa using congrArg Array.toList d1
 subst this;exact r.inj r'
abbrev Cx.u5(X:Cx)(E:Value->Shared->Prop):Cx:={ X with xe:=E }
abbrev Cx.nox(X:Cx):Cx:=X.u5 fun _ _=>False
theorem Cx.Ok.u5{X:Cx}(ok:X.Ok)(E:Value->Shared->Prop):(X.u5 E).Ok :=
 ⟨ok.mod,ok.kind,ok.glob,ok.blt,ok.above,ok.inj,ok.has,ok.cab,ok.hd,ok.frames,ok.stk,ok.exf,ok.bs,ok.bsz,ok.noex,ok.exfs,ok.vR,ok.frf⟩
theorem Cx.Ok.xB{X:Cx}(ok:(X.u5 E).Ok):X.Ok :=
 ⟨ok.mod,ok.kind,ok.glob,ok.blt,ok.above,ok.inj,ok.has,ok.cab,ok.hd,ok.frames,ok.stk,ok.exf,ok.bs,ok.bsz,ok.noex,ok.exfs,ok.vR,ok.frf⟩
theorem Inv.u5{X:Cx}{σ:St}(I:Inv X pins σ H s)(E:Value->Shared->Prop):Inv (X.u5 E) pins σ H s:=⟨I.ok.u5 E,I.os,I.bare,I.base,I.loc,I.cell,I.free,I.freeC,I.pin,I.hok,I.len⟩
theorem Inv.xB{X:Cx}{σ:St}(I:Inv (X.u5 E) pins σ H s):Inv X pins σ H s:=⟨I.ok.xB,I.os,I.bare,I.base,I.loc,I.cell,I.free,I.freeC,I.pin,I.hok,I.len⟩
theorem SP.xB(h:SP (X.u5 E) pins D f s'):SP X pins D f s':=by
 cases f with
 | next=>obtain⟨σ',H',I,q⟩:=h;exact⟨σ',H',I.xB,q⟩
 | brk=>obtain⟨σ',H',I,q⟩:=h;exact⟨σ',H',I.xB,q⟩
 | cont=>obtain⟨σ',H',I,q⟩:=h;exact⟨σ',H',I.xB,q⟩
 | ret u=>obtain⟨v,σ',H',I,r,q⟩:=h;exact⟨v,σ',H',I.xB,r,q⟩
theorem QW.nox{st:List Stmt}(h:QW X.nox st t):QW X st t:=fun pins s σ H D I hw =>
 wpAny_mono (h pins s σ H D (I.u5 _) hw) (fun _ _ q=>q.xB) fun _ _ z=>False.elim z
def z6e:TS:=fun D σ H=>D.nx σ H
def Uc(t u:TS):TS:=fun D σ H=>t { D with nx:=u D } σ H
theorem j9:QW X [] z6e:=fun _ _ σ H _ I h=>wpAny_execs_nil ⟨σ,H,I,h⟩
theorem Yk{X:Cx}{st:Stmt}{rest:List Stmt}{t u:TS}(h1:PS X st t)(h2:QW X rest u):QW X (st :: rest) (Uc t u):=by
 intro pins s σ H D I h;refine wpAny_execs_cons (Zj (h1 pins s σ H { D with nx:=u D } I h) fun f s1 q=>?_);cases f with
 | next =>
   obtain⟨σ',H',I',q⟩:=q;exact h2 pins s1 σ' H' D I' q
 | ret v=>exact q
 | brk=>exact q
 | cont=>exact q
theorem ye{X:Cx}{st:Stmt}{t:TS}(h1:PS X st t):QW X [st] t:=by
 intro pins s σ H D I h;refine wpAny_execs_cons (Zj (h1 pins s σ H D I h) fun f s1 q=>?_);cases f with
 | next=>exact wpAny_execs_nil q
 | ret v=>exact q
 | brk=>exact q
 | cont=>exact q
theorem Inv.quiet{X:Cx}{σ:St}(I:Inv X pins σ H s):interactive X.env=false:=by simp[interactive,I.ok.kind]
def Z0H(te:TE):TS:=fun D σ H=>te σ H fun _ H1=>D.nx σ H1
theorem z3R{e:Expr}(he:PE X e te)(hs:swapsWith e none pos.line X.env=pure false:=by rfl):PS X (.Expr e pos) (Z0H te):=by
 intro pins s σ H D I h;exact wpAny_Expr_any (Zj (he pins s σ H _ I h) fun v s1 ⟨x,H1,I1,r1,q1⟩=>⟨σ,H1,I1,q1⟩) I.quiet hs
def Z1D(te:TE):TS:=fun D σ H=>te σ H D.rt
theorem VE{X:Cx}{e:Expr}{te:TE}{pos:Pos}(he:PE X e te):PS X (.Return (some e) pos) (Z1D te):=by
 intro pins s σ H D I h;exact wpAny_Return_some (Zj (he pins s σ H _ I h) fun v s1 ⟨x,H1,I1,r1,q1⟩=>⟨x,σ,H1,I1,r1,q1⟩)
def Z1J(c:TT)(t u:TS):TS:=fun D σ H=>c σ H fun b H1=>if b=true then t D σ H1 else u D σ H1
theorem z7k{X:Cx}{t u:TS}{pos:Pos}{c:Expr}{a b:List Stmt}{tc:TT}(hc:PT X c tc)(ha:QW X a t)(hb:QW X b u):PS X (.If c a b pos) (Z1J tc t u):=by
 intro pins s σ H D I h;refine wpAny_If (Zj (hc pins s σ H _ I h) fun d s1 ⟨H1,I1,q1⟩=>?_);cases d with
 | true=>exact ha pins s1 σ H1 D I1 q1
 | false=>exact hb pins s1 σ H1 D I1 q1
def z6Q:TS:=fun _ _ _=>False
theorem ZA{st:Stmt}:PS X st z6Q:=fun _ _ _ _ _ _ h=>h.elim
abbrev TG:=V->St->Hp->(St->Hp->Prop)->Prop
abbrev TGs:=List V->St->Hp->(St->Hp->Prop)->Prop
def PG(X:Cx)(target:Expr)(t:TG):Prop :=
 ∀ (pins:List (Addr×Obj)) (s:Shared) (σ:St) (H:Hp) (v:V) (u:Value) (Q:St->Hp->Prop),Inv X pins σ H s->RelV v u->t v σ H Q->
   wpAny (model X.prog X.w) X.A (assign target X.env u) (fun _ s'=>∃ σ' H',Inv X pins σ' H' s'/\Q σ' H') X.xe s
def PGs(X:Cx)(ts:List Expr)(t:TGs):Prop :=
 ∀ (pins:List (Addr×Obj)) (s:Shared) (σ:St) (H:Hp) (vs:List V) (us:List Value) (Q:St->Hp->Prop),Inv X pins σ H s->Vals vs us->t vs σ H Q->
   wpAny (model X.prog X.w) X.A (assignInOrder ((assignEach ts X.env).map (·.2)) us) (fun _ s'=>∃ σ' H',Inv X pins σ' H' s'/\Q σ' H') X.xe s
abbrev Z2i:=V->V->V->Hp->(Hp->Prop)->Prop
def Z2P(X:Cx)(t:Z2i):Prop :=
 ∀ (pins:List (Addr×Obj)) (s:Shared) (σ:St) (H:Hp) (o i v:V) (ov iv u:Value) (Q:Hp->Prop),Inv X pins σ H s->RelV o ov->RelV i iv->RelV v u->t o i v H Q->
   wpAny (model X.prog X.w) X.A (setItem ov iv u) (fun _ s'=>∃ H',Inv X pins σ H' s'/\Q H') X.xe s
def Zs(i:Nat):TG:=fun v σ H Q=>Q (σ.set i (some v)) H
theorem Zo(hN:X.N.Nodup)(hi:X.N[i]?=some x)(hx:Loc X.env.scope x)(hf:X.fn x=true\/X.env.scope.names.lookup x=some .local:=by first | exact .inl rfl | exact .inr rfl | assumption):PG X (.Name x pos) (Zs i):=by
 intro pins s σ H v u Q I r h;exact wpAny_assign_Name (qS I hN hi hx r (fun s' I'=>⟨_,H,I',h⟩) hf)
def Z4c:TGs:=fun vs σ H Q=>vs=[]/\Q σ H
def Z0v(t:TG)(u:TGs):TGs:=fun vs σ H Q=>∃ v r,vs=v :: r/\t v σ H fun σ' H'=>u r σ' H' Q
theorem Y5:PGs X [] Z4c:=by
 intro pins s σ H vs us Q I r h;obtain⟨e,h⟩:=h;subst e;cases r;exact assignInOrder_nil ⟨σ,H,I,h⟩
theorem Zz{e:Expr}(h1:PG X e t)(h2:PGs X es u)(hs:(assignEach (e :: es) X.env).map (·.2)=assign e X.env :: (assignEach es X.env).map (·.2):=by rfl):PGs X (e :: es) (Z0v t u):=by
 intro pins s σ H vs us Q I r h;obtain⟨v,vr,e1,h⟩:=h;subst e1;cases r with
 | cons r rr =>
   rw[hs];refine assignInOrder_cons (Zj (h1 pins s σ H _ _ _ I r h) fun _ s1 ⟨σ1,H1,I1,q1⟩=>?_);exact h2 pins s1 σ1 H1 _ _ Q I1 rr q1
def z9q(K:PySem.W.Frag)(n:Nat)(t:TGs):TG:=fun v σ H Q=>∃ a xs,v=.ref a/\zX K H a xs/\xs.length=n/\t xs σ H Q
theorem z2k{X:Cx}{pos:Pos}{es:List Expr}{k:Nat}{t:TGs}{n:Nat}(hc:X.calm=true)(h:PGs X es t)
 (hn:(assignEach es X.env).length=n:=by rfl) (hst:(assignEach es X.env).findIdx? (·.1)=none:=by rfl):PG X (.Tuple es k pos) (z9q X.K n t):=by
 intro pins s σ H v u Q I r hw;obtain⟨a,xs,e1,hq,hl,hw⟩:=hw;subst e1;cases r;obtain⟨its,rv,ht,hz⟩:=I.tuple hq;refine assign_Tuple_tuple (I.ok.hd hc) ht (by simp[hn,← hl,rv.length]) hst fun h' hx=>?_;have I1:Inv X pins σ H { s with heap:=h' }:=I.kept (t':=s.toks) fun b o e=>hx b o (Z0T (Z09 e)) e;exact h pins _ σ H xs _ Q I1 (by simpa using rv) hw
def Z4N(to ti:TE)(t:Z2i):TG:=fun v σ H Q=>to σ H fun o H1=>ti σ H1 fun i H2=>t o i v H2 fun H3=>Q σ H3
theorem z1n(ho:PE X o to)(hi:PE X i ti)(hs:Z2P X t)(ha:∀ v,assign (.Subscript o i pos) X.env v=(do
  let ov ←holding [v] (eval o X.env);let iv ←holding [v,ov] (eval i X.env)
  standAt pos
  holding [v,ov,iv] (setItem ov iv v)
  release [v,ov,iv] []):=by intro _;rfl):PG X (.Subscript o i pos) (Z4N to ti t):=by
 intro pins s σ H v u Q I r h;rw[ha];refine wpAny_bind (wpAny_holding (Zj (ho pins s σ H _ I h) fun ov s1 ⟨x,H1,I1,r1,q1⟩=>?_));refine wpAny_bind (wpAny_holding (Zj (hi pins s1 σ H1 _ I1 q1) fun iv s2 ⟨y,H2,I2,r2,q2⟩=>?_));refine wpAny_bind (wpAny_standAt (wpAny_bind (wpAny_holding (Zj (hs pins s2 σ H2 x y v ov iv u _ I2 r1 r2 r q2) fun _ s3 ⟨H3,I3,q3⟩=>?_))));exact wpAny_release ⟨σ,H3,I3,q3⟩
def z1r(te:TE)(g:TG):TS:=fun D σ H=>te σ H fun x H1=>g x σ H1 D.nx
theorem Jh{X:Cx}{pos:Pos}{e:Expr}(he:PE X e te)(hg:PG X tg g)(hs:swapsWithSole [tg] e pos.line X.env=pure false:=by rfl)(hw:swappedStores [tg] e X.env=pure none:=by rfl)(h1:(assignEach [tg] X.env).map (·.2)=[assign tg X.env]:=by rfl):PS X (.Assign [tg] e pos) (z1r te g):=by
 intro pins s σ H D I h;refine wpAny_Assign_stores (Zj (he pins s σ H _ I h) fun v s1 ⟨x,H1,I1,r1,q1⟩=>?_) hs hw;rw[h1];exact Zj (hg pins s1 σ H1 x v _ I1 r1 q1) fun _ s2 q=>q
theorem QY{X:Cx}{pos:Pos}{e:Expr}(hN:X.N.Nodup)(hi:X.N[i]?=some x)(hx:Loc X.env.scope x)(he:PE X e te)(hs:swapsWith e (some (.Name x pos')) pos.line X.env=pure false:=by rfl)(hf:X.fn x=true\/X.env.scope.names.lookup x=some .local:=by first | exact .inl rfl | exact .inr rfl | assumption) :
 PS X (.Assign [.Name x pos'] e pos) (z1r te (Zs i)):=by
 intro pins s σ H D I h;refine wpAny_Assign_Name (Zj (he pins s σ H _ I h) fun v s1 ⟨y,H1,I1,r1,q1⟩=>?_) hs;exact qS I1 hN hi hx r1 (fun s2 I2=>⟨_,H1,I2,q1⟩) hf
def Z4W(i j:Nat)(ta:TA):TS:=fun D σ H=>ta σ H fun vs H1=>∃ v w,vs=[v,w]/\D.nx ((σ.set i (some v)).set j (some w)) H1
theorem Q5{kt k2 pt2}(hc:X.calm=true)(hN:X.N.Nodup)(hi:X.N[i]?=some x)(hj:X.N[j]?=some y)(hij:i≠j)(hx:X.env.scope.names.lookup x=some .local)(hy:X.env.scope.names.lookup y=some .local)(ha:PA X [a,b] ta)(hw:swappedStores [.Tuple [.Name x px,.Name y py] kt pt] (.Tuple [a,b] k2 pt2) X.env=pure (some [x,y]))(hs:swapsWithSole [.Tuple [.Name x px,.Name y py] kt pt] (.Tuple [a,b] k2 pt2) pos.line X.env=pure false:=by rfl) :
 PS X (.Assign [.Tuple [.Name x px,.Name y py] kt pt] (.Tuple [a,b] k2 pt2) pos) (Z4W i j ta):=by
 intro pins s σ H D I h;rw[exec_Assign_arm];refine wpAny_bind (wpAny_standAt ?_);rw[hs];refine wpAny_bind (wpAny_pure ?_);rw[if_neg (by decide)];refine wpAny_bind (Tuple_ (Zj (ha _ pins s σ H _ I h) fun us s1 ⟨vs,H1,I1,r1,q1⟩=>?_));obtain⟨v,w,e1,q1⟩:=q1;subst e1;obtain⟨u1,u2,rfl,rv,rw'⟩:∃ u1 u2,us=[u1,u2]/\RelV v u1/\RelV w u2:=by
  cases r1 with
  | cons p q =>
    cases q with
    | cons p' q' =>
      cases q';exact⟨_,_,rfl,p,p'⟩
 refine wpAny_newObj_type ?_ zl2;have I2:Inv X pins σ H1 { s1 with heap:=s1.heap.push { cls:=.type "tuple",data:=.seq [u1,u2].toArray } }:=I1.kept (t':=s1.toks) fun b o e=>Z00 _ e;rw[hw];refine wpAny_bind (wpAny_pure ?_);show wpAny (model X.prog X.w) X.A (do rule "assign.swapped-stores";let items ←unpackItems (.ref s1.heap.objs.size) 2 none;assignInOrder [fun v=>bindName X.env y v,fun v=>bindName X.env x v] items.reverse;pure Flow.next) _ _ _;refine wpAny_bind (wpAny_rule (wpAny_bind (unpackItems_tuple (items:=#[u1,u2]) (I.ok.hd hc) (IsTup.new s1.heap _) fun h' hx'=>?_)));have I3:=I2.kept (h':=h') (t':=s1.toks) fun b o e=>hx' b o (Z0T (Z09 e)) e;show wpAny _ _ (assignInOrder [fun v=>bindName X.env y v,fun v=>bindName X.env x v] [u2,u1] >>= fun _=>pure Flow.next) _ _ _;refine wpAny_bind (assignInOrder_cons (wpAny_bindName (qS I3 hN hj (.inl hy) rw' (fun s2 I4=>?_) (.inr hy))));refine assignInOrder_cons (wpAny_bindName (qS I4 hN hi (.inl hx) rv (fun s3 I5=>assignInOrder_nil (wpAny_pure ?_)) (.inr hx)));rw[List.set_comm _ _ (Z4q hij)] at I5;exact⟨_,H1,I5,q1⟩
def jf(c:TT)(tb:TS):TS:=fun D σ H=>∃ W:Nat->St->Hp->Prop,(∃ m,W m σ H)/\∀ m σ H,W m σ H->
 c σ H fun b H1=>if b=true then ∃ N:St->Hp->Prop,(∀ σ' H',N σ' H'->∃ m',m'<m/\W m' σ' H')/\tb { D with nx:=N,ct:=N,bk:=D.nx } σ H1 else D.nx σ H1
theorem QA(hp:PassesOwn (model X.prog X.w) X.A X.env X.xe)(hc:PT X c tc)(hb:QW X body tb):PS X (.While c body [] pos) (jf tc tb):=by
 intro pins s σ H D I h;obtain⟨W,⟨m0,w0⟩,turn⟩:=h;refine wpAny_While (codeAny_whileLoop (fun n s'=>∃ σ' H',Inv X pins σ' H' s'/\W n σ' H') ?_ m0 ⟨σ,H,I,w0⟩);rintro n s1 ⟨σ1,H1,I1,w1⟩;refine wpAny_passesOwn hp (Zj (hc pins s1 σ1 H1 _ I1 (turn n σ1 H1 w1)) fun b s2 ⟨H2,I2,q2⟩=>?_);cases b with
 | true =>
   obtain⟨N,hN,q2⟩:=q2;rw[if_pos rfl];refine wpAny_passesOwn hp (Zj (hb pins s2 σ1 H2 _ I2 q2) fun f s3 q3=>?_);cases f with
   | next =>
     obtain⟨σ3,H3,I3,n3⟩:=q3;obtain⟨m',hm,w3⟩:=hN σ3 H3 n3;exact⟨m',hm,σ3,H3,I3,w3⟩
   | cont =>
     obtain⟨σ3,H3,I3,n3⟩:=q3;obtain⟨m',hm,w3⟩:=hN σ3 H3 n3;exact⟨m',hm,σ3,H3,I3,w3⟩
   | brk=>exact q3
   | ret v=>exact q3
 | false =>
   rw[if_neg Z10];exact wpAny_execs_nil ⟨σ1,H2,I2,q2⟩
set_option genInjectivity false in
structure It where
 go:Nat->Hp->Prop
 yld:Nat->Hp->V->Hp->Prop
 stop:Nat->Hp->Prop
def xA(X:Cx)(pins:List (Addr×Obj))(H:Hp)(b:Addr):Prop :=
 H b=none/\b≠X.env.locals/\b∉X.fs/\(b∈X.ex\/X.s₀.heap.objs.size<=b)/\(∀ x c,X.env.cells.lookup x=some c->c≠b)/\∀ p∈X.pn ++ pins,p.1≠b
theorem Inv.JS{σ:St}{b:Addr}(I:Inv X pins σ H s)(hb:s.heap.objs.size<=b)(hn:H' b=none):xA X pins H' b:=by
 refine⟨hn,Z33 (Z13 I.lt hb),I.Z5i hb,.inr (Z11 I.sz hb),fun x c e z=>?_,fun p hp z=>?_⟩;obtain⟨v,q⟩:=I.cell x c e;exact absurd (Z13 q.lt (by rw[z];exact hb)) (Z2N _);exact absurd (Z13 (Z09 (I.pin p hp).1) (by rw[z];exact hb)) (Z2N _)
structure Turn(P:Program)(w:World)(K:PySem.W.Frag)(tg:Expr)(J:It)(fp:List Addr)(it:Addr)(tn:Nat->Heap->Prop):Prop where
 mem:it∈fp
 obj:∀ i h,tn i h->∀ b∈fp,∃ o,h.get? b=some o/\∀ v,o.data≠.cell v
 keep:∀ i h h',tn i h->(∀ b∈fp,∀ o,h.get? b=some o->h'.get? b=some o)->tn i h'
 item:∀ (X:Cx),X.prog=P->X.w=w->X.K=K->X.calm=true->∀ (i:Nat) (pins:List (Addr×Obj)) (s:Shared) (σ:St) (H:Hp) (E:Value->Shared->Prop),Inv X pins σ H s->(∀ b∈fp,xA X pins H b)->tn i s.heap->J.go i H->
  wpAny (model P w) X.A (pyNext (.ref it)) (fun r s1=>∃ u,r=some u/\
   wpAny (model P w) X.A (letOwnedTupleGo tg (.ref it) u) (fun _ s2=>∃ x H',Inv X pins σ H' s2/\RelV x u/\J.yld i H x H'/\tn (i+1) s2.heap/\∀ b∈fp,H' b=none) E s1) E s
 done:∀ (X:Cx),X.prog=P->X.w=w->X.K=K->X.calm=true->∀ (i:Nat) (pins:List (Addr×Obj)) (s:Shared) (σ:St) (H:Hp) (E:Value->Shared->Prop),Inv X pins σ H s->(∀ b∈fp,xA X pins H b)->tn i s.heap->J.stop i H->
  wpAny (model P w) X.A (pyNext (.ref it)) (fun r s1=>r=none/\Inv X pins σ H s1) E s
 self:∀ (A:Around) (i:Nat) (s:Shared) (Q:Value->Shared->Prop) (E:Value->Shared->Prop),tn i s.heap->Q (.ref it) s->wpAny (model P w) A (pyIter (.ref it)) Q E s
abbrev TI:=St->Hp->(It->Hp->Prop)->Prop
def PIE(X:Cx)(pins:List (Addr×Obj))(σ:St)(tg:Expr)(R:It->Hp->Prop)(itv:Value)(s2:Shared):Prop :=
 ∃ (it:Addr) (fp:List Addr) (tn:Nat->Heap->Prop) (J:It) (H':Hp),itv=.ref it/\Inv X pins σ H' s2/\Turn X.prog X.w X.K tg J fp it tn/\tn 0 s2.heap/\(∀ b∈fp,xA X pins H' b)/\R J H'
def PI(X:Cx)(tg iter:Expr)(wi:TI):Prop :=
 ∀ (pins:List (Addr×Obj)) (s:Shared) (σ:St) (H:Hp) (R:It->Hp->Prop),Inv X pins σ H s->wi σ H R->
   wpAny (model X.prog X.w) X.A (eval iter X.env) (fun v s1=>wpAny (model X.prog X.w) X.A (pyIter v) (PIE X pins σ tg R) X.xe s1) X.xe s
theorem z0j{o:Obj}{n:String}(ho:s.heap.get? it=some o)(hc:o.cls=.type n)(hd:o.data=.fields vs)(hn:["enumerate","zip","dict_itemiterator","dict_reverseitemiterator","odict_iterator","itertools.zip_longest","itertools.pairwise"].contains n=false)(hQ:Q () s):wpAny M A (letOwnedTupleGo tg (.ref it) u) Q E s:=by
 unfold letOwnedTupleGo;cases tg <;> first
  | exact wpAny_pure hQ
  | (cases u <;> first
   | exact wpAny_pure hQ
   | (refine wpAny_bind (wpAny_load ho ?_)
      rw[hc,hd];show wpAny M A (if (["enumerate","zip","dict_itemiterator","dict_reverseitemiterator","odict_iterator","itertools.zip_longest","itertools.pairwise"].contains n && vs[0]? == some (rawInt _))=true then _ else _) Q E s;rw[if_neg (by intro h;rw[hn,Bool.false_and] at h;cases h)];exact wpAny_pure hQ))
def Itl(K:PySem.W.Frag)(a:Addr):It :=
 ⟨fun i H=>∃ xs x,zQ K H a xs/\xs[i]?=some x,fun i H x H'=>H'=H/\∀ xs,zQ K H a xs->xs[i]?=some x,fun i H=>∃ xs,zQ K H a xs/\xs.length<=i⟩
def Itt(K:PySem.W.Frag)(a:Addr):It :=
 ⟨fun i H=>∃ xs x,zX K H a xs/\xs[i]?=some x,fun i H x H'=>H'=H/\∀ xs,zX K H a xs->xs[i]?=some x,fun i H=>∃ xs,zX K H a xs/\xs.length<=i⟩
def Itr(lo:Int)(n:Nat):It:=⟨fun i _=>i<n,fun i H x H'=>H'=H/\x=.int (lo+i),fun i _=>n<=i⟩
theorem Uu(a it:Addr):Turn P w K tg (Itl K a) [it] it (fun i h=>h.IsListIter it a i) where
 mem:=by simp
 obj:=fun i h st b hb=>by
  have e:b=it:=by simpa using hb
  subst e;obtain⟨o,e,c,d⟩:=st;exact⟨o,e,fun v z=>by rw[d] at z;cases z⟩
 keep:=fun i h h' st k=>st.at fun o e=>k it (by simp) o e
 item:=by
  intro X hP hw hK hc i pins s σ H E I hf st hg;subst hP hw hK;obtain⟨xs,x,hq,hx⟩:=hg;obtain⟨its,rv,p,hz⟩:=I.list hq;obtain⟨u,hu,ru⟩:=rv.get hx;obtain⟨f0,f1,f2,f3,f4,f5⟩:=hf it (by simp);refine wpAny_pyNext_list_item st p.isList (x:=u) (by simpa using hu) fun h' st' sb=>?_;have I1:Inv X pins σ H { s with heap:=h' }:=I.turned (t':=s.toks) (fun b o hb e=>(sb.2 b hb).trans e) f0 f1 f3 f4 f5;obtain⟨o,e,c,d⟩:=id st';exact⟨u,rfl,z0j (s:={ s with heap:=h' }) e c d (by decide) ⟨x,H,I1,ru,⟨rfl,fun ys hy=>by rw[I.Qx hy hq];exact hx⟩,st',fun b hb=>(hf b hb).1⟩⟩
 done:=by
  intro X hP hw hK hc i pins s σ H E I hf st hg;subst hP hw hK;obtain⟨xs,hq,hx⟩:=hg;obtain⟨its,rv,p,hz⟩:=I.list hq;obtain⟨f0,f1,f2,f3,f4,f5⟩:=hf it (by simp);have hl:=rv.length;exact wpAny_pyNext_list_end (I.ok.hd hc) st p.isList (by simp;lia) fun h' eb=>⟨rfl,I.turned (t':=s.toks) (fun b o hb e=>eb b o hb e) f0 f1 f3 f4 f5⟩
 self:=fun _ _ _ _ _ st h=>wpAny_pyIter_listiter st h
theorem ux(a it:Addr):Turn P w K tg (Itt K a) [it] it (fun i h=>h.IsTupleIter it a i) where
 mem:=by simp
 obj:=fun i h st b hb=>by
  have e:b=it:=by simpa using hb
  subst e;obtain⟨o,e,c,d⟩:=st;exact⟨o,e,fun v z=>by rw[d] at z;cases z⟩
 keep:=fun i h h' st k=>st.at fun o e=>k it (by simp) o e
 item:=by
  intro X hP hw hK hc i pins s σ H E I hf st hg;subst hP hw hK;obtain⟨xs,x,hq,hx⟩:=hg;obtain⟨its,rv,p,hz⟩:=I.tuple hq;obtain⟨u,hu,ru⟩:=rv.get hx;obtain⟨f0,f1,f2,f3,f4,f5⟩:=hf it (by simp);refine wpAny_pyNext_tuple_item st (show s.heap.IsTuple a its.toArray from p) (x:=u) (by simpa using hu) fun h' st' sb=>?_;have I1:Inv X pins σ H { s with heap:=h' }:=I.turned (t':=s.toks) (fun b o hb e=>(sb.2 b hb).trans e) f0 f1 f3 f4 f5;obtain⟨o,e,c,d⟩:=id st';exact⟨u,rfl,z0j (s:={ s with heap:=h' }) e c d (by decide) ⟨x,H,I1,ru,⟨rfl,fun ys hy=>by rw[I.Y3 hy hq];exact hx⟩,st',fun b hb=>(hf b hb).1⟩⟩
 done:=by
  intro X hP hw hK hc i pins s σ H E I hf st hg;subst hP hw hK;obtain⟨xs,hq,hx⟩:=hg;obtain⟨its,rv,p,hz⟩:=I.tuple hq;obtain⟨f0,f1,f2,f3,f4,f5⟩:=hf it (by simp);have hl:=rv.length;exact wpAny_pyNext_tuple_end (I.ok.hd hc) st (show s.heap.IsTuple a its.toArray from p) (by simp;lia) fun h' eb=>⟨rfl,I.turned (t':=s.toks) (fun b o hb e=>eb b o hb e) f0 f1 f3 f4 f5⟩
 self:=fun _ _ _ _ _ st h=>wpAny_pyIter_tupleiter st h
theorem z2D(it:Addr)(lo:Int)(n:Nat):Turn P w K tg (Itr lo n) [it] it (fun i h=>IsRangeIter h it (lo+(i:Nat) * 1) ((n:Int) - (i:Nat)) 1) where
 mem:=by simp
 obj:=fun i h st b hb=>by
  have e:b=it:=by simpa using hb
  subst e;exact⟨_,st,fun v z=>by
   have z':Data.fields _=Data.cell v:=z;cases z'⟩
 keep:=fun i h h' st k=>k it (by simp) _ st
 item:=by
  intro X hP hw hK hc i pins s σ H E I hf st hg;subst hP hw hK;obtain⟨f0,f1,f2,f3,f4,f5⟩:=hf it (by simp);have W:=Walks.range (prog:=X.prog) (w:=X.w) (I.ok.hd hc) it lo 1 n;refine W.item i s _ _ hg st fun v h' tk hv st' kk=>?_;obtain⟨t,rfl⟩:=hv;have I1:Inv X pins σ H { s with heap:=h',toks:=tk }:=I.turned (fun b o hb e=>kk b o (by simpa using hb) e) f0 f1 f3 f4 f5;refine⟨_,rfl,z0j (s:={ s with heap:=h',toks:=tk }) (n:="range_iterator") st' rfl rfl (by decide) ⟨.int (lo+i),H,I1,⟨t,?_⟩,⟨rfl,rfl⟩,st',fun b hb=>(hf b hb).1⟩⟩;rw[Int.mul_one]
 done:=by
  intro X hP hw hK hc i pins s σ H E I hf st hg;subst hP hw hK;obtain⟨f0,f1,f2,f3,f4,f5⟩:=hf it (by simp);exact wpAny_pyNext_range_end (I.ok.hd hc) st (by have:n<=i:=hg;lia) fun h' eb=>⟨rfl,I.turned (t':=s.toks) (fun b o hb e=>eb b o hb e) f0 f1 f3 f4 f5⟩
 self:=fun _ _ _ _ _ st h=>wpAny_pyIter_rangeiter st h
def Z0d(K:PySem.W.Frag)(tl:TE):TI:=fun σ H R=>tl σ H fun x H1=>∃ a,x=.ref a/\(∃ xs,zQ K H1 a xs)/\R (Itl K a) H1
def Z3Y(K:PySem.W.Frag)(tl:TE):TI:=fun σ H R=>tl σ H fun x H1=>∃ a,x=.ref a/\(∃ xs,zX K H1 a xs)/\R (Itt K a) H1
theorem Vg{X:Cx}{tg:Expr}{l:Expr}{tl:TE}(hl:PE X l tl):PI X tg l (Z0d X.K tl):=by
 intro pins s σ H R I h;refine Zj (hl pins s σ H _ I h) fun v s1 ⟨x,H1,I1,r1,q1⟩=>?_;obtain⟨a,e,⟨xs,hq⟩,q⟩:=q1;subst e;cases r1;obtain⟨its,rv,p,hz⟩:=I1.list hq;refine wpAny_pyIter_list p.isList ?_;refine⟨s1.heap.objs.size,[s1.heap.objs.size],_,_,H1,rfl,I1.kept (t':=s1.toks) fun b o e=>Z00 _ e,Uu a _,⟨_,Z08 _ rfl,rfl,rfl⟩,fun b hb=>?_,q⟩;have e:b=s1.heap.objs.size:=by simpa using hb
 subst e;exact I1.JS (Z03 _) (I1.hok.fresh (Z03 _))
theorem z5Y(hl:PE X l tl):PI X tg l (Z3Y X.K tl):=by
 intro pins s σ H R I h;refine Zj (hl pins s σ H _ I h) fun v s1 ⟨x,H1,I1,r1,q1⟩=>?_;obtain⟨a,e,⟨xs,hq⟩,q⟩:=q1;subst e;cases r1;obtain⟨its,rv,p,hz⟩:=I1.tuple hq;refine wpAny_pyIter_tuple (show s1.heap.IsTuple a its.toArray from p) ?_;refine⟨s1.heap.objs.size,[s1.heap.objs.size],_,_,H1,rfl,I1.kept (t':=s1.toks) fun b o e=>Z00 _ e,ux a _,⟨_,Z08 _ rfl,rfl,rfl⟩,fun b hb=>?_,q⟩;have e:b=s1.heap.objs.size:=by simpa using hb
 subst e;exact I1.JS (Z03 _) (I1.hok.fresh (Z03 _))
theorem z6i{X:Cx}{σ:St}{lo:Int}(I:Inv X pins σ H s)(h1:-(2 ^ 62)<=lo)(h2:lo<2 ^ 62)(h3:-(2 ^ 62)<=hi)(h4:hi<2 ^ 62)(q:R (Itr lo (hi - lo).toNat) H):wpAny (model X.prog X.w) X.A (pyIter (.ref s.heap.objs.size)) (PIE X pins σ tg R) E { s with heap:=s.heap.push { cls:=.type "range",data:=.fields #[.int lo t,.int hi u,.int 1 v] },toks:=tk }:=by
 refine wpAny_pyIter_range (IsRange.new ..) (small_one h1 h2 h3 h4) ?_;have I1:Inv X pins σ H { s with heap:=s.heap.push { cls:=.type "range",data:=.fields #[.int lo t,.int hi u,.int 1 v] },toks:=tk }:=I.kept fun b o e=>Z00 _ e;refine⟨(s.heap.push { cls:=.type "range",data:=.fields #[.int lo t,.int hi u,.int 1 v] }).objs.size,[(s.heap.push { cls:=.type "range",data:=.fields #[.int lo t,.int hi u,.int 1 v] }).objs.size],_,_,H,rfl,
  I1.kept (t':=tk) fun b o e=>Z00 _ e,z2D _ lo (hi - lo).toNat,?_,fun b hb=>?_,q⟩
 have e1:lo+((0:Nat):Int) * 1=lo:=by simp
 have e2:(((hi - lo).toNat:Nat):Int) - ((0:Nat):Int)=Builtin.Range.rangeSize lo hi 1:=by rw[rangeSize_one];split <;> lia
 show IsRangeIter _ _ (lo+((0:Nat):Int) * 1) ((((hi - lo).toNat:Nat):Int) - ((0:Nat):Int)) 1;rw[e1,e2];exact Z08 _ rfl;have e:b=(s.heap.push { cls:=.type "range",data:=.fields #[.int lo t,.int hi u,.int 1 v] }).objs.size:=by simpa using hb
 subst e;exact I1.JS (Z03 _) (I1.hok.fresh (Z03 _))
def Z0j(ta:TA):TI:=fun σ H R=>ta σ H fun vs H1=>∃ j:Int,vs=[.int j]/\-(2 ^ 62)<=j/\j<2 ^ 62/\R (Itr 0 j.toNat) H1
theorem U0(hg:Gl X "range")(hm:X.mg "range"=none)(ha:PA X [a] ta)(hs:starEach [a] X.env=[(false,eval a X.env)]:=by rfl):PI X tg (.Call (.Name "range" p) [a] [] pos) (Z0j ta):=by
 intro pins s σ H R I h;refine Call_ (yn I hg hm boot_range (Z2L (Zj (ha pos pins s σ H _ I h) fun us s1 ⟨vs,H1,I1,r1,q1⟩=>?_) hs rfl));obtain⟨j,e,q1,q2,q⟩:=q1;subst e;cases r1 with
 | cons r rr =>
   cases rr;obtain⟨t,rfl⟩:=r;exact call_range_1 (z6i I1 (by lia) (by lia) q1 q2 (by simpa using q))
def Z2t(wi:TI)(g:TG)(tb:TS):TS:=fun D σ H=>wi σ H fun J H1=>∃ W:Nat->Nat->St->Hp->Prop,(∃ m,W 0 m σ H1)/\∀ i m σ H,W i m σ H->
 (J.stop i H/\D.nx σ H)\/(J.go i H/\∃ N:St->Hp->Prop,(∀ σ' H',N σ' H'->∃ m',m'<m/\W (i+1) m' σ' H')/\∀ x H',J.yld i H x H'->g x σ H' fun σ2 H2=>tb { D with nx:=N,ct:=N,bk:=D.nx } σ2 H2)
def Q4(fp:List Addr)(h:Heap):List (Addr×Obj):=fp.filterMap fun b=>(h.get? b).map fun o=>(b,o)
theorem yt(hb:b∈fp)(e:h.get? b=some o):(b,o)∈Q4 fp h:=List.mem_filterMap.mpr ⟨b,hb,by rw[e];rfl⟩
theorem z4G(hp:p∈Q4 fp h):p.1∈fp/\h.get? p.1=some p.2:=by
 obtain⟨b,hb,e⟩:=List.mem_filterMap.mp hp;cases q:h.get? b with
 | none=>rw[q] at e;cases e
 | some o =>
   rw[q] at e;have e':(b,o)=p:=Z1X e;subst e';exact⟨hb,q⟩
theorem Inv.pinned{σ:St}(I:Inv X pins σ H s)(hf:∀ b∈fp,xA X pins H b)(ho:∀ b∈fp,∃ o,s.heap.get? b=some o/\∀ v,o.data≠.cell v):Inv X (pins ++ Q4 fp s.heap) σ H s :=
 I.z2V fun p hp=>(Z25.mp hp).elim (fun z=>I.pin p (Z28 _ z)) fun z=>by
  obtain⟨hb,e⟩:=z4G z;obtain⟨f0,f1,f2,_⟩:=hf p.1 hb;obtain⟨o,e',d⟩:=ho p.1 hb;rw[e] at e';cases e';exact⟨e,f0,f1,f2,d⟩
theorem Inv.xT{σ:St}(I:Inv X (pins ++ pl) σ H s):Inv X pins σ H s:=I.z2V fun p hp=>I.pin p (Z28 _ (List.mem_append_left _ hp))
theorem Z1N(hp:PassesOwn (model X.prog X.w) X.A X.env X.xe)(hc:X.calm=true)(hi:PI X tg iter wi)(hg:PG X tg g)(hb:QW X body tb)(hs:∀ x,foldedSetIterable iter X.env x=pure x:=by intro _;rfl):PS X (.For tg iter body [] pos) (Z2t wi g tb):=by
 intro pins s σ H D I h;refine wpAny_For (Zj (hi pins s σ H _ I h) fun v s1 h1=>Zj h1 fun itv s2 h2=>?_) hs;obtain⟨it,fp,tn,J,H2,e,I2,T,st2,f2,W,⟨m0,w0⟩,turn⟩:=h2;subst e;have stat:∀ {H':Hp},(∀ b∈fp,H' b=none)->∀ b∈fp,xA X pins H' b:=fun hn b hb=>⟨hn b hb,(f2 b hb).2⟩;refine codeAny_forLoop_any (fun n s'=>∃ i σ' H',Inv X pins σ' H' s'/\tn i s'.heap/\(∀ b∈fp,H' b=none)/\W i n σ' H') ?_ m0 ⟨0,σ,H2,I2,st2,fun b hb=>(f2 b hb).1,w0⟩;rintro n s3 ⟨i,σ3,H3,I3,st3,fr3,w3⟩;rcases turn i n σ3 H3 w3 with⟨stop,qn⟩|⟨go,N,hN,step⟩;refine wpAny_passesOwn hp (Zj (T.done X rfl rfl rfl hc i pins s3 σ3 H3 X.xe I3 (stat fr3) st3 stop) fun r s4 ⟨hr,I4⟩=>?_)
 subst hr;exact wpAny_execs_nil ⟨σ3,H3,I4,qn⟩
 · refine wpAny_passesOwn hp (Zj (T.item X rfl rfl rfl hc i pins s3 σ3 H3 X.xe I3 (stat fr3) st3 go) fun r s4 ⟨u,hr,h4⟩=>?_)
   subst hr;refine wpAny_passesOwn hp (Zj h4 fun _ s5 ⟨x,H5,I5,r5,y5,st5,fr5⟩=>?_);have I5':=I5.pinned (stat fr5) (T.obj _ _ st5);refine wpAny_passesOwn hp (Zj (hg _ s5 σ3 H5 x u _ I5' r5 (step x H5 y5)) fun _ s6 ⟨σ6,H6,I6,q6⟩=>?_);refine wpAny_passesOwn hp (Zj (hb _ s6 σ6 H6 _ I6 q6) fun f s7 q7=>?_);have again:∀ {σ7:St}{H7:Hp},Inv X (pins ++ Q4 fp s5.heap) σ7 H7 s7->N σ7 H7->∃ m,m<n/\∃ i σ' H',Inv X pins σ' H' s7/\tn i s7.heap/\(∀ b∈fp,H' b=none)/\W i m σ' H':=fun {σ7 H7} I7 n7=>by
    obtain⟨m',hm,w7⟩:=hN σ7 H7 n7;refine⟨m',hm,i+1,σ7,H7,I7.xT,T.keep _ _ _ st5 fun b hb o e=>(I7.pin (b,o) (Z28 _ (Z28 _ (yt hb e)))).1,fun b hb=>?_,w7⟩;obtain⟨o,e,d⟩:=T.obj _ _ st5 b hb;exact (I7.pin (b,o) (Z28 _ (Z28 _ (yt hb e)))).2.1
   cases f with
   | next=>obtain⟨σ7,H7,I7,n7⟩:=q7;exact again I7 n7
   | cont=>obtain⟨σ7,H7,I7,n7⟩:=q7;exact again I7 n7
   | brk=>obtain⟨σ7,H7,I7,q7⟩:=q7;exact⟨σ7,H7,I7.xT,q7⟩
   | ret v=>obtain⟨x7,σ7,H7,I7,r7,q7⟩:=q7;exact⟨x7,σ7,H7,I7.xT,r7,q7⟩
theorem Yo{xs:List V}{g:TG}{tb:TS}{D:Ends}(Pv:Nat->St->Hp->Prop)(h0:Pv 0 σ H)(hl:∀ i σ H,i<=xs.length->Pv i σ H->zQ K H a xs)(hs:∀ i x σ H,xs[i]?=some x->Pv i σ H->g x σ H fun σ2 H2=>tb { D with nx:=Pv (i+1),ct:=Pv (i+1),bk:=D.nx } σ2 H2)(hd:∀ σ H,Pv xs.length σ H->D.nx σ H) :
 ∃ W:Nat->Nat->St->Hp->Prop,(∃ m,W 0 m σ H)/\∀ i m σ H,W i m σ H->
   ((Itl K a).stop i H/\D.nx σ H)\/((Itl K a).go i H/\∃ N:St->Hp->Prop,(∀ σ' H',N σ' H'->∃ m',m'<m/\W (i+1) m' σ' H')/\∀ x H',(Itl K a).yld i H x H'->g x σ H' fun σ2 H2=>tb { D with nx:=N,ct:=N,bk:=D.nx } σ2 H2):=by
 refine⟨fun i m σ H=>m=xs.length - i/\i<=xs.length/\Pv i σ H,⟨xs.length,by simp,Z18 _,h0⟩,?_⟩;rintro i m σ H ⟨rfl,hi,p⟩;have q:=hl i σ H hi p;by_cases hlt:i<xs.length;refine .inr ⟨⟨xs,xs[i],q,by simp[hlt]⟩,Pv (i+1),fun σ' H' p'=>⟨xs.length - (i+1),by lia,rfl,hlt,p'⟩,fun x H' y=>?_⟩;obtain⟨e,y⟩:=y;subst e;exact hs i x σ _ (y xs q) p;have e:i=xs.length:=by lia
 subst e;exact .inl ⟨⟨xs,q,Z03 _⟩,hd σ H p⟩
theorem z8U{xs:List V}{g:TG}{tb:TS}{D:Ends}(Pv:Nat->St->Hp->Prop)(h0:Pv 0 σ H)(hl:∀ i σ H,i<=xs.length->Pv i σ H->zX K H a xs)(hs:∀ i x σ H,xs[i]?=some x->Pv i σ H->g x σ H fun σ2 H2=>tb { D with nx:=Pv (i+1),ct:=Pv (i+1),bk:=D.nx } σ2 H2)(hd:∀ σ H,Pv xs.length σ H->D.nx σ H) :
 ∃ W:Nat->Nat->St->Hp->Prop,(∃ m,W 0 m σ H)/\∀ i m σ H,W i m σ H->
   ((Itt K a).stop i H/\D.nx σ H)\/((Itt K a).go i H/\∃ N:St->Hp->Prop,(∀ σ' H',N σ' H'->∃ m',m'<m/\W (i+1) m' σ' H')/\∀ x H',(Itt K a).yld i H x H'->g x σ H' fun σ2 H2=>tb { D with nx:=N,ct:=N,bk:=D.nx } σ2 H2):=by
 refine⟨fun i m σ H=>m=xs.length - i/\i<=xs.length/\Pv i σ H,⟨xs.length,by simp,Z18 _,h0⟩,?_⟩;rintro i m σ H ⟨rfl,hi,p⟩;have q:=hl i σ H hi p;by_cases hlt:i<xs.length;refine .inr ⟨⟨xs,xs[i],q,by simp[hlt]⟩,Pv (i+1),fun σ' H' p'=>⟨xs.length - (i+1),by lia,rfl,hlt,p'⟩,fun x H' y=>?_⟩;obtain⟨e,y⟩:=y;subst e;exact hs i x σ _ (y xs q) p;have e:i=xs.length:=by lia
 subst e;exact .inl ⟨⟨xs,q,Z03 _⟩,hd σ H p⟩
theorem yU{lo:Int}{g:TG}{tb:TS}{D:Ends}(Pv:Nat->St->Hp->Prop)(h0:Pv 0 σ H)(hs:∀ i σ H,i<n->Pv i σ H->g (.int (lo+i)) σ H fun σ2 H2=>tb { D with nx:=Pv (i+1),ct:=Pv (i+1),bk:=D.nx } σ2 H2)(hd:∀ σ H,Pv n σ H->D.nx σ H) :
 ∃ W:Nat->Nat->St->Hp->Prop,(∃ m,W 0 m σ H)/\∀ i m σ H,W i m σ H->
   ((Itr lo n).stop i H/\D.nx σ H)\/((Itr lo n).go i H/\∃ N:St->Hp->Prop,(∀ σ' H',N σ' H'->∃ m',m'<m/\W (i+1) m' σ' H')/\∀ x H',(Itr lo n).yld i H x H'->g x σ H' fun σ2 H2=>tb { D with nx:=N,ct:=N,bk:=D.nx } σ2 H2):=by
 refine⟨fun i m σ H=>m=n - i/\i<=n/\Pv i σ H,⟨n,by simp,Z18 _,h0⟩,?_⟩;rintro i m σ H ⟨rfl,hi,p⟩;by_cases hlt:i<n;refine .inr ⟨hlt,Pv (i+1),fun σ' H' p'=>⟨n - (i+1),by lia,rfl,hlt,p'⟩,fun x H' y=>?_⟩;obtain⟨e,y⟩:=y;subst e y;exact hs i σ _ hlt p;have e:i=n:=by lia
 subst e;exact .inl ⟨Z03 _,hd σ H p⟩
theorem z6S(Pv:St->Hp->Prop)(μ:St->Hp->Nat)(h0:Pv σ H)(hs:∀ σ H,Pv σ H->c σ H fun b H1=>if b=true then tb { D with nx:=fun σ' H'=>Pv σ' H'/\μ σ' H'<μ σ H,ct:=fun σ' H'=>Pv σ' H'/\μ σ' H'<μ σ H,bk:=D.nx } σ H1 else D.nx σ H1)(mono:∀ σ H Q Q',(∀ b H1,Q b H1->Q' b H1)->c σ H Q->c σ H Q'):jf c tb D σ H:=by
 refine⟨fun m σ H=>m=μ σ H/\Pv σ H,⟨_,rfl,h0⟩,?_⟩;rintro m σ H ⟨rfl,p⟩;refine mono σ H _ _ (fun b H1 q=>?_) (hs σ H p);cases b with
 | true=>exact⟨_,fun σ' H' ⟨p',l⟩=>⟨_,l,rfl,p'⟩,q⟩
 | false=>exact q
abbrev R2:=V->V->Hp->VK->Prop
def Y4(X:Cx)(f:Value->Value->Sem Value)(r:R2):Prop :=
 ∀ (pins:List (Addr×Obj)) (s:Shared) (σ:St) (H:Hp) (x y:V) (v u:Value) (Q:VK),Inv X pins σ H s->RelV x v->RelV y u->r x y H Q->
   wpAny (model X.prog X.w) X.A (f v u) (EP X pins σ Q) X.xe s
def UnR(X:Cx)(f:Value->Sem Value)(r:V->Hp->VK->Prop):Prop :=
 ∀ (pins:List (Addr×Obj)) (s:Shared) (σ:St) (H:Hp) (x:V) (v:Value) (Q:VK),Inv X pins σ H s->RelV x v->r x H Q->
   wpAny (model X.prog X.w) X.A (f v) (EP X pins σ Q) X.xe s
def ZG(X:Cx)(f:Value)(r:List V->Hp->VK->Prop):Prop :=
 ∀ (pins:List (Addr×Obj)) (s:Shared) (σ:St) (H:Hp) (xs:List V) (us:List Value) (Q:VK),Inv X pins σ H s->Vals xs us->r xs H Q->
   wpAny (model X.prog X.w) X.A (call f us) (EP X pins σ Q) X.xe s
def Z4B(X:Cx)(r:V->Hp->(Bool->Hp->Prop)->Prop):Prop :=
 ∀ (pins:List (Addr×Obj)) (s:Shared) (σ:St) (H:Hp) (x:V) (v:Value) (Q:Bool->Hp->Prop),Inv X pins σ H s->RelV x v->r x H Q->
   wpAny (model X.prog X.w) X.A (truthy v) (TP X pins σ Q) X.xe s
def tOp(r:R2)(ta tb:TE):TE:=fun σ H Q=>ta σ H fun x H1=>tb σ H1 fun y H2=>r x y H2 Q
def tUn(r:V->Hp->VK->Prop)(ta:TE):TE:=fun σ H Q=>ta σ H fun x H1=>r x H1 Q
def rI(C:Int->Int->Prop)(g:Int->Int->V):R2:=fun x y H Q=>∃ i j,x=.int i/\y=.int j/\C i j/\Q (g i j) H
def rI0(g:Int->Int->V):R2:=fun x y H Q=>∃ i j,x=.int i/\y=.int j/\Q (g i j) H
def rU(g:Int->V):V->Hp->VK->Prop:=fun x H Q=>∃ i,x=.int i/\Q (g i) H
theorem Z2x{X:Cx}{a b:Expr}{ta tb:TE}(ha:PE X a ta)(hb:PE X b tb){pins:List (Addr×Obj)}{s:Shared}{σ:St}{H:Hp}{R:V->V->Hp->Prop}(I:Inv X pins σ H s)
 (h:ta σ H fun x H1=>tb σ H1 fun y H2=>R x y H2) {Q:Value->Shared->Prop}{f:Value->Value->Sem Value}
 (hf:∀ v u s2 x y H2,Inv X pins σ H2 s2->RelV x v->RelV y u->R x y H2->wpAny (model X.prog X.w) X.A (f v u) Q X.xe s2) :
 wpAny (model X.prog X.w) X.A (eval a X.env) (fun v s₁=>wpAny (model X.prog X.w) X.A (eval b X.env) (fun u s₂=>wpAny (model X.prog X.w) X.A (f v u) Q X.xe s₂) X.xe s₁) X.xe s:=by
 refine Zj (ha pins s σ H _ I h) fun v s1 ⟨x,H1,I1,r1,q1⟩=>?_;refine Zj (hb pins s1 σ H1 _ I1 q1) fun u s2 ⟨y,H2,I2,r2,q2⟩=>?_;exact hf v u s2 x y H2 I2 r1 r2 q2
theorem ZV(ho:Y4 X (binaryOp op) r)(ha:PE X a ta)(hb:PE X b tb):PE X (.BinOp a op b pos) (tOp r ta tb):=by
 intro pins s σ H Q I h;exact wpAny_BinOp (Z2x ha hb I h fun v u s2 x y H2 I2 rx ry q=>ho pins s2 σ H2 x y v u Q I2 rx ry q)
theorem z3b(ho:UnR X (unaryOp op) r)(ha:PE X a ta):PE X (.UnaryOp op a pos) (tUn r ta):=by
 intro pins s σ H Q I h;exact UnaryOp_ (Zj (ha pins s σ H _ I h) fun v s1 ⟨x,H1,I1,r1,q1⟩=>ho pins s1 σ H1 x v Q I1 r1 q1)
theorem opI{X:Cx}{g:Int->Int->Int}(rule:∀ (i j:Int) (t u:Tok) (s:Shared) (Q:Value->Shared->Prop) (E:Value->Shared->Prop),C i j->Q (.int (g i j) s.toks) { s with toks:=s.toks+1 }->wpAny (model X.prog X.w) X.A (f (.int i t) (.int j u)) Q E s) :
 Y4 X f (rI C fun i j=>.int (g i j)):=by
 intro pins s σ H x y v u Q I rx ry h;obtain⟨i,j,rfl,rfl,hc,q⟩:=h;obtain⟨t,rfl⟩:=rx;obtain⟨t',rfl⟩:=ry;exact rule i j t t' s _ _ hc ⟨.int (g i j),H,I.tok _,⟨_,rfl⟩,q⟩
theorem Z3t{X:Cx}{g:Int->Int->Int}(rule:∀ (i j:Int) (t u:Tok) (s:Shared) (Q:Value->Shared->Prop) (E:Value->Shared->Prop),Q (.int (g i j) s.toks) { s with toks:=s.toks+1 }->wpAny (model X.prog X.w) X.A (f (.int i t) (.int j u)) Q E s) :
 Y4 X f (rI0 fun i j=>.int (g i j)):=by
 intro pins s σ H x y v u Q I rx ry h;obtain⟨i,j,rfl,rfl,q⟩:=h;obtain⟨t,rfl⟩:=rx;obtain⟨t',rfl⟩:=ry;exact rule i j t t' s _ _ ⟨.int (g i j),H,I.tok _,⟨_,rfl⟩,q⟩
theorem z9b{X:Cx}{g:Int->Int->Bool}(rule:∀ (i j:Int) (t u:Tok) (s:Shared) (Q:Value->Shared->Prop) (E:Value->Shared->Prop),Q (.bool (g i j)) s->wpAny (model X.prog X.w) X.A (f (.int i t) (.int j u)) Q E s) :
 Y4 X f (rI0 fun i j=>.bl (g i j)):=by
 intro pins s σ H x y v u Q I rx ry h;obtain⟨i,j,rfl,rfl,q⟩:=h;obtain⟨t,rfl⟩:=rx;obtain⟨t',rfl⟩:=ry;exact rule i j t t' s _ _ ⟨.bl (g i j),H,I,rfl,q⟩
def Z4v(i j:Int):Prop:=0<j/\j<1073741824
def Z4E(i j:Int):Prop:=0<=j/\j<=1000000/\i.natAbs<2 ^ 64
def Z2c(i j:Int):Prop:=(-(2 ^ 64)<i/\i<2 ^ 64)\/(-(2 ^ 64)<j/\j<2 ^ 64)
theorem Z2c.ok(h:Z2c i j):IntMulOk i j:=by
 rcases h with⟨h1,h2⟩|⟨h1,h2⟩;exact .of_left (intBits_le_64 h1 h2);exact .of_right (intBits_le_64 h1 h2)
theorem yu:Y4 X (binaryOp .Add) (rI0 fun i j=>.int (i+j)):=Z3t fun _ _ _ _ _ _ _ q=>add_int q
theorem XZ:Y4 X (binaryOp .Sub) (rI0 fun i j=>.int (i - j)):=Z3t fun _ _ _ _ _ _ _ q=>sub_int q
theorem z7x:Y4 X (binaryOp .Mult) (rI Z2c fun i j=>.int (i * j)):=opI fun _ _ _ _ _ _ _ hc q=>mul_int q hc.ok
theorem z8I:Y4 X (binaryOp .FloorDiv) (rI Z4v fun i j=>.int (i / j)):=opI fun i j _ _ _ _ _ hc q=>by
 have h1:(0:Int)<j:=hc.1;have h2:j<1073741824:=hc.2;exact floordiv_int (by lia) (by rw[Z32 i (by lia)];exact q) (.inl (PyProof.noPylong_small (by lia)))
theorem YD:Y4 X (binaryOp .Mod) (rI (fun _ j=>0<j) fun i j=>.int (i % j)):=opI fun i j _ _ _ _ _ hc q=>by
 have h1:(0:Int)<j:=hc;exact mod_int' (by lia) (by rw[Int.fmod_eq_emod_of_nonneg i (by lia)];exact q)
theorem uT:Y4 X (binaryOp .Pow) (rI Z4E fun i j=>.int (i ^ j.toNat)):=opI fun _ _ _ _ _ _ _ hc q=>pow_int_small hc.1 hc.2.1 hc.2.2 q
theorem unI{X:Cx}{g:Int->Int}(rule:∀ (i:Int) (t:Tok) (s:Shared) (Q:Value->Shared->Prop) (E:Value->Shared->Prop),Q (.int (g i) s.toks) { s with toks:=s.toks+1 }->wpAny (model X.prog X.w) X.A (f (.int i t)) Q E s) :
 UnR X f (rU fun i=>.int (g i)):=by
 intro pins s σ H x v Q I rx h;obtain⟨i,rfl,q⟩:=h;obtain⟨t,rfl⟩:=rx;exact rule i t s _ _ ⟨.int (g i),H,I.tok _,⟨_,rfl⟩,q⟩
theorem jQ:UnR X (unaryOp .USub) (rU fun i=>.int (-i)):=unI fun _ _ _ _ _ q=>neg_int q
def Z2Y:V->V->Bool
 | .Zr,.Zr=>true | .Zr,.int _=>true | .int _,.Zr=>true | .Zr,.bl _=>true | .bl _,.Zr=>true | .Zr,.str _=>true | .str _,.Zr=>true
 | .int _,.int _=>true | .bl _,.bl _=>true | .str _,.str _=>true | .byt _,.byt _=>true
 | .int _,.str _=>true | .str _,.int _=>true | .bl _,.str _=>true | .str _,.bl _=>true
 | _,_=>false
def rEq:R2:=fun x y H Q=>Z2Y x y=true/\Q (.bl (decide (x=y))) H
def rNe:R2:=fun x y H Q=>Z2Y x y=true/\Q (.bl (!decide (x=y))) H
theorem z3m:decide (V.int i=V.int j)=(i == j):=by
 rw[Bool.eq_iff_iff];simp
theorem z6l:decide (V.bl i=V.bl j)=(i == j):=by
 rw[Bool.eq_iff_iff];simp
theorem z2W:decide (V.str i=V.str j)=(i == j):=by
 rw[Bool.eq_iff_iff];simp
theorem z3x:decide (V.byt i=V.byt j)=(i.toList == j.toList):=by
 rw[Bool.eq_iff_iff];cases i;cases j;simp
theorem Za{σ:St}(I:Inv X pins σ H s)(q:Q (.bl k) H)(e:k=k'):EP X pins σ Q (.bool k') s:=by
 subst e;exact⟨.bl k,H,I,rfl,q⟩
theorem ya:Y4 X (compareOp .Eq) rEq:=by
 intro pins s σ H x y v u Q I rx ry h;obtain⟨hs,q⟩:=h;cases x with
 | Zr =>
   cases rx;cases y with
   | Zr=>cases ry;exact PySem.EqNone.eq_none_none (Za I q (by simp))
   | bl j=>cases ry;exact PySem.EqNone.eq_none_bool (Za I q (by simp))
   | int j=>obtain⟨t',rfl⟩:=ry;exact PySem.EqNone.eq_none_int (Za I q (by simp))
   | str j=>obtain⟨t',rfl⟩:=ry;exact PySem.EqNone.eq_none_str (Za I q (by simp))
   | _=>exact absurd (show false=true from hs) Z10
 | bl i =>
   cases rx;cases y with
   | Zr=>cases ry;exact PySem.EqNone.eq_bool_none (Za I q (by simp))
   | bl j=>cases ry;exact eq_bool (Za I q z6l)
   | str j=>obtain⟨t',rfl⟩:=ry;exact PySem.EqMixed.eq_bool_str (Za I q (by simp))
   | _=>exact absurd (show false=true from hs) Z10
 | int i =>
   obtain⟨t,rfl⟩:=rx;cases y with
   | Zr=>cases ry;exact PySem.EqNone.eq_int_none (Za I q (by simp))
   | int j=>obtain⟨t',rfl⟩:=ry;exact eq_int (Za I q z3m)
   | str j=>obtain⟨t',rfl⟩:=ry;exact PySem.EqMixed.eq_int_str (Za I q (by simp))
   | _=>exact absurd (show false=true from hs) Z10
 | str i =>
   obtain⟨t,rfl⟩:=rx;cases y with
   | Zr=>cases ry;exact PySem.EqNone.eq_str_none (Za I q (by simp))
   | bl j=>cases ry;exact PySem.EqMixed.eq_str_bool (Za I q (by simp))
   | int j=>obtain⟨t',rfl⟩:=ry;exact PySem.EqMixed.eq_str_int (Za I q (by simp))
   | str j=>obtain⟨t',rfl⟩:=ry;exact eq_str (Za I q z2W)
   | _=>exact absurd (show false=true from hs) Z10
 | byt i =>
   obtain⟨t,rfl⟩:=rx;cases y with
   | byt j=>obtain⟨t',rfl⟩:=ry;exact PySem.W.eq_bytes (Za I q z3x)
   | _=>exact absurd (show false=true from hs) Z10
 | _=>cases y <;> exact absurd (show false=true from hs) Z10
theorem vL:Y4 X (compareOp .NotEq) rNe:=by
 intro pins s σ H x y v u Q I rx ry h;obtain⟨hs,q⟩:=h;cases x with
 | Zr =>
   cases rx;cases y with
   | Zr=>cases ry;exact PySem.EqNone.ne_none_none (Za I q (by simp))
   | bl j=>cases ry;exact PySem.EqNone.ne_none_bool (Za I q (by simp))
   | int j=>obtain⟨t',rfl⟩:=ry;exact PySem.EqNone.ne_none_int (Za I q (by simp))
   | str j=>obtain⟨t',rfl⟩:=ry;exact PySem.EqNone.ne_none_str (Za I q (by simp))
   | _=>exact absurd (show false=true from hs) Z10
 | bl i =>
   cases rx;cases y with
   | Zr=>cases ry;exact PySem.EqNone.ne_bool_none (Za I q (by simp))
   | bl j=>cases ry;exact ne_bool (Za I q (congrArg not z6l))
   | str j=>obtain⟨t',rfl⟩:=ry;exact PySem.EqMixed.ne_bool_str (Za I q (by simp))
   | _=>exact absurd (show false=true from hs) Z10
 | int i =>
   obtain⟨t,rfl⟩:=rx;cases y with
   | Zr=>cases ry;exact PySem.EqNone.ne_int_none (Za I q (by simp))
   | int j=>obtain⟨t',rfl⟩:=ry;exact ne_int (Za I q (congrArg not z3m))
   | str j=>obtain⟨t',rfl⟩:=ry;exact PySem.EqMixed.ne_int_str (Za I q (by simp))
   | _=>exact absurd (show false=true from hs) Z10
 | str i =>
   obtain⟨t,rfl⟩:=rx;cases y with
   | Zr=>cases ry;exact PySem.EqNone.ne_str_none (Za I q (by simp))
   | bl j=>cases ry;exact PySem.EqMixed.ne_str_bool (Za I q (by simp))
   | int j=>obtain⟨t',rfl⟩:=ry;exact PySem.EqMixed.ne_str_int (Za I q (by simp))
   | str j=>obtain⟨t',rfl⟩:=ry;exact ne_str (Za I q (congrArg not z2W))
   | _=>exact absurd (show false=true from hs) Z10
 | byt i =>
   obtain⟨t,rfl⟩:=rx;cases y with
   | byt j=>obtain⟨t',rfl⟩:=ry;exact PySem.W.ne_bytes (Za I q (congrArg not z3x))
   | _=>exact absurd (show false=true from hs) Z10
 | _=>cases y <;> exact absurd (show false=true from hs) Z10
theorem Ys:Y4 X (compareOp .Lt) (rI0 fun i j=>.bl (decide (i<j))):=z9b fun _ _ _ _ _ _ _ q=>lt_int q
theorem z0K:Y4 X (compareOp .LtE) (rI0 fun i j=>.bl (decide (i<=j))):=z9b fun _ _ _ _ _ _ _ q=>le_int q
theorem z0i:Y4 X (compareOp .Gt) (rI0 fun i j=>.bl (decide (j<i))):=z9b fun _ _ _ _ _ _ _ q=>gt_int q
theorem Jz:Y4 X (compareOp .GtE) (rI0 fun i j=>.bl (decide (j<=i))):=z9b fun _ _ _ _ _ _ _ q=>ge_int q
theorem z4s:Y4 X (compareOp .In) (fun x y H Q=>∃ i j,x=.str i/\y=.str j/\Q (.bl (!(Builtin.Str.occurrences j i 0 j.length 1).isEmpty)) H):=by
 intro pins s σ H x y v u Q I rx ry h;obtain⟨i,j,rfl,rfl,q⟩:=h;obtain⟨t,rfl⟩:=rx;obtain⟨t',rfl⟩:=ry;exact in_str (Za I q rfl)
theorem Z1e:Y4 X (compareOp .Is) (fun x y H Q=>y=.Zr/\Q (.bl (decide (x=.Zr))) H):=by
 intro pins s σ H x y v u Q I rx ry h;obtain⟨rfl,q⟩:=h;cases ry;refine is_none_gen (Za I q ?_);cases x <;> first
  | (cases rx;rfl)
  | (obtain⟨t,rfl⟩:=rx;rfl)
theorem Yj(b:Expr)(h:op≠.In:=by decide)(h2:op≠.NotIn:=by decide):behindInMarks op b=false:=by
 have e1:(op == CmpOp.In)=false:=by cases op <;> first | rfl | exact absurd rfl h
 have e2:(op == CmpOp.NotIn)=false:=by cases op <;> first | rfl | exact absurd rfl h2
 cases b <;> simp[behindInMarks,e1,e2]
theorem z8Z(ho:Y4 X (compareOp op) r)(ha:PE X a ta)(hb:PE X b tb)(hm:behindInMarks op b=false):PE X (.Compare a [op] [b] pos) (tOp r ta tb):=by
 intro pins s σ H Q I h;exact wpAny_Compare1 (Z2x ha hb I h fun v u s2 x y H2 I2 rx ry q=>ho pins s2 σ H2 x y v u Q I2 rx ry q) hm
def z6y(t:TE):TT:=fun σ H Q=>t σ H fun x H'=>∃ k,x=.bl k/\Q k H'
theorem yz(ho:Y4 X (compareOp op) r)(ha:PE X a ta)(hb:PE X b tb)(hm:behindInMarks op b=false):PT X (.Compare a [op] [b] pos) (z6y (tOp r ta tb)):=by
 intro pins s σ H Q I h;refine wpAny_isTrue_Compare1 (Zj (ha pins s σ H _ I h) fun v s1 ⟨x,H1,I1,r1,q1⟩=>Zj (hb pins s1 σ H1 _ I1 q1) fun u s2 ⟨y,H2,I2,r2,q2⟩ =>
  Zj (ho pins s2 σ H2 x y v u _ I2 r1 r2 q2) fun c s3 ⟨z,H3,I3,r3,k,e,q3⟩=>?_) hm
 subst e;cases r3;exact wpAny_truthy_bool ⟨H3,I3,q3⟩
def Z0Y(r r':R2)(ta tb tc:TE):TE:=fun σ H Q=>ta σ H fun x H1=>tb σ H1 fun y H2=>r x y H2 fun z H3=>∃ k,z=.bl k/\
 (if k=true then tc σ H3 fun w' H4=>r' y w' H4 Q else Q (.bl false) H3)
theorem Qm(ho:Y4 X (compareOp op) r)(ho':Y4 X (compareOp op') r')(ha:PE X a ta)(hb:PE X b tb)(hc:PE X c tc)(hm:lastMarks [op,op'] [b,c]=false:=by with_unfolding_all rfl):PE X (.Compare a [op,op'] [b,c] pos) (Z0Y r r' ta tb tc):=by
 intro pins s σ H Q I h;refine Compare_chain (Zj (ha pins s σ H _ I h) fun v s1 ⟨x,H1,I1,r1,q1⟩=>chain_link (Zj (hb pins s1 σ H1 _ I1 q1) fun u s2 ⟨y,H2,I2,r2,q2⟩ =>
  Zj (ho pins s2 σ H2 x y v u _ I2 r1 r2 q2) fun d s3 ⟨z,H3,I3,r3,k,e,q3⟩=>?_)) hm
 subst e;cases r3;refine wpAny_truthy_bool ?_;cases k with
 | false=>exact ite_ff ⟨.bl false,H3,I3,rfl,q3⟩
 | true=>exact ite_tt (chain_last (Zj (hc pins s3 σ H3 _ I3 q3) fun w' s4 ⟨z',H4,I4,r4,q4⟩=>ho' pins s4 σ H4 y z' u w' Q I4 r2 r4 q4))
def Z2q(K:PySem.W.Frag)(x:V)(H:Hp)(k:Bool):Prop :=
 match x with
 | .Zr=>k=false
 | .bl b=>k=b
 | .int i=>k=(i != 0)
 | .str y=>y.length<=sizeLine/\k=((y.length:Int) != 0)
 | .byt y=>y.size<=sizeLine/\k=((y.size:Int) != 0)
 | .ref p=>(∃ xs,zQ K H p xs/\k=!xs.isEmpty)\/(∃ xs,zX K H p xs/\k=!xs.isEmpty)\/∃ kvs,H p=some (.dK kvs)/\k=!kvs.isEmpty
 | _=>False
theorem z1T{κ:Type}{kvs:List (κ×V)}{vs:List (κ×Value)}(r:KV kvs vs):(!vs.isEmpty)=!kvs.isEmpty:=by
 cases r <;> rfl
theorem VZ(r:Vals xs its):(!its.toArray.isEmpty)=!xs.isEmpty:=by
 cases r <;> simp
theorem QZ:(sizeLine:Nat)<2 ^ 63:=by rw[sizeLine_eq];decide
theorem Z1z:Z4B X (fun x H Q=>∃ k,Z2q X.K x H k/\Q k H):=by
 intro pins s σ H x v Q I rx h;obtain⟨k,e,q⟩:=h;have hl:=QZ;have hs:sizeLine=16777216:=sizeLine_eq;cases x with
 | Zr =>
   cases rx;have e':k=false:=e;subst e';exact truthy_none ⟨H,I,q⟩
 | bl b =>
   cases rx;have e':k=b:=e;subst e';exact wpAny_truthy_bool ⟨H,I,q⟩
 | int i =>
   obtain⟨t,rfl⟩:=rx;have e':k=(i != 0):=e;subst e';exact PySem.P.truthy_int ⟨H,I,q⟩
 | str y =>
   obtain⟨t,rfl⟩:=rx;obtain⟨hy,e'⟩:y.length<=sizeLine/\k=((y.length:Int) != 0):=e;subst e';exact PySem.P.truthy_str (by lia) ⟨H,I.tok _,q⟩
 | byt y =>
   obtain⟨t,rfl⟩:=rx;obtain⟨hy,e'⟩:y.size<=sizeLine/\k=((y.size:Int) != 0):=e;subst e';exact PySem.W.truthy_bytes (by lia) ⟨H,I.tok _,q⟩
 | ref p =>
   cases rx;have e':(∃ xs,zQ X.K H p xs/\k=!xs.isEmpty)\/(∃ xs,zX X.K H p xs/\k=!xs.isEmpty)\/∃ kvs,H p=some (.dK kvs)/\k=!kvs.isEmpty:=e;rcases e' with⟨xs,hx,e'⟩|⟨xs,hx,e'⟩|⟨kvs,hx,e'⟩;subst e';obtain⟨its,r,pl,hz⟩:=I.list hx;have hlen:=r.length;exact wpAny_truthy_list pl.isList (by simp only[Z05];lia) ⟨H,I.tok _,by rw[VZ r];exact q⟩;subst e';obtain⟨its,r,pl,hz⟩:=I.tuple hx;have hlen:=r.length;exact truthy_tuple pl (by simp only[Z05];lia) ⟨H,I.tok _,by rw[VZ r];exact q⟩;subst e';obtain⟨hz,hS,vs,r,m⟩:kvs.length<=sizeLine/\(p == sysModules)=false/\∃ vs,KV kvs vs/\s.heap.DictOf (Jb X.prog X.w) p vs:=I.hok p _ hx;have hlen:kvs.length=vs.length:=Paired.length r;exact wpAny_truthy_dict hS m (by lia) ⟨H,I.tok _,by rw[z1T r];exact q⟩
 | _=>exact (show False from e).elim
theorem z5Z(ha:PE X a ta)(he:∀ whole,isTrue a X.env whole=(do let v ←whole;standAt a.pos;holding [v] (truthy v))) :
 PT X a (fun σ H Q=>ta σ H fun x H'=>∃ k,Z2q X.K x H' k/\Q k H'):=by
 intro pins s σ H Q I h;exact isTrue_plain (Zj (ha pins s σ H _ I h) fun v s1 ⟨x,H1,I1,r1,q1⟩=>Z1z pins s1 σ H1 x v Q I1 r1 q1) (he _)
theorem zT:Y4 X (binaryOp .Add) (fun x y H Q=>∃ i j,x=.str i/\y=.str j/\i.length+j.length<=sizeLine/\Q (.str (i ++ j)) H):=by
 intro pins s σ H x y v u Q I rx ry h;obtain⟨i,j,rfl,rfl,hz,q⟩:=h;obtain⟨t,rfl⟩:=rx;obtain⟨t',rfl⟩:=ry;exact add_str (fun t' tk=>⟨.str (i ++ j),H,I.tok _,⟨_,rfl⟩,q⟩) hz
theorem vals1(r:Vals [x] us):∃ u,us=[u]/\RelV x u:=by
 cases r with
 | cons r1 r2=>cases r2;exact⟨_,rfl,r1⟩
theorem vals2(r:Vals [x,y] us):∃ u w',us=[u,w']/\RelV x u/\RelV y w':=by
 cases r with
 | cons r1 r2 =>
   cases r2 with
   | cons r3 r4=>cases r4;exact⟨_,_,rfl,r1,r3⟩
theorem Qp:ZG X (.builtin "abs") (fun xs H Q=>∃ i,xs=[.int i]/\Q (.int (if i<0 then -i else i)) H):=by
 intro pins s σ H xs us Q I r h;obtain⟨i,rfl,q⟩:=h;obtain⟨u,rfl,t,rfl⟩:=vals1 r;exact call_abs_int fun u tk=>⟨.int (if i<0 then -i else i),H,I.tok _,⟨_,rfl⟩,q⟩
theorem z4R(hc:X.calm=true):ZG X (.builtin "max") (fun xs H Q=>∃ i j,xs=[.int i,.int j]/\Q (.int (if j > i then j else i)) H):=by
 intro pins s σ H xs us Q I r h;obtain⟨i,j,rfl,q⟩:=h;obtain⟨u,w',rfl,⟨t,rfl⟩,⟨t',rfl⟩⟩:=vals2 r;refine max_two_ints (I.ok.hd hc) fun h' tk k=>⟨_,H,I.kept k,?_,q⟩;by_cases hj:j > i;rw[if_pos hj,if_pos hj];exact⟨_,rfl⟩;rw[if_neg hj,if_neg hj];exact⟨_,rfl⟩
theorem U6(hc:X.calm=true):ZG X (.builtin "min") (fun xs H Q=>∃ i j,xs=[.int i,.int j]/\Q (.int (if j<i then j else i)) H):=by
 intro pins s σ H xs us Q I r h;obtain⟨i,j,rfl,q⟩:=h;obtain⟨u,w',rfl,⟨t,rfl⟩,⟨t',rfl⟩⟩:=vals2 r;refine min_two_ints (I.ok.hd hc) fun h' tk k=>⟨_,H,I.kept k,?_,q⟩;by_cases hj:j<i;rw[if_pos hj,if_pos hj];exact⟨_,rfl⟩;rw[if_neg hj,if_neg hj];exact⟨_,rfl⟩
theorem zU:ZG X (.type "str") (fun xs H Q=>∃ i,xs=[.int i]/\i.natAbs.log2<1920/\Q (.str (toString i)) H):=by
 intro pins s σ H xs us Q I r h;obtain⟨i,rfl,hz,q⟩:=h;obtain⟨u,rfl,t,rfl⟩:=vals1 r;exact PySem.P.str_of_int hz ⟨.str _,H,I.tok _,⟨_,rfl⟩,q⟩
structure z2f(h:Heap)(x dx C:Addr)(mA:Str->Option Value):Prop where
 obj:h.get? x=some (PySem.W.instObj C dx)
 ns:h.Ns1 dx mA
 ne:dx≠x
theorem z4I{h:Heap}{dx:Addr}{mA:Str->Option Value}(n:h.Ns1 dx mA):∃ od,h.get? dx=some od/\∀ name,PySem.W.lookIn name od=some (mA name):=by
 obtain⟨o,es,ep,ho,hd,hk,_,hm⟩:=n;refine⟨o,ho,fun name=>?_⟩;have e:=hm name;unfold nsFind findBy at e;rw[← Array.find?_toList] at e;unfold PySem.W.lookIn;rw[hd];dsimp only;split;rename_i y q;rw[q] at e;exact congrArg some e;rename_i q;rw[q] at e;have a:es.toList.any (·.refKey)=false:=by
  rw[List.any_eq_false];intro y hy;obtain⟨z,t,hkey⟩:=hk y (Array.mem_toList_iff.mp hy);simp[DictEntry.refKey,hkey]
 have a':¬ es.toList.any (·.refKey)=true:=by rw[a];exact Z10
 rw[if_neg a'];exact congrArg some e
theorem z2f.look(I:z2f h x dx C mA):∃ od,PySem.W.InstAt h x (PySem.W.instObj C dx) C (some od)/\∀ name,PySem.W.lookIn name od=some (mA name) :=
 let ⟨od,ho,hl⟩:=z4I I.ns
 ⟨od,⟨I.obj,rfl,rfl,ho⟩,hl⟩
theorem get_map(X:K.In s.heap)(I:z2f s.heap x dx C mA)(hg:PySem.W.plainGet K C name=true)(hh:PySem.W.hasDictIn K C=true)(ha:PySem.W.findIn K (.ref C) name=some none)(hv:mA name=some v)(hv':PySem.W.handedIn v=true)(h:Q v { s with toks:=s.toks+1 }) :
 wpAny (model prog w) A (getAttr (.ref x) name expr) Q E s:=by
 obtain⟨od,J,hl⟩:=I.look;exact PySem.W.get_value X J (PySem.W.plainGet_of hg).1 (PySem.W.findObj_own hh ha rfl (by rw[hl,hv])) hv' h
theorem z7y(X:K.In s.heap)(I:z2f s.heap x dx C mA)(hg:PySem.W.plainGet K C name=true)(hf:PySem.W.findIn K (.ref C) name=some (some (.ref f)))(ht:PySem.W.isFn K (.ref f)=true)(hv:mA name=none)(h:Q (.ref f,[.ref x]) s) :
 wpAny (model prog w) A (getMethod (.ref x) name pl) Q E s:=by
 obtain⟨od,J,hl⟩:=I.look;exact PySem.W.method_fn X J (PySem.W.plainGet_of hg).1 (PySem.W.plainGet_of hg).2 hf (beq_iff_eq.mp ht) (by show (PySem.W.lookIn name od).map (·.isSome)=some false;rw[hl,hv];rfl) h
theorem z9y{ns:List Str}(X:K.In s.heap)(I:z2f s.heap x dx C mA)(hs:PySem.W.findIn K (.ref C) "__setattr__"=some (some (.builtin "object.__setattr__")))(hp:PySem.W.plainOver K C=true)(ht:PySem.W.takerIn K C name=some none)(hh:PySem.W.hasDictIn K C=true)(hw:PySem.Within mA ns)(hsz:ns.length<=sizeLine)(h:∀ h',z2f h' x dx C (fun y=>if y=name then some v else mA y)->Heap.SameBut dx s.heap h'->Q () { s with heap:=h',toks:=s.toks+2 }) :
 wpAny (model prog w) A (setAttr (.ref x) name v) Q E s:=by
 obtain⟨od,J,hl⟩:=I.look;refine PySem.W.set_plain X J hs (PySem.W.osa_open (s:={ s with toks:=s.toks+1 }) (r:=none) X J hp ht fun b=>?_);obtain⟨cd,hc,hd'⟩:=PySem.W.any_some hh;have hx:s.heap.get? x=some ⟨.ref C,some dx,.plain,#[]⟩:=I.obj;refine wpAny_bind (wpAny_pure (wpAny_bind (wpAny_bind (wpAny_loadPart hx (wpAny_bind (PySem.W.Looks.here (s:={ s with toks:=s.toks+1 }) (PySem.W.looks_clsIn X hc) ?_))))));rw[hd'];refine wpAny_pure (a:=some dx) (wpAny_bind (wpAny_pure (wpAny_bind ?_)));refine wpAny_nsSet1 (s:={ s with toks:=s.toks+1 }) I.ns fun h' hn2 hs2=>?_;obtain⟨oD,esD,epD,hoD,hdD,hcD⟩:=hn2.count (PySem.Within.cons name v hw);refine wpAny_bind (wpAny_lookBehind hoD (by rw[hdD];exact pastItsLine_dict (Z11 hcD (by rw[Z0u];lia))) ?_);exact wpAny_pure (h _ ⟨(hs2.2 _ (Z4q I.ne)).trans I.obj,hn2,I.ne⟩ hs2)
theorem z7H(X:K.In s.heap)(hm:PySem.W.makesIn K C=true)(hi:PySem.W.findIn K (.ref C) "__init__"=some (some (.ref f)))(hf:PySem.W.typeIn K (.ref f)=some (.type "function"))(h:codeAny (model prog w) (A.under (.builtin "type.__call__" ⟨.ref C :: vs,kw⟩)) (.call (.ref f) ⟨.ref (s.heap.objs.size+1) :: vs,kw⟩) (PySem.W.InitBack (s.heap.objs.size+1) R)
  { s with heap:=(s.heap.push PySem.W.emptyDict).push (PySem.W.instObj C s.heap.objs.size) }) :
 codeAny (model prog w) A (.call (.ref C) ⟨vs,kw⟩) R s:=by
 obtain⟨hh,g,d,t,os⟩:=s;exact PySem.W.make_core (PySem.W.makes_of X hm) (PySem.W.looks_findIn X hi) (fun self=>PySem.W.bind_fn X self hf) (.inl rfl) h
def Z9(f:Str)(v:V):List (Str×V)->List (Str×V)
 | []=>[(f,v)]
 | (g,x) :: r=>if g=f then (g,v) :: r else (g,x) :: Z9 f v r
theorem Zc(f g:Str)(v:V):∀ fs:List (Str×V),(Z9 f v fs).lookup g=if g=f then some v else fs.lookup g
 | []=>by
   show List.lookup g [(f,v)]=_;by_cases h:g=f;have hb:(g == f)=true:=beq_iff_eq.mpr h;simp only[List.lookup,hb,if_pos h];have hb:(g == f)=false:=beq_eq_false_iff_ne.mpr h;simp only[List.lookup,hb,if_neg h]
 | (k,x) :: r=>by
   have ih:=Zc f g v r;rw[show Z9 f v ((k,x) :: r)=(if k=f then (k,v) :: r else (k,x) :: Z9 f v r) from rfl];by_cases hk:k=f;rw[if_pos hk];by_cases h:g=k;have hb:(g == k)=true:=beq_iff_eq.mpr h;simp only[List.lookup,hb,if_pos (h.trans hk)];have hb:(g == k)=false:=beq_eq_false_iff_ne.mpr h;simp only[List.lookup,hb,if_neg (fun e:g=f=>h (e.trans hk.symm))];rw[if_neg hk];by_cases h:g=k;have hb:(g == k)=true:=beq_iff_eq.mpr h;simp only[List.lookup,hb,if_neg (fun e:g=f=>hk (h.symm.trans e))];have hb:(g == k)=false:=beq_eq_false_iff_ne.mpr h;simp only[List.lookup,hb];exact ih
theorem Q2(f:Str)(v:V):∀ fs:List (Str×V),f∈(Z9 f v fs).map (·.1)/\∀ g,g∈fs.map (·.1)->g∈(Z9 f v fs).map (·.1)
 | []=>⟨by simp[Z9],fun g h=>by simp at h⟩
 | (k,x) :: r=>by
   obtain⟨i1,i2⟩:=Q2 f v r;rw[show Z9 f v ((k,x) :: r)=(if k=f then (k,v) :: r else (k,x) :: Z9 f v r) from rfl];by_cases hk:k=f;rw[if_pos hk];subst hk;exact⟨by simp,fun g h=>by simpa using h⟩;rw[if_neg hk];refine⟨?_,fun g h=>?_⟩;rw[Z1y];exact Z07 _ i1;rw[Z1y] at h ⊢;rcases Z0z.mp h with e | e;exact Z0z.mpr (.inl e);exact Z07 _ (i2 g e)
theorem vN(f:Str)(v:V):∀ fs:List (Str×V),(Z9 f v fs).length<=fs.length+1
 | []=>by simp[Z9]
 | (k,x) :: r=>by
   have ih:=vN f v r;rw[show Z9 f v ((k,x) :: r)=(if k=f then (k,v) :: r else (k,x) :: Z9 f v r) from rfl];by_cases hk:k=f;rw[if_pos hk,Z0u,Z0u];lia;rw[if_neg hk,Z0u,Z0u];lia
theorem Uj.some_of(r:Uj (some v) o):∃ u,o=some u/\RelV v u:=by
 cases o with
 | none=>exact (show False from r).elim
 | some u=>exact⟨u,rfl,r⟩
theorem Uj.none_of(r:Uj none o):o=none:=by
 cases o with
 | none=>rfl
 | some u=>exact (show False from r).elim
theorem z4n(r:RelV v u):PySem.W.handedIn u=true:=by
 cases v with
 | Zr=>cases (show u=Value.none from r);rfl
 | bl b=>cases (show u=Value.bool b from r);rfl
 | int i=>obtain⟨t,e⟩:=(show ∃ t,u=Value.int i t from r);cases e;rfl
 | str x=>obtain⟨t,e⟩:=(show ∃ t,u=Value.str x t from r);cases e;rfl
 | byt b=>obtain⟨t,e⟩:=(show ∃ t,u=Value.bytes b t from r);cases e;rfl
 | flt b=>obtain⟨t,e⟩:=(show ∃ t,u=Value.float b t from r);cases e;rfl
 | ref a=>cases (show u=Value.ref a from r);rfl
 | ty n=>cases (show u=Value.type n from r);rfl
theorem Vk{fs:List (Str×V)}(hok:Va P w H h)(e:H a=some (.ins C dx fs)):∃ mA,z2f h a dx C mA/\(∀ f,Uj (fs.lookup f) (mA f))/\PySem.Within mA (fs.map (·.1))/\fs.length<=1000/\H dx=some (.own a):=by
 obtain⟨d,z,ne,ob,mA,n,r,q⟩:=(show Zw P w H h a (.ins C dx fs) from hok a _ e);exact⟨mA,⟨ob,n,ne⟩,r,q,z,d⟩
structure Cls(K:PySem.W.Frag)(C:Addr):Prop where
 pg:PySem.W.plainGet K C Str.empty=true
 hd:PySem.W.hasDictIn K C=true
 po:PySem.W.plainOver K C=true
 sa:PySem.W.findIn K (.ref C) "__setattr__"=some (some (.builtin "object.__setattr__"))
theorem Cls.get(c:Cls K C)(f:Str):PySem.W.plainGet K C f=true:=c.pg
def YI(K:PySem.W.Frag)(C:Addr)(f:Str):Prop:=PySem.W.findIn K (.ref C) f=some none
theorem YI.Z3B(n:YI K C f):PySem.W.takerIn K C f=some none:=by
 unfold PySem.W.takerIn;rw[show PySem.W.findIn K (.ref C) f=some none from n];rfl
structure Meth(K:PySem.W.Frag)(C:Addr)(m:Str)(f:Addr):Prop where
 at_:PySem.W.findIn K (.ref C) m=some (some (.ref f))
 fn:PySem.W.isFn K (.ref f)=true
 kp:PySem.W.keepIn K (.ref f)=true
theorem z1G{X:Cx}{σ:St}{fs:List (Str×V)}(I:Inv X pins σ H s)(e:H a=some (.ins C dx fs))(c:Cls X.K C)(n:YI X.K C f)(l:fs.lookup f=some v)(h:∀ u s',Inv X pins σ H s'->RelV v u->Q u s'):wpAny (model X.prog X.w) A (getAttr (.ref a) f b) Q E s:=by
 obtain⟨mA,O,r,_,_,_⟩:=Vk I.hok e;obtain⟨u,hu,ru⟩:=Uj.some_of (v:=v) (o:=mA f) (by rw[← l];exact r f);exact get_map I.QB O (c.get f) c.hd n hu (z4n ru) (h u _ (I.tok _) ru)
theorem uh{X:Cx}{σ:St}{fs:List (Str×V)}(I:Inv X pins σ H s)(e:H a=some (.ins C dx fs))(c:Cls X.K C)(k:Meth X.K C m g)(l:fs.lookup m=none)(h:Q (.ref g,[.ref a]) s):wpAny (model X.prog X.w) A (getMethod (.ref a) m pl) Q E s:=by
 obtain⟨mA,O,r,_,_,_⟩:=Vk I.hok e;have hn:mA m=none:=Uj.none_of (by rw[← l];exact r m);exact z7y I.QB O (c.get m) k.at_ k.fn hn h
theorem z1D{X:Cx}{σ:St}{fs:List (Str×V)}(I:Inv X pins σ H s)(e:H a=some (.ins C dx fs))(c:Cls X.K C)(n:YI X.K C f)(hl:fs.length<1000)(ry:RelV y u)(h:∀ s',Inv X pins σ (upd H a (.ins C dx (Z9 f y fs))) s'->Q () s'):wpAny (model X.prog X.w) A (setAttr (.ref a) f u) Q E s:=by
 obtain⟨mA,O,r,wi,_,ho⟩:=Vk I.hok e;have hz:(fs.map (·.1)).length<=sizeLine:=by rw[ZB,sizeLine_eq];lia
 refine z9y I.QB O c.sa c.po n.Z3B c.hd wi hz fun h' O' sb=>h _ ?_;have hd:∃ o,h'.get? dx=some o:=let ⟨o,_,_,e',_⟩:=O'.ns;⟨o,e'⟩;refine I.write (x:=a) (e:=dx) (by rw[e];exact True.intro) (.inr ho) (fun b q hb z=>(sb.2 b hb).trans z) hd ?_;refine⟨by rw[zD O.ne];exact ho,?_,O.ne,O'.obj,_,O'.ns,fun g=>?_,fun g hg=>?_⟩;have:=vN f y fs;lia;show Uj ((Z9 f y fs).lookup g) (if g=f then some u else mA g);rw[Zc];by_cases q:g=f;rw[if_pos q,if_pos q];exact ry;rw[if_neg q,if_neg q];exact r g;by_cases q:g=f;rw[q];exact (Q2 f y fs).1;refine (Q2 f y fs).2 g (wi g fun z=>hg ?_);show (if g=f then some u else mA g)=none;rw[if_neg q];exact z
theorem Inv.made{σ:St}(I:Inv X pins σ H s):Inv X pins σ (upd (upd H s.heap.objs.size (.own (s.heap.objs.size+1))) (s.heap.objs.size+1) (.ins C s.heap.objs.size []))
 { s with heap:=(s.heap.push PySem.W.emptyDict).push (PySem.W.instObj C s.heap.objs.size) }:=by
 have e1:(s.heap.push PySem.W.emptyDict).get? s.heap.objs.size=some PySem.W.emptyDict:=Z08 s.heap rfl;have e2:((s.heap.push PySem.W.emptyDict).push (PySem.W.instObj C s.heap.objs.size)).get? (s.heap.objs.size+1)=some (PySem.W.instObj C s.heap.objs.size):=by
  have:=Z08 (s.heap.push PySem.W.emptyDict) (o:=PySem.W.instObj C s.heap.objs.size) rfl;rwa [Z4p] at this
 have e3:(s.heap.push PySem.W.emptyDict).Ns s.heap.objs.size (fun _=>none):=⟨PySem.W.emptyDict,#[],_,e1,rfl,(fun e he=>absurd he (by simp)),fun _=>rfl⟩;have I1:=I.laid (a:=s.heap.objs.size) (o:=.own (s.heap.objs.size+1)) (h':=s.heap.push PySem.W.emptyDict) (t':=s.toks) (fun b u q=>Z00 _ q) (Z03 _) ⟨_,e1⟩;refine I1.laid (a:=s.heap.objs.size+1) (o:=.ins C s.heap.objs.size []) (t':=s.toks) (fun b u q=>Z00 _ q) (Nat.le_of_eq (Z4p _ _)) ?_;have ne:s.heap.objs.size≠s.heap.objs.size+1:=Z0T (Nat.lt_succ_self _);refine⟨by rw[zD ne,zh],Z18 _,ne,e2,fun _=>none,(Heap.Ns1.of_empty e3).at fun o q=>Z00 _ q,fun _=>True.intro,fun y hy=>absurd rfl hy⟩
theorem z9p{e:Expr}(hb:attributeBase e f env (eval e env)=eval e env)(h:wpAny (model prog w) A (eval e env) (fun o s₁=>wpAny (model prog w) A (getAttr o f true) Q E s₁) E s):wpAny (model prog w) A (eval (.Attribute e f pos) env) Q E s :=
 Attribute_any_ h (by rw[arm_eval_Attribute,hb])
def Z3d(K:PySem.W.Frag)(ta:TE)(f:Str):TE:=fun σ H Q=>ta σ H fun x H1=>∃ a C dx fs v,x=.ref a/\H1 a=some (.ins C dx fs)/\Cls K C/\YI K C f/\fs.lookup f=some v/\Q v H1
def Z3C(K:PySem.W.Frag)(ta tv:TE)(f:Str):TS:=fun D σ H=>tv σ H fun y H1=>ta σ H1 fun x H2=>∃ a C dx fs,x=.ref a/\H2 a=some (.ins C dx fs)/\Cls K C/\YI K C f/\fs.length<1000/\
 D.nx σ (upd H2 a (.ins C dx (Z9 f y fs)))
theorem QT{e:Expr}(he:PE X e ta)(hb:attributeBase e f X.env (eval e X.env)=eval e X.env):PE X (.Attribute e f pos) (Z3d X.K ta f):=by
 intro pins s σ H Q I h;refine z9p hb (Zj (he pins s σ H _ I h) fun u s1 ⟨x,H1,I1,rx,a,C,dx,fs,v,ex,ea,c,n,l,q⟩=>?_);subst ex;obtain rfl:u=Value.ref a:=rx;exact z1G I1 ea c n l fun u' s2 I2 ru=>⟨v,H1,I2,ru,q⟩
theorem Z0O(ha:PE X o ta)(hv:PE X value tv)(hs:swapsWith value (some (.Attribute o f pos')) pos.line X.env=pure false):PS X (.Assign [.Attribute o f pos'] value pos) (Z3C X.K ta tv f):=by
 intro pins s σ H D I h;refine plainObj_wpAny_Assign_Attribute (Zj (hv pins s σ H _ I h) fun u s1 ⟨y,H1,I1,ry,q⟩=>Zj (ha pins s1 σ H1 _ I1 q) fun ov s2 ⟨x,H2,I2,rx,a,C,dx,fs,ex,ea,c,n,l,q2⟩=>?_) hs;subst ex;obtain rfl:ov=Value.ref a:=rx;exact z1D I2 ea c n l ry fun s3 I3=>⟨σ,_,I3,q2⟩
inductive Q0 (K:PySem.W.Frag) (H:Hp):V->Value->Prop where
 | Zr:Q0 K H .Zr (.type "NoneType")
 | bl (x:Bool):Q0 K H (.bl x) (.type "bool")
 | int (i:Int):Q0 K H (.int i) (.type "int")
 | str (x:Str):Q0 K H (.str x) (.type "str")
 | flt (x:UInt64):Q0 K H (.flt x) (.type "float")
 | lst {a:Addr}{xs:List V}(e:H a=some (.lst xs)):Q0 K H (.ref a) (.type "list")
 | frz {a:Addr}{o:Obj}{xs:List V}(e:H a=some (.frz o (.lst xs))):Q0 K H (.ref a) (.type "list")
 | tup {a:Addr}{xs:List V}(e:H a=some (.tup xs)):Q0 K H (.ref a) (.type "tuple")
 | dK {a:Addr}{kvs:List (Key×V)}(e:H a=some (.dK kvs)):Q0 K H (.ref a) (.type "dict")
 | dT {a:Addr}{kvs:List (List Key×V)}(e:H a=some (.dT kvs)):Q0 K H (.ref a) (.type "dict")
 | ins {a C dx:Addr}{fs:List (Str×V)}(e:H a=some (.ins C dx fs)) (cl:Cls K C) (ha:PySem.W.findIn K (.ref C) "__class__"=some (some (.builtin "object.__class__")))
  (hn:PySem.W.specialIn K (.builtin "object.__class__") "__get__"=some (some (.builtin "getset_descriptor.__get__"))) (htk:PySem.W.takesIn K (.builtin "object.__class__")=some true)
  (hm:PySem.W.mroIn K C (.type "object")=some true):Q0 K H (.ref a) (.ref C)
theorem z5i{X:Cx}{σ:St}(I:Inv X pins σ H s)(rx:RelV x u)(ty:Q0 X.K H x t)(e:PySem.W.kitOne X.K t c=some b)(h:∀ tk,Q (.bool b) { s with toks:=tk }) :
 wpAny (model X.prog X.w) A (call (.builtin "isinstance") [u,c]) Q E s:=by
 cases ty with
 | Zr=>cases (show u=Value.none from rx);exact Z39 PySem.W.kitx_none I.QB True.intro e (fun z=>nomatch z) h
 | bl y=>cases (show u=Value.bool y from rx);exact Z39 PySem.W.kitx_bool I.QB True.intro e (fun z=>nomatch z) h
 | int i=>obtain⟨t,q⟩:=(show ∃ t,u=Value.int i t from rx);cases q;exact Z39 PySem.W.kitx_int I.QB True.intro e (fun z=>nomatch z) h
 | str y=>obtain⟨t,q⟩:=(show ∃ t,u=Value.str y t from rx);cases q;exact Z39 PySem.W.kitx_str I.QB True.intro e (fun z=>nomatch z) h
 | flt y=>obtain⟨t,q⟩:=(show ∃ t,u=Value.float y t from rx);cases q;exact Z39 PySem.W.kitx_float I.QB True.intro e (fun z=>nomatch z) h
 | @lst a xs ea =>
   cases (show u=Value.ref a from rx);obtain⟨_,_,n,_,h1⟩:=(show Zw X.prog X.w H s.heap a (.lst xs) from I.hok a _ ea);exact Z39 PySem.W.kitx_list I.QB ⟨_,h1,rfl⟩ e (fun z=>nomatch z) h
 | @frz a ob xs ea =>
   cases (show u=Value.ref a from rx);obtain⟨_,_,_,n,_,h1⟩:=(show Zw X.prog X.w H s.heap a (.frz ob (.lst xs)) from I.hok a _ ea);exact Z39 PySem.W.kitx_list I.QB ⟨_,h1,rfl⟩ e (fun z=>nomatch z) h
 | @tup a xs ea =>
   cases (show u=Value.ref a from rx);obtain⟨_,_,_,p⟩:=(show Zw X.prog X.w H s.heap a (.tup xs) from I.hok a _ ea);obtain⟨o,h1,h2,_⟩:=p.tup;exact Z39 PySem.W.kitx_tuple I.QB ⟨o,h1,h2⟩ e (fun z=>nomatch z) h
 | @dK a kvs ea =>
   cases (show u=Value.ref a from rx);obtain⟨_,_,vs,_,p⟩:=(show Zw X.prog X.w H s.heap a (.dK kvs) from I.hok a _ ea);obtain⟨o,es,ep,h1,h2,_⟩:=p;exact Z39 PySem.W.kitx_dict I.QB ⟨o,h1,h2.1⟩ e (fun z=>nomatch z) h
 | @dT a kvs ea =>
   cases (show u=Value.ref a from rx);obtain⟨_,_,xs,_,o,es,ep,h1,h2,_⟩:=(show Zw X.prog X.w H s.heap a (.dT kvs) from I.hok a _ ea);exact Z39 PySem.W.kitx_dict I.QB ⟨o,h1,h2.1⟩ e (fun z=>nomatch z) h
 | @ins a C dx fs ea cl ha hn htk hm =>
   cases (show u=Value.ref a from rx);obtain⟨mA,O,_⟩:=Vk I.hok ea;obtain⟨od,J,_⟩:=O.look;exact Z39 (PySem.W.kitx_own (cl.get _) cl.hd ha hn htk hm) I.QB J e (fun z=>nomatch z) h
structure Zk(k:Nat)(A:Around):Prop where
 hd:A.handled=none
 dp:A.depth+3 * k+5<recursionLimit
 un:A.units+16 * k+200<cLine
 gd:A.guards=some []
theorem Zk.mono(r:Zk k A)(h:j<=k):Zk j A:=⟨r.hd,by have:=r.dp;lia,by have:=r.un;lia,r.gd⟩
theorem Zk.deeper(r:Zk (k+1) A)(env:Env):Zk k (A.deeper env) :=
 ⟨r.hd,by have:=r.dp;show A.depth+1+3 * k+5<_;lia,by have:=r.un;show A.units+3+16 * k+200<_;lia,r.gd⟩
theorem Zk.in1(r:Zk (k+1) A):Zk k A.in1 :=
 ⟨r.hd,by have:=r.dp;show A.depth+3 * k+5<_;lia,by have:=r.un;show A.units+1+16 * k+200<_;lia,r.gd⟩
theorem z1W{A:Around}{C:Addr}{us:List Value}{kw:List (Str×Value)}:(A.under (.builtin "type.__call__" ⟨.ref C :: us,kw⟩)).depth=A.depth+1:=by
 first | rfl | simp[Around.under,Code.weight,Code.isCreation,Code.isGuard,Code.isCaller,Code.frames,Code.isFrame,guardIds]
theorem z2L{A:Around}{C:Addr}{us:List Value}{kw:List (Str×Value)}:(A.under (.builtin "type.__call__" ⟨.ref C :: us,kw⟩)).units=A.units+1:=by
 first | rfl | simp[Around.under,Code.cUnits,Code.frames,Code.isFrame]
theorem z0r{A:Around}:(A.under (.builtin "type.__call__" ⟨.ref C :: us,kw⟩)).guards=A.guards:=by
 cases h:A.guards <;> first | rfl | simp[Around.under,Code.guards,Code.isGuard,guardIds,pushGuards,h]
theorem Zk.make(r:Zk (k+1) A)(C:Addr)(us:List Value)(kw:List (Str×Value)):Zk k (A.under (.builtin "type.__call__" ⟨.ref C :: us,kw⟩)) :=
 ⟨r.hd,by have:=r.dp;rw[z1W];lia,by have:=r.un;rw[z2L];lia,by rw[z0r];exact r.gd⟩
theorem Zk.depth(r:Zk k A):A.depth<recursionLimit:=by have:=r.dp;lia
theorem Zk.units(r:Zk k A):A.units+64<cLine:=by have:=r.un;lia
theorem Zk.Z2C(r:Zk k A):A.units<cLine:=by have:=r.un;lia
def Ub:TA:=fun _ H Q=>Q [] H
def UB(ta:TE)(tr:TA):TA:=fun σ H Q=>ta σ H fun x H1=>tr σ H1 fun xs H2=>Q (x :: xs) H2
theorem zJ:PA X [] Ub:=fun _ _ _ _ H Q I h=>Calls.spliced_nil ⟨[],H,I,.nil,h⟩
theorem xh{e:Expr}(ha:PE X e te)(hr:PA X es t)(hs:starEach (e :: es) X.env=(false,eval e X.env) :: starEach es X.env:=by rfl):PA X (e :: es) (UB te t):=by
 intro pos pins s σ H Q I h;rw[hs];show wpAny _ _ (spliced ((false,eval e X.env) :: backTo pos (starEach es X.env))) _ _ s;refine Calls.spliced_cons (Zj (ha pins s σ H _ I h) fun u s1 ⟨x,H1,I1,r1,q1⟩=>?_);exact Zj (hr pos pins s1 σ H1 _ I1 q1) fun us s2 ⟨xs,H2,I2,r2,q2⟩=>⟨x :: xs,H2,I2,.cons r1 r2,q2⟩
def Z5b(t:TA):TE:=fun σ H Q=>t σ H fun xs H1=>xs.length<=sizeLine/\∀ p,H1 p=none->Q (.ref p) (upd H1 p (.tup xs))
theorem Z2l{x1}(h:PA X es t):PE X (.Tuple es x1 pos) (Z5b t):=by
 intro pins s σ H Q I hq;refine wpAny_Tuple_spliced (Zj (h pos pins s σ H _ I hq) fun us s1 ⟨xs,H1,I1,r,z,q⟩=>⟨by rw[← r.length];exact z,?_⟩);have hf:H1 s1.heap.objs.size=none:=I1.hok.fresh (Z03 _);refine⟨.ref s1.heap.objs.size,upd H1 s1.heap.objs.size (.tup xs),I1.laid (t':=s1.toks) (fun b u e=>Z00 _ e) (Z03 _) ?_,rfl,q _ hf⟩;exact⟨z,us,r,⟨_,Z08 _ rfl,rfl,_,rfl⟩⟩
abbrev Sp:=List V->Hp->VK->XK->Prop
abbrev Ji:=List Env->Hp->Shared->XK->Value->Shared->Prop
structure z1m(P:Program)(w:World)(K:PySem.W.Frag)(mg:Str->Option Value)(base:Heap)(A:Around)(outer:List Env)(s:Shared)(H:Hp):Prop where
 frames:A.frames=some outer
 mod:Mod K mg base
 bs:∀ b o,base.get? b=some o->s.heap.get? b=some o/\H b=none
 bsz:base.objs.size<=s.heap.objs.size
 vR:s.heap.FunFrames base outer
 frf:∀ b∈frs outer,H b=none
 hok:Va P w H s.heap
 bare:AllBare s.gens
def CE(outer:List Env)(P:Program)(w:World)(H:Hp)(s:Shared)(Q:VK)(u:Value)(s':Shared):Prop :=
 ∃ v H',s'.os=s.os/\AllBare s'.gens/\Un (frs outer) [] H H' s.heap s'.heap/\Va P w H' s'.heap/\RelV v u/\Q v H'
def CR(CX:Ji)(outer:List Env)(P:Program)(w:World)(H:Hp)(s:Shared)(Q:VK)(E:XK)(r:Result)(s':Shared):Prop :=
 match r with
 | .ok (.ret u)=>CE outer P w H s Q u s'
 | .ok _=>False
 | .error e=>CX outer H s E e s'
structure ZK(P:Program)(w:World)(K:PySem.W.Frag)(mg:Str->Option Value)(base:Heap)(CX:Ji)(k:Nat)(f:Addr)(fd:FuncData)(ps:List Str)(sp:Sp):Prop where
 len:∀ vs H Q E,sp vs H Q E->vs.length=ps.length
 run:∀ (A:Around) (outer:List Env) (s:Shared) (H:Hp) (args:Args) (us:List Value) (vs:List V) (Q:VK) (E:XK),Zk k A->z1m P w K mg base A outer s H->BindsTo s fd args (ps.zip us)->Vals vs us->sp vs H Q E->
  codeAny (model P w) A (.call (.ref f) args) (CR CX outer P w H s Q E) s
theorem ZK.mono(F:ZK P w K mg base CX j f fd ps sp)(h:j<=k) :
 ZK P w K mg base CX k f fd ps sp:=⟨F.len,fun A outer s H args us vs Q E hr=>F.run A outer s H args us vs Q E (hr.mono h)⟩
theorem ZK.imp(F:ZK P w K mg base CX k f fd ps sp)(h:∀ vs H Q E,sp' vs H Q E->sp vs H Q E):ZK P w K mg base CX k f fd ps sp' :=
 ⟨fun vs H Q E q=>F.len vs H Q E (h _ _ _ _ q),fun A outer s H args us vs Q E hr he hb hv hs=>F.run A outer s H args us vs Q E hr he hb hv (h _ _ _ _ hs)⟩
theorem z1m.make(e:z1m P w K mg base A outer s H)(C:Addr)(us:List Value)(kw:List (Str×Value)) :
 z1m P w K mg base (A.under (.builtin "type.__call__" ⟨.ref C :: us,kw⟩)) outer s H:=⟨by first | exact e.frames | (simpa[Around.under,Code.envs,Code.isFrame,pushEnvs] using e.frames),e.mod,e.bs,e.bsz,e.vR,e.frf,e.hok,e.bare⟩
theorem Inv.Z3l{X:Cx}{σ:St}(I:Inv X pins σ H s):z1m X.prog X.w X.K X.mg X.base X.A X.stack s H :=
 ⟨I.ok.frames,I.ok.mod,I.bs,Z11 I.ok.bsz I.sz,I.stack,I.jV,I.hok,I.bare⟩
theorem Inv.after{X:Cx}{σ:St}(I:Inv X pins σ H s)(h:CE X.stack X.prog X.w H s Q u s'):EP X pins σ Q u s':=by
 obtain⟨v,H',os,bare,un,hok,r,q⟩:=h;obtain⟨hh,g,d,t,os'⟩:=s';obtain rfl:os'=s.os:=os;exact⟨v,H',I.call (h':=hh) (g':=g) (d':=d) (t':=t) (ch:=[]) un hok bare (fun b z=>absurd z (by simp)),r,q⟩
def z3l(sp:Sp)(dvs:List V)(E:XK)(t:TA):TE:=fun σ H Q=>t σ H fun vs H1=>sp (vs ++ dvs) H1 Q E
def UN(C:Addr)(m:Str)(sp:Sp)(dvs:List V)(E:XK)(ta:TE)(t:TA):TE:=fun σ H Q=>ta σ H fun x H1=>∃ a dx fs,x=.ref a/\H1 a=some (.ins C dx fs)/\fs.lookup m=none/\
 t σ H1 fun vs H2=>sp (x :: (vs ++ dvs)) H2 Q E
def z3r(C:Addr)(sp:Sp)(dvs:List V)(E:XK)(t:TA):TE:=fun σ H Q=>t σ H fun vs H1=>∀ x dx,H1 x=none->H1 dx=none->dx≠x->
 sp (.ref x :: (vs ++ dvs)) (upd (upd H1 dx (.own x)) x (.ins C dx [])) (fun v H2=>v=.Zr/\Q (.ref x) H2) E
def Binds(K:PySem.W.Frag)(fd:FuncData)(ps:List Str)(ds:List Value):Prop :=
 ∀ (s:Shared) (us:List Value),K.In s.heap->(us ++ ds).length=ps.length->BindsTo s fd ⟨us,[]⟩ (ps.zip (us ++ ds))
theorem Binds.all(h:∀ us:List Value,us.length=ps.length->bindArgs fd ⟨us,[]⟩=pure (ps.zip us)):Binds K fd ps []:=fun s us _ hl=>by
 rw[Z43] at hl ⊢;exact .of_eq (h us hl)
def Passes(CX:Ji)(X:Cx)(E:XK):Prop:=∀ (pins:List (Addr×Obj)) (σ:St) (H:Hp) (s:Shared) (e:Value) (s':Shared),Inv X pins σ H s->CX X.stack H s E e s'->X.xe e s'
theorem jj{X:Cx}{σ:St}(F:ZK X.prog X.w X.K X.mg X.base CX k f fd ps sp)(hr:Zk k X.A)(hb:Binds X.K fd ps ds)(hd:Vals dvs ds)(hx:Passes CX X E)(I:Inv X pins σ H s)(r:Vals vs us)(h:sp (vs ++ dvs) H Q E):wpAny (model X.prog X.w) X.A (call (.ref f) us) (EP X pins σ Q) X.xe s:=by
 have r2:Vals (vs ++ dvs) (us ++ ds):=r.append hd;have hl:(us ++ ds).length=ps.length:=by rw[← r2.length];exact F.len _ _ _ _ h
 refine wpAny_call (codeAny_mono (F.run X.A X.stack s H ⟨us,[]⟩ (us ++ ds) (vs ++ dvs) Q E hr I.Z3l (hb s us I.QB hl) r2 h) fun r s' hq=>?_);cases r with
 | error e=>exact hx pins σ H s e s' I hq
 | ok fl =>
   cases fl with
   | ret u=>exact I.after hq
   | next=>exact False.elim hq
   | brk=>exact False.elim hq
   | cont=>exact False.elim hq
theorem z3c{X:Cx}{CX:Ji}{k:Nat}{f:Addr}{fd:FuncData}{ps:List Str}{sp:Sp}{dvs:List V}{ds:List Value}{E:XK}{x:Str}{p pos:Pos}{e:Expr}{es:List Expr}{t:TA}(F:ZK X.prog X.w X.K X.mg X.base CX k f fd ps sp)(hr:Zk k X.A)(hg:Gl X x)(hm:X.mg x=some (.ref f))(hk:PySem.W.keepIn X.K (.ref f)=true)(hb:Binds X.K fd ps ds)(hd:Vals dvs ds)(hx:Passes CX X E)
 (ha:PA X (e :: es) t) (hdb:(x == ("__debug__":Str))=false:=by decide) (he:starEach (e :: es) X.env=(false,eval e X.env) :: starEach es X.env:=by rfl) (hpl:(backTo pos (starEach es X.env)).any (·.1)=false:=by rfl) :
 PE X (.Call (.Name x p) (e :: es) [] pos) (z3l sp dvs E t):=by
 intro pins s σ H Q I h;refine wpAny_Call_Name_kw (Vu I hg hm ?_ hdb);refine PySem.W.callWith_K (h₀:=X.base) I.ok.mod.kin hk (Zj (ha pos pins s σ H _ I h) fun us s1 ⟨vs,H1,I1,r,q⟩=>⟨I1.QB,?_⟩) he hpl;exact jj F hr hb hd hx I1 r q
theorem z9J{X:Cx}{CX:Ji}{k:Nat}{f C:Addr}{fd:FuncData}{ps:List Str}{sp:Sp}{dvs:List V}{ds:List Value}{E:XK}{m:Str}{pos apos:Pos}{e o:Expr}{es:List Expr}{ta:TE}{t:TA}{pl:Sem Bool}(he:PE X o ta)(c:Cls X.K C)(hm:Meth X.K C m f)(F:ZK X.prog X.w X.K X.mg X.base CX k f fd ps sp)(hr:Zk k X.A)(hb:Binds X.K fd ps ds)(hd:Vals dvs ds)(hx:Passes CX X E)(ha:PA X (e :: es) t)
 (hst:starEach (e :: es) X.env=(false,eval e X.env) :: starEach es X.env:=by rfl) (hpl:(backTo pos (starEach es X.env)).any (·.1)=false:=by rfl)
 (ht:eval (.Call (.Attribute o m apos) (e :: es) [] pos) X.env=(do
  let ov ←eval o X.env
  standAt apos.atName
  let (f,first) ←holding [ov] (getMethod ov m pl)
  callWith pos f first (backTo pos (starEach (e :: es) X.env)) (backToKw pos (keywordEach [] X.env))):=by rfl) :
 PE X (.Call (.Attribute o m apos) (e :: es) [] pos) (UN C m sp dvs E ta t):=by
 intro pins s σ H Q I h;refine PySem.W.methodCall_KW (pl:=pl) (Zj (he pins s σ H _ I h) fun u s1 ⟨x,H1,I1,rx,a,dx,fs,ex,ea,l,q⟩=>?_) ht;subst ex;obtain rfl:u=Value.ref a:=rx;refine uh I1 ea c hm l ?_;refine PySem.W.callWith_K (first:=[.ref a]) (h₀:=X.base) I.ok.mod.kin hm.kp (Zj (ha pos pins s1 σ H1 _ I1 q) fun us s2 ⟨vs,H2,I2,r,q2⟩=>⟨I2.QB,?_⟩) hst hpl
 exact jj (us:=.ref a :: us) (vs:=.ref a :: vs) F hr hb hd hx I2 (.cons rfl r) q2
theorem z7j(he:PE X o ta)(c:Cls X.K C)(hm:Meth X.K C m f)(F:ZK X.prog X.w X.K X.mg X.base CX k f fd ps sp)(hr:Zk k X.A)(hb:Binds X.K fd ps ds)(hd:Vals dvs ds)(hx:Passes CX X E)(ht:eval (.Call (.Attribute o m apos) [] [] pos) X.env=(do
  let ov ←eval o X.env
  standAt apos.atName
  let (f,first) ←holding [ov] (getMethod ov m pl)
  callWith pos f first (backTo pos (starEach [] X.env)) (backToKw pos (keywordEach [] X.env))):=by rfl) :
 PE X (.Call (.Attribute o m apos) [] [] pos) (UN C m sp dvs E ta Ub):=by
 intro pins s σ H Q I h;refine PySem.W.methodCall_KW (pl:=pl) (Zj (he pins s σ H _ I h) fun u s1 ⟨x,H1,I1,rx,a,dx,fs,ex,ea,l,q⟩=>?_) ht;subst ex;obtain rfl:u=Value.ref a:=rx;refine uh I1 ea c hm l ?_;exact PySem.W.callWith_K0 (first:=[.ref a]) I1.QB hm.kp (jj (us:=[.ref a]) (vs:=[.ref a]) F hr hb hd hx I1 (.cons rfl .nil) q)
structure Mk(K:PySem.W.Frag)(C f:Addr):Prop where
 makes:PySem.W.makesIn K C=true
 init:PySem.W.findIn K (.ref C) "__init__"=some (some (.ref f))
 fn:PySem.W.isFn K (.ref f)=true
 kp:PySem.W.keepIn K (.ref C)=true
theorem z0H{X:Cx}{σ:St}(M:Mk X.K C f)(F:ZK X.prog X.w X.K X.mg X.base CX k f fd ps sp)(hr:Zk (k+1) X.A)(hb:Binds X.K fd ps ds)(hd:Vals dvs ds)(hx:Passes CX X E)(I:Inv X pins σ H s)(r:Vals vs us)(h:∀ x dx,H x=none->H dx=none->dx≠x->sp (.ref x :: (vs ++ dvs)) (upd (upd H dx (.own x)) x (.ins C dx [])) (fun v H2=>v=.Zr/\Q (.ref x) H2) E) :
 wpAny (model X.prog X.w) X.A (call (.ref C) us) (EP X pins σ Q) X.xe s:=by
 have hq:=h (s.heap.objs.size+1) s.heap.objs.size (I.hok.fresh (Nat.le_succ _)) (I.hok.fresh (Z03 _)) (Z0T (Nat.lt_succ_self _));have I2:=Inv.made (C:=C) I;have r2:Vals (V.ref (s.heap.objs.size+1) :: (vs ++ dvs)) (Value.ref (s.heap.objs.size+1) :: (us ++ ds)):=.cons rfl (r.append hd);have hl:(Value.ref (s.heap.objs.size+1) :: us ++ ds).length=ps.length:=by
  have e:=r2.length;rw[F.len _ _ _ _ hq] at e;exact e.symm
 refine wpAny_call (z7H (f:=f) I.QB M.makes M.init (beq_iff_eq.mp M.fn) (codeAny_mono (F.run _ X.stack _ _ ⟨Value.ref (s.heap.objs.size+1) :: us,[]⟩ (Value.ref (s.heap.objs.size+1) :: (us ++ ds)) _ _ E (hr.make C us [])
  (I2.Z3l.make C us []) (hb _ (Value.ref (s.heap.objs.size+1) :: us) I2.QB hl) r2 hq) fun r s' hq'=>?_))
 cases r with
 | error e=>exact hx pins σ _ _ e s' I2 hq'
 | ok fl =>
   cases fl with
   | ret u =>
     obtain⟨v,H',I3,rv,ev,q3⟩:=I2.after hq';subst ev;exact⟨rv,⟨V.ref (s.heap.objs.size+1),H',I3,rfl,q3⟩⟩
   | next=>exact False.elim hq'
   | brk=>exact False.elim hq'
   | cont=>exact False.elim hq'
theorem z9w{X:Cx}{CX:Ji}{k:Nat}{f C:Addr}{fd:FuncData}{ps:List Str}{sp:Sp}{dvs:List V}{ds:List Value}{E:XK}{x:Str}{p pos:Pos}{e:Expr}{es:List Expr}{t:TA}(M:Mk X.K C f)(F:ZK X.prog X.w X.K X.mg X.base CX k f fd ps sp)(hr:Zk (k+1) X.A)(hg:Gl X x)(hm:X.mg x=some (.ref C))(hb:Binds X.K fd ps ds)(hd:Vals dvs ds)(hx:Passes CX X E)
 (ha:PA X (e :: es) t) (hdb:(x == ("__debug__":Str))=false:=by decide) (he:starEach (e :: es) X.env=(false,eval e X.env) :: starEach es X.env:=by rfl) (hpl:(backTo pos (starEach es X.env)).any (·.1)=false:=by rfl) :
 PE X (.Call (.Name x p) (e :: es) [] pos) (z3r C sp dvs E t):=by
 intro pins s σ H Q I h;refine wpAny_Call_Name_kw (Vu I hg hm ?_ hdb);refine PySem.W.callWith_K (h₀:=X.base) I.ok.mod.kin M.kp (Zj (ha pos pins s σ H _ I h) fun us s1 ⟨vs,H1,I1,r,q⟩=>⟨I1.QB,?_⟩) he hpl;exact z0H M F hr hb hd hx I1 r q
theorem z7c(M:Mk X.K C f)(F:ZK X.prog X.w X.K X.mg X.base CX k f fd ps sp)(hr:Zk (k+1) X.A)(hg:Gl X x)(hm:X.mg x=some (.ref C))(hb:Binds X.K fd ps ds)(hd:Vals dvs ds)(hx:Passes CX X E)(hdb:(x == ("__debug__":Str))=false:=by decide):PE X (.Call (.Name x p) [] [] pos) (z3r C sp dvs E Ub):=by
 intro pins s σ H Q I h;refine wpAny_Call_Name_kw (Vu I hg hm ?_ hdb);exact PySem.W.callWith_K0 I.QB M.kp (z0H (us:=[]) M F hr hb hd hx I .nil h)
structure zE(N P:List Str)(sc:Scope):Prop where
 kind:sc.kind=.function
 co:sc.isCoroutine=false
 gen:sc.isGenerator=false
 nd:N.Nodup
 pre:N.take P.length=P
 par:∀ x∈P,sc.names.lookup x=some .local\/sc.names.lookup x=some .cell
 nofree:∀ y∈sc.names,y.2≠.free
theorem UL{kindOf:Str->Option NameKind}:∀ {binds:List (Str×Value)}{m:Str->Option Value},(∀ v,(x,v)∉binds)->bindL kindOf binds m x=m x
 | [],_,_=>rfl
 | (n,v) :: r,m,h=>by
   unfold bindL;rw[UL fun w hw=>h w (Z07 _ hw)];split;have:x≠n:=by rintro rfl;exact h v Z0y
   simp[this];rfl
theorem UQ{kindOf:Str->Option NameKind}:∀ {binds:List (Str×Value)}{m:Str->Option Value},(∀ v,(x,v)∉binds)->bindC kindOf binds m x=m x
 | [],_,_=>rfl
 | (n,v) :: r,m,h=>by
   unfold bindC;rw[UQ fun w hw=>h w (Z07 _ hw)];split;rfl;have:x≠n:=by rintro rfl;exact h v Z0y
   simp[this]
theorem UC{kindOf:Str->Option NameKind}:∀ {P:List Str}{vs:List Value}{i:Nat}{m:Str->Option Value},P.Nodup->P[i]?=some x->vs[i]?=some v->kindOf x=some .local->
 bindL kindOf (P.zip vs) m x=some v
 | [],_,_,_,_,h,_,_=>by simp at h
 | _ :: _,[],_,_,_,_,h,_=>by simp at h
 | p :: P,w :: vs,0,m,nd,h1,h2,hk=>by
   simp at h1 h2;subst h1;subst h2;show bindL kindOf ((p,w) :: P.zip vs) m p=_;unfold bindL;rw[UL fun v hv=>(List.nodup_cons.mp nd).1 (List.of_mem_zip hv).1,if_pos hk];simp
 | p :: P,w :: vs,i+1,m,nd,h1,h2,hk=>by
   show bindL kindOf ((p,w) :: P.zip vs) m x=_;unfold bindL;exact UC (i:=i) (List.nodup_cons.mp nd).2 (by simpa using h1) (by simpa using h2) hk
theorem Ut{kindOf:Str->Option NameKind}:∀ {P:List Str}{vs:List Value}{i:Nat}{m:Str->Option Value},P.Nodup->P[i]?=some x->vs[i]?=some v->kindOf x≠some .local->
 bindC kindOf (P.zip vs) m x=some v
 | [],_,_,_,_,h,_,_=>by simp at h
 | _ :: _,[],_,_,_,_,h,_=>by simp at h
 | p :: P,w :: vs,0,m,nd,h1,h2,hk=>by
   simp at h1 h2;subst h1;subst h2;show bindC kindOf ((p,w) :: P.zip vs) m p=_;unfold bindC;rw[UQ fun v hv=>(List.nodup_cons.mp nd).1 (List.of_mem_zip hv).1,if_neg hk];simp
 | p :: P,w :: vs,i+1,m,nd,h1,h2,hk=>by
   show bindC kindOf ((p,w) :: P.zip vs) m x=_;unfold bindC;exact Ut (i:=i) (List.nodup_cons.mp nd).2 (by simpa using h1) (by simpa using h2) hk
def start(N:List Str)(vs:List V):St:=vs.map some ++ List.replicate (N.length - vs.length) none
def Jx(CX:Ji)(P:Program)(w:World)(K:PySem.W.Frag)(mg:Str->Option Value)(base:Heap)(N:List Str)(qual:Str)(scope:Scope)(f:Addr)(cd:Value)(A:Around)(outer:List Env)(s:Shared)(H:Hp)(E:XK):Cx where
 prog:=P
 w:=w
 K:=K
 mg:=mg
 base:=base
 A:=A.deeper (envOfC qual scope s.heap.objs.size f cd)
 N:=N
 s₀:=s
 H₀:=H
 env:=envOfC qual scope s.heap.objs.size f cd
 outer:=outer
 stack:=envOfC qual scope s.heap.objs.size f cd :: outer
 ex:=[]
 calm:=true
 fn:=fun _=>true
 pn:=[]
 xe:=fun e s'=>wpAny (model P w) (A.deeper (envOfC qual scope s.heap.objs.size f cd)) (leaving (envOfC qual scope s.heap.objs.size f cd) e) (fun _ s''=>CX outer H s E e s'') (fun e' s''=>CX outer H s E e' s'') s'
theorem z1c{sc:Scope}(h:sc.names.lookup x=some .cell):∃ c,(cellsFrom n sc.names []).lookup x=some c:=by
 have q:=PySem.W.cellsFrom_some sc.names n [] (.inl h);exact Option.isSome_iff_exists.mp q
theorem z5f(S:zE N ps scope)(hd:A.handled=none)(e0:z1m P w K mg base A outer s H)(hl:vs.length=ps.length)(r:Vals vs us)(x:InCallC s s.heap.objs.size (bindL (envOfC qual scope s.heap.objs.size f cd).kindOf (ps.zip us) fun _=>none) (cellsFrom (s.heap.objs.size+1) scope.names []) (bindC (envOfC qual scope s.heap.objs.size f cd).kindOf (ps.zip us) fun _=>none) s1) :
 Inv (Jx CX P w K mg base N qual scope f cd A outer s H E) [] (start N vs) H s1:=by
 have hpl:ps.length<=N.length:=by have:=congrArg List.length S.pre;rw[Z20] at this;lia
 obtain⟨h1,tk,rfl,hk⟩:=x.done;have noA:∀ b:Addr,b∉(Jx CX P w K mg base N qual scope f cd A outer s H E).ex:=fun b z=>absurd (show b∈([]:List Addr) from z) (by simp);refine⟨⟨e0.mod,S.kind,rfl,rfl,Z03 _,fun y z c h1 h2=>?_,fun y hy=>?_,fun y c _ h=>?_,fun _=>hd,Around.frames_deeper e0.frames,.inr ⟨rfl,rfl⟩,fun b z=>absurd z (noA b),e0.bs,e0.bsz,fun b _ _=>noA b,fun b z=>absurd z (noA b),e0.vR,e0.frf⟩,
  rfl,e0.bare,Un.kept hk,⟨_,x.toInCall.ns,fun i y v h1 h2 h3=>?_⟩,fun y c h=>⟨_,x.cell y c h⟩,e0.hok.fresh (Z03 _),fun y c h=>?_,fun p hp=>absurd (show p∈([]:List (Addr×Obj)) from hp) (by simp),e0.hok.kept hk,?_⟩
 exact name_of_addr x.apart (Z36 h1) (Z36 h2);have hy:scope.names.lookup y=some .cell\/scope.names.lookup y=some .free:=hy;rcases hy with hy | hy;exact z1c hy;exact absurd rfl (S.nofree _ (Z36 hy));exact Nat.le_of_lt (x.above y c (Z36 h));have hi:i<vs.length:=by
  unfold start at h2;by_cases hi:i<vs.length;exact hi;rw[Z3H (by simpa using hi)] at h2;rw[List.getElem?_replicate] at h2;split at h2 <;> cases h2
 have ha:vs[i]?=some v:=by
  unfold start at h2;rw[Z2H (by simpa using hi),Z14] at h2;cases e:vs[i]? with
  | none=>rw[e] at h2;cases h2
  | some a=>rw[e] at h2;cases h2;rfl
 obtain⟨u,hu,rv⟩:=r.get ha;have hp:ps[i]?=some y:=by
  rw[← S.pre,List.getElem?_take_of_lt (by lia)];exact h1
 have ndP:ps.Nodup:=by rw[← S.pre];exact S.nd.sublist (List.take_sublist _ _)
 refine⟨u,rv,?_⟩;rcases S.par y (Z21 hp) with k | k;exact .inl ⟨k,UC ndP hp hu k⟩;obtain⟨c,e⟩:=z1c (n:=s.heap.objs.size+1) k;refine .inr ⟨.inl k,c,e,?_⟩;have q:=x.cell y c e;rw[Ut ndP hp hu (by show scope.names.lookup y≠_;rw[k];decide)] at q;exact q;exact e0.hok.fresh (Nat.le_of_lt (x.above y c (Z36 h)));unfold start;show _=N.length;rw[Z0M,ZB,Z4r];lia
theorem Z0m{kV:Value}(lk:K.lookup f=some ⟨oc,od,.func (PySem.W.fnOf name qual params body scope dV kV doc pm an cdv ct),osl⟩)(hcd:PySem.W.codeIn K cdv qual=true)(S:zE N ps scope)(len:∀ vs H Q E,sp vs H Q E->vs.length=ps.length)(hbody:∀ (A:Around) (outer:List Env) (s:Shared) (H:Hp) (vs:List V) (Q:VK) (E:XK),Zk k (A.deeper (envOfC qual scope s.heap.objs.size f cdv))->sp vs H Q E->
  ∃ t,QW (Jx CX P w K mg base N qual scope f cdv A outer s H E) body t/\t { nx:=fun _ H'=>Q .Zr H',rt:=Q } (start N vs) H) :
 ZK P w K mg base CX (k+1) f (PySem.W.fnOf name qual params body scope dV kV doc pm an cdv ct) ps sp:=by
 refine⟨len,fun A outer s H args us vs Q E hr e0 hb r hsp=>?_⟩;have hl:=len _ _ _ _ hsp;have KX:K.In s.heap:=e0.mod.kin.keeps fun b o e=>(e0.bs b o e).1;have lim:s.heap.NoLimit:=e0.mod.nolimit.keeps fun b o e=>(e0.bs b o e).1;have hkind:∀ y∈ps.zip us,scope.names.lookup y.1=some .local\/(scope.names.lookup y.1=some .cell/\((cellsFrom (s.heap.objs.size+1) scope.names []).lookup y.1).isSome=true):=fun ⟨n,v⟩ hy=>by
  rcases S.par n (List.of_mem_zip hy).1 with q | q;exact .inl q;exact .inr ⟨q,PySem.W.cellsFrom_some _ _ _ (.inl q)⟩
 refine codeAny_call_function hr.depth (KX _ _ lk) rfl S.co S.gen rfl (PySem.W.codeRec_of KX hcd) (hb _ _ _ _ ?_);refine wpAny_newFunctionEnv_cells S.kind hkind fun env he s1 x=>?_;subst he;refine⟨lim.keeps x.toInCall.keep,codeAny_func ?_⟩;obtain⟨t,ht,hq⟩:=hbody A outer s H vs Q E (hr.deeper _) hsp;have I:Inv (Jx CX P w K mg base N qual scope f cdv A outer s H E) [] (start N vs) H s1:=z5f S hr.hd e0 hl r x;refine wpAny_mono (ht [] s1 (start N vs) H _ I hq) (fun fl s' hs=>?_) fun e s' hs=>hs;have fin:∀ {σ':St}{H':Hp}{v:V}{u:Value},Inv (Jx CX P w K mg base N qual scope f cdv A outer s H E) [] σ' H' s'->RelV v u->Q v H'->CE outer P w H s Q u s' :=
  fun {σ' H' v u} J rv q=>⟨v,H',J.os,J.bare,J.base,J.hok,rv,q⟩
 cases fl with
 | ret u =>
   obtain⟨v,σ',H',J,rv,q⟩:=hs;exact fin J rv q
 | next =>
   obtain⟨σ',H',J,q⟩:=hs;exact fin (v:=V.Zr) (u:=Value.none) J rfl q
 | brk =>
   obtain⟨_,_,_,q⟩:=hs;exact False.elim q
 | cont =>
   obtain⟨_,_,_,q⟩:=hs;exact False.elim q
def tCB(r:List V->Hp->VK->Prop)(t:TA):TE:=fun σ H Q=>t σ H fun vs H1=>r vs H1 Q
theorem yI{X:Cx}{x:Str}{p pos:Pos}{e:Expr}{es:List Expr}{t:TA}{id:String}{r:List V->Hp->VK->Prop}(hc:ZG X (.builtin id) r)(hg:Gl X x)(hm:X.mg x=none)(hv:bootBuiltins x=some (.builtin id))(ha:PA X (e :: es) t)(hn:x≠"__name__":=by decide)(hdb:(x == ("__debug__":Str))=false:=by decide)
 (he:starEach (e :: es) X.env=(false,eval e X.env) :: starEach es X.env:=by rfl) (hpl:(backTo pos (starEach es X.env)).any (·.1)=false:=by rfl):PE X (.Call (.Name x p) (e :: es) [] pos) (tCB r t):=by
 intro pins s σ H Q I h;refine wpAny_Call_Name_kw (yn I hg hm hv ?_ hn hdb);exact PyProof.Rows.callWith_builtin1 (Zj (ha pos pins s σ H _ I h) fun us s1 ⟨vs,H1,I1,r1,q1⟩=>hc pins s1 σ H1 vs us Q I1 r1 q1) he hpl
theorem YV{X:Cx}{x:Str}{p pos:Pos}{e:Expr}{es:List Expr}{t:TA}{T:String}{r:List V->Hp->VK->Prop}(hc:ZG X (.type T) r)(hg:Gl X x)(hm:X.mg x=none)(hv:bootBuiltins x=some (.type T))(ha:PA X (e :: es) t)(hn:x≠"__name__":=by decide)(hdb:(x == ("__debug__":Str))=false:=by decide)
 (he:starEach (e :: es) X.env=(false,eval e X.env) :: starEach es X.env:=by rfl) (hpl:(backTo pos (starEach es X.env)).any (·.1)=false:=by rfl):PE X (.Call (.Name x p) (e :: es) [] pos) (tCB r t):=by
 intro pins s σ H Q I h;refine wpAny_Call_Name_kw (yn I hg hm hv ?_ hn hdb);exact Z2L (Zj (ha pos pins s σ H _ I h) fun us s1 ⟨vs,H1,I1,r1,q1⟩=>hc pins s1 σ H1 vs us Q I1 r1 q1) he hpl
end L2
namespace HT
theorem z7R(A:Around)(s:Shared)(a:Int)(t:Tok)(c:Int)(u:Tok):∃ e,SeqAt.EqAt A s (.int a t) (.int c u) e/\(e=true↔a=c) :=
 ⟨(a == c),SeqAt.EqAt.int_int a t c u,by simp⟩
section
open PySem.SeqAt
open PySem.AutoSeq1 (wpAny_loadPart')
open PySem.MeetsSeq PySem.MeetsSeq2 PySem.MeetsSeq3
end
theorem z8H(ht:IsTup s.heap t vs.toArray)(hb:IsTup s.heap b ws.toArray)(hv:vs≠[])(h1:ws=[]->Q (.ref t) s)(h2:ws≠[]->Q (.ref s.heap.objs.size) { s with heap:=s.heap.push { cls:=.type "tuple",data:=.seq (vs ++ ws).toArray } })(hsz:vs.length+ws.length<=sizeLine):wpAny (model prog w) A (binaryOp .Add (.ref t) (.ref b)) Q E s:=by
 obtain⟨⟨cls,dd,data,sl⟩,ho,hc,n,hd⟩:=id ht;obtain⟨⟨cls2,dd2,data2,sl2⟩,ho2,hc2,n2,hd2⟩:=id hb;simp only at hc hd hc2 hd2;subst hc hd hc2 hd2;have e:vs.toArray ++ ws.toArray=(vs ++ ws).toArray:=by simp
 by_cases hw:ws=[];exact concat_meets ⟨_,ho,rfl⟩ ⟨_,ho2,rfl⟩ noFill_tuple_add seq_tuple_add PySem.F.slot_tuple_add PySem.F.entry_tuple_add (PySem.F.args_tuple_add_2 _ _)
  (tuple_addW1 t b vs.toArray ws.toArray n n2 dd dd2 sl sl2 (by simpa using hv) (by simp[hw])) ⟨ho,ho2,h1 hw⟩
 refine concat_meets ⟨_,ho,rfl⟩ ⟨_,ho2,rfl⟩ noFill_tuple_add seq_tuple_add PySem.F.slot_tuple_add PySem.F.entry_tuple_add (PySem.F.args_tuple_add_2 _ _)
  (tuple_addW2 t b vs.toArray ws.toArray n n2 dd dd2 sl sl2 (by simpa using hv) (by simpa using hw) (by rw[Z05,Z05];exact hsz)) ⟨ho,ho2,?_⟩
 rw[e];exact h2 hw
def ZY(n d:Nat):Option Int->Nat
 | none=>d
 | some v=>if v<0 then (v+(n:Int)).toNat else min v.toNat n
theorem xH(n d:Nat):ZY n d none=d:=rfl
theorem yR(n d k:Nat):ZY n d (some (k:Int))=min k n:=by
 show (if (k:Int)<0 then ((k:Int)+(n:Int)).toNat else min (k:Int).toNat n)=min k n;rw[if_neg (by lia),Z2J]
theorem z1B(n d:Nat)(hd:d<=n)(o:Option Int):ZY n d o<=n:=by
 cases o with
 | none=>exact hd
 | some v =>
   show (if v<0 then (v+(n:Int)).toNat else min v.toNat n)<=n;by_cases hv:v<0;rw[if_pos hv];lia;rw[if_neg hv];exact Nat.min_le_right _ _
theorem z3h(v:Int)(n d:Nat):(if v<0 then max (v+(n:Int)) 0 else min v (n:Int))=((ZY n d (some v):Nat):Int):=by
 show (if v<0 then max (v+(n:Int)) 0 else min v (n:Int))=(((if v<0 then (v+(n:Int)).toNat else min v.toNat n):Nat):Int);by_cases hv:v<0;simp only[if_pos hv];lia;simp only[if_neg hv];lia
theorem z1v(lo hi:Option Int)(n:Nat):Builtin.Slice.sliceAdjust lo hi 1 (n:Int)=(((ZY n 0 lo:Nat):Int),((ZY n n hi:Nat):Int)):=by
 have h1:¬ ((1:Int)<0):=by lia
 unfold Builtin.Slice.sliceAdjust;simp only[h1,if_false];refine Prod.ext ?_ ?_;cases lo with
 | none=>rfl
 | some v=>exact z3h v n 0
 cases hi with
 | none=>rfl
 | some v=>exact z3h v n n
theorem z2G(i j:Nat):Builtin.Slice.slicePlaces (i:Int) (j:Int) 1=j - i:=by
 unfold Builtin.Slice.slicePlaces;have h1:(1:Int) > 0:=by lia
 simp only[h1,if_true,Int.ediv_one];split <;> lia
theorem V6(p:IsPart v o)(h:Q o s):wpAny (model prog w) A (Builtin.Slice.slicePartIndex v) Q E s:=by
 cases p with
 | none=>exact slicePart_none h
 | int i t=>exact slicePart_int h
theorem YX{lo:Option Int}(hs:s.heap.IsSliceOf sl vl vu .none)(pl:IsPart vl lo)(pu:IsPart vu hi)(h:Q (((ZY n 0 lo:Nat):Int),1,ZY n n hi - ZY n 0 lo) s):wpAny (model prog w) A (Builtin.Slice.sliceApplied (.ref sl) (pure (n:Int))) Q E s:=by
 obtain⟨os,hos,hcs,hds⟩:=id hs;unfold Builtin.Slice.sliceApplied Builtin.Slice.sliceFields;refine wpAny_bind (wpAny_bind (wpAny_field hos hds (x:=vl) rfl (wpAny_bind (wpAny_field hos hds (x:=vu) rfl (wpAny_bind (wpAny_field hos hds (x:=.none) rfl (wpAny_pure ?_)))))));refine wpAny_bind (slicePart_none ?_);show wpAny _ _ (if ((1:Int) == 0)=true then _ else _) _ _ s;rw[if_neg (by decide)];refine wpAny_bind (V6 pl (wpAny_bind (V6 pu (wpAny_bind (wpAny_pure ?_)))));show wpAny _ _ (match Builtin.Slice.sliceAdjust lo hi 1 (n:Int) with | (lo,hi)=>pure (lo,(1:Int),Builtin.Slice.slicePlaces lo hi 1)) _ _ s
 rw[z1v lo hi n];show wpAny _ _ (pure (((ZY n 0 lo:Nat):Int),(1:Int),Builtin.Slice.slicePlaces ((ZY n 0 lo:Nat):Int) ((ZY n n hi:Nat):Int) 1)) _ _ s;rw[z2G];exact wpAny_pure h
theorem z6Z(xs:Array Value)(i k:Nat):((List.range k).filterMap fun (m:Nat)=>xs[((i:Int)+(m:Int) * 1).toNat]?).toArray=((xs.toList.drop i).take k).toArray:=by
 have e:(fun (m:Nat)=>xs[((i:Int)+(m:Int) * 1).toNat]?)=fun m=>xs[i+m]?:=by
  funext m;have:((i:Int)+(m:Int) * 1).toNat=i+m:=by lia
  rw[this]
 rw[e];have:=pick_run xs i k;rw[List.filterMap_map] at this;have e2:((fun x=>xs[x]?) ∘ fun x=>i+x)=fun m=>xs[i+m]?:=rfl;rw[e2] at this;rw[this]
theorem Qw{lo:Option Int}(ht:IsTup s.heap t items)(hs:s.heap.IsSliceOf sl vl vu .none)(pl:IsPart vl lo)(pu:IsPart vu hi)(hw:¬ (ZY items.size 0 lo=0/\ZY items.size items.size hi=items.size))(h:Q (.ref s.heap.objs.size) { s with heap:=s.heap.push { cls:=.type "tuple",data:=.seq ((items.toList.drop (ZY items.size 0 lo)).take (ZY items.size items.size hi - ZY items.size 0 lo)).toArray } })(hsz:items.size<=sizeLine):wpAny (model prog w) A (getItem (.ref t) (.ref sl)) Q E s:=by
 have htake:sizeOk (.seq ((items.toList.drop (ZY items.size 0 lo)).take (ZY items.size items.size hi - ZY items.size 0 lo)).toArray):=by
  show ((items.toList.drop (ZY items.size 0 lo)).take (ZY items.size items.size hi - ZY items.size 0 lo)).toArray.size<=sizeLine;rw[Z05,Z20,Z30,Z06];lia
 have hj:ZY items.size items.size hi<=items.size:=z1B _ _ (Z03 _) hi;obtain⟨os,hos,hcs,hds⟩:=id hs;have hTs:s.TypeIs (.ref sl) "slice":=⟨os,hos,hcs⟩;unfold getItem
 try with_reducible refine wpAny_holding ?_
 first | refine wpAny_bind (wpAny_pure ?_) | skip
 refine wpAny_bind (wpAny_sequenceKey ht.typeIs (by decide) ?_);refine wpAny_bind (wpAny_callSpecial?_slot (name:=Str.ofString "__getitem__") ht.typeIs Z40
  (wpAny_call_entry Z40 ht.typeIs entry_tuple_getitem ?_ (args_tuple_getitem _ _)))
 show wpAny _ _ (Builtin.Tuple.tupleItemsOf (.ref t) >>= _) _ _ s;refine wpAny_bind (tupleItemsOf_ ht ?_);refine wpAny_bind (wpAny_typeOf hTs ?_);rw[if_pos (by decide)];refine wpAny_bind (YX hs pl pu ?_);have hno:¬ ((((ZY items.size 0 lo:Nat):Int) == 0 && (1:Int) == 1 && (ZY items.size items.size hi - ZY items.size 0 lo) == items.size)=true):=by
  intro q;rw[Z4G,Z4G] at q;have q1:((ZY items.size 0 lo:Nat):Int)=0:=eq_of_beq q.1.1;have q2:ZY items.size items.size hi - ZY items.size 0 lo=items.size:=eq_of_beq q.2;exact hw ⟨by lia,by lia⟩
 show wpAny _ _ (if (((ZY items.size 0 lo:Nat):Int) == 0 && (1:Int) == 1 && (ZY items.size items.size hi - ZY items.size 0 lo) == items.size)=true then _ else _) _ _ s;rw[if_neg hno,z6Z]
 first
  | exact wpAny_bind (m:=Builtin.Tuple.tupleExact _) (wpAny_newObj_type (wpAny_pure ⟨_,rfl,wpAny_pure h⟩) htake)
  | exact wpAny_bind (m:=Builtin.Tuple.tupleExact _) (wpAny_newObj_type (wpAny_bind (wpAny_pure (wpAny_pure ⟨_,rfl,wpAny_pure h⟩))) htake)
  | exact wpAny_bind (wpAny_bind (m:=Builtin.Tuple.tupleExact _) (wpAny_newObj_type (wpAny_pure (wpAny_pure ⟨_,rfl,wpAny_pure h⟩)) htake))
  | exact wpAny_bind (wpAny_bind (m:=Builtin.Tuple.tupleExact _) (wpAny_newObj_type (wpAny_pure ⟨_,rfl,wpAny_pure h⟩) htake))
end HT
namespace L2
abbrev TO:=St->Hp->(Option Int->Hp->Prop)->Prop
def PO(X:Cx)(e:Option Expr)(t:TO):Prop :=
 ∀ (pins:List (Addr×Obj)) (s:Shared) (σ:St) (H:Hp) (Q:Option Int->Hp->Prop),Inv X pins σ H s->t σ H Q->
   wpAny (model X.prog X.w) X.A (evalPart e X.env) (fun u s'=>∃ o H',Inv X pins σ H' s'/\IsPart u o/\Q o H') X.xe s
def z3f:TO:=fun _ H Q=>Q none H
def Z0p(t:TE):TO:=fun σ H Q=>t σ H fun x H1=>∃ i,x=.int i/\Q (some i) H1
theorem intsAre_of{ns:List Int}:∀ {us:List Value},Vals (ns.map V.int) us->IntsAre us ns:=by
 induction ns with
 | nil=>intro us r;rw[Z42] at r;cases r;exact .nil
 | cons n ns ih =>
   intro us r;rw[Z1y] at r;cases r with
   | cons r1 r2 =>
     obtain⟨t,e⟩:=r1;subst e;exact .cons n t (ih r2)
theorem Xb:PO X none z3f:=by
 intro pins s σ H Q I h;rw[evalPart_none];exact wpAny_pure ⟨none,H,I,.none,h⟩
theorem Xl{e:Expr}(h:PE X e te):PO X (some e) (Z0p te):=by
 intro pins s σ H Q I hw;rw[evalPart_some];refine Zj (h pins s σ H _ I hw) fun u s1 ⟨x,H1,I1,r1,q1⟩=>?_;obtain⟨i,rfl,q⟩:=q1;obtain⟨t,rfl⟩:=r1;exact⟨some i,H1,I1,.int i t,q⟩
def SlR(X:Cx)(r:V->Option Int->Option Int->Hp->VK->Prop):Prop :=
 ∀ (pins:List (Addr×Obj)) (s:Shared) (σ:St) (H:Hp) (x:V) (v vl vu:Value) (lo hi:Option Int) (sl:Addr) (Q:VK),Inv X pins σ H s->RelV x v->s.heap.IsSliceOf sl vl vu .none->IsPart vl lo->IsPart vu hi->r x lo hi H Q->
   ∃ T id,typeLookup (.type T) "__getitem__"=pure (some (.builtin id))/\s.TypeIs v T/\wpAny (model X.prog X.w) X.A (getItem v (.ref sl)) (EP X pins σ Q) X.xe s
theorem SlR.or(h:SlR X r)(h':SlR X r'):SlR X (fun x lo hi H Q=>r x lo hi H Q\/r' x lo hi H Q):=by
 intro pins s σ H x v vl vu lo hi sl Q I rx hs pl pu q;rcases q with q | q;exact h pins s σ H x v vl vu lo hi sl Q I rx hs pl pu q;exact h' pins s σ H x v vl vu lo hi sl Q I rx hs pl pu q
def tSl(r:V->Option Int->Option Int->Hp->VK->Prop)(te:TE)(tl th:TO):TE:=fun σ H Q=>te σ H fun x H1=>tl σ H1 fun l H2=>th σ H2 fun u H3=>r x l u H3 Q
theorem YZ{e:Expr}{lo:Option Expr}(hr:SlR X r)(he:PE X e te)(hl:PO X lo tl)(hu:PO X hi th):PE X (.Subscript e (.Slice lo hi none p2) pos) (tSl r te tl th):=by
 intro pins s σ H Q I h;refine Subscript_ (Zj (he pins s σ H _ I h) fun v s1 ⟨x,H1,I1,r1,q1⟩=>?_);refine wpAny_Slice (Zj (hl pins s1 σ H1 _ I1 q1) fun vl s2 ⟨l,H2,I2,pl,q2⟩=>Zj (hu pins s2 σ H2 _ I2 q2) fun vu s3 ⟨u,H3,I3,pu,q3⟩=>?_);rw[evalPart_none];refine wpAny_pure ?_;have I4:Inv X pins σ H3 { s3 with heap:=s3.heap.push { cls:=.type "slice",data:=.fields #[vl,vu,.none] } }:=I3.kept (t':=s3.toks) fun b ob q=>Z00 _ q;obtain⟨T,id,hT,ht,hg⟩:=hr pins { s3 with heap:=s3.heap.push { cls:=.type "slice",data:=.fields #[vl,vu,.none] } } σ H3 x v vl vu l u s3.heap.objs.size Q I4 r1 (Heap.IsSliceOf.new ..) pl pu q3;show wpAny (model X.prog X.w) X.A (subscriptTail e (.Slice lo hi none p2) v (.ref s3.heap.objs.size)) (EP X pins σ Q) X.xe { s3 with heap:=s3.heap.push { cls:=.type "slice",data:=.fields #[vl,vu,.none] } };exact tail_any (ops:=[.ref s3.heap.objs.size,v]) ht hT hg (by with_unfolding_all rfl)
def ZQ(xs:List V)(lo hi:Option Int):List V:=(xs.drop (HT.ZY xs.length 0 lo)).take (HT.ZY xs.length xs.length hi - HT.ZY xs.length 0 lo)
theorem vD(xs:List V)(lo hi:Option Int):(ZQ xs lo hi).length<=xs.length:=by
 unfold ZQ;rw[Z20,Z30];lia
def Z4I(K:PySem.W.Frag):V->Option Int->Option Int->Hp->VK->Prop:=fun x lo hi H Q=>∃ a xs,x=.ref a/\zX K H a xs/\
 ¬ (HT.ZY xs.length 0 lo=0/\HT.ZY xs.length xs.length hi=xs.length)/\∀ p,H p=none->Q (.ref p) (upd H p (.tup (ZQ xs lo hi)))
theorem Z2n:SlR X (Z4I X.K):=by
 intro pins s σ H x v vl vu lo hi sl Q I rx hs pl pu h;obtain⟨a,xs,rfl,hx,hw,q⟩:=h;cases rx;obtain⟨its,r,ht,hz⟩:=I.tuple hx;have hlen:its.toArray.size=xs.length:=by rw[Z05];exact r.length.symm
 refine⟨"tuple",_,Z40.lookup,ht.typeIs,?_⟩;refine HT.Qw ht hs pl pu (by rw[hlen];exact hw) ?_ (by rw[hlen];exact hz);rw[hlen];refine⟨.ref s.heap.objs.size,_,I.laid (t':=s.toks) (o:=.tup (ZQ xs lo hi)) (fun b ob q=>Z00 _ q) (Z03 _) ?_,rfl,q _ (I.hok.fresh (Z03 _))⟩;exact⟨Z11 (vD xs lo hi) hz,_,(r.drop (HT.ZY xs.length 0 lo)).take (HT.ZY xs.length xs.length hi - HT.ZY xs.length 0 lo),yr.new _ _⟩
def Z4b(K:PySem.W.Frag):R2:=fun x y H Q=>∃ a b xs ys,x=.ref a/\y=.ref b/\zX K H a xs/\zX K H b ys/\xs≠[]/\xs.length+ys.length<=sizeLine/\
 (ys=[]->Q (.ref a) H)/\(ys≠[]->∀ p,H p=none->Q (.ref p) (upd H p (.tup (xs ++ ys))))
theorem Vals.jL(r:Vals xs us):us=[]↔xs=[]:=by
 cases r with
 | nil=>simp
 | cons _ _=>simp
theorem z9Y:Y4 X (binaryOp .Add) (Z4b X.K):=by
 intro pins s σ H x y v u Q I rx ry h;obtain⟨a,b,xs,ys,rfl,rfl,ha,hb,hx,hz,q1,q2⟩:=h;cases rx;cases ry;obtain⟨its,r1,p1,_⟩:=I.tuple ha;obtain⟨its2,r2,p2,_⟩:=I.tuple hb;refine HT.z8H p1 p2 (fun z=>hx (r1.jL.mp z)) (fun z=>⟨.ref a,H,I,rfl,q1 (r2.jL.mp z)⟩) (fun z=>?_) (by rw[← r1.length,← r2.length];exact hz);refine⟨.ref s.heap.objs.size,_,I.laid (t':=s.toks) (o:=.tup (xs ++ ys)) (fun b ob q=>Z00 _ q) (Z03 _) ?_,rfl,q2 (fun w=>z (r2.jL.mpr w)) _ (I.hok.fresh (Z03 _))⟩;exact⟨by rw[Z0M];exact hz,_,r1.append r2,yr.new _ _⟩
def ixN(n:Nat)(i:Int):Option Nat:=if 0<=i then (if i<n then some i.toNat else none) else if -(n:Int)<=i then some (i+n).toNat else none
def atI{α:Type}(xs:List α)(i:Int):Option α:=(ixN xs.length i).bind fun j=>xs[j]?
theorem z3o(h:ixN n i=some j):seqIndex? i n=some j/\j<n/\-(n:Int)<=i/\i<n:=by
 unfold ixN at h;by_cases h0:0<=i;rw[if_pos h0] at h;by_cases h1:i<n;rw[if_pos h1] at h;have e:i.toNat=j:=Z1X h;exact⟨by rw[seqIndex_of h0 h1,e],by lia,by lia,h1⟩;rw[if_neg h1] at h;cases h;rw[if_neg h0] at h;by_cases h1:-(n:Int)<=i;rw[if_pos h1] at h;have e:(i+n).toNat=j:=Z1X h;exact⟨by rw[seqIndex_neg (by lia) h1,e],by lia,h1,by lia⟩;rw[if_neg h1] at h;cases h
theorem z3y{α:Type}{xs:List α}{v:α}(h:atI xs i=some v):∃ j,seqIndex? i xs.length=some j/\xs[j]?=some v/\j<xs.length/\-(xs.length:Int)<=i/\i<xs.length:=by
 unfold atI at h;cases e:ixN xs.length i with
 | none=>rw[e] at h;cases h
 | some j =>
   rw[e] at h;obtain⟨h1,h2,h3,h4⟩:=z3o e;exact⟨j,h1,h,h2,h3,h4⟩
theorem z8{α:Type}{xs:List α}{j:Nat}{v:α}(h:xs[j]?=some v):atI xs (j:Int)=some v:=by
 have hj:j<xs.length:=(Z12.mp h).1;have e:ixN xs.length (j:Int)=some j:=by
  unfold ixN;rw[if_pos (by lia),if_pos (by lia)];simp
 unfold atI;rw[e];exact h
theorem z6v{α:Type}(xs:List α)(v:α):atI (xs ++ [v]) (-1)=some v:=by
 have hl:(xs ++ [v]).length=xs.length+1:=by simp
 have e:ixN (xs ++ [v]).length (-1)=some xs.length:=by
  unfold ixN;rw[hl,if_neg (by decide),if_pos (by lia)];congr 1;lia
 unfold atI;rw[e];show (xs ++ [v])[xs.length]?=some v;simp
def z3e(b:Expr):Prop:=∀ o i,subscripted b false o i=operate [o,i] (getItem o i)
def IxR(X:Cx)(r:R2):Prop :=
 ∀ (value slice:Expr) (pins:List (Addr×Obj)) (s:Shared) (σ:St) (H:Hp) (x y:V) (v u:Value) (Q:VK),Inv X pins σ H s->RelV x v->RelV y u->r x y H Q->
   subscripted slice false v u=operate [v,u] (getItem v u)->wpAny (model X.prog X.w) X.A (subscriptTail value slice v u) (EP X pins σ Q) X.xe s
def MtR(X:Cx)(id:String)(r:V->List V->Hp->VK->Prop):Prop :=
 ∀ (pins:List (Addr×Obj)) (s:Shared) (σ:St) (H:Hp) (x:V) (xs:List V) (v:Value) (us:List Value) (Q:VK),Inv X pins σ H s->RelV x v->Vals xs us->r x xs H Q->
   wpAny (model X.prog X.w) X.A (call (.builtin id) (v :: us)) (EP X pins σ Q) X.xe s
theorem ZD(hr:IxR X r)(ha:PE X a ta)(hb:PE X b tb)(hs:z3e b):PE X (.Subscript a b pos) (tOp r ta tb):=by
 intro pins s σ H Q I h;exact Subscript_ (Z2x ha hb I h fun v u s2 x y H2 I2 rx ry q=>hr a b pins s2 σ H2 x y v u Q I2 rx ry q (hs _ _))
def Z2U(K:PySem.W.Frag):R2:=fun x y H Q=>∃ p xs i v,x=.ref p/\y=.int i/\zQ K H p xs/\atI xs i=some v/\Q v H
def Z3o(K:PySem.W.Frag):R2:=fun x y H Q=>∃ p xs i v,x=.ref p/\y=.int i/\zX K H p xs/\atI xs i=some v/\Q v H
theorem zK:IxR X (Z2U X.K):=by
 intro value slice pins s σ H x y v u Q I rx ry h hs;obtain⟨p,xs,i,z,rfl,rfl,hq,he,q⟩:=h;cases rx;obtain⟨t,rfl⟩:=ry;obtain⟨its,r,pl,hz⟩:=I.list hq;obtain⟨j,h1,h2,h3,h4,h5⟩:=z3y he;obtain⟨w,ew,rw'⟩:=r.get h2;have hl:=r.length;have hn:=QZ;have fin:EP X pins σ Q w s:=⟨z,H,I,rw',q⟩;by_cases h0:0<=i;have hj:i.toNat=j:=by
  rw[seqIndex_of h0 h5] at h1;exact Z1X h1
 exact item_listR pl.isList h0 (by lia) (by rw[hj];simpa using ew) fin hs;have hj:(i+(its.toArray.size:Int)).toNat=j:=by
  rw[seqIndex_neg (by lia) h4] at h1;rw[Z05,← hl];exact Z1X h1
 exact subscriptTail_builtinR (x:=w) pl.isList.typeIs slot_list_getitem.lookup
  (wpAny_getItem_list_neg (Q:=fun r s'=>r=w/\EP X pins σ Q r s') pl.isList (by lia) (by rw[Z05] <;> lia) (by lia) (by rw[hj];simpa using ew) ⟨rfl,fin⟩) hs
theorem zF:IxR X (Z3o X.K):=by
 intro value slice pins s σ H x y v u Q I rx ry h hs;obtain⟨p,xs,i,z,rfl,rfl,hq,he,q⟩:=h;cases rx;obtain⟨t,rfl⟩:=ry;obtain⟨its,r,pl,hz⟩:=I.tuple hq;obtain⟨j,h1,h2,h3,h4,h5⟩:=z3y he;obtain⟨w,ew,rw'⟩:=r.get h2;have hl:=r.length;have hn:=QZ;have fin:EP X pins σ Q w s:=⟨z,H,I,rw',q⟩;exact subscriptTail_builtinR (x:=w) pl.typeIs slot_tuple_getitem.lookup
  (getItem_tuple (j:=j) (Q:=fun r s'=>r=w/\EP X pins σ Q r s') pl (by lia) (by lia) (by rw[Z05,← hl];exact h1) (by simpa using ew) ⟨rfl,fin⟩) hs
theorem z1V(its:List Value)(n j:Nat)(u:Value):Obj.mapSeq (·.setIfInBounds j u) { cls:=.type "list",data:=.seq its.toArray n }={ cls:=.type "list",data:=.seq (its.set j u).toArray n }:=by
 simp[Obj.mapSeq]
theorem Inv.lst{X:Cx}{pins:List (Addr×Obj)}{σ:St}{H:Hp}{s:Shared}{p:Addr}{xs:List V}(I:Inv X pins σ H s)(h:H p=some (.lst xs)) :
 ∃ (its:List Value) (n:Nat),Vals xs its/\s.heap.get? p=some { cls:=.type "list",data:=.seq its.toArray n }/\xs.length<=sizeLine:=by
 obtain⟨z,its,n,r,e⟩:=I.hok p _ h;exact⟨its,n,r,e,z⟩
theorem Inv.Z1k{σ:St}{ys:List V}{its its':List Value}(I:Inv X pins σ H s)(h:H p=some (.lst xs))(ho:s.heap.get? p=some { cls:=.type "list",data:=.seq its.toArray n })(hf:f { cls:=.type "list",data:=.seq its.toArray n }={ cls:=.type "list",data:=.seq its'.toArray n' })(r:Vals ys its')(hz:ys.length<=sizeLine)(t:Nat) :
 Inv X pins σ (upd H p (.lst ys)) { s with heap:=s.heap.update p f,toks:=t }:=by
 have e:(s.heap.update p f).get? p=some { cls:=.type "list",data:=.seq its'.toArray n' }:=by
  rw[Heap.get?_update_self f ho (by rw[hf] <;> rfl),hf]
 refine I.write (x:=p) (e:=p) (by rw[h];trivial) (.inl rfl) (fun b u hb q=>(Z4L _ _ (Z4q hb)).trans q) ⟨_,e⟩ ?_;exact⟨hz,its',n',r,e⟩
def Z4d:V->V->V->Hp->(Hp->Prop)->Prop:=fun o i v H Q=>∃ p xs k j,o=.ref p/\i=.int k/\H p=some (.lst xs)/\ixN xs.length k=some j/\Q (upd H p (.lst (xs.set j v)))
theorem set_list:Z2P X Z4d:=by
 intro pins s σ H o i v ov iv u Q I ro ri rv h;obtain⟨p,xs,k,j,rfl,rfl,hp,hj,q⟩:=h;cases ro;obtain⟨t,rfl⟩:=ri;obtain⟨its,n,r,ho,hz⟩:=I.lst hp;obtain⟨h1,h2,h3,h4⟩:=z3o hj;have hl:=r.length;have hn:=QZ;have I':Inv X pins σ (upd H p (.lst (xs.set j v))) { s with heap:=s.heap.update p (Obj.mapSeq (·.setIfInBounds j u)) } :=
  I.Z1k hp ho (z1V its n j u) (r.set rv j) (by rw[List.length_set];exact hz) s.toks
 by_cases h0:0<=k;have hk:k.toNat=j:=by
  rw[seqIndex_of h0 h4] at h1;exact Z1X h1
 exact PySem.W.ki_setAt ho h0 (by lia) (by rw[Z05,← hl];exact h4) (by rw[hk];exact⟨_,I',q⟩);have hk:(k+(its.toArray.size:Int)).toNat=j:=by
  rw[seqIndex_neg (by lia) h3] at h1;rw[Z05,← hl];exact Z1X h1
 exact PySem.W.ki_setBack ho (by lia) (by rw[Z05,← hl];exact h3) (by lia) (by rw[hk];exact⟨_,I',q⟩)
theorem jP(lo hi:Option Int)(n:Nat):(sliceBounds lo hi none n).1=((HT.ZY n 0 lo:Nat):Int)/\(sliceBounds lo hi none n).2.1=((HT.ZY n n hi:Nat):Int)/\(sliceBounds lo hi none n).2.2=1:=by
 refine⟨?_,?_,rfl⟩;cases lo with
 | none=>simp[sliceBounds,HT.ZY]
 | some i =>
   simp only[sliceBounds,HT.ZY,Option.getD_none,show (1:Int) > 0 by decide,if_true];by_cases h:i<0;simp only[h,if_true] <;> lia;simp only[h,if_false] <;> lia
 cases hi with
 | none=>simp[sliceBounds,HT.ZY]
 | some i =>
   simp only[sliceBounds,HT.ZY,Option.getD_none,show (1:Int) > 0 by decide,if_true];by_cases h:i<0;simp only[h,if_true] <;> lia;simp only[h,if_false] <;> lia
theorem Ug(its:List Value)(lo hi:Option Int):slicePick its.toArray lo hi none=((its.drop (HT.ZY its.length 0 lo)).take (HT.ZY its.length its.length hi - HT.ZY its.length 0 lo)).toArray:=by
 obtain⟨h1,h2,h3⟩:=jP lo hi its.toArray.size;unfold slicePick;rw[h1,h2,h3];simp only[sliceRange_one,pick_run,Z05] <;> rfl
def Z4w(K:PySem.W.Frag):V->Option Int->Option Int->Hp->VK->Prop:=fun x lo hi H Q=>∃ a xs,x=.ref a/\zQ K H a xs/\∀ p,H p=none->Q (.ref p) (upd H p (.lst (ZQ xs lo hi)))
theorem Yx:SlR X (Z4w X.K):=by
 intro pins s σ H x v vl vu lo hi sl Q I rx hs pl pu h;obtain⟨a,xs,rfl,hx,q⟩:=h;cases rx;obtain⟨its,r,ht,hz⟩:=I.list hx;have hlen:=r.length;refine⟨"list",_,slot_list_getitem.lookup,ht.isList.typeIs,?_⟩;refine wpAny_getItem_list_slice ht.isList hs pl pu .none (by simp) ?_ (by rw[Z05] <;> lia);rw[Ug,← hlen];refine⟨.ref s.heap.objs.size,_,I.laid (t':=s.toks) (o:=.lst (ZQ xs lo hi)) (fun b ob q=>Z00 _ q) (Z03 _) ?_,rfl,q _ (I.hok.fresh (Z03 _))⟩;exact⟨Z11 (vD xs lo hi) hz,_,0,(r.drop (HT.ZY xs.length 0 lo)).take (HT.ZY xs.length xs.length hi - HT.ZY xs.length 0 lo),Z08 _ rfl⟩
def Z0C:V->Bool
 | .Zr=>true
 | .bl _=>true
 | .int _=>true
 | .str _=>true
 | _=>false
def eqV:V->V->Bool
 | .Zr,.Zr=>true
 | .bl a,.bl b=>a == b
 | .bl a,.int b=>(if a then 1 else 0) == b
 | .int a,.bl b=>a == (if b then 1 else 0)
 | .int a,.int b=>a == b
 | .str a,.str b=>a == b
 | _,_=>false
theorem jn(ry:RelV y u)(rx:RelV x v)(fy:Z0C y=true)(fx:Z0C x=true):SeqAt.EqAt A s u v (eqV y x):=by
 cases y with
 | Zr =>
   cases ry;cases x with
   | Zr=>cases rx;exact SeqAt.EqAt.same _
   | bl b=>cases rx;exact SeqAt.EqAt.none_bool b
   | int b=>obtain⟨t,rfl⟩:=rx;exact SeqAt.EqAt.none_int b t
   | str b=>obtain⟨t,rfl⟩:=rx;exact SeqAt.EqAt.none_str b t
   | _=>exact absurd (show false=true from fx) Z10
 | bl a =>
   cases ry;cases x with
   | Zr=>cases rx;exact SeqAt.EqAt.bool_none a
   | bl b=>cases rx;exact SeqAt.EqAt.bool_bool a b
   | int b=>obtain⟨t,rfl⟩:=rx;exact SeqAt.EqAt.bool_int a b t
   | str b=>obtain⟨t,rfl⟩:=rx;exact SeqAt.EqAt.bool_str a b t
   | _=>exact absurd (show false=true from fx) Z10
 | int a =>
   obtain⟨t',rfl⟩:=ry;cases x with
   | Zr=>cases rx;exact SeqAt.EqAt.int_none a t'
   | bl b=>cases rx;exact SeqAt.EqAt.int_bool a t' b
   | int b=>obtain⟨t,rfl⟩:=rx;exact SeqAt.EqAt.int_int a t' b t
   | str b=>obtain⟨t,rfl⟩:=rx;exact SeqAt.EqAt.int_str a t' b t
   | _=>exact absurd (show false=true from fx) Z10
 | str a =>
   obtain⟨t',rfl⟩:=ry;cases x with
   | Zr=>cases rx;exact SeqAt.EqAt.str_none a t'
   | bl b=>cases rx;exact SeqAt.EqAt.str_bool a t' b
   | int b=>obtain⟨t,rfl⟩:=rx;exact SeqAt.EqAt.str_int a t' b t
   | str b=>obtain⟨t,rfl⟩:=rx;exact SeqAt.EqAt.str_str a t' b t
   | _=>exact absurd (show false=true from fx) Z10
 | _=>exact absurd (show false=true from fy) Z10
theorem z0:ZG X (.builtin "len") (fun xs H Q=>∃ p ys,xs=[.ref p]/\(zQ X.K H p ys\/zX X.K H p ys)/\Q (.int ys.length) H):=by
 intro pins s σ H xs us Q I r h;obtain⟨p,ys,rfl,hq,q⟩:=h;obtain⟨u,rfl,rx⟩:=vals1 r;cases rx;have hn:=QZ;rcases hq with hq | hq;obtain⟨its,r',pl,hz⟩:=I.list hq;have hlen:=r'.length;exact Calls.call_len_list pl.isList (by simp only[Z05] <;> lia) ⟨.int ys.length,H,I.tok _,⟨s.toks+1,by rw[Z05,hlen]⟩,q⟩;obtain⟨its,r',pl,hz⟩:=I.tuple hq;have hlen:=r'.length;exact len_tuple pl (by simp only[Z05] <;> lia) ⟨.int ys.length,H,I.tok _,⟨s.toks+1,by rw[Z05,hlen]⟩,q⟩
theorem Jg:ZG X (.builtin "len") (fun xs H Q=>∃ z,xs=[.str z]/\z.length<=sizeLine/\Q (.int z.length) H):=by
 intro pins s σ H xs us Q I r h;obtain⟨z,rfl,hz,q⟩:=h;obtain⟨u,rfl,t,rfl⟩:=vals1 r;have hn:=QZ;exact len_str (by lia) ⟨.int z.length,H,I.tok _,⟨_,rfl⟩,q⟩
theorem Um:ZG X (.type "tuple") (fun xs H Q=>∃ p ys,xs=[.ref p]/\((zQ X.K H p ys/\∀ l,H l=none->Q (.ref l) (upd H l (.tup ys)))\/(zX X.K H p ys/\Q (.ref p) H))):=by
 intro pins s σ H xs us Q I r h;obtain⟨p,ys,rfl,h⟩:=h;obtain⟨u,rfl,rx⟩:=vals1 r;cases rx;rcases h with⟨hq,q⟩|⟨hq,q⟩;obtain⟨its,r',pl,hz⟩:=I.list hq;have hlen:=r'.length;refine call_tuple_list pl.isList (fun h' kp=>?_) (by simp only[Z05] <;> lia)
 have I1:Inv X pins σ H { s with heap:=h' }:=I.kept (t':=s.toks) kp;have I2:Inv X pins σ (upd H h'.objs.size (.tup ys)) { s with heap:=h'.push { cls:=.type "tuple",data:=.seq its.toArray } } :=
  I1.laid (t':=s.toks) (fun b o e=>Z00 _ e) (Z03 _) (show Zw X.prog X.w _ _ _ (.tup ys) from ⟨hz,its,r',yr.new _ _⟩)
 exact⟨.ref h'.objs.size,_,I2,rfl,q _ (I1.hok.fresh (Z03 _))⟩;obtain⟨its,r',pl,hz⟩:=I.tuple hq;exact call_tuple_same pl ⟨.ref p,H,I,rfl,q⟩
def tyV(K:PySem.W.Frag)(T:String)(x:V)(H:Hp):Prop:=match x with
 | .str _=>T="str"
 | .int _=>T="int"
 | .ref p=>(T="list"/\∃ xs,zQ K H p xs)\/(T="tuple"/\∃ o,K.lookup p=some o/\o.cls=.type "tuple"/\o.dict=none)\/
  (T="dict"/\((∃ kvs,H p=some (.dK kvs))\/∃ kvs,H p=some (.dT kvs)))\/(T="set"/\∃ S n,H p=some (.set S n))
 | _=>False
theorem z7u{X:Cx}{σ:St}(I:Inv X pins σ H s)(r:RelV x v)(ty:tyV X.K T x H) :
 s.TypeIs v T/\∀ a,v=.ref a->∃ ob,s.heap.get? a=some ob/\ob.dict=none:=by
 cases x with
 | str z =>
   obtain⟨t,rfl⟩:=r;cases (show T="str" from ty);exact⟨typeIs_str s z t,fun _ e=>nomatch e⟩
 | int i =>
   obtain⟨t,rfl⟩:=r;cases (show T="int" from ty);exact⟨typeIs_int s i t,fun _ e=>nomatch e⟩
 | ref p =>
   cases r;rcases ty with⟨rfl,xs,hq⟩|⟨rfl,o,hk,hc,hd⟩|⟨rfl,hk⟩|⟨rfl,S,n,hk⟩;obtain⟨its,_,pl,_⟩:=I.list hq;refine⟨pl.isList.typeIs,fun a e=>?_⟩
   cases e;obtain⟨o,n,e,c,hd,_⟩:=pl;exact⟨o,e,hd⟩;refine⟨⟨o,I.QB p o hk,hc⟩,fun a e=>?_⟩;cases e;exact⟨o,I.QB _ o hk,hd⟩;have z:∃ o,s.heap.get? p=some o/\o.ExactDict:=by
    rcases hk with⟨kvs,hk⟩|⟨kvs,hk⟩;obtain⟨_,_,_,_,o,_,_,e,ex,_⟩:=I.hok p _ hk;exact⟨o,e,ex⟩;obtain⟨_,_,_,_,o,_,_,e,ex,_⟩:=I.hok p _ hk;exact⟨o,e,ex⟩
   obtain⟨o,e,ex⟩:=z;refine⟨⟨o,e,ex.1⟩,fun a e2=>?_⟩;cases e2;exact⟨o,e,ex.2.1⟩;obtain⟨o,_,_,_,e,ex,_⟩:=I.hok p _ hk;refine⟨⟨o,e,ex.1⟩,fun a e2=>?_⟩;cases e2;exact⟨o,e,ex.2.1⟩
 | _=>exact False.elim ty
def Z5d(K:PySem.W.Frag)(T:String)(r:V->List V->Hp->VK->Prop)(to:TE):TE:=fun σ H Q=>to σ H fun x H1=>tyV K T x H1/\r x [] H1 Q
def tBM(K:PySem.W.Frag)(T:String)(r:V->List V->Hp->VK->Prop)(to:TE)(t:TA):TE:=fun σ H Q=>to σ H fun x H1=>tyV K T x H1/\t σ H1 fun xs H2=>r x xs H2 Q
theorem Z2D{X:Cx}{apos cpos:Pos}{id:String}(pa:PlainAttrs T)(slot:Slot T name id)(hty:typeOf (.builtin id)=pure (.type "method_descriptor"))(hm:MtR X id r)(ho:PE X o to)(hbase:attributeBase o name X.env (eval o X.env)=eval o X.env:=by rfl)(hline:(apos.endLine == cpos.line)=true:=by rfl):PE X (.Call (.Attribute o name apos) [] [] cpos) (Z5d X.K T r to):=by
 intro pins s σ H Q I h;refine wpAny_Call_method0_late hbase hline (Zj (ho pins s σ H _ I h) fun v s1 ⟨x,H1,I1,r1,ty,q1⟩=>?_);obtain⟨h1,h2⟩:=z7u I1 r1 ty;exact⟨T,id,pa,slot,hty,h1,h2,Calls.callWith_builtin rfl (PySem.evalArgs_none (hm pins s1 σ H1 x [] v [] Q I1 r1 .nil q1))⟩
theorem z2U{X:Cx}{e:Expr}{apos cpos:Pos}{id:String}(pa:PlainAttrs T)(slot:Slot T name id)(hty:typeOf (.builtin id)=pure (.type "method_descriptor"))(hm:MtR X id r)(ho:PE X o to)(ha:PA X (e :: es) t)(hbase:attributeBase o name X.env (eval o X.env)=eval o X.env:=by rfl)(hfew:((backTo cpos (starEach (e :: es) X.env)).all (fun x=>!x.1) && (backToKw cpos (keywordEach [] X.env)).all (fun x=>x.1.isSome)
  && decide ((e :: es).length+([]:List Keyword).length+(if ([]:List Keyword).isEmpty then 0 else 1)<30))=true:=by rfl)(hline:(apos.endLine == cpos.line)=true:=by rfl)(hs:starEach (e :: es) X.env=(false,eval e X.env) :: starEach es X.env:=by rfl)(hplain:(backTo cpos (starEach es X.env)).any (·.1)=false:=by rfl) :
 PE X (.Call (.Attribute o name apos) (e :: es) [] cpos) (tBM X.K T r to t):=by
 intro pins s σ H Q I h;refine wpAny_Call_method_late hbase hfew hline rfl (Zj (ho pins s σ H _ I h) fun v s1 ⟨x,H1,I1,r1,ty,q1⟩=>?_);obtain⟨h1,h2⟩:=z7u I1 r1 ty;refine⟨T,id,pa,slot,hty,h1,h2,?_⟩;have hA:=ha cpos pins s1 σ H1 _ I1 q1;rw[hs] at hA ⊢;refine Calls.callWith_builtin (by show (false || (backTo cpos (starEach es X.env)).any (·.1))=false;rw[hplain] <;> rfl) (Calls.evalArgs_plain ?_)
 exact Zj hA fun us s2 ⟨vs,H2,I2,r2,q2⟩=>hm pins s2 σ H2 x vs v us Q I2 r1 r2 q2
/- xs.append(e),list.index on a module's tuple .. are MtR facts of 06m -/
def MtM(X:Cx)(id:String)(r:V->List V->Hp->VK->Prop):Prop :=
 ∀ (pins:List (Addr×Obj)) (s:Shared) (σ:St) (H:Hp) (x:V) (xs:List V) (v:Value) (us:List Value) (Q:VK),Inv X pins σ H s->RelV x v->Vals xs us->r x xs H Q->
   wpAny (model X.prog X.w) X.A (call (.builtin id) (v :: us)) (EP X pins σ Q) X.xe s
theorem Vals.one:∀ {x:V}{us:List Value},Vals [x] us->∃ u,us=[u]/\RelV x u
 | _,_,.cons r .nil=>⟨_,rfl,r⟩
theorem Vals.zero:∀ {us:List Value},Vals [] us->us=[]
 | _,.nil=>rfl
theorem Vals.dropLast(h:Vals xs us):Vals xs.dropLast us.dropLast:=by
 induction h with
 | nil=>exact .nil
 | cons r t ih =>
   cases t with
   | nil=>exact .nil
   | cons q t'=>exact .cons r ih
theorem Vals.rep(h:Vals xs us):∀ k:Nat,Vals (List.replicate k xs).flatten (List.replicate k us).flatten
 | 0=>.nil
 | k+1=>by
   rw[Z4o,Z4o,Z54,Z54];exact Vals.append h (Vals.rep h k)
theorem z2a{α:Type}(l:List α):l.eraseIdx (l.length - 1)=l.dropLast:=by
 induction l with
 | nil=>rfl
 | cons a r ih =>
   cases r with
   | nil=>rfl
   | cons b r =>
     have e:(a :: b :: r).length - 1=((b :: r).length - 1)+1:=by
      have h1:(a :: b :: r).length=r.length+2:=rfl;have h2:(b :: r).length=r.length+1:=rfl;lia
     rw[e,List.eraseIdx_cons_succ,ih]
     all_goals rfl
theorem Inv.Z1T{σ:St}{ys:List V}{its its':List Value}(I:Inv X pins σ H s)(hH:H l=some (.lst xs))(e:s.heap.get? l=some { cls:=.type "list",data:=.seq its.toArray n })(hf:f its.toArray=its'.toArray)(hv:Vals ys its')(hz:ys.length<=sizeLine) :
 Inv X pins σ (upd H l (.lst ys)) { s with heap:=s.heap.update l (Obj.mapSeq f),toks:=t' }:=by
 have q:=PySem.IsL.update e f;rw[hf] at q;refine I.write (x:=l) (e:=l) (by rw[hH];exact trivial) (.inl rfl) (fun b' u hb hu=>(Z4L s.heap (Obj.mapSeq f) (Z4q hb)).trans hu) ⟨_,q⟩ ?_;exact⟨hz,its',_,hv,q⟩
theorem Inv.Z4S{σ:St}{ys:List V}{its:List Value}(I:Inv X pins σ H s)(hv:Vals ys its)(hz:ys.length<=sizeLine) :
 Inv X pins σ (upd H s.heap.objs.size (.lst ys)) { s with heap:=s.heap.push { cls:=.type "list",data:=.seq its.toArray },toks:=t' } :=
 I.laid (fun _ _ q=>Z00 _ q) (Z03 _) ⟨hz,its,0,hv,Z08 _ rfl⟩
theorem Inv.fresh{σ:St}(I:Inv X pins σ H s):H s.heap.objs.size=none:=I.hok.fresh (Z03 _)
theorem Inv.z4L{σ:St}{xs:List V}(I:Inv X pins σ H s)(hH:H l=some (.lst xs)):xs.length<=sizeLine/\∃ (its:List Value) (n:Nat),Vals xs its/\xs.length=its.length/\s.heap.get? l=some { cls:=.type "list",data:=.seq its.toArray n }:=by
 obtain⟨z,its,n,r,e⟩:=I.hok l _ hH;exact⟨z,its,n,r,r.length,e⟩
theorem z8a(h:n<=sizeLine):Builtin.List.listTooLong n=false:=by
 unfold Builtin.List.listTooLong;exact decide_eq_false (by lia)
def z9H:V->List V->Hp->VK->Prop:=fun x vs H Q=>∃ l xs y,x=.ref l/\vs=[y]/\H l=some (.lst xs)/\xs.length<sizeLine/\Q .Zr (upd H l (.lst (xs ++ [y])))
theorem yW:MtM X "list.append" z9H:=by
 intro pins s σ H x vs v us Q I rx rv h;obtain⟨l,xs,y,rfl,rfl,hH,hz,q⟩:=h;cases rx;obtain⟨u,rfl,ru⟩:=rv.one;obtain⟨z,its,n,r,hl,e⟩:=I.z4L hH;refine call_meets F.slot_list_append ⟨_,e,rfl⟩ F.entry_list_append (F.args_list_append_2 _ _) (PySem.list_append l its.toArray n u (by rw[Z05];lia)) ⟨e,?_⟩;refine⟨.Zr,_,I.Z1T (its':=its ++ [u]) hH e (by simp) (r.append (.cons ru .nil)) ?_,rfl,q⟩;rw[Z0M,Z37];lia
def z9K:V->List V->Hp->VK->Prop:=fun x vs H Q=>∃ l b xs zs,x=.ref l/\vs=[.ref b]/\H l=some (.lst xs)/\H b=some (.lst zs)/\xs.length+zs.length<=sizeLine/\Q .Zr (upd H l (.lst (xs ++ zs)))
theorem z5j:MtM X "list.extend" z9K:=by
 intro pins s σ H x vs v us Q I rx rv h;obtain⟨l,b,xs,zs,rfl,rfl,hH,hB,hz,q⟩:=h;cases rx;obtain⟨u,rfl,ru⟩:=rv.one;cases ru;obtain⟨z,its,n,r,hl,e⟩:=I.z4L hH;obtain⟨z2,its2,n2,r2,hl2,e2⟩:=I.z4L hB;have hsz:its.toArray.size+its2.toArray.size<=sizeLine:=by rw[Z05,Z05];lia
 have hlong:¬ (!its.toArray.isEmpty && Builtin.List.listTooLong (its.toArray.size+its2.toArray.size))=true:=by
  rw[z8a hsz,Bool.and_false];exact Z10
 refine call_meets F.slot_list_extend ⟨_,e,rfl⟩ F.entry_list_extend (F.args_list_extend_2 _ _)
  (AutoSeq1.list_extend_list_list_0 l its.toArray n b its2.toArray n2 hlong (by rw[Z05];lia) (by lia)) ⟨e,e2,?_⟩
 refine⟨.Zr,_,I.Z1T (its':=its ++ its2) hH e (by simp) (r.append r2) ?_,rfl,q⟩;rw[Z0M];lia
def Z5h:V->List V->Hp->VK->Prop:=fun x vs H Q=>∃ l xs y,x=.ref l/\vs=[]/\H l=some (.lst xs)/\xs[xs.length - 1]?=some y/\Q y (upd H l (.lst xs.dropLast))
theorem Z2d:MtM X "list.pop" Z5h:=by
 intro pins s σ H x vs v us Q I rx rv h;obtain⟨l,xs,y,rfl,rfl,hH,hy,q⟩:=h;cases rx;have hus:=rv.zero;subst hus;obtain⟨z,its,n,r,hl,e⟩:=I.z4L hH;obtain⟨u,hu,ru⟩:=r.get hy;have hy':its.toArray[its.toArray.size - 1]?=some u:=by
  show its.toArray[its.length - 1]?=some u;rw[← Z38,← hl];exact hu
 refine call_meets F.slot_list_pop ⟨_,e,rfl⟩ F.entry_list_pop (F.args_list_pop_1 _) (MeetsSeq.list_pop_last l its.toArray n u hy' (by rw[Z05];lia)) ⟨e,?_⟩;refine⟨y,_,I.Z1T (its':=its.dropLast) hH e ?_ r.dropLast ?_,ru,q⟩;show its.toArray.eraseIdxIfInBounds (its.toArray.size - 1)=its.dropLast.toArray;rw[Z05,List.eraseIdxIfInBounds_toArray,z2a];rw[List.length_dropLast];lia
def Z4Y:R2:=fun x y H Q=>∃ l b xs zs,x=.ref l/\y=.ref b/\H l=some (.lst xs)/\H b=some (.lst zs)/\xs.length+zs.length<=sizeLine/\∀ p,H p=none->Q (.ref p) (upd H p (.lst (xs ++ zs)))
theorem Z2r:Y4 X (binaryOp .Add) Z4Y:=by
 intro pins s σ H x y v u Q I rx ry h;obtain⟨l,b,xs,zs,rfl,rfl,hH,hB,hz,q⟩:=h;cases rx;cases ry;obtain⟨z,its,n,r,hl,e⟩:=I.z4L hH;obtain⟨z2,its2,n2,r2,hl2,e2⟩:=I.z4L hB;refine PySem.P.add_list e e2 ?_ (by rw[Z05,Z05];lia);have ea:its.toArray ++ its2.toArray=(its ++ its2).toArray:=by simp
 rw[ea];exact⟨.ref _,_,I.Z4S (t':=s.toks) (r.append r2) (by rw[Z0M];lia),rfl,q _ I.fresh⟩
theorem len_rep{α:Type}(xs:List α)(k:Nat):(List.replicate k xs).flatten.length=k * xs.length:=by
 induction k with
 | zero=>simp
 | succ k ih=>rw[Z4o,Z54,Z0M,ih,Nat.succ_mul,Nat.add_comm]
end L2
namespace Att
open PySem.Calls
theorem Vc:∀ (ns:List Int) (vs:List Value),WellAll P h vs (ns.map WData.int)->IntsAre vs ns:=by
 intro ns
 induction ns with
 | nil =>
   intro vs w;rw[Z42] at w;cases w;exact .nil
 | cons n ns ih =>
   intro vs w;rw[Z1y] at w;cases w with
   | cons a b =>
     cases a;exact .cons _ _ (ih _ b)
theorem z5r{l:OpenLaw}{h:Heap}(hn:l.most=some n)(hpre:l.row.toRowW.claim.pre args=true)(hwl:WellAll P h vals args) :
 ∃ a vs ns,vals=[Value.ref a]/\args=[WData.list (ns.map WData.int)]/\h.get? a=some { cls:=.type "list",data:=.seq vs.toArray }/\IntsAre vs ns/\ns.length<=n:=by
 have hsh:WShape.hasAll [] args [.list .int]=true:=(pre_splitW hpre).1;have hc:l.pre.holds [] { args:=args }=true:=(pre_splitW hpre).2;obtain⟨d,r,rfl,h1,h2⟩:=hasAllW_cons hsh;obtain rfl:=hasAllW_nil h2;obtain⟨xs,rfl,h3⟩:=hasW_list h1;obtain⟨ns,rfl⟩:=items_int h3;have hlen:ns.length<=n:=by
  unfold OpenLaw.pre at hc;have h4:(WTm.not (.lt (.lit (.int (n:Int))) (.len (.arg 0)))).holds [] { args:=[.list (ns.map .int)] }=true:=by
   have h4:=(holds_andW hc).1;rw[hn] at h4;exact h4
  have h5:=condW_of h4 (w_not (w_lt w_lit (w_len_list (w_arg rfl))));rw[ZB] at h5;refine Nat.le_of_not_lt fun q=>?_;have q':(n:Int)<((ns.length:Nat):Int):=by lia
  first
   | (rw[decide_eq_true q'] at h5;exact absurd h5 (by decide))
   | (simp at h5;lia)
 cases hwl with
 | cons w1 w2 =>
   cases w2;cases w1 with
   | list ho hall=>exact⟨_,_,ns,rfl,rfl,ho,Vc ns _ hall,hlen⟩
theorem z4r(l:OpenLaw)(args:List WData):l.row.toRowW.claim.post args (.bool true) args=true :=
 postW_of (r:=l.row.toRowW) (X:=(true == true))
  (show WShape.has [] (.bool true) .bool=true by first | rfl | decide | simp[WShape.has,WShape.arms,WShape.armsAll])
  (show (WTm.eq .res (.lit (.bool true))).value [] { args:=args,res:=some (.bool true),after:=args }=some (.bool (true == true)) from w_eq_bool (w_res rfl) w_lit) rfl
theorem z0q{l:OpenLaw}{d:DefRec}(hn:l.most=some n)(hdf:d.params.defaults=[])(call:∀ (w:World) (s₀ s₁:Shared) (mg mb:Str->Option Value) (fa:Addr) (o:Obj) (pm cd doc:Value) (a:Addr) (vs:List Value) (ns:List Int),
  Ground q loose [] XP w s₀ mg mb s₁.heap->YP w s₁.heap->
  s₁.heap.get? fa=some o->o.data=.func (docDef d.name d.params d.body d.scope pm cd doc)->s₁.heap.CodeRec cd d.name->mg d.name=some (.ref fa)->
  s₁.heap.get? a=some { cls:=.type "list",data:=.seq vs.toArray }->IntsAre vs ns->ns.length<=n->s₁.gens=#[]->
  codeAny (model l.prog w) callerA (.call (.ref fa) ⟨[.ref a],[]⟩) (fun r s'=>r=.ok (.ret (.bool true))/\OldK s₁.heap s'.heap/\s'.os=s₁.os/\AllBare s'.gens) s₁) :
 WalkO q loose XP YP l.row.toRowW d [] (fun f vs=>PySem.call f vs):=by
 intro w s₀ s₁ mg mb G Y fa o pm cd doc dV kV ho hd hcd hD hmg hg args vals as hpre hlay hrd hwl hlo;obtain rfl:dV=.none:=Dflts.none hD hdf;obtain rfl:kV=.none:=Dflts.noKw hD;obtain⟨a,vs,ns,rfl,rfl,hobj,hints,hlen⟩:=z5r hn hpre hwl;refine enter_call (codeAny_mono (call w s₀ s₁ mg mb fa o pm cd doc a vs ns G Y ho (fd_plain hd) hcd hmg hobj hints hlen hg) fun r s' hq=>?_);obtain⟨rfl,h2,h3,h4⟩:=hq;exact⟨.inl ⟨.bool true,.bool true,[],rfl,fun _=>rfl,.bool true,z4r l _,fun _=>⟨List.Pairwise.nil,fun _ hm=>(nomatch hm)⟩⟩,h2,h3,h4⟩
end Att
namespace L2
theorem U7:∀ {vs:List Value}{ns:List Int},IntsAre vs ns->Vals (ns.map V.int) vs
 | _,_,.nil=>.nil
 | _,_,.cons n t h=>.cons ⟨t,rfl⟩ (U7 h)
def inClass(s:Stmt)(j:Nat):Stmt:=match s with
 | .ClassDef _ _ _ body _ _ _ _ _ _ _=>body.getD j (.Pass ⟨0,0,0,0⟩)
 | _=>.Pass ⟨0,0,0,0⟩
def ZT(s:Stmt):Arguments:=match s with
 | .FunctionDef _ a _ _ _ _ _ _ _ _=>a
 | _=>{ posonlyargs:=[],args:=[],vararg:=none,kwonlyargs:=[],kw_defaults:=[],kwarg:=none,defaults:=[] }
def Zy(s:Stmt):List Stmt:=match s with
 | .FunctionDef _ _ b _ _ _ _ _ _ _=>b
 | _=>[]
def ze(s:Stmt):Scope:=match s with
 | .FunctionDef _ _ _ _ _ _ sc _ _ _=>sc
 | _=>{ kind:=.function,names:=[],isGenerator:=false,isCoroutine:=false }
abbrev yk:Ji:=fun _ _ _ _ _ _=>False
abbrev E0:XK:=fun _ _ _=>False
theorem xE:Passes yk X E0:=fun _ _ _ _ _ _ _ h=>h.elim
structure Vb(K:PySem.W.Frag)(x qual:Str)(st:Stmt)(f:Addr)(fd:FuncData):Prop where
 ex:∃ (oc:Value) (od:Option Addr) (kV doc pm:Value) (an:Option Addr) (cdv ct:Value) (osl:Array (Option Value)),
  fd=PySem.W.fnOf x qual (ZT st) (Zy st) (ze st) .none kV doc pm an cdv ct/\K.lookup f=some ⟨oc,od,.func fd,osl⟩/\PySem.W.codeIn K cdv qual=true
 kp:PySem.W.keepIn K (.ref f)=true
theorem Vb.ok{st:Stmt}(F:Vb K x qual st f fd)(S:zE N ps (ze st))(len:∀ vs H Q E,sp vs H Q E->vs.length=ps.length)(hbody:∀ (cdv:Value) (A:Around) (outer:List Env) (s:Shared) (H:Hp) (vs:List V) (Q:VK) (E:XK),Zk k (A.deeper (envOfC qual (ze st) s.heap.objs.size f cdv))->sp vs H Q E->
  ∃ t,QW (Jx yk P w K mg base N qual (ze st) f cdv A outer s H E).nox (Zy st) t/\t { nx:=fun _ H'=>Q .Zr H',rt:=Q } (start N vs) H):ZK P w K mg base yk (k+1) f fd ps sp:=by
 obtain⟨oc,od,kV,doc,pm,an,cdv,ct,osl,rfl,lk,hcd⟩:=F.ex;refine Z0m lk hcd S len fun A outer s H vs Q E hr hsp=>?_;obtain⟨t,h,q⟩:=hbody cdv A outer s H vs Q E hr hsp;exact⟨t,h.nox,q⟩
theorem Vb.binds{st:Stmt}(F:Vb K x qual st f fd)(h:∀ (kV doc pm:Value) (an:Option Addr) (cdv ct:Value) (us:List Value),us.length=ps.length->bindArgs (PySem.W.fnOf x qual (ZT st) (Zy st) (ze st) .none kV doc pm an cdv ct) ⟨us,[]⟩=pure (ps.zip us)):Binds K fd ps []:=by
 obtain⟨oc,od,kV,doc,pm,an,cdv,ct,osl,rfl,lk,hcd⟩:=F.ex;exact .all (h kV doc pm an cdv ct)
theorem z1P{st:Stmt}{kV:Value}(l:K.lookup f=some ⟨oc,od,.func (PySem.W.fnOf x qual (ZT st) (Zy st) (ze st) .none kV doc pm an cdv ct),osl⟩)(c:PySem.W.codeIn K cdv qual=true)(k:PySem.W.keepIn K (.ref f)=true):Vb K x qual st f (PySem.W.fnOf x qual (ZT st) (Zy st) (ze st) .none kV doc pm an cdv ct):=⟨⟨oc,od,kV,doc,pm,an,cdv,ct,osl,rfl,l,c⟩,k⟩
theorem Zf(h:n<=1000):n<sizeLine:=Z29 h (by decide)
theorem pv{X:Cx}(i:Nat){x:Str}{pos:Pos}(hN:X.N[i]?=some x:=by rfl)(hv:Vis X.env.scope x:=by first | exact Or.inl rfl | exact Or.inr (Or.inl rfl) | exact Or.inr (Or.inr rfl))(hd:(x == ("__debug__":Str))=false:=by decide)
 (hcd:(x == ("__classdict__":Str))=false:=by decide):PE X (.Name x pos) (z2T i):=Z1o hN hv hd hcd
theorem Z3V{A B:Prop}(h:B):if false=true then A else B:=by
 rw[if_neg Z10];exact h
theorem Z4U{A B:Prop}(h:A):if true=true then A else B:=by
 rw[if_pos rfl];exact h
def zC(H H':Hp):Prop:=∀ b o,H b=some o->H' b=some o
theorem zC.refl(H:Hp):zC H H:=fun _ _ h=>h
theorem zC.trans(a:zC H H1)(b:zC H1 H2):zC H H2:=fun c o h=>b c o (a c o h)
theorem zC.free(e:zC H H')(h:H' l=Option.none):H l=Option.none:=by
 cases q:H l with
 | none=>rfl
 | some o =>
   rw[e l o q] at h;cases h
theorem zC.seq(e:zC H H')(h:zQ K H a xs):zQ K H' a xs:=by
 rcases h with (h |⟨o,h⟩) | h;exact .inl (.inl (e _ _ h));exact .inl (.inr ⟨o,e _ _ h⟩);exact .inr h
theorem Qn(I:Nat->Shared->Prop)(turn:∀ n s,I n s->wpAny (model prog w) A (pyNext it) (fun r s₁=>match r with
  | none=>R (.ok .next) s₁
  | some v=>wpAny (model prog w) A (letOwnedTupleGo target it v) (fun _ s₁'=>wpAny (model prog w) A (assign target env v) (fun _ s₂ =>
   wpAny (model prog w) A (forIn ifs true fun c r=>if r=true then do let ok ←isTrue c env (eval c env);pure (ForInStep.yield ok) else pure (ForInStep.yield r)) (fun ok s₃ =>
    if ok=true then wpAny (model prog w) A (eval elt env) (fun x s₄ =>
     wpAny (model prog w) A (call (.builtin "list.append") [acc,x]) (fun _ s₅=>∃ m,m<n/\I m s₅) (fun _ _=>False) s₄) (fun _ _=>False) s₃
    else ∃ m,m<n/\I m s₃) (fun _ _=>False) s₂) (fun _ _=>False) s₁') (fun _ _=>False) s₁) (fun _ _=>False) s)(n:Nat)(h:I n s) :
 codeAny (model prog w) A (.compLoop (.ListComp elt [⟨target,iter,ifs,0⟩] scope pos) 0 it acc env) R s:=by
 refine codeAny_loop rfl I (fun n s hI=>?_) n h;show wpAny _ A ((compTurn (.ListComp elt [⟨target,iter,ifs,0⟩] scope pos) 0 it acc env).onRaise (fun x=>do noteFrame x env;theTreesLotGoes x)) _ _ s;refine wpAny_noted ?_;rw[compTurn_list];have el:∀ {E':Value->Shared->Prop}(x:Value) (s':Shared),False->E' x s':=fun _ _ f=>f.elim;refine wpAny_bind (wpAny_standAt (wpAny_bind (wpAny_mono (turn n s hI) (fun r s₁ h₁=>?_) fun _ _ f=>f.elim)));cases r with
 | none=>exact wpAny_pure h₁
 | some v =>
   refine wpAny_bind (wpAny_mono h₁ (fun _ s₁' h₁'=>?_) fun _ _ f=>f.elim);refine wpAny_bind (wpAny_mono h₁' (fun _ s₂ h₂=>wpAny_bind (wpAny_mono h₂ (fun ok s₃ h₃=>?_) fun _ _ f=>f.elim)) fun _ _ f=>f.elim);cases ok with
   | false=>exact wpAny_pure ⟨rfl,h₃⟩
   | true =>
     exact wpAny_bind (wpAny_bind (wpAny_mono h₃ (fun x s₄ h₄=>wpAny_bind (wpAny_mono h₄ (fun _ s₅ h₅=>wpAny_pure (wpAny_pure ⟨rfl,h₅⟩)) fun _ _ f=>f.elim)) fun _ _ f=>f.elim))
def Zh(X:Cx)(N':List Str)(scope:Scope)(cl:List (Str×Addr))(C:Addr)(s:Shared)(H:Hp)(fp:List Addr):Cx where
 prog:=X.prog
 w:=X.w
 K:=X.K
 mg:=X.mg
 base:=X.base
 A:=X.A
 N:=N'
 s₀:=s
 H₀:=H
 env:=compEnvC scope cl C X.env
 outer:=X.stack
 stack:=X.stack
 ex:=fp
 fn:=fun _=>false
 calm:=X.calm
 pn:=[]
 xe:=fun _ _=>False
def PTs(X:Cx)(ifs:List Expr)(t:TT):Prop :=
 ∀ (pins:List (Addr×Obj)) (s:Shared) (σ:St) (H:Hp) (Q:Bool->Hp->Prop),Inv X pins σ H s->t σ H Q->
   wpAny (model X.prog X.w) X.A (forIn ifs true fun c r=>if r=true then do let ok ←isTrue c X.env (eval c X.env);pure (ForInStep.yield ok) else pure (ForInStep.yield r)) (TP X pins σ Q) X.xe s
theorem yE:PTs X [] (fun _ H Q=>Q true H):=fun _ _ _ H _ I h=>wpAny_pure ⟨H,I,h⟩
theorem z2Y(h:PT X c t):PTs X [c] t:=fun pins s σ H Q I hw=>by
 simp only[Z5s,List.forIn_nil,if_true];exact wpAny_bind (wpAny_bind (wpAny_mono (h pins s σ H Q I hw) (fun b s' hb=>wpAny_pure (wpAny_pure hb)) fun _ _ x=>x))
def U9(X:Cx)(sc:Scope):List Str->List (Option Nat)->Prop
 | [],[]=>True
 | _ :: N,none :: ks=>U9 X sc N ks
 | x :: N,some k :: ks=>(X.N[k]?=some x/\X.env.scope.names.lookup x=some .cell/\(sc.names.lookup x=some .cell\/sc.names.lookup x=some .free))/\U9 X sc N ks
 | _,_=>False
theorem U9.len:∀ {N:List Str}{ks:List (Option Nat)},U9 X sc N ks->ks.length=N.length
 | [],[],_=>rfl
 | _ :: N,none :: ks,h=>by simp[U9.len (show U9 X sc N ks from h)]
 | _ :: N,some _ :: ks,h=>by simp[U9.len (show U9 X sc N ks from h.2)]
 | [],_ :: _,h=>by cases h
 | _ :: _,[],h=>by cases h
theorem U9.get:∀ {N:List Str}{ks:List (Option Nat)}{i k:Nat}{x:Str},U9 X sc N ks->N[i]?=some x->ks[i]?=some (some k)->
 X.N[k]?=some x/\X.env.scope.names.lookup x=some .cell/\(sc.names.lookup x=some .cell\/sc.names.lookup x=some .free)
 | [],[],_,_,_,_,e,_=>by simp at e
 | [],_ :: _,_,_,_,h,_,_=>by cases h
 | _ :: _,[],_,_,_,h,_,_=>by cases h
 | _ :: N,none :: ks,0,k,x,h,e1,e2=>by simp at e2
 | _ :: N,none :: ks,i+1,k,x,h,e1,e2=>U9.get (i:=i) (show U9 X sc N ks from h) (by simpa using e1) (by simpa using e2)
 | y :: N,some j :: ks,0,k,x,h,e1,e2=>by
   simp at e1 e2;subst e1 e2;exact h.1
 | _ :: N,some _ :: ks,i+1,k,x,h,e1,e2=>U9.get (i:=i) (show U9 X sc N ks from h.2) (by simpa using e1) (by simpa using e2)
def uP(ks:List (Option Nat))(σ:St):St:=ks.map fun o=>match o with
 | none=>none
 | some k=>σ.getD k none
def XI(J:It)(D:Addr)(g:TG)(tt:TT)(te:TE)(Q:VK)(σ0:St)(H0:Hp):Prop :=
 ∃ W:Nat->Nat->List V->St->Hp->Prop,(∃ m,W 0 m [] σ0 H0)/\∀ i m ys σ' H',W i m ys σ' H'->H' D=some (.lst ys)/\
   ((J.stop i H'/\Q (.ref D) H')\/(J.go i H'/\∀ x H2,J.yld i H' x H2->g x σ' H2 fun σ3 H3=>tt σ3 H3 fun b H4=>if b=true then
     te σ3 H4 fun y H5=>H5 D=some (.lst ys)/\ys.length<sizeLine/\∃ m',m'<m/\W (i+1) m' (ys ++ [y]) σ3 (upd H5 D (.lst (ys ++ [y]))) else ∃ m',m'<m/\W (i+1) m' ys σ3 H4))
def uN(wi:TI)(ks:List (Option Nat))(g:TG)(tt:TT)(te:TE):TE:=fun σ H Q=>wi σ H fun J H1=>∀ D,H1 D=none->XI J D g tt te Q (uP ks σ) (upd H1 D (.lst []))
theorem z9u(hcalm:X.calm=true)(hi:PI X tg iter wi)(hclos:closureFor scope X.env=pure cl)(hcl:∀ x c,cl.lookup x=some c->X.env.cells.lookup x=some c)(hcell:∀ y∈scope.names,y.2≠.cell)(hkind:scope.kind=.function)(hnames:∀ y∈scope.names,y.2=.local->scope.names.lookup y.1=some .local)(hhas:∀ x,((relabel scope X.env).names.lookup x=some .cell\/(relabel scope X.env).names.lookup x=some .free)->∃ c,cl.lookup x=some c)(hcap:U9 X (relabel scope X.env) N' ks)(hg:∀ C s H fp,PG (Zh X N' scope cl C s H fp) tg g)(ht:∀ C s H fp,PTs (Zh X N' scope cl C s H fp) ifs tt)(he:∀ C s H fp,PE (Zh X N' scope cl C s H fp) elt te)(hs:∀ x,foldedSetIterable iter X.env x=pure x:=by intro _;rfl):PE X (.ListComp elt [⟨tg,iter,ifs,0⟩] scope pos) (uN wi ks g tt te):=by
 intro pins s σ H Q I h;rw[eval_ListComp];refine wpAny_comprehension_free (use:=none) rfl hs hclos hkind hnames (Zj (hi pins s σ H _ I h) fun v s1 h1=>Zj h1 fun itv s2 h2=>?_);obtain⟨it,fp,tn,J,H2,e,I2,T,st2,f2,R⟩:=h2;subst e;refine wpAny_newObj_type (wpAny_newFunctionEnv hcell (by intro y hy;simp at hy) (fun h₁ hns₁ hsb₁=>?_) hkind);dsimp only at hns₁ hsb₁ ⊢;have hD:H2 s2.heap.objs.size=none:=I2.hok.fresh (Z03 _);obtain⟨W,⟨m0,w0⟩,turn⟩:=R _ hD;generalize hs3:({ s2 with heap:=s2.heap.push { cls:=.type "list",dict:=none,data:=.seq ([]:List Value).toArray } }:Shared)=s3;have e3:s3.heap=s2.heap.push { cls:=.type "list",dict:=none,data:=.seq ([]:List Value).toArray }:=by rw[← hs3]
 have I3:Inv X pins σ (upd H2 s2.heap.objs.size (.lst [])) s3:=by
  rw[← hs3];exact I2.laid (t':=s2.toks) (fun b o e=>Z00 _ e) (Z03 _) ⟨Z18 _,[],0,.nil,Z08 _ rfl⟩
 generalize hD0:s2.heap.objs.size=D at *;generalize hH3:upd H2 D (.lst [])=H3 at *;rw[← e3] at hns₁ hsb₁ ⊢;have kp:∀ b o,s3.heap.get? b=some o->h₁.get? b=some o:=fun b o e=>hsb₁.extBut b o (Z0T (Z09 e)) (Z00 _ e);have f3:∀ b∈fp,xA X pins H3 b/\b<s3.heap.objs.size:=fun b hb=>by
  obtain⟨o,ho,_⟩:=T.obj 0 _ st2 b hb;have hlt:b<D:=by rw[← hD0];exact Z09 ho
  refine⟨⟨?_,(f2 b hb).2⟩,?_⟩;rw[← hH3,zD (Z0T hlt)];exact (f2 b hb).1;rw[e3,Z4p,hD0];exact Nat.lt_succ_of_lt hlt
 have st3:tn 0 h₁:=T.keep 0 s2.heap h₁ st2 fun b hb o e=>kp b o (by rw[e3];exact Z00 _ e);have capK:∀ x c,cl.lookup x=some c->X.env.cells.lookup x=some c:=hcl;have stkne:∀ b∈fp,b∉frs X.stack:=fun b hb z=>by
  rcases Z0z.mp (I3.jN b z) with e | e;exact (f3 b hb).1.2.1 e;exact (f3 b hb).1.2.2.1 e
 have Cfresh:H3 s3.heap.objs.size=none:=I3.hok.fresh (Z03 _);have ok':(Zh X N' scope cl s3.heap.objs.size s3 H3 fp).Ok:=by
  refine⟨I3.ok.mod,hkind,I3.ok.glob,I3.ok.blt,Z03 _,fun x y c h1 h2=>I3.ok.inj x y c (capK x c h1) (capK y c h2),fun x hx=>hhas x hx,fun x c hf _=>absurd (show false=true from hf) Z10,fun z=>I3.ok.hd z,I3.ok.frames,.inl rfl,
   fun b hb=>⟨Z0T (f3 b hb).2,fun x c e=>(f3 b hb).1.2.2.2.2.1 x c (capK x c e)⟩,I3.bs,Z11 I3.ok.bsz I3.sz,fun b o e hb=>?_,fun b hb=>stkne b hb,I3.stack,I3.jV⟩
  rcases (f3 b hb).1.2.2.2.1 with z | z;exact I3.ok.noex b o e z;exact absurd (Z13 (Z09 e) (Z11 I3.ok.bsz z)) (Z2N _)
 have I4:Inv (Zh X N' scope cl s3.heap.objs.size s3 H3 fp) [] (uP ks σ) H3 { s3 with heap:=h₁,toks:=s3.toks+([]:List (Str×Value)).length }:=by
  refine⟨ok',rfl,I3.bare,Un.kept kp,⟨_,hns₁,fun i x v e1 e2 e3'=>?_⟩,fun x c e=>?_,Cfresh,fun x c e=>I3.freeC x c (capK x c e),fun p hp=>absurd (show p∈([]:List (Addr×Obj)) from hp) (by simp),I3.hok.kept kp,?_⟩;have e2':(uP ks σ)[i]?=some (some v):=e2;unfold uP at e2';rw[Z14] at e2';cases hk:ks[i]? with
  | none=>rw[hk] at e2';cases e2'
  | some o =>
    rw[hk] at e2';cases o with
    | none=>cases e2'
    | some k =>
      have ev:σ.getD k none=some v:=Z1X e2';obtain⟨c1,c2,c3⟩:=hcap.get e1 hk;obtain⟨m,hn,hl⟩:=I3.loc;have es:σ[k]?=some (some v):=by
       rw[Z02] at ev;cases q:σ[k]? with
       | none=>rw[q] at ev;cases ev
       | some z=>rw[q] at ev;exact congrArg some ev
      obtain⟨u,r,l⟩:=hl k x v c1 es (.inr (.inl c2));refine⟨u,r,.inr ⟨c3,?_⟩⟩;rcases l with⟨l1,_⟩|⟨_,c,l2,l3⟩;have l1':X.env.scope.names.lookup x=some .local:=l1;rw[c2] at l1';cases l1';obtain⟨c',hc'⟩:=hhas x c3;have:X.env.cells.lookup x=some c':=capK x c' hc';rw[l2] at this;cases this;refine⟨c,hc',?_⟩;obtain⟨o,ho,hd⟩:=l3;exact⟨o,kp c o ho,hd⟩
  obtain⟨v,o,ho,hd⟩:=I3.cell x c (capK x c e);exact⟨v,o,kp c o ho,hd⟩;show (uP ks σ).length=N'.length;unfold uP;rw[ZB,hcap.len]
 have Cne:∀ p∈X.pn ++ pins,p.1≠s3.heap.objs.size:=fun p hp=>Z0T (Z09 (I3.pin p hp).1);have back:∀ {σ':St}{H':Hp}{s':Shared},Inv (Zh X N' scope cl s3.heap.objs.size s3 H3 fp) [] σ' H' s'->∀ h'':Heap,Heap.SameBut s3.heap.objs.size s'.heap h''->Inv X pins σ H' { s' with heap:=h'' }:=fun {σ' H' s'} I' h'' sb=>by
  have J1:Inv X pins σ H' s':=I3.z7n (ch:=fp) I'.os I'.base I'.hok I'.bare fun b hb=>⟨(f3 b hb).1.2.2.2.1,(f3 b hb).1.2.1,(f3 b hb).1.2.2.2.2.1,(f3 b hb).1.2.2.2.2.2⟩;refine J1.turned (t':=s'.toks) (it:=s3.heap.objs.size) (fun b o hb e=>(sb.2 b hb).trans e) I'.free (Z33 I3.lt) (.inr I3.sz) (fun x c e=>?_) Cne;obtain⟨v,q⟩:=I3.cell x c e;exact Z0T q.lt
 have fpok:∀ {H':Hp},(∀ b∈fp,H' b=none)->∀ b∈fp,xA (Zh X N' scope cl s3.heap.objs.size s3 H3 fp) [] H' b:=fun hn b hb =>
  ⟨hn b hb,Z0T (f3 b hb).2,stkne b hb,.inl hb,fun x c e=>(f3 b hb).1.2.2.2.2.1 x c (capK x c e),fun p hp=>absurd (show p∈([]:List (Addr×Obj)) from hp) (by simp)⟩
 have loop:codeAny (model X.prog X.w) X.A (.compLoop (.ListComp elt [⟨tg,iter,ifs,0⟩] scope pos) 0 (.ref it) (.ref D) (compEnvC scope cl s3.heap.objs.size X.env))
  (compPost (model X.prog X.w) X.A X.xe none (EP X pins σ Q) (.ref D) s3.heap.objs.size) { s3 with heap:=h₁,toks:=s3.toks+([]:List (Str×Value)).length }:=by
  refine Qn (fun n s'=>∃ i ys σ' H',Inv (Zh X N' scope cl s3.heap.objs.size s3 H3 fp) [] σ' H' s'/\tn i s'.heap/\(∀ b∈fp,H' b=none)/\W i n ys σ' H') ?_ m0 ⟨0,[],_,_,I4,st3,fun b hb=>(f3 b hb).1.1,w0⟩;rintro n s5 ⟨i,ys,σ5,H5,I5,st5,fr5,w5⟩;obtain⟨hD5,tq⟩:=turn i n ys σ5 H5 w5;rcases tq with⟨stop,q⟩|⟨go,step⟩;refine Zj (T.done (Zh X N' scope cl s3.heap.objs.size s3 H3 fp) rfl rfl rfl hcalm i [] s5 σ5 H5 _ I5 (fpok fr5) st5 stop) fun r s6 ⟨hr,I6⟩=>?_
  subst hr;obtain⟨m,hn,_⟩:=I6.loc;exact⟨m,hn,fun h'' sb=>⟨.ref D,H5,back I6 h'' sb,rfl,q⟩⟩;refine Zj (T.item (Zh X N' scope cl s3.heap.objs.size s3 H3 fp) rfl rfl rfl hcalm i [] s5 σ5 H5 _ I5 (fpok fr5) st5 go) fun r s6 ⟨u,hr,h6⟩=>?_;subst hr;refine Zj h6 fun _ s7 ⟨x,H7,I7,r7,y7,st7,fr7⟩=>?_;have I7':=I7.pinned (fpok fr7) (T.obj _ _ st7);refine Zj (hg _ _ _ _ _ s7 σ5 H7 x u _ I7' r7 (step x H7 y7)) fun _ s8 ⟨σ8,H8,I8,q8⟩=>?_;refine Zj (ht _ _ _ _ _ s8 σ8 H8 _ I8 q8) fun ok s9 ⟨H9,I9,q9⟩=>?_;have again:∀ {σ':St}{H':Hp}{s':Shared}{ys':List V},Inv (Zh X N' scope cl s3.heap.objs.size s3 H3 fp) ([] ++ Q4 fp s7.heap) σ' H' s'->(∃ m',m'<n/\W (i+1) m' ys' σ' H')->
   ∃ m',m'<n/\∃ i ys σ' H',Inv (Zh X N' scope cl s3.heap.objs.size s3 H3 fp) [] σ' H' s'/\tn i s'.heap/\(∀ b∈fp,H' b=none)/\W i m' ys σ' H':=fun {σ' H' s' ys'} I' hw=>by
   obtain⟨m',hm,w'⟩:=hw;refine⟨m',hm,i+1,ys',σ',H',I'.xT,T.keep _ _ _ st7 fun b hb o e=>(I'.pin (b,o) (Z28 _ (Z28 _ (yt hb e)))).1,fun b hb=>?_,w'⟩;obtain⟨o,e,d⟩:=T.obj _ _ st7 b hb;exact (I'.pin (b,o) (Z28 _ (Z28 _ (yt hb e)))).2.1
  cases ok with
  | false =>
    rw[if_neg Z10] at q9 ⊢;exact again I9 q9
  | true =>
    rw[if_pos rfl] at q9 ⊢;refine Zj (he _ _ _ _ _ s9 σ8 H9 _ I9 q9) fun y s10 ⟨yv,H10,I10,r10,q10,z10,w10⟩=>?_;refine Zj (yW _ s10 σ8 H10 (.ref D) [yv] (.ref D) [y] (fun v H'=>v=.Zr/\H'=upd H10 D (.lst (ys ++ [yv]))) I10 rfl (.cons r10 .nil) ⟨D,ys,yv,rfl,rfl,q10,z10,rfl,rfl⟩) fun _ s11 ⟨_,H11,I11,_,_,e11⟩=>?_;subst e11;exact again I11 w10
 have es:({ s3 with heap:=h₁,toks:=s3.toks+([]:List (Str×Value)).length }:Shared)={ s2 with heap:=h₁,toks:=s2.toks+([]:List (Str×Value)).length }:=by rw[← hs3]
 rw[es] at loop;exact codeAny_compStart_list loop (T.self _ 0 _ _ _ st3 loop)
def Sz(n:Nat)(k:Int):Prop:=k.natAbs<2 ^ n
theorem Sz.mono(h:Sz n k)(l:n<=m):Sz m k:=Z13 h (Z3a (by decide) l)
theorem Sz.mul(h:Sz n a)(h':Sz m b):Sz (n+m) (a * b):=by
 unfold Sz at *;rw[Int.natAbs_mul,Nat.pow_add];exact Nat.mul_lt_mul'' h h'
theorem Sz.add(h:Sz n a)(h':Sz n b):Sz (n+1) (a+b):=by
 unfold Sz at *;rw[Z56];lia
theorem Sz.sub(h:Sz n a)(h':Sz n b):Sz (n+1) (a - b):=by
 unfold Sz at *;rw[Z56];lia
theorem Sz.neg(h:Sz n a):Sz n (-a):=by
 unfold Sz at *;lia
theorem Sz.bits(h:Sz n k):Builtin.Int.intBits k<=n:=by
 unfold Builtin.Int.intBits;split;exact Z18 _;rename_i hk;have h0:k.natAbs≠0:=fun z=>hk (by simp at z;simp[z]);have:=(Nat.log2_lt h0).mpr h;lia
theorem Sz.log2(h:Sz n k)(hn:0<n):k.natAbs.log2<n:=by
 by_cases h0:k.natAbs=0;rw[h0];exact hn;exact (Nat.log2_lt h0).mpr h
def z6F(i j:Int):Prop:=Sz 100000 i/\Sz 100000 j
theorem z6F.ok(h:z6F i j):IntMulOk i j:=by
 have h1:=h.1.bits;have h2:=h.2.bits;have e:Builtin.Int.intTooBig ((Builtin.Int.intBits i:Int)+Builtin.Int.intBits j)=false:=by
  unfold Builtin.Int.intTooBig;refine decide_eq_false ?_;have:(bitsLine:Nat)=134217728:=rfl;rw[this];lia
 unfold IntMulOk;simp[e]
def Z3G(_ j:Int):Prop:=j≠0/\Sz 9000 j
theorem z7:Y4 X (binaryOp .Mult) (rI z6F fun i j=>.int (i * j)):=opI fun _ _ _ _ _ _ _ hc q=>mul_int q hc.ok
theorem ZO:Y4 X (binaryOp .FloorDiv) (rI Z3G fun i j=>.int (i.fdiv j)):=opI fun _ _ _ _ _ _ _ hc q=>floordiv_int hc.1 q (.inl (PyProof.noPylong_of_log2 (hc.2.log2 (by decide))))
inductive Dt where
 | Zr | bl (b:Bool) | int (i:Int) | str (x:Str) | tup (xs:List Dt) | lst (xs:List Dt)
mutual
def Den(K:PySem.W.Frag)(H:Hp):Dt->V->Prop
 | .Zr,v=>v=.Zr
 | .bl b,v=>v=.bl b
 | .int i,v=>v=.int i
 | .str x,v=>v=.str x
 | .tup ds,v=>∃ a xs,v=.ref a/\zX K H a xs/\Zg K H ds xs
 | .lst ds,v=>∃ a xs,v=.ref a/\zQ K H a xs/\Zg K H ds xs
def Zg(K:PySem.W.Frag)(H:Hp):List Dt->List V->Prop
 | [],xs=>xs=[]
 | d :: ds,xs=>∃ x r,xs=x :: r/\Den K H d x/\Zg K H ds r
end
mutual
def uZ:Dt->Dt->Bool
 | .Zr,.Zr=>true
 | .bl a,.bl b=>a == b
 | .bl a,.int b=>(if a then 1 else 0) == b
 | .int a,.bl b=>a == (if b then 1 else 0)
 | .int a,.int b=>a == b
 | .str a,.str b=>a == b
 | .tup xs,.tup ys=>Yr xs ys
 | .lst xs,.lst ys=>Yr xs ys
 | _,_=>false
def Yr:List Dt->List Dt->Bool
 | [],[]=>true
 | x :: xs,y :: ys=>uZ x y && Yr xs ys
 | _,_=>false
end
mutual
def Xx:Dt->Nat
 | .tup xs=>yl xs+1
 | .lst xs=>yl xs+1
 | _=>0
def yl:List Dt->Nat
 | []=>0
 | x :: xs=>max (Xx x) (yl xs)
end
mutual
theorem ud:∀ d:Dt,uZ d d=true
 | .Zr=>rfl
 | .bl b=>by simp[uZ]
 | .int b=>by simp[uZ]
 | .str b=>by simp[uZ]
 | .tup xs=>by simp only[uZ];exact Y0 xs
 | .lst xs=>by simp only[uZ];exact Y0 xs
theorem Y0:∀ ds:List Dt,Yr ds ds=true
 | []=>rfl
 | x :: xs=>by simp only[Yr,ud x,Y0 xs,Bool.and_self]
end
theorem Zg.length:∀ {ds:List Dt}{xs:List V},Zg K H ds xs->xs.length=ds.length
 | [],_,h=>by simp only[Zg] at h;subst h;rfl
 | d :: ds,_,h=>by
   simp only[Zg] at h;obtain⟨x,r,rfl,_,h⟩:=h;simp[Zg.length h]
theorem vH{X:Cx}{σ:St}(I:Inv X pins σ H s)(h:zX X.K H a xs)(h':zQ X.K H a ys):False:=by
 obtain⟨its,_,⟨o,e,c,_⟩,_⟩:=I.tuple h;obtain⟨its',_,⟨o',n',e',c',_⟩,_⟩:=I.list h';rw[e] at e';cases e';rw[c] at c';have:("tuple":String)="list":=by injection c'
 exact absurd this (by decide)
mutual
theorem Den.inj{X:Cx}{σ:St}(I:Inv X pins σ H s):∀ {d e:Dt}{v:V},Den X.K H d v->Den X.K H e v->d=e
 | .Zr,e,v,h,h'=>by
   simp only[Den] at h;subst h;cases e <;> simp only[Den] at h' <;> first
    | rfl
    | (obtain⟨_,_,z,_⟩:=h';cases z;done)
    | (cases h';done)
 | .bl b,e,v,h,h'=>by
   simp only[Den] at h;subst h;cases e <;> simp only[Den] at h' <;> first
    | (obtain⟨_,_,z,_⟩:=h';cases z;done)
    | (cases h';rfl)
    | (cases h';done)
 | .int b,e,v,h,h'=>by
   simp only[Den] at h;subst h;cases e <;> simp only[Den] at h' <;> first
    | (obtain⟨_,_,z,_⟩:=h';cases z;done)
    | (cases h';rfl)
    | (cases h';done)
 | .str b,e,v,h,h'=>by
   simp only[Den] at h;subst h;cases e <;> simp only[Den] at h' <;> first
    | (obtain⟨_,_,z,_⟩:=h';cases z;done)
    | (cases h';rfl)
    | (cases h';done)
 | .tup ds,e,v,h,h'=>by
   simp only[Den] at h;obtain⟨a,xs,rfl,hx,hd⟩:=h;cases e with
   | tup es =>
     simp only[Den] at h';obtain⟨b,ys,z,hy,he⟩:=h';cases z;rw[I.Y3 hy hx] at he;rw[Zg.inj I hd he]
   | lst es =>
     simp only[Den] at h';obtain⟨b,ys,z,hy,he⟩:=h';cases z;exact (vH I hx hy).elim
   | Zr=>simp only[Den] at h';cases h'
   | bl b=>simp only[Den] at h';cases h'
   | int b=>simp only[Den] at h';cases h'
   | str b=>simp only[Den] at h';cases h'
 | .lst ds,e,v,h,h'=>by
   simp only[Den] at h;obtain⟨a,xs,rfl,hx,hd⟩:=h;cases e with
   | lst es =>
     simp only[Den] at h';obtain⟨b,ys,z,hy,he⟩:=h';cases z;rw[I.Qx hy hx] at he;rw[Zg.inj I hd he]
   | tup es =>
     simp only[Den] at h';obtain⟨b,ys,z,hy,he⟩:=h';cases z;exact (vH I hy hx).elim
   | Zr=>simp only[Den] at h';cases h'
   | bl b=>simp only[Den] at h';cases h'
   | int b=>simp only[Den] at h';cases h'
   | str b=>simp only[Den] at h';cases h'
theorem Zg.inj{X:Cx}{σ:St}(I:Inv X pins σ H s):∀ {ds es:List Dt}{vs:List V},Zg X.K H ds vs->Zg X.K H es vs->ds=es
 | [],[],_,_,_=>rfl
 | [],e :: es,vs,h,h'=>by
   simp only[Zg] at h h';subst h;obtain⟨_,_,z,_⟩:=h';cases z
 | d :: ds,[],vs,h,h'=>by
   simp only[Zg] at h h';subst h';obtain⟨_,_,z,_⟩:=h;cases z
 | d :: ds,e :: es,vs,h,h'=>by
   simp only[Zg] at h h';obtain⟨x,r,rfl,h1,h2⟩:=h;obtain⟨y,r',z,h3,h4⟩:=h';cases z;rw[Den.inj I h1 h3,Zg.inj I h2 h4]
end
def Yu(ds es:List Dt)(j:Nat):Bool:=match ds[j]?,es[j]? with
 | some d,some e=>uZ d e
 | _,_=>true
theorem Q6:∀ (ds es:List Dt),ds.length=es.length->(List.range ds.length).all (Yu ds es)=Yr ds es
 | [],[],_=>rfl
 | d :: ds,e :: es,h=>by
   have ih:=Q6 ds es (by simpa using h);rw[Z0u,List.range_succ_eq_map,List.all_cons,List.all_map];have e0:Yu (d :: ds) (e :: es) 0=uZ d e:=rfl;have e1:(Yu (d :: ds) (e :: es)) ∘ Nat.succ=Yu ds es:=by
    funext j;simp[Yu,Function.comp]
   rw[e0,e1,ih];rfl
theorem uD:∀ (ds es:List Dt),ds.length≠es.length->Yr ds es=false
 | [],[],h=>absurd rfl h
 | [],_ :: _,_=>rfl
 | _ :: _,[],_=>rfl
 | d :: ds,e :: es,h=>by
   simp only[Yr];rw[uD ds es (by simpa using h),Bool.and_false]
theorem Zg.get:∀ {ds:List Dt}{xs:List V}{j:Nat}{d:Dt},Zg K H ds xs->ds[j]?=some d->∃ x,xs[j]?=some x/\Den K H d x
 | [],_,_,_,_,e=>by simp at e
 | d :: ds,xs,0,d',h,e=>by
   simp only[Zg] at h;obtain⟨x,r,rfl,h1,_⟩:=h;simp at e;subst e;exact⟨x,rfl,h1⟩
 | d :: ds,xs,j+1,d',h,e=>by
   simp only[Zg] at h;obtain⟨x,r,rfl,_,h2⟩:=h;obtain⟨y,h3,h4⟩:=Zg.get (j:=j) h2 (by simpa using e);exact⟨y,by simpa using h3,h4⟩
theorem UH:∀ {ds:List Dt}{j:Nat}{d:Dt},ds[j]?=some d->Xx d<=yl ds
 | [],_,_,e=>by simp at e
 | d :: ds,0,d',e=>by simp at e;subst e;simp only[yl];exact Nat.le_max_left _ _
 | d :: ds,j+1,d',e=>by
   have:=UH (ds:=ds) (j:=j) (d:=d') (by simpa using e);simp only[yl];exact Z11 this (Nat.le_max_right _ _)
theorem Qf{X:Cx}{A:Around}{us vs:List Value}(n:Nat)(ih:∀ (A:Around) (d e:Dt) (x y:V) (u v:Value),Xx d<=n->A.units+n<cLine->Den X.K H d x->Den X.K H e y->RelV x u->RelV y v->SeqAt.EqAt A s u v (uZ d e))(hd:yl ds<=n)(hu:A.units+n+1<cLine)(h1:Zg X.K H ds xs)(h2:Zg X.K H es ys)(r1:Vals xs us)(r2:Vals ys vs) :
 ∀ j (g1:j<us.toArray.size) (g2:j<vs.toArray.size),SeqAt.EqAt A.in1 s us.toArray[j] vs.toArray[j] (Yu ds es j):=by
 intro j g1 g2;have l1:=h1.length;have l2:=h2.length;have l3:=r1.length;have l4:=r2.length;have g1':j<us.length:=by simpa using g1
 have g2':j<vs.length:=by simpa using g2
 have j1:j<ds.length:=by rw[← l1,l3];exact g1'
 have j2:j<es.length:=by rw[← l2,l4];exact g2'
 have e1:ds[j]?=some ds[j]:=by simp[j1]
 have e2:es[j]?=some es[j]:=by simp[j2]
 obtain⟨x,ex,dx⟩:=h1.get e1;obtain⟨y,ey,dy⟩:=h2.get e2;obtain⟨u,eu,ru⟩:=r1.get ex;obtain⟨v,ev,rv⟩:=r2.get ey;have e3:Yu ds es j=uZ ds[j] es[j]:=by unfold Yu;rw[e1,e2]
 rw[e3];have a1:us.toArray[j]=u:=by
  have:us[j]?=some us[j]:=by simp[g1']
  rw[this] at eu;simpa using Z1X eu
 have a2:vs.toArray[j]=v:=by
  have:vs[j]?=some vs[j]:=by simp[g2']
  rw[this] at ev;simpa using Z1X ev
 rw[a1,a2];exact ih A.in1 _ _ x y u v (Z11 (UH e1) hd) (by show A.units+1+n<cLine;lia) dx dy ru rv
theorem jD{X:Cx}{σ:St}{A:Around}(I:Inv X pins σ H s)(n:Nat)(ih:∀ (A:Around) (d e:Dt) (x y:V) (u v:Value),Xx d<=n->A.units+n<cLine->Den X.K H d x->Den X.K H e y->RelV x u->RelV y v->SeqAt.EqAt A s u v (uZ d e))(hd:yl ds<=n)(hu:A.units+n+1<cLine)(ha:zX X.K H a xs)(hb:zX X.K H b ys)(h1:Zg X.K H ds xs)(h2:Zg X.K H es ys) :
 SeqAt.RcAt A s (.ref a) (.ref b) (Yr ds es)/\SeqAt.RcNeAt A s (.ref a) (.ref b) (!Yr ds es):=by
 obtain⟨its,r1,p1,_⟩:=I.tuple ha;obtain⟨its2,r2,p2,_⟩:=I.tuple hb;have l1:=h1.length;have l2:=h2.length;have l3:=r1.length;have l4:=r2.length;have hu':A.units<cLine:=by lia
 have q:=SeqAt.RcAt.tuples (A:=A) (s:=s) (e:=Yu ds es) p1 p2 hu' (Qf n ih hd hu h1 h2 r1 r2);have q2:=SeqAt.RcNeAt.tuples (A:=A) (s:=s) (e:=Yu ds es) p1 p2 hu' (Qf n ih hd hu h1 h2 r1 r2);have e:((List.range (min its.toArray.size its2.toArray.size)).all (Yu ds es) && its.toArray.size == its2.toArray.size)=Yr ds es:=by
  simp only[Z05];by_cases hl:ds.length=es.length;have:its.length=its2.length:=by rw[← l3,← l4,l1,l2,hl]
  rw[this,Nat.min_self,← l4,l2,← hl,Q6 ds es hl];simp;have:its.length≠its2.length:=by rw[← l3,← l4,l1,l2];exact hl
  rw[uD ds es hl];simp[this]
 rw[e] at q q2;exact⟨q,q2⟩
theorem jt{X:Cx}{σ:St}{A:Around}(I:Inv X pins σ H s)(n:Nat)(ih:∀ (A:Around) (d e:Dt) (x y:V) (u v:Value),Xx d<=n->A.units+n<cLine->Den X.K H d x->Den X.K H e y->RelV x u->RelV y v->SeqAt.EqAt A s u v (uZ d e))(hd:yl ds<=n)(hu:A.units+n+1<cLine)(ha:zQ X.K H a xs)(hb:zQ X.K H b ys)(h1:Zg X.K H ds xs)(h2:Zg X.K H es ys) :
 SeqAt.RcAt A s (.ref a) (.ref b) (Yr ds es)/\SeqAt.RcNeAt A s (.ref a) (.ref b) (!Yr ds es):=by
 obtain⟨its,r1,p1,_⟩:=I.list ha;obtain⟨its2,r2,p2,_⟩:=I.list hb;have l1:=h1.length;have l2:=h2.length;have l3:=r1.length;have l4:=r2.length;have hu':A.units<cLine:=by lia
 by_cases hl:ds.length=es.length;have hsz:its.toArray.size=its2.toArray.size:=by simp only[Z05];rw[← l3,← l4,l1,l2,hl]
 have q:=SeqAt.RcAt.lists (A:=A) (s:=s) (e:=Yu ds es) p1.isList p2.isList hsz hu' (Qf n ih hd hu h1 h2 r1 r2);have q2:=SeqAt.RcNeAt.lists (A:=A) (s:=s) (e:=Yu ds es) p1.isList p2.isList hsz hu' (Qf n ih hd hu h1 h2 r1 r2);have e:(List.range its.toArray.size).all (Yu ds es)=Yr ds es:=by
  simp only[Z05];rw[← l3,l1,Q6 ds es hl]
 rw[e] at q q2;exact⟨q,q2⟩;have hsz:(its.toArray.size != its2.toArray.size)=true:=by
  simp only[Z05];rw[← l3,← l4,l1,l2];simpa using hl
 rw[uD ds es hl];exact⟨SeqAt.RcAt.lists_lengths p1.isList p2.isList hsz hu',SeqAt.RcNeAt.lists_lengths p1.isList p2.isList hsz hu'⟩
theorem uq{X:Cx}{σ:St}(I:Inv X pins σ H s):∀ (n:Nat) (A:Around) (d e:Dt) (x y:V) (u v:Value),Xx d<=n->A.units+n<cLine->Den X.K H d x->Den X.K H e y->RelV x u->RelV y v->SeqAt.EqAt A s u v (uZ d e):=by
 intro n
 induction n with
 | zero =>
   intro A d e x y u v hd hu h1 h2 rx ry;have hu':A.units<cLine:=by lia
   cases d with
   | tup ds=>simp only[Xx] at hd;lia
   | lst ds=>simp only[Xx] at hd;lia
   | Zr =>
     simp only[Den] at h1;subst h1;cases e with
     | tup es =>
       simp only[Den] at h2;obtain⟨b,ys,rfl,hy,_⟩:=h2;cases rx;cases ry;obtain⟨its,_,p,_⟩:=I.tuple hy;exact SeqAt.EqAt.none_tuple p hu'
     | lst es =>
       simp only[Den] at h2;obtain⟨b,ys,rfl,hy,_⟩:=h2;cases rx;cases ry;obtain⟨its,_,p,_⟩:=I.list hy;exact SeqAt.EqAt.none_list p.isList hu'
     | _=>simp only[Den] at h2;subst h2;exact jn rx ry rfl rfl
   | bl i =>
     simp only[Den] at h1;subst h1;cases e with
     | tup es =>
       simp only[Den] at h2;obtain⟨b,ys,rfl,hy,_⟩:=h2;cases rx;cases ry;obtain⟨its,_,p,_⟩:=I.tuple hy;exact SeqAt.EqAt.bool_tuple _ p hu'
     | lst es =>
       simp only[Den] at h2;obtain⟨b,ys,rfl,hy,_⟩:=h2;cases rx;cases ry;obtain⟨its,_,p,_⟩:=I.list hy;exact SeqAt.EqAt.bool_list _ p.isList hu'
     | _=>simp only[Den] at h2;subst h2;exact jn rx ry rfl rfl
   | int i =>
     simp only[Den] at h1;subst h1;cases e with
     | tup es =>
       simp only[Den] at h2;obtain⟨b,ys,rfl,hy,_⟩:=h2;obtain⟨t,rfl⟩:=rx;cases ry;obtain⟨its,_,p,_⟩:=I.tuple hy;exact SeqAt.EqAt.int_tuple _ _ p hu'
     | lst es =>
       simp only[Den] at h2;obtain⟨b,ys,rfl,hy,_⟩:=h2;obtain⟨t,rfl⟩:=rx;cases ry;obtain⟨its,_,p,_⟩:=I.list hy;exact SeqAt.EqAt.int_list _ _ p.isList hu'
     | _=>simp only[Den] at h2;subst h2;exact jn rx ry rfl rfl
   | str i =>
     simp only[Den] at h1;subst h1;cases e with
     | tup es =>
       simp only[Den] at h2;obtain⟨b,ys,rfl,hy,_⟩:=h2;obtain⟨t,rfl⟩:=rx;cases ry;obtain⟨its,_,p,_⟩:=I.tuple hy;exact SeqAt.EqAt.str_tuple _ _ p hu'
     | lst es =>
       simp only[Den] at h2;obtain⟨b,ys,rfl,hy,_⟩:=h2;obtain⟨t,rfl⟩:=rx;cases ry;obtain⟨its,_,p,_⟩:=I.list hy;exact SeqAt.EqAt.str_list _ _ p.isList hu'
     | _=>simp only[Den] at h2;subst h2;exact jn rx ry rfl rfl
 | succ n ih =>
   intro A d e x y u v hd hu h1 h2 rx ry;have hu':A.units<cLine:=by lia
   by_cases hle:Xx d<=n;exact ih A d e x y u v hle (by lia) h1 h2 rx ry;cases d with
   | tup ds =>
     simp only[Xx] at hd;have h1':=h1;simp only[Den] at h1;obtain⟨a,xs,rfl,hx,hds⟩:=h1;cases rx;have hT:=I.tuple hx;obtain⟨its,r1,p1,_⟩:=hT;cases e with
     | tup es =>
       have h2':=h2;simp only[Den] at h2;obtain⟨b,ys,rfl,hy,hes⟩:=h2;cases ry;by_cases hab:a=b;subst hab;rw[Den.inj I h1' h2',ud];exact SeqAt.EqAt.same _;simp only[uZ];exact SeqAt.EqAt.of_refs hab (jD I n ih (by lia) (by lia) hx hy hds hes).1
     | lst es =>
       simp only[Den] at h2;obtain⟨b,ys,rfl,hy,_⟩:=h2;cases ry;obtain⟨its',_,p,_⟩:=I.list hy;exact SeqAt.EqAt.tuple_list p1 p.isList hu'
     | Zr=>simp only[Den] at h2;subst h2;cases ry;exact SeqAt.EqAt.tuple_none p1 hu'
     | bl i=>simp only[Den] at h2;subst h2;cases ry;exact SeqAt.EqAt.tuple_bool _ p1 hu'
     | int i=>simp only[Den] at h2;subst h2;obtain⟨t,rfl⟩:=ry;exact SeqAt.EqAt.tuple_int _ _ p1 hu'
     | str i=>simp only[Den] at h2;subst h2;obtain⟨t,rfl⟩:=ry;exact SeqAt.EqAt.tuple_str _ _ p1 hu'
   | lst ds =>
     simp only[Xx] at hd;have h1':=h1;simp only[Den] at h1;obtain⟨a,xs,rfl,hx,hds⟩:=h1;cases rx;have hT:=I.list hx;obtain⟨its,r1,p1,_⟩:=hT;cases e with
     | lst es =>
       have h2':=h2;simp only[Den] at h2;obtain⟨b,ys,rfl,hy,hes⟩:=h2;cases ry;by_cases hab:a=b;subst hab;rw[Den.inj I h1' h2',ud];exact SeqAt.EqAt.same _;simp only[uZ];exact SeqAt.EqAt.of_refs hab (jt I n ih (by lia) (by lia) hx hy hds hes).1
     | tup es =>
       simp only[Den] at h2;obtain⟨b,ys,rfl,hy,_⟩:=h2;cases ry;obtain⟨its',_,p,_⟩:=I.tuple hy;exact SeqAt.EqAt.list_tuple p1.isList p hu'
     | Zr=>simp only[Den] at h2;subst h2;cases ry;exact SeqAt.EqAt.list_none p1.isList hu'
     | bl i=>simp only[Den] at h2;subst h2;cases ry;exact SeqAt.EqAt.list_bool _ p1.isList hu'
     | int i=>simp only[Den] at h2;subst h2;obtain⟨t,rfl⟩:=ry;exact SeqAt.EqAt.list_int _ _ p1.isList hu'
     | str i=>simp only[Den] at h2;subst h2;obtain⟨t,rfl⟩:=ry;exact SeqAt.EqAt.list_str _ _ p1.isList hu'
   | _=>simp only[Xx] at hle;lia
def z9Z(K:PySem.W.Frag)(neg:Bool):R2:=fun x y H Q=>∃ a b xs ys ds es,x=.ref a/\y=.ref b/\((zX K H a xs/\zX K H b ys)\/(zQ K H a xs/\zQ K H b ys))/\Zg K H ds xs/\Zg K H es ys/\yl ds<=20/\
 Q (.bl (if neg then !Yr ds es else Yr ds es)) H
theorem Z0Z(hr:Zk k X.A):Y4 X (compareOp .Eq) (z9Z X.K false):=by
 intro pins s σ H x y v u Q I rx ry h;obtain⟨a,b,xs,ys,ds,es,rfl,rfl,hk,h1,h2,hd,q⟩:=h;cases rx;cases ry;have hu:=hr.units;rcases hk with⟨ha,hb⟩|⟨ha,hb⟩;exact (jD (A:=X.A) I 20 (uq I 20) hd (by lia) ha hb h1 h2).1 _ _ _ _ ⟨.bl _,H,I,rfl,q⟩;exact (jt (A:=X.A) I 20 (uq I 20) hd (by lia) ha hb h1 h2).1 _ _ _ _ ⟨.bl _,H,I,rfl,q⟩
theorem Jq(hr:Zk k X.A):Y4 X (compareOp .NotEq) (z9Z X.K true):=by
 intro pins s σ H x y v u Q I rx ry h;obtain⟨a,b,xs,ys,ds,es,rfl,rfl,hk,h1,h2,hd,q⟩:=h;cases rx;cases ry;have hu:=hr.units;rcases hk with⟨ha,hb⟩|⟨ha,hb⟩;exact (jD (A:=X.A) I 20 (uq I 20) hd (by lia) ha hb h1 h2).2 _ _ _ _ ⟨.bl _,H,I,rfl,q⟩;exact (jt (A:=X.A) I 20 (uq I 20) hd (by lia) ha hb h1 h2).2 _ _ _ _ ⟨.bl _,H,I,rfl,q⟩
def Z4K(K:PySem.W.Frag):List V->Hp->VK->Prop:=fun xs H Q=>∃ x T t b,xs=[x,.ty T]/\Q0 K H x t/\PySem.W.kitOne K t (.type T)=some b/\Q (.bl b) H
theorem uo:ZG X (.builtin "isinstance") (Z4K X.K):=by
 intro pins s σ H xs us Q I r h;obtain⟨x,T,t,b,rfl,ty,e,q⟩:=h;obtain⟨u,w',rfl,ru,rw'⟩:=vals2 r;cases rw';exact z5i I ru ty e fun tk=>⟨.bl b,H,I.tok tk,rfl,q⟩
theorem Z1Z(K:PySem.W.Frag):PySem.W.kitOne K (.type "tuple") (.type "tuple")=some true:=rfl
theorem Z2E(K:PySem.W.Frag):PySem.W.kitOne K (.type "int") (.type "int")=some true:=by rfl
theorem Z1R(K:PySem.W.Frag):PySem.W.kitOne K (.type "int") (.type "bool")=some false:=by rfl
end L2
namespace Pw
def mk(a b:Int):Int×Int:=if b<0 then (a.fdiv (-(Int.gcd a b:Int)),b.fdiv (-(Int.gcd a b:Int))) else (a.fdiv (Int.gcd a b:Int),b.fdiv (Int.gcd a b:Int))
def Canon(p:Int×Int):Prop:=0<p.2/\Int.gcd p.1 p.2=1
theorem z9v(h:b≠0):0<(Int.gcd a b:Int):=by
 have:0<Int.gcd a b:=Nat.pos_of_ne_zero fun z=>h (Int.gcd_eq_zero_iff.mp z).2;lia
theorem YS{k m n:Int}(h:k∣m * n)(c:Int.gcd m k=1):k∣n:=by
 have h1:k.natAbs∣m.natAbs * n.natAbs:=by rw[← Int.natAbs_mul];exact Int.natAbs_dvd_natAbs.mpr h
 have h2:Nat.Coprime k.natAbs m.natAbs:=by
  show Nat.gcd _ _=1;rw[Nat.gcd_comm];exact c
 exact Int.natAbs_dvd_natAbs.mp (Nat.Coprime.dvd_of_dvd_mul_left h2 h1)
theorem Xs(h:b≠0):Canon (mk a b)/\(mk a b).1 * b=a * (mk a b).2:=by
 have hg:=z9v (a:=a) h;obtain⟨x,hx⟩:((Int.gcd a b:Nat):Int)∣a:=Int.gcd_dvd_left ..;obtain⟨y,hy⟩:((Int.gcd a b:Nat):Int)∣b:=Int.gcd_dvd_right ..;generalize hG:(Int.gcd a b:Int)=g at *;have hgn:g≠0:=by lia
 have cop:Int.gcd x y=1:=by
  have h1:Int.gcd a b=Int.gcd (g * x) (g * y):=by rw[← hx,← hy]
  rw[Int.gcd_mul_left] at h1;have h2:(g.natAbs:Int)=g:=by lia
  have h3:(Int.gcd a b:Int)=g.natAbs:=by rw[hG,h2]
  have h4:Int.gcd a b=g.natAbs:=by lia
  have h5:g.natAbs * Int.gcd x y=g.natAbs * 1:=by rw[← h1,h4];simp
  exact Nat.eq_of_mul_eq_mul_left (by lia) h5
 have e1:a.fdiv g=x:=by rw[hx];exact Int.mul_fdiv_cancel_left _ hgn
 have e2:b.fdiv g=y:=by rw[hy];exact Int.mul_fdiv_cancel_left _ hgn
 have e3:a.fdiv (-g)=-x:=by
  have:a=(-g) * (-x):=by rw[Int.neg_mul_neg];exact hx
  rw[this];exact Int.mul_fdiv_cancel_left _ (by lia)
 have e4:b.fdiv (-g)=-y:=by
  have:b=(-g) * (-y):=by rw[Int.neg_mul_neg];exact hy
  rw[this];exact Int.mul_fdiv_cancel_left _ (by lia)
 unfold mk;rw[hG];by_cases hb:b<0;rw[if_pos hb,e3,e4];have hy0:y<0:=by
  refine Int.not_le.mp fun hy0=>?_;have:=Z4m (Z44 hg) hy0;lia
 refine⟨⟨by show 0 < -y;lia,by show Int.gcd (-x) (-y)=1;rw[Int.neg_gcd,Int.gcd_neg];exact cop⟩,?_⟩;show -x * b=a * -y;rw[hx,hy];grind;rw[if_neg hb,e1,e2];have hy0:0<y:=by
  refine Int.not_le.mp fun hy0=>?_;have:=Z4m (Z44 hg) (show 0<=-y by lia);rw[Int.mul_neg,← hy] at this;lia
 refine⟨⟨hy0,cop⟩,?_⟩;show x * b=a * y;rw[hx,hy];grind
theorem Ql(hp:Canon p)(hq:Canon q)(h:p.1 * q.2=q.1 * p.2):p=q:=by
 obtain⟨p1,p2⟩:=p;obtain⟨q1,q2⟩:=q;obtain⟨a1,a2⟩:=hp;obtain⟨b1,b2⟩:=hq;simp only at *;have d1:p2∣q2:=by
  have:p2∣p1 * q2:=⟨q1,by rw[h];grind⟩;exact YS this a2
 have d2:q2∣p2:=by
  have:q2∣q1 * p2:=⟨p1,by rw[← h];grind⟩;exact YS this b2
 have e:p2=q2:=Int.dvd_antisymm (by lia) (by lia) d1 d2;subst e;have:p1=q1:=Int.eq_of_mul_eq_mul_right (by lia) h;rw[this]
theorem z9O(h:b≠0)(hp:Canon p)(hw:p.1 * b=a * p.2):mk a b=p:=by
 obtain⟨c,w⟩:=Xs (a:=a) h;refine Ql c hp (Int.eq_of_mul_eq_mul_right h ?_);grind
theorem JU(h:Canon p):mk p.1 p.2=p:=z9O (by have:=h.1;lia) h (by grind)
theorem mk_le(h:b≠0):(mk a b).1.natAbs<=a.natAbs/\(mk a b).2.natAbs<=b.natAbs:=by
 obtain⟨⟨c1,c2⟩,w⟩:=Xs (a:=a) h;generalize mk a b=p at *;obtain⟨x,y⟩:=p;simp only at *;have d1:y∣b:=by
  have:y∣x * b:=⟨a,by rw[w];grind⟩;exact YS this c2
 have d2:x∣a:=by
  have:x∣y * a:=⟨b,by rw[w];grind⟩;exact YS this (by rw[Int.gcd_comm];exact c2)
 refine⟨?_,Nat.le_of_dvd (by lia) (Int.natAbs_dvd_natAbs.mpr d1)⟩;by_cases ha:a=0;subst ha;have:x * b=0:=by rw[w,Int.zero_mul]
 rcases Int.mul_eq_zero.mp this with z | z;rw[z];simp;exact absurd z h;exact Nat.le_of_dvd (by lia) (Int.natAbs_dvd_natAbs.mpr d2)
theorem uC(hx:0<=x)(hy:0<y):Int.gcd y (x % y)=Int.gcd x y:=by
 obtain⟨m,rfl⟩:=Z50 hx;obtain⟨n,rfl⟩:=Z50 (Z44 hy);show Nat.gcd n (((m:Int) % (n:Int)).natAbs)=Nat.gcd m n;have e:((m:Int) % (n:Int)).natAbs=m % n:=by rw[← Int.natCast_emod,Int.natAbs_natCast]
 rw[e,Nat.gcd_comm m n,Nat.gcd_comm n (m % n),← Nat.gcd_rec]
end Pw
namespace L2
theorem yL{b:Bool}{A B:Prop}(e:b=true)(a:A):if b=true then A else B:=by rw[if_pos e];exact a
theorem ZN{b:Bool}{A B:Prop}(e:b=false)(h:B):if b=true then A else B:=by rw[e];exact Z3V h
theorem if2{b:Bool}{A B:Prop}(h1:b=true->A)(h2:b=false->B):if b=true then A else B:=by
 cases b with
 | true=>exact Z4U (h1 rfl)
 | false=>exact Z3V (h2 rfl)
theorem vne(h:i≠j):(!decide (V.int i=V.int j))=true:=by
 rw[decide_eq_false (fun z=>h (V.int.inj z))];rfl
theorem veq(h:i=j):(!decide (V.int i=V.int j))=false:=by
 rw[decide_eq_true (congrArg V.int h)];rfl
theorem Zd(n:Nat)(h:k.natAbs<2 ^ n)(l:n<=m:=by decide):Sz m k:=Sz.mono h l
def Wt(Pv:Nat->List V->St->Hp->Prop)(n:Nat):Nat->Nat->List V->St->Hp->Prop:=fun i m ys σ H=>m=n - i/\i<=n/\Pv i ys σ H
theorem Wt.next(h:i<n)(p:Pv (i+1) ys σ H):∃ m',m'<n - i/\Wt Pv n (i+1) m' ys σ H:=⟨n - (i+1),by lia,rfl,h,p⟩
theorem Yn(Pv:Nat->List V->St->Hp->Prop)(h0:Pv 0 [] σ0 H0)(hl:∀ i ys σ H,Pv i ys σ H->zX K H a xs/\H D=some (.lst ys))(hs:∀ i x ys σ H,xs[i]?=some x->i<xs.length->Pv i ys σ H->g x σ H fun σ3 H3=>tt σ3 H3 fun b H4=>if b=true then
  te σ3 H4 fun y H5=>H5 D=some (.lst ys)/\ys.length<sizeLine/\∃ m',m'<xs.length - i/\Wt Pv xs.length (i+1) m' (ys ++ [y]) σ3 (upd H5 D (.lst (ys ++ [y]))) else ∃ m',m'<xs.length - i/\Wt Pv xs.length (i+1) m' ys σ3 H4)(hd:∀ ys σ H,Pv xs.length ys σ H->Q (.ref D) H) :
 XI (Itt K a) D g tt te Q σ0 H0:=by
 refine⟨Wt Pv xs.length,⟨xs.length,rfl,Z18 _,h0⟩,?_⟩;rintro i m ys σ' H' ⟨rfl,hi,p⟩;obtain⟨hq,hD⟩:=hl i ys σ' H' p;refine⟨hD,?_⟩;by_cases hlt:i<xs.length;refine .inr ⟨⟨xs,xs[i],hq,by simp[hlt]⟩,fun x H2 y=>?_⟩;obtain⟨e,y⟩:=y;subst e;exact hs i x ys σ' _ (y xs hq) hlt p;have e:i=xs.length:=by lia
 subst e;exact .inl ⟨⟨xs,hq,Z03 _⟩,hd ys σ' H' p⟩
theorem Z0(Pv:Nat->List V->St->Hp->Prop)(h0:Pv 0 [] σ0 H0)(hl:∀ i ys σ H,Pv i ys σ H->zQ K H a xs/\H D=some (.lst ys))(hs:∀ i x ys σ H,xs[i]?=some x->i<xs.length->Pv i ys σ H->g x σ H fun σ3 H3=>tt σ3 H3 fun b H4=>if b=true then
  te σ3 H4 fun y H5=>H5 D=some (.lst ys)/\ys.length<sizeLine/\∃ m',m'<xs.length - i/\Wt Pv xs.length (i+1) m' (ys ++ [y]) σ3 (upd H5 D (.lst (ys ++ [y]))) else ∃ m',m'<xs.length - i/\Wt Pv xs.length (i+1) m' ys σ3 H4)(hd:∀ ys σ H,Pv xs.length ys σ H->Q (.ref D) H) :
 XI (Itl K a) D g tt te Q σ0 H0:=by
 refine⟨Wt Pv xs.length,⟨xs.length,rfl,Z18 _,h0⟩,?_⟩;rintro i m ys σ' H' ⟨rfl,hi,p⟩;obtain⟨hq,hD⟩:=hl i ys σ' H' p;refine⟨hD,?_⟩;by_cases hlt:i<xs.length;refine .inr ⟨⟨xs,xs[i],hq,by simp[hlt]⟩,fun x H2 y=>?_⟩;obtain⟨e,y⟩:=y;subst e;exact hs i x ys σ' _ (y xs hq) hlt p;have e:i=xs.length:=by lia
 subst e;exact .inl ⟨⟨xs,hq,Z03 _⟩,hd ys σ' H' p⟩
theorem V5(e:X.K=K):IxR X (Z2U K):=e ▸ zK
theorem z4m(e:X.K=K):IxR X (Z3o K):=e ▸ zF
theorem yV(K:PySem.W.Frag)(H:Hp):∀ ns:List Int,Zg K H (ns.map Dt.int) (ns.map V.int)
 | []=>by simp only[Z42,Zg]
 | n :: ns=>by
   simp only[Z1y,Zg];exact⟨_,_,rfl,by simp only[Den],yV K H ns⟩
theorem VW:∀ ns:List Int,yl (ns.map Dt.int)=0
 | []=>rfl
 | n :: ns=>by simp only[Z1y,yl,Xx,VW ns];rfl
theorem Ux:∀ ns ms:List Int,Yr (ns.map Dt.int) (ms.map Dt.int)=decide (ns=ms)
 | [],[]=>rfl
 | [],_ :: _=>rfl
 | _ :: _,[]=>rfl
 | n :: ns,m :: ms=>by
   simp only[Z1y,Yr,uZ];rw[Ux ns ms];by_cases h:n=m;subst h;simp;simp[h]
theorem z0O(K:PySem.W.Frag)(H:Hp)(x y:Int):Zg K H [Dt.int x,Dt.int y] [V.int x,V.int y]:=yV K H [x,y]
theorem Z4P(x y:Int):yl [Dt.int x,Dt.int y]<=20:=by simp only[yl,Xx];decide
theorem z7B(x y z u:Int):Yr [Dt.int x,Dt.int y] [Dt.int z,Dt.int u]=decide ((x,y)=(z,u)):=by
 rw[show ([Dt.int x,Dt.int y]:List Dt)=[x,y].map Dt.int from rfl,show ([Dt.int z,Dt.int u]:List Dt)=[z,u].map Dt.int from rfl,Ux];simp
def Kp(p:Addr)(H H':Hp):Prop:=∀ b o,H b=some o->b≠p->H' b=some o
theorem Kp.trans(a:Kp p H H1)(b:Kp p H1 H2):Kp p H H2:=fun c o h n=>b c o (a c o h n) n
theorem Kp.new(hq:H q=none):Kp p H (upd H q o):=fun b u h _=>by rw[zD (zo h hq)];exact h
theorem Kp.set:Kp p H (upd H p o):=fun b u h n=>by rw[zD n];exact h
theorem zC.kp(k:zC H H1):Kp p H H1:=fun b o e _=>k b o e
theorem zC.new(hq:H q=none):zC H (upd H q o):=fun b u h=>by rw[zD (zo h hq)];exact h
theorem zC.YT(e:zC H H')(h:zX K H a xs):zX K H' a xs:=by
 rcases h with (h |⟨o,h⟩) | h;exact .inl (.inl (e _ _ h));exact .inl (.inr ⟨o,e _ _ h⟩);exact .inr h
def YU:Sp:=fun vs H Q _=>∃ x y:Int,vs=[.int x,.int y]/\0<=x/\0<=y/\Q (.int (Int.gcd x y:Int)) H
def Z1x:Sp:=fun vs H Q _=>∃ x y:Int,vs=[.int x,.int y]/\y≠0/\Sz 8000 x/\Sz 8000 y/\∀ p,H p=none->Q (.ref p) (upd H p (.tup [.int (Pw.mk x y).1,.int (Pw.mk x y).2]))
end L2
namespace Pw
def vC(p q:Int×Int):Int×Int:=mk (p.1 * q.2+q.1 * p.2) (p.2 * q.2)
def JH(p q:Int×Int):Int×Int:=mk (p.1 * q.2 - q.1 * p.2) (p.2 * q.2)
def xV(p q:Int×Int):Int×Int:=mk (p.1 * q.1) (p.2 * q.2)
structure Fr(A:Int×Int)(n d:Int):Prop where
 canon:Canon A
 ne:d≠0
 w:A.1 * d=n * A.2
theorem Fr.pos{n:Int}(h:Fr A n d):A.2≠0:=by have:=h.canon.1;lia
theorem Fr.made{n:Int}(h:d≠0):Fr (Pw.mk n d) n d:=⟨(Xs h).1,h,(Xs h).2⟩
theorem Fr.of(h:Canon A):Fr A A.1 A.2:=⟨h,by have:=h.1;lia,rfl⟩
end Pw
namespace L2
def Z4y(t u:TS):TS:=fun D σ H=>∃ R:St->Hp->Prop,t { D with nx:=R } σ H/\∀ σ' H',R σ' H'->u D σ' H'
theorem z9d{X:Cx}{st:Stmt}{rest:List Stmt}{t u:TS}(h1:PS X st t)(h2:QW X rest u):QW X (st :: rest) (Z4y t u):=by
 intro pins s σ H D I h;obtain⟨R,h,hR⟩:=h;refine wpAny_execs_cons (Zj (h1 pins s σ H { D with nx:=R } I h) fun f s1 q=>?_);cases f with
 | next =>
   obtain⟨σ',H',I',q⟩:=q;exact h2 pins s1 σ' H' D I' (hR σ' H' q)
 | ret v=>exact q
 | brk=>exact q
 | cont=>exact q
def Z0G(t:TA):TE:=fun σ H Q=>t σ H fun xs H1=>xs.length<=sizeLine/\∀ (p:Addr) (H':Hp),zC H1 H'->H1 p=none->H' p=some (.tup xs)->Q (.ref p) H'
def Z0q(t:TA):TE:=fun σ H Q=>t σ H fun xs H1=>xs.length<=sizeLine/\∀ (p:Addr) (H':Hp),zC H1 H'->H1 p=none->H' p=some (.lst xs)->Q (.ref p) H'
theorem Xu{X:Cx}{es:List Expr}{t:TA}{pos:Pos}{x1}(h:PA X es t):PE X (.Tuple es x1 pos) (Z0G t):=by
 intro pins s σ H Q I hq;refine wpAny_Tuple_spliced (Zj (h pos pins s σ H _ I hq) fun us s1 ⟨xs,H1,I1,r,z,q⟩=>⟨by rw[← r.length];exact z,?_⟩);have hf:H1 s1.heap.objs.size=none:=I1.hok.fresh (Z03 _);refine⟨.ref s1.heap.objs.size,upd H1 s1.heap.objs.size (.tup xs),I1.laid (t':=s1.toks) (fun b u e=>Z00 _ e) (Z03 _) ?_,rfl,q _ _ (zC.new hf) hf zh⟩;exact⟨z,us,r,⟨_,Z08 _ rfl,rfl,_,rfl⟩⟩
theorem z3J{X:Cx}{es:List Expr}{t:TA}{pos:Pos}(h:PA X es t):PE X (.List es pos) (Z0q t):=by
 intro pins s σ H Q I hq;refine wpAny_List_spliced (Zj (h pos pins s σ H _ I hq) fun us s1 ⟨xs,H1,I1,r,z,q⟩=>⟨by rw[← r.length];exact z,?_⟩);have hf:H1 s1.heap.objs.size=none:=I1.hok.fresh (Z03 _);refine⟨.ref s1.heap.objs.size,upd H1 s1.heap.objs.size (.lst xs),I1.laid (t':=s1.toks) (fun b u e=>Z00 _ e) (Z03 _) ?_,rfl,q _ _ (zC.new hf) hf zh⟩;exact⟨z,us,0,r,Z08 _ rfl⟩
def yc(n:Nat)(A:Int×Int):Prop:=Sz n A.1/\Sz n A.2
theorem yc.mono(h:yc n A)(l:n<=m):yc m A:=⟨h.1.mono l,h.2.mono l⟩
theorem U3(hy:y≠0)(sx:Sz n x)(sy:Sz n y):yc n (Pw.mk x y) :=
 ⟨Z29 (Pw.mk_le hy).1 sx,Z29 (Pw.mk_le hy).2 sy⟩
theorem z5L(a:yc n A)(b:yc m B)(ha:A.2≠0)(hb:B.2≠0):yc (n+m+1) (Pw.vC A B) :=
 U3 (Z34 ha hb) ((a.1.mul b.2).add ((b.1.mul a.2).mono (by lia))) ((a.2.mul b.2).mono (by lia))
theorem z7i(a:yc n A)(b:yc m B)(ha:A.2≠0)(hb:B.2≠0):yc (n+m+1) (Pw.JH A B) :=
 U3 (Z34 ha hb) ((a.1.mul b.2).sub ((b.1.mul a.2).mono (by lia))) ((a.2.mul b.2).mono (by lia))
theorem UM(a:yc n A)(b:yc m B)(ha:A.2≠0)(hb:B.2≠0):yc (n+m+1) (Pw.xV A B) :=
 U3 (Z34 ha hb) ((a.1.mul b.1).mono (by lia)) ((a.2.mul b.2).mono (by lia))
abbrev XC(_:PySem.W.Frag)(H:Hp)(p:Addr)(A:Int×Int):Prop:=H p=some (.tup [.int A.1,.int A.2])
def z1L(K:PySem.W.Frag):Sp:=fun vs H Q _=>∃ (p q:Addr) (A B:Int×Int),vs=[.ref p,.ref q]/\XC K H p A/\XC K H q B/\yc 3000 A/\yc 3000 B/\Q (.bl (decide (A.1 * B.2<B.1 * A.2))) H
theorem neF(h1:XC K H p A)(h2:XC K H q B)(k:Q (.bl (!decide (A=B))) H):z9Z K true (.ref p) (.ref q) H Q :=
 ⟨p,q,_,_,_,_,rfl,rfl,.inl ⟨zX.of h1,zX.of h2⟩,z0O _ _ _ _,z0O _ _ _ _,Z4P _ _,by rw[if_pos rfl,z7B];exact k⟩
end L2
namespace Srt
def run{α:Type}(lt:Nat->Nat->Bool):KasT α->α
 | .ret a=>a
 | .ask i j k=>run lt (k (lt i j))
theorem run_bind{α β:Type}(lt:Nat->Nat->Bool)(f:α->KasT β):∀ t:KasT α,run lt (t.bind f)=run lt (f (run lt t))
 | .ret _=>rfl
 | .ask i j k=>by
   show run lt ((k (lt i j)).bind f)=_;rw[run_bind lt f (k (lt i j))];rfl
def e(p:Array Nat)(k:Nat):Nat:=p.getD k 0
theorem z5M(h:p[i]?=q[k]?):e p i=e q k:=by
 have h1:p.getD i 0=(p[i]?).getD 0:=by simp[Array.getD_eq_getD_getElem?]
 have h2:q.getD k 0=(q[k]?).getD 0:=by simp[Array.getD_eq_getD_getElem?]
 show p.getD i 0=q.getD k 0;rw[h1,h2,h]
theorem Z6(hj:j<=p.size)(h1:i<=k)(h2:k<j):e (kas_rev p i j) k=e p (i+j - 1 - k):=by
 unfold kas_rev;refine z5M ?_;rw[getElem?_mirror hj ((j - i) / 2) (by lia) k];split;rfl;rename_i h;have:i+j - 1 - k=k:=by lia
 rw[this]
theorem yw(hj:j<=p.size)(h:k<i\/j<=k):e (kas_rev p i j) k=e p k:=by
 unfold kas_rev;refine z5M ?_;rw[getElem?_mirror hj ((j - i) / 2) (by lia) k];split;lia;rfl
theorem z3T(hk:k<p.size)(hl:l<=k):e (bubble p k (k - l)) i=if i=l then e p k else if l<i/\i<=k then e p (i - 1) else e p i:=by
 have h:=getElem?_bubble hk (k - l) (by lia) i;have h3:k - (k - l)=l:=by lia
 rw[h3] at h;split;rename_i hi;rw[if_pos hi] at h;exact z5M h;rename_i hi;rw[if_neg hi] at h;split;rename_i h2;rw[if_pos h2] at h;exact z5M h;rename_i h2;rw[if_neg h2] at h;exact z5M h
theorem xP(p:Array Nat)(i j:Nat):(kas_rev p i j).size=p.size:=mirror_size _ _ _ _
theorem yG(p:Array Nat)(i j:Nat):(kas_rev p i j).Perm p:=mirror_perm _ _ _ _
structure Ord(lt:Nat->Nat->Bool):Prop where
 asym:∀ i j,lt i j=true->lt j i=false
 trans:∀ i j k,lt j i=false->lt k j=false->lt k i=false
section
variable{lt:Nat->Nat->Bool}(O:Ord lt)
def Up(lt:Nat->Nat->Bool)(p:Array Nat)(b:Nat):Prop:=∀ k,1<=k->k<b->lt (e p k) (e p (k - 1))=false
def Alike(lt:Nat->Nat->Bool)(p:Array Nat)(a b:Nat):Prop:=∀ i j,a<=i->i<b->a<=j->j<b->lt (e p i) (e p j)=false
include O
theorem irr(i:Nat):lt i i=false:=by
 cases h:lt i i with
 | false=>rfl
 | true=>rw[O.asym i i h] at h;cases h
theorem Up.pair(h:Up lt p b):∀ d i,i+d<b->lt (e p (i+d)) (e p i)=false
 | 0,i,_=>irr O _
 | d+1,i,hb=>O.trans _ _ _ (Up.pair h d i (by lia)) (by
     have:=h (i+(d+1)) (by lia) hb;rw[show i+(d+1) - 1=i+d by lia] at this;exact this)
theorem Up.le(h:Up lt p b)(hij:i<=j)(hj:j<b):lt (e p j) (e p i)=false:=by
 have:=Up.pair O h (j - i) i (by lia);rw[show i+(j - i)=j by lia] at this;exact this
theorem z2v:∀ (f n:Nat),1<=n->Up lt p n->n<=run lt (kas_asc p f n)/\run lt (kas_asc p f n)<=n+f/\Up lt p (run lt (kas_asc p f n))/\(run lt (kas_asc p f n)<n+f->lt (e p (run lt (kas_asc p f n))) (e p (run lt (kas_asc p f n) - 1))=true)
 | 0,n,h1,h=>⟨Z03 _,Z03 _,h,fun z=>absurd z (Z2N _)⟩
 | f+1,n,h1,h=>by
   have er:run lt (kas_asc p (f+1) n)=run lt (if lt (e p n) (e p (n - 1))=true then KasT.ret n else kas_asc p f (n+1)):=rfl;cases c:lt (e p n) (e p (n - 1)) with
   | true =>
     rw[er,c,if_pos rfl];exact⟨Z03 _,Z59 _ _,h,fun _=>c⟩
   | false =>
     rw[er,c,if_neg Z10];obtain⟨a1,a2,a3,a4⟩:=z2v (p:=p) f (n+1) (by lia) (fun k k1 k2=>by
      by_cases hk:k<n;exact h k k1 hk;have:k=n:=(by lia);subst this;exact c)
     exact⟨by lia,by lia,a3,fun z=>a4 (by lia)⟩
theorem uv(h:Up lt p k):∀ (f l r:Nat),r<=l+f->l<=r->r<=k->(∀ i,i<l->lt (e p k) (e p i)=false)->(∀ i,r<=i->i<k->lt (e p k) (e p i)=true)->
 run lt (kas_place p k f l r)<=k/\(∀ i,i<run lt (kas_place p k f l r)->lt (e p k) (e p i)=false)/\(∀ i,run lt (kas_place p k f l r)<=i->i<k->lt (e p k) (e p i)=true)
 | 0,l,r,h1,h2,h3,h4,h5=>by
   have:r=l:=by lia
   subst this;exact⟨h3,h4,h5⟩
 | f+1,l,r,h1,h2,h3,h4,h5=>by
   have er:run lt (kas_place p k (f+1) l r)=run lt (if l ≥ r then KasT.ret l else KasT.ask (e p k) (e p ((l+r) / 2)) fun c=>if c=true then kas_place p k f l ((l+r) / 2) else kas_place p k f ((l+r) / 2+1) r):=rfl;rw[er];by_cases hlr:l ≥ r;rw[if_pos hlr];have:r=l:=by lia
   subst this;exact⟨h3,h4,h5⟩;rw[if_neg hlr];have er2:run lt (KasT.ask (e p k) (e p ((l+r) / 2)) fun c=>if c=true then kas_place p k f l ((l+r) / 2) else kas_place p k f ((l+r) / 2+1) r)=run lt (if lt (e p k) (e p ((l+r) / 2))=true then kas_place p k f l ((l+r) / 2) else kas_place p k f ((l+r) / 2+1) r):=rfl;rw[er2];cases c:lt (e p k) (e p ((l+r) / 2)) with
   | true =>
     rw[if_pos rfl];refine uv h f l ((l+r) / 2) (by lia) (by lia) (by lia) h4 fun i i1 i2=>?_;cases d:lt (e p k) (e p i) with
     | true=>rfl
     | false =>
       have:=O.trans _ _ _ (Up.le O h i1 i2) d;rw[c] at this;cases this
   | false =>
     rw[if_neg Z10];refine uv h f ((l+r) / 2+1) r (by lia) (by lia) h3 (fun i i1=>?_) h5;exact O.trans _ _ _ (Up.le O h (show i<=(l+r) / 2 by lia) (by lia)) c
end
def Ls(lt:Nat->Nat->Bool)(i j:Nat):Prop:=lt i j=false/\(lt j i=true\/j<=i)
def UpS(lt:Nat->Nat->Bool)(p:Array Nat)(b:Nat):Prop:=∀ k,1<=k->k<b->Ls lt (e p k) (e p (k - 1))
def Qt(lt:Nat->Nat->Bool)(p:Array Nat)(b:Nat):Prop:=∀ k,1<=k->k<b->Ls lt (e p (k - 1)) (e p k)
structure Pf(p:Array Nat)(k:Nat):Prop where
 lo:∀ i,i<k->e p i<k
 hi:∀ i,k<=i->i<p.size->e p i=i
theorem Pf.range(h:k<=n):Pf (List.toArray (List.range n)) k:=by
 have he:∀ i,i<n->e (List.toArray (List.range n)) i=i:=fun i hi=>by
  unfold e;rw[Array.getD_eq_getD_getElem?];simp[hi]
 refine⟨fun i hi=>?_,fun i _ hi=>he i (by simpa using hi)⟩;rw[he i (by lia)];exact hi
theorem Pf.mono(h:Pf p k)(hk:k<=m)(hm:m<=p.size):Pf p m:=⟨fun i hi=>by
 by_cases c:i<k;have:=h.lo i c;lia;rw[h.hi i (by lia) (by lia)];exact hi,fun i h1 h2=>h.hi i (by lia) h2⟩
theorem Pf.rev(h:Pf p k)(hb:b<=k)(hk:k<=p.size):Pf (kas_rev p a b) k:=⟨fun i hi=>by
 by_cases c:a<=i/\i<b;rw[Z6 (by lia) c.1 c.2];exact h.lo _ (by lia);rw[yw (by lia) (by lia)];exact h.lo i hi,fun i h1 h2=>by
 rw[xP] at h2;rw[yw (by lia) (by lia)];exact h.hi i h1 h2⟩
section
variable{lt:Nat->Nat->Bool}(O:Ord lt)
theorem UpS.up(h:UpS lt p b):Up lt p b:=fun k k1 k2=>(h k k1 k2).1
theorem UpS.ext(pf:Pf p n)(hm:m<=p.size)(h0:UpS lt p n)(h:Up lt p m):UpS lt p m:=fun k k1 k2=>by
 by_cases c:k<n;exact h0 k k1 c;refine⟨h k k1 k2,.inr ?_⟩;have e1:=pf.hi k (by lia) (by lia);by_cases d:k - 1<n;have:=pf.lo (k - 1) d;lia;have:=pf.hi (k - 1) (by lia) (by lia);lia
theorem Qt.upS(hn:n<=p.size)(h:Qt lt p n):UpS lt (kas_rev p 0 n) n:=fun k k1 k2=>by
 rw[Z6 (k:=k) hn (Z18 _) k2,Z6 (k:=k - 1) hn (Z18 _) (by lia)];have:=h (0+n - 1 - (k - 1)) (by lia) (by lia);rw[show 0+n - 1 - (k - 1) - 1=0+n - 1 - k by lia] at this;exact this
include O
theorem blk(hz:n<=p.size)(hq:q+1<=n)(hd:Qt lt p (n - q))(ha:Alike lt p (n - (q+1)) n)(hs:1<=n - (q+1)->lt (e p (n - (q+1))) (e p (n - (q+1) - 1))=true)(pf:Pf p (n - (q+1))) :
 Qt lt (kas_rev p (n - (q+1)) n) n:=fun k k1 k2=>by
 by_cases c:k<n - (q+1);rw[yw (k:=k) hz (by lia),yw (k:=k - 1) hz (by lia)];exact hd k k1 (by lia);by_cases d:k=n - (q+1);rw[yw (k:=k - 1) hz (by lia),Z6 (k:=k) hz (by lia) k2];have h1:=hs (by lia);rw[← d] at h1;have h2:=ha k (n - (q+1)+n - 1 - k) (by lia) k2 (by lia) (by lia);have h3:lt (e p (n - (q+1)+n - 1 - k)) (e p (k - 1))=true:=by
  cases hc:lt (e p (n - (q+1)+n - 1 - k)) (e p (k - 1)) with
  | true=>rfl
  | false =>
    have:=O.trans _ _ _ hc h2;rw[h1] at this;cases this
 exact⟨O.asym _ _ h3,.inl h3⟩;rw[Z6 (k:=k) hz (by lia) k2,Z6 (k:=k - 1) hz (by lia) (by lia)];refine⟨ha _ _ (by lia) (by lia) (by lia) (by lia),.inr ?_⟩;rw[pf.hi _ (by lia) (by lia),pf.hi _ (by lia) (by lia)];lia
def DI(lt:Nat->Nat->Bool)(p:Array Nat)(n q:Nat):Prop:=q+1<=n/\Qt lt p (n - q)/\Alike lt p (n - (q+1)) n/\(1<=n - (q+1)->lt (e p (n - (q+1))) (e p (n - (q+1) - 1))=true)/\Pf p (n - (q+1))
theorem DI.one(h:Qt lt p n)(c:lt (e p n) (e p (n - 1))=true)(pf:Pf p n):DI lt p (n+1) 0:=by
 refine⟨by lia,fun k k1 k2=>?_,fun i j i1 i2 j1 j2=>?_,fun _=>c,pf⟩;by_cases hk:k<n;exact h k k1 hk;have ek:k=n:=by lia
 subst ek;exact⟨O.asym _ _ c,.inl c⟩;have e1:i=n:=by lia
 have e2:j=n:=by lia
 subst e1 e2;exact irr O _
theorem z4b(h:lt a b=true)(g:lt c b=false):lt a c=true:=by
 cases d:lt a c with
 | true=>rfl
 | false=>rw[O.trans _ _ _ g d] at h;cases h
theorem QE:∀ (f:Nat) (p:Array Nat) (n q:Nat),n+f<=p.size->DI lt p n q->∃ r,run lt (kas_desc f p n q)=r/\r.1.Perm p/\n<=r.2.1/\r.2.1<=n+f/\DI lt r.1 r.2.1 r.2.2
 | 0,p,n,q,_,h=>⟨_,rfl,Array.Perm.refl _,Z03 _,Z03 _,h⟩
 | f+1,p,n,q,hz,h=>by
   obtain⟨hq,hd,ha,hs,pf⟩:=id h;have er:run lt (kas_desc (f+1) p n q)=run lt (if lt (e p n) (e p (n - 1))=true then (if q > 0 then kas_desc f (kas_rev p (n - (q+1)) n) (n+1) 0 else kas_desc f p (n+1) 0)
    else .ask (e p (n - 1)) (e p n) fun d=>if d=true then .ret (p,n,q) else kas_desc f p (n+1) (q+1)):=rfl
   cases c:lt (e p n) (e p (n - 1)) with
   | true =>
     rw[er,c,if_pos rfl];by_cases q0:q > 0;rw[if_pos q0];have hz':=xP p (n - (q+1)) n;have d1:=blk O (by lia) hq hd ha hs pf;have c':lt (e (kas_rev p (n - (q+1)) n) n) (e (kas_rev p (n - (q+1)) n) (n - 1))=true:=by
      rw[yw (k:=n) (by lia) (Or.inr (Z03 _)),Z6 (k:=n - 1) (by lia) (by lia) (by lia)];exact z4b O c (ha (n - (q+1)+n - 1 - (n - 1)) (n - 1) (by lia) (by lia) (by lia) (by lia))
     obtain⟨r,e1,e2,e3,e4,e5⟩:=QE f (kas_rev p (n - (q+1)) n) (n+1) 0 (by lia) (DI.one O d1 c' ((pf.mono (m:=n) (by lia) (by lia)).rev (Z03 _) (by lia)));exact⟨r,e1,e2.trans (yG ..),by lia,by lia,e5⟩;rw[if_neg q0];have eq:q=0:=(by lia);subst eq;obtain⟨r,e1,e2,e3,e4,e5⟩:=QE f p (n+1) 0 (by lia) (DI.one O hd c (pf.mono (by lia) (by lia)));exact⟨r,e1,e2,by lia,by lia,e5⟩
   | false =>
     rw[er,c,if_neg Z10];show ∃ r,run lt (if lt (e p (n - 1)) (e p n)=true then KasT.ret (p,n,q) else kas_desc f p (n+1) (q+1))=r/\_;cases c2:lt (e p (n - 1)) (e p n) with
     | true =>
       rw[if_pos rfl];exact⟨_,rfl,Array.Perm.refl _,Z03 _,Z59 _ _,h⟩
     | false =>
       rw[if_neg Z10];have al2:Alike lt p (n+1 - (q+1+1)) (n+1):=fun i j i1 i2 j1 j2=>by
        by_cases hi:i<n;by_cases hj:j<n;exact ha i j (by lia) hi (by lia) hj;have ej:j=n:=(by lia);subst ej;exact O.trans _ _ _ c2 (ha i (j - 1) (by lia) hi (by lia) (by lia));have ei:i=n:=(by lia);subst ei;by_cases hj:j<i;exact O.trans _ _ _ (ha (i - 1) j (by lia) (by lia) (by lia) hj) c;have ej:j=i:=(by lia);subst ej;exact irr O _
       have en:n+1 - (q+1+1)=n - (q+1):=(by lia);have en2:n+1 - (q+1)=n - q:=(by lia);obtain⟨r,e1,e2,e3,e4,e5⟩:=QE f p (n+1) (q+1) (by lia) ⟨by lia,by rw[en2];exact hd,al2,by rw[en];exact hs,by rw[en];exact pf⟩;exact⟨r,e1,e2,by lia,by lia,e5⟩
def RI(lt:Nat->Nat->Bool)(p:Array Nat)(m:Nat)(r:Nat×Array Nat):Prop:=r.2.Perm p/\1<=r.1/\r.1<=m/\UpS lt r.2 r.1/\Pf r.2 r.1
theorem jc(h1:1<=n)(hn:n<=m)(hz:m<=p.size)(h:Qt lt p n)(pf:Pf p n):RI lt p m (run lt (kas_tail3 n m p)):=by
 have er:run lt (kas_tail3 n m p)=(run lt (kas_asc (kas_rev p 0 n) (m - n) n),kas_rev p 0 n):=by
  unfold kas_tail3;rw[run_bind];rfl
 rw[er];have hs:=xP p 0 n;have u:=h.upS (by lia);obtain⟨a1,a2,a3,_⟩:=z2v O (p:=kas_rev p 0 n) (m - n) n h1 u.up;have pf':Pf (kas_rev p 0 n) n:=pf.rev (Z03 _) (by lia);have z:run lt (kas_asc (kas_rev p 0 n) (m - n) n)<=(kas_rev p 0 n).size:=by lia
 exact⟨yG ..,by show 1<=run lt _;lia,by show run lt _<=m;lia,UpS.ext pf' z u a3,pf'.mono a1 z⟩
theorem QD(hn:n+1<=m)(hz:m<=p.size)(h:Qt lt p n)(hs:lt (e p n) (e p (n - 1))=true)(pf:Pf p n):RI lt p m (run lt (kas_descPart n m p)):=by
 obtain⟨r,e1,e2,e3,e4,a5,c1,c2,c3,c4⟩:=QE O (m - (n+1)) p (n+1) 0 (by lia) (DI.one O h hs pf);have er:run lt (kas_descPart n m p)=run lt (if r.2.2 > 0 then kas_tail3 r.2.1 m (kas_rev r.1 (r.2.1 - (r.2.2+1)) r.2.1) else kas_tail3 r.2.1 m r.1):=by
  unfold kas_descPart;rw[run_bind,e1]
 rw[er];have z:=e2.size_eq;split;have hs':=xP r.1 (r.2.1 - (r.2.2+1)) r.2.1;obtain⟨b1,b2⟩:=jc O (n:=r.2.1) (m:=m) (by lia) (by lia) (by lia) (blk O (by lia) a5 c1 c2 c3 c4) ((c4.mono (m:=r.2.1) (by lia) (by lia)).rev (Z03 _) (by lia));exact⟨b1.trans ((yG ..).trans e2),b2⟩;have e0:r.2.2=0:=by lia
 rw[e0] at c1 c4;obtain⟨b1,b2⟩:=jc O (n:=r.2.1) (m:=m) (by lia) (by lia) (by lia) c1 (c4.mono (by lia) (by lia));exact⟨b1.trans e2,b2⟩
theorem z4z(h2:1<=m)(hz:m<=p.size)(pf:∀ k,k<=m->Pf p k):RI lt p m (run lt (kas_count m p)):=by
 obtain⟨a1,a2,a3,a4⟩:=z2v O (p:=p) (m - 1) 1 (Z03 _) (fun k k1 k2=>by lia);have er:run lt (kas_count m p)=run lt (if (run lt (kas_asc p (m - 1) 1) == m)=true then KasT.ret (run lt (kas_asc p (m - 1) 1),p) else if run lt (kas_asc p (m - 1) 1) > 1 then
  .ask (e p 0) (e p (run lt (kas_asc p (m - 1) 1) - 1)) fun c=>if c=true then .ret (run lt (kas_asc p (m - 1) 1),p) else kas_descPart (run lt (kas_asc p (m - 1) 1)) m (kas_rev p 0 (run lt (kas_asc p (m - 1) 1)))
  else kas_descPart (run lt (kas_asc p (m - 1) 1)) m p):=by
  unfold kas_count;rw[run_bind];rfl
 rw[er];generalize run lt (kas_asc p (m - 1) 1)=n at *;have un:UpS lt p n:=UpS.ext (pf 0 (by lia)) (by lia) (fun k _ k2=>absurd k2 (Z41 _)) a3;have pn:Pf p n:=pf n (by lia);have fin:RI lt p m (n,p):=⟨Array.Perm.refl _,a1,by show n<=m;lia,un,pn⟩;split;exact fin;rename_i hne;have hne':n≠m:=fun z=>hne (by simp[z]);have hlt:=a4 (by lia);split;show RI lt p m (run lt (if lt (e p 0) (e p (n - 1))=true then KasT.ret (n,p) else kas_descPart n m (kas_rev p 0 n)));cases c:lt (e p 0) (e p (n - 1)) with
 | true =>
   rw[if_pos rfl];exact fin
 | false =>
   rw[if_neg Z10];have al:Alike lt p 0 n:=fun i j _ i2 _ j2=>O.trans _ _ _ (O.trans _ _ _ (Up.le O a3 (show j<=n - 1 by lia) (by lia)) c) (Up.le O a3 (Z18 i) i2);have hs:=xP p 0 n;have p0:=pf 0 (by lia);have d1:Qt lt (kas_rev p 0 n) n:=fun k k1 k2=>by
    rw[Z6 (k:=k) (by lia) (Z18 _) k2,Z6 (k:=k - 1) (by lia) (Z18 _) (by lia)];refine⟨al _ _ (Z18 _) (by lia) (Z18 _) (by lia),.inr ?_⟩;rw[p0.hi _ (Z18 _) (by lia),p0.hi _ (Z18 _) (by lia)];lia
   have s1:lt (e (kas_rev p 0 n) n) (e (kas_rev p 0 n) (n - 1))=true:=by
    rw[yw (k:=n) (by lia) (Or.inr (Z03 _)),Z6 (k:=n - 1) (by lia) (Z18 _) (by lia)];exact z4b O hlt (al (0+n - 1 - (n - 1)) (n - 1) (Z18 _) (by lia) (Z18 _) (by lia))
   obtain⟨b1,b2⟩:=QD O (n:=n) (m:=m) (by lia) (by lia) d1 s1 (pn.rev (Z03 _) (by lia));exact⟨b1.trans (yG ..),b2⟩
 have en:n=1:=by lia
 subst en;exact QD O (by lia) hz (fun k k1 k2=>by lia) hlt pn
theorem z3t:∀ (f:Nat) (p:Array Nat) (k:Nat),k+f<=p.size->1<=k->UpS lt p k->Pf p k->(run lt (kas_bin f p k)).Perm p/\UpS lt (run lt (kas_bin f p k)) (k+f)
 | 0,p,k,_,_,h,_=>⟨Array.Perm.refl _,h⟩
 | f+1,p,k,hz,h1,h,pf=>by
   have er:run lt (kas_bin (f+1) p k)=run lt (kas_bin f (bubble p k (k - run lt (kas_place p k k 0 k))) (k+1)):=by
    show run lt ((kas_place p k k 0 k).bind fun l=>kas_bin f (bubble p k (k - l)) (k+1))=_;rw[run_bind]
   rw[er];obtain⟨a1,a2,a3⟩:=uv O h.up k 0 k (by lia) (Z18 _) (Z03 _) (fun i hi=>absurd hi (Z41 _)) (fun i h1 h2=>by lia);generalize run lt (kas_place p k k 0 k)=l at *;have hk:k<p.size:=by lia
   have ek:=pf.hi k (Z03 _) hk;have up:UpS lt (bubble p k (k - l)) (k+1):=fun j j1 j2=>by
    rw[z3T hk a1,z3T hk a1];by_cases c1:j=l;rw[if_pos c1,if_neg (by lia),if_neg (by lia)];refine⟨a2 _ (by lia),.inr ?_⟩;have:=pf.lo (j - 1) (by lia);lia;rw[if_neg c1];by_cases c2:j - 1=l;rw[if_pos c2,if_pos (by lia)];have:=a3 (j - 1) (by lia) (by lia);exact⟨O.asym _ _ this,.inl this⟩;rw[if_neg c2];by_cases c3:l<j - 1/\j - 1<=k;rw[if_pos c3,if_pos (by lia)];exact h (j - 1) (by lia) (by lia);rw[if_neg c3,if_neg (by lia)];exact h j j1 (by lia)
   have pf':Pf (bubble p k (k - l)) (k+1):=⟨fun i hi=>by
    rw[z3T hk a1];split;lia;split;have:=pf.lo (i - 1) (by lia);lia;have:=pf.lo i (by lia);lia,fun i h1 h2=>by
    rw[bubble_size] at h2;rw[z3T hk a1,if_neg (by lia),if_neg (by lia)];exact pf.hi i (by lia) h2⟩
   obtain⟨b1,b2⟩:=z3t f (bubble p k (k - l)) (k+1) (by rw[bubble_size];lia) (by lia) up pf';rw[show k+(f+1)=k+1+f by lia];exact⟨b1.trans (bubble_perm ..),b2⟩
theorem z0g(hn:1<=n):(run lt (kas_sort n)).toList.Perm (List.range n)/\UpS lt (run lt (kas_sort n)) n:=by
 have hz:n<=(List.toArray (List.range n)).size:=by simp
 obtain⟨a2,a3,a4,a5,a6⟩:=z4z O (p:=List.toArray (List.range n)) hn hz fun k hk=>Pf.range hk;have er:run lt (kas_sort n)=run lt (if (run lt (kas_count n (List.toArray (List.range n)))).1<n then kas_bin (n - max (run lt (kas_count n (List.toArray (List.range n)))).1 1) (run lt (kas_count n (List.toArray (List.range n)))).2 (max (run lt (kas_count n (List.toArray (List.range n)))).1 1) else .ret (run lt (kas_count n (List.toArray (List.range n)))).2):=by
  unfold kas_sort;rw[run_bind]
 rw[er];generalize run lt (kas_count n (List.toArray (List.range n)))=r at *;have hm:max r.1 1=r.1:=by lia
 rw[hm];have z:=a2.size_eq;split;obtain⟨b1,b2⟩:=z3t O (n - r.1) r.2 r.1 (by lia) a3 a5 a6;rw[show r.1+(n - r.1)=n by lia] at b2;exact⟨(b1.trans a2).toList,b2⟩;have e1:r.1=n:=by lia
 rw[e1] at a5;exact⟨a2.toList,a5⟩
end
def Z7{α:Type}(n:Nat):KasT α->(α->Prop)->Prop
 | .ret a,Q=>Q a
 | .ask i j k,Q=>i<n/\j<n/\∀ b,Z7 n (k b) Q
theorem Z7.bind{α β:Type}{n:Nat}{f:α->KasT β}{Q:β->Prop}:∀ {t:KasT α},Z7 n t (fun a=>Z7 n (f a) Q)->Z7 n (t.bind f) Q
 | .ret _,h=>h
 | .ask _ _ _,h=>⟨h.1,h.2.1,fun b=>Z7.bind (h.2.2 b)⟩
theorem Jf{α:Type}{n:Nat}(lt:Nat->Nat->Bool){cmp:Nat->Nat->(Bool->Shared->Prop)->Shared->Prop}{P:Shared->Prop}(h:∀ i j (C:Bool->Shared->Prop) s,i<n->j<n->P s->(∀ s',P s'->C (lt i j) s')->cmp i j C s)
 {Q:α->Shared->Prop}{T:α->Prop}:∀ (t:KasT α) (s:Shared),Z7 n t T->P s->(∀ s',P s'->Q (run lt t) s')->t.kasWp cmp Q s
 | .ret a,s,_,p,q=>q s p
 | .ask i j k,s,a,p,q=>h i j _ s a.1 a.2.1 p fun s' p'=>Jf lt h (k (lt i j)) s' (a.2.2 _) p' q
def AllLt(n:Nat)(p:Array Nat):Prop:=∀ k,p.getD k 0<n
theorem AllLt.perm(hn:0<n)(h:AllLt n p)(pm:q.Perm p):AllLt n q:=fun k=>by
 by_cases hk:k<q.size;have e1:q.getD k 0=q[k]:=by simp[Array.getD,hk]
 rw[e1];have hm:q[k]∈q:=Array.getElem_mem hk;have hm2:q[k]∈p:=by
  have:=pm.toList.mem_iff (a:=q[k]);simpa using this.mp (by simpa using hm)
 obtain⟨j,hj,e2⟩:=Array.mem_iff_getElem.mp hm2;have:=h j;have e3:p.getD j 0=p[j]:=by simp[Array.getD,hj]
 rw[e3,e2] at this;exact this;have e1:q.getD k 0=0:=by simp[Array.getD,hk]
 rw[e1];exact hn
section
variable{n:Nat}(hn:0<n)
include hn
theorem V4(h:AllLt n p):∀ f m,Z7 n (kas_asc p f m) (fun _=>True)
 | 0,_=>trivial
 | f+1,m=>⟨h _,h _,fun b=>by
     cases b with
     | true=>exact trivial
     | false=>exact V4 h f (m+1)⟩
theorem Xc:∀ (f:Nat) (p:Array Nat) (m q:Nat),AllLt n p->Z7 n (kas_desc f p m q) (fun r=>AllLt n r.1)
 | 0,p,_,_,h=>h
 | f+1,p,m,q,h=>⟨h _,h _,fun b=>by
     cases b with
     | true =>
       show Z7 n (if true=true then (if q > 0 then kas_desc f (kas_rev p (m - (q+1)) m) (m+1) 0 else kas_desc f p (m+1) 0) else _) _;rw[if_pos rfl];split;exact Xc f _ _ _ (h.perm hn (yG ..));exact Xc f _ _ _ h
     | false =>
       show Z7 n (if false=true then _ else KasT.ask (p.getD (m - 1) 0) (p.getD m 0) fun d=>if d=true then KasT.ret (p,m,q) else kas_desc f p (m+1) (q+1)) _;rw[if_neg Z10];refine⟨h _,h _,fun d=>?_⟩;cases d with
       | true=>exact h
       | false=>exact Xc f _ _ _ h⟩
theorem Z7.mono{α:Type}{Q Q':α->Prop}(hq:∀ a,Q a->Q' a):∀ {t:KasT α},Z7 n t Q->Z7 n t Q'
 | .ret a,h=>hq a h
 | .ask _ _ _,h=>⟨h.1,h.2.1,fun b=>Z7.mono hq (h.2.2 b)⟩
theorem V1(h:AllLt n p)(m r:Nat):Z7 n (kas_tail3 m r p) (fun x=>AllLt n x.2):=by
 have h':=h.perm hn (yG p 0 m);exact Z7.bind (Z7.mono hn (fun _ _=>h') (V4 hn h' _ _))
theorem XD(h:AllLt n p)(m r:Nat):Z7 n (kas_descPart m r p) (fun x=>AllLt n x.2):=by
 refine Z7.bind (Z7.mono hn (fun x hx=>?_) (Xc hn _ _ _ _ h));split;exact V1 hn (hx.perm hn (yG ..)) _ _;exact V1 hn hx _ _
theorem z2M(h:AllLt n p)(r:Nat):Z7 n (kas_count r p) (fun x=>AllLt n x.2):=by
 refine Z7.bind (Z7.mono hn (fun m _=>?_) (V4 hn h _ _));split;exact h;split;refine⟨h _,h _,fun b=>?_⟩;cases b with
 | true=>exact h
 | false=>exact XD hn (h.perm hn (yG ..)) _ _
 exact XD hn h _ _
theorem XM(h:AllLt n p)(k:Nat):∀ f l r,Z7 n (kas_place p k f l r) (fun _=>True)
 | 0,_,_=>trivial
 | f+1,l,r=>by
   show Z7 n (if l ≥ r then KasT.ret l else KasT.ask (p.getD k 0) (p.getD ((l+r) / 2) 0) fun c=>if c=true then kas_place p k f l ((l+r) / 2) else kas_place p k f ((l+r) / 2+1) r) _;split;exact trivial;refine⟨h _,h _,fun b=>?_⟩;cases b with
   | true=>exact XM h k f _ _
   | false=>exact XM h k f _ _
theorem z1d:∀ (f:Nat) (p:Array Nat) (k:Nat),AllLt n p->Z7 n (kas_bin f p k) (fun _=>True)
 | 0,_,_,_=>trivial
 | f+1,p,k,h=>Z7.bind (Z7.mono hn (fun l _=>z1d f _ _ (h.perm hn (bubble_perm ..))) (XM hn h k _ _ _))
theorem UU:Z7 n (kas_sort n) (fun _=>True):=by
 have h0:AllLt n (List.toArray (List.range n)):=fun k=>by
  by_cases hk:k<n;simp[Array.getD,hk];simp[Array.getD,hk];exact hn
 refine Z7.bind (Z7.mono hn (fun r hr=>?_) (z2M hn h0 n));split;exact z1d hn _ _ _ hr;exact trivial
end
end Srt
namespace L2
theorem z9g(vs:List Value):(vs.toArray.zip vs.toArray).map (·.2)=vs.toArray:=by
 apply Z2o.mp;simp[List.map_snd_zip]
theorem Z0V{h:Heap}{a:Addr}{m m':Str->Option Value}(x:h.Ns a m)(y:h.Ns a m'):m=m':=by
 obtain⟨o,es,ep,ho,hd,_,hm⟩:=x;obtain⟨o',es',ep',ho',hd',_,hm'⟩:=y;rw[ho] at ho';cases ho';rw[hd] at hd';cases hd';funext z;rw[← hm z,← hm' z]
theorem Zw.there(x:Zw P w H h a o):∃ u,h.get? a=some u:=by
 cases o with
 | lst xs=>obtain⟨_,_,_,_,e⟩:=x;exact⟨_,e⟩
 | tup xs=>obtain⟨_,_,_,ob,e,_⟩:=x;exact⟨_,e⟩
 | dK kvs=>obtain⟨_,_,_,_,o,_,_,e,_⟩:=x;exact⟨_,e⟩
 | dT kvs=>obtain⟨_,_,_,_,o,_,_,e,_⟩:=x;exact⟨_,e⟩
 | set S n=>obtain⟨o,_,_,_,e,_⟩:=x;exact⟨_,e⟩
 | ins C dx fs=>obtain⟨_,_,_,e,_⟩:=x;exact⟨_,e⟩
 | own y=>obtain⟨_,e⟩:=x;exact⟨_,e⟩
 | xd fs=>obtain⟨_,⟨_,_,_,e,_⟩,_⟩:=x;exact⟨_,e⟩
 | rng lo hi=>obtain⟨_,_,_,e⟩:=x;exact⟨_,e⟩
 | frz ob u=>obtain⟨e,_⟩:=x;exact⟨_,e⟩
 | vp ps=>exact⟨_,(show h.get? a=some _ from x)⟩
 | met f y=>exact⟨_,(show h.get? a=some _ from x)⟩
 | ext φ=>obtain⟨_,⟨_,e⟩,_⟩:=x;exact⟨_,e⟩
theorem z4t:∀ (xs:List V),xs.length<2->(List.range xs.length).map (fun i=>xs.getD i V.Zr)=xs
 | [],_=>rfl
 | [_],_=>rfl
 | _ :: _ :: _,h=>by simp at h;lia
def z5J(X:Cx)(s:Shared)(xs:List V)(lt:Nat->Nat->Bool):Prop:=∀ (vs:List Value) (s':Shared),Vals xs vs->2<=vs.length->(∀ b o,b≠X.env.locals->s.heap.get? b=some o->s'.heap.get? b=some o)->∃ κ:SortKind,(∀ (R:SortKind->Shared->Prop),R κ s'->wpAny (model X.prog X.w) X.A.in1.in1 (keyKind' vs.toArray) R (fun _ _=>False) s')/\
 ∀ (i j:Nat) (C:Bool->Shared->Prop) (s2:Shared),i<vs.length->j<vs.length->(∀ b o,b≠X.env.locals->s.heap.get? b=some o->s2.heap.get? b=some o)->C (lt i j) s2->kas_ask X.prog X.w X.A.in1.in1 κ vs i j C s2
theorem jo{A:Around}{vs:List Value}(hT:T="list"\/T="tuple")(ht:∃ o,s.heap.get? t=some o/\o.cls=.type T/\∃ n,o.data=.seq vs.toArray n)(few:vs.length<=sizeLine)(h:∀ (g:Heap) (D:Addr),(∀ b o,s.heap.get? b=some o->g.get? b=some o)->(∀ b o,s.heap.get? b=some o->b≠D)->g.get? D=some (seqObj "list" vs.toArray 0)->
  wpAny (model prog w) A.in1.in1 (Builtin.«list.sort» ⟨[.ref D],[]⟩) (fun fin s'=>fin=.done (.ret .none)/\Q (.ref D) s') E { s with heap:=g }) :
 wpAny (model prog w) A (call (.builtin "sorted") [.ref t]) Q E s:=by
 obtain⟨o,ho,hc,n,hd⟩:=ht;refine Calls.call_function_entry kind_sorted plain_sorted entry_sorted (args_sorted1 _) ?_;unfold Builtin.«sorted»;refine wpAny_bind (m:=checkCount "sorted" 1 1 _) (wpAny_pure ?_);refine wpAny_bind (wpAny_collect_seq t hT ho hc hd (fun g kp=>?_) (by rw[Z05];exact few));refine wpAny_bind (wpAny_newList ?_ few);have hoL:(g.push (seqObj "list" vs.toArray 0)).get? g.objs.size=some (seqObj "list" vs.toArray 0):=Z08 _ rfl;have lt:∀ b o,s.heap.get? b=some o->b<g.objs.size:=fun b o e=>Z09 (kp b o e);refine wpAny_bind (wpAny_holding (wpAny_call_entry slot_list_sort ⟨_,hoL,rfl⟩ entry_list_sort ?body (args_list_sort _)))
 case body =>
  refine wpAny_mono (h (g.push (seqObj "list" vs.toArray 0)) g.objs.size (fun b o e=>Z00 _ (kp b o e)) (fun b o e=>Z0T (lt b o e)) hoL) (fun fin s' hf=>?_) fun _ _ e=>e;obtain⟨rfl,hq⟩:=hf;exact⟨_,rfl,wpAny_pure ⟨_,rfl,hq⟩⟩
theorem JI{g:Heap}{vs:List Value}{Q:Value->Shared->Prop}(keep:∀ b o,s.heap.get? b=some o->g.get? b=some o)(hDs:∀ b o,s.heap.get? b=some o->b≠D)(hoL:g.get? D=some (seqObj "list" vs.toArray 0))(h2:vs.length<2)(h:∀ (h':Heap) (c:Nat),(∀ b o,s.heap.get? b=some o->h'.get? b=some o)->h'.get? D=some (seqObj "list" vs.toArray c)->Q (.ref D) { s with heap:=h' }) :
 wpAny (model prog w) A (Builtin.«list.sort» ⟨[.ref D],[]⟩) (fun fin s'=>fin=.done (.ret .none)/\Q (.ref D) s') E { s with heap:=g }:=by
 obtain⟨e1,ho1⟩:∃ e1,(g.update D (Obj.mapSeq fun _=>(#[]:Array Value))).get? D=some (seqObj "list" #[] e1):=⟨_,get?_update_seq hoL fun _=>#[]⟩;have few:vs.length<=sizeLine:=by rw[sizeLine_eq];lia
 rw[list_sort_plain];refine wpAny_bind (listItems_at hoL rfl ?_);refine wpAny_bind (listUpdate_at hoL rfl ?_ (by rw[Z05];lia) (Z18 _));refine wpAny_bind (seqEpoch_at ho1 rfl ?_);refine wpAny_bind (wpAny_newTuple ?_ few);refine wpAny_bind (wpAny_newList ?_ (Z18 _));refine wpAny_holding ?_;show wpAny (model prog w) _ _ _ E { s with heap:=((g.update D (Obj.mapSeq fun _=>(#[]:Array Value))).push (seqObj "tuple" vs.toArray 0)).push (seqObj "list" #[] 0) };dsimp only;have hn2:vs.toArray.size<2:=by rw[Z05];exact h2
 rw[if_pos hn2,if_pos hn2];refine wpAny_bind (wpAny_pure ?_);refine wpAny_bind (wpAny_pure ?_);dsimp only;have ho6:(((g.update D (Obj.mapSeq fun _=>(#[]:Array Value))).push (seqObj "tuple" vs.toArray 0)).push (seqObj "list" #[] 0)).get? D=some (seqObj "list" #[] e1):=Z00 _ (Z00 _ ho1);have harr:(arrOf (SortSt.mk' general' (vs.toArray.zip vs.toArray) #[] 7 none)).map (·.2)=vs.toArray:=z9g vs
 rw[harr];refine wpAny_bind (seqEpoch_at ho6 rfl ?_);refine wpAny_bind (listUpdate_at ho6 rfl ?_ (Z18 _) (by show vs.toArray.size<=_;rw[Z05];lia));simp only[bne_self_eq_false,Bool.false_eq_true,if_false];obtain⟨c2,hc2⟩:∃ c2,((((g.update D (Obj.mapSeq fun _=>(#[]:Array Value))).push (seqObj "tuple" vs.toArray 0)).push (seqObj "list" #[] 0)).update D (Obj.mapSeq fun _=>vs.toArray)).get? D=some (seqObj "list" vs.toArray c2):=⟨_,get?_update_seq ho6 fun _=>vs.toArray⟩;refine wpAny_pure ⟨rfl,h _ c2 (fun b o q=>?_) hc2⟩;have hb:=hDs b o q;exact (Z4L _ _ (Z4q hb)).trans (Z00 _ (Z00 _ ((Z4L _ _ (Z4q hb)).trans (keep b o q))))
theorem Inv.z1s{X:Cx}{σ:St}{h':Heap}{ws:List V}{out:List Value}(I:Inv X pins σ H s)(hn:s.heap.Ns X.env.locals m)(F:Fr X.base X.env.locals h' m)(k:∀ b o,b≠X.env.locals->s.heap.get? b=some o->h'.get? b=some o)(hD:H D=none)(hDs:∀ o,s.heap.get? D≠some o)(ho:h'.get? D=some { cls:=.type "list",data:=.seq out.toArray c })(r:Vals ws out)(hz:ws.length<=sizeLine) :
 Inv X pins σ (upd H D (.lst ws)) { s with heap:=h',toks:=t' }:=by
 have nD:∀ b o,s.heap.get? b=some o->b≠D:=fun b o e z=>by subst z;exact hDs o e
 have nL:∀ b u,H b=some u->b≠X.env.locals:=fun b u e z=>by rw[z,I.free] at e;cases e
 refine I.step (g':=s.gens) (d':=s.drawn) (ch:=[]) (fun _ z=>nomatch z) (fun b o hL _ _ e _=>k b o hL e) (fun b o hL _ _ e _=>⟨o.slots,k b o hL e⟩) (fun b o _ e n=>by rw[zD (nD b o e)];exact n) (fun b o _ e=>?_)
  (fun b xs e=>by rw[zD (zo e hD)];exact e) (fun b o u e=>by rw[zD (zo e hD)];exact e) (fun b ps e=>⟨#[],by rw[zD (zo e hD),e];simp⟩) (fun m' hm=>?_) (fun b u e=>?_) I.bare
 by_cases hb:b=X.env.locals;obtain⟨o',_,_,e',_⟩:=F.ns;exact⟨o',by rw[hb];exact e'⟩;exact⟨o,k b o hb e⟩;rw[← Z0V hn hm];exact F.ns;by_cases hb:b=D;subst hb;rw[zh] at e;cases e;exact⟨hz,out,c,r,ho⟩;rw[zD hb] at e;refine (I.hok b u e).stay (fun x v hx q=>k x v ?_ q) (fun x q=>by rw[zD (zo q hD)];exact q) fun x xs q=>by rw[zD (zo q hD)];exact q
 rcases hx with z | z;rw[z];exact nL b u e;exact nL x _ z
theorem jC(p:Array Nat)(j:Nat):p.toList.getD j 0=Srt.e p j:=by
 unfold Srt.e;simp[Z02]
theorem z0S{X:Cx}{σ:St}{g:Heap}{its:List Value}{xs:List V}(I:Inv X pins σ H s)(kp0:∀ b o,s.heap.get? b=some o->g.get? b=some o)(hDs0:∀ b o,s.heap.get? b=some o->b≠D)(hoL:g.get? D=some (seqObj "list" its.toArray 0))(rv:Vals xs its)(h64:xs.length<64)(lt:Nat->Nat->Bool)(O:Srt.Ord lt)(hkind:z5J X s xs lt)(q:∀ (p:List Nat),p.Perm (List.range xs.length)->(∀ k,1<=k->k<xs.length->lt (p.getD k 0) (p.getD (k - 1) 0)=false)->H D=none->Q (.ref D) (upd H D (.lst (p.map fun i=>xs.getD i .Zr)))) :
 wpAny (model X.prog X.w) X.A.in1.in1 (Builtin.«list.sort» ⟨[.ref D],[]⟩) (fun fin s'=>fin=.done (.ret .none)/\EP X pins σ Q (.ref D) s') E { s with heap:=g }:=by
 have hlen:=rv.length;by_cases h2:its.length<2;refine JI kp0 hDs0 hoL h2 fun h' c kp ho=>?_;have hf:H D=none:=by
  cases z:H D with
  | none=>rfl
  | some u =>
    obtain⟨o,e⟩:=Zw.there (I.hok D u z);exact absurd rfl (hDs0 _ _ e)
 obtain⟨m,hn,_⟩:=id I.loc;have F:Fr X.base X.env.locals h' m:=Fr.kept ⟨hn,I.bk,Z11 I.ok.bsz I.ok.above⟩ kp;have I':Inv X pins σ (upd H D (.lst xs)) { s with heap:=h' }:=I.z1s (t':=s.toks) hn F (fun b o _ e=>kp b o e) hf (fun o e=>hDs0 _ _ e rfl) ho rv (by rw[sizeLine_eq];lia);have hq:=q (List.range xs.length) (List.Perm.refl _) (fun k k1 k2=>by lia) hf;have ex:(List.range xs.length).map (fun i=>xs.getD i .Zr)=xs:=by
  exact z4t xs (by lia)
 rw[ex] at hq;exact⟨.ref D,_,I',rfl,hq⟩;obtain⟨m,hn,_⟩:=id I.loc;have F:Fr X.base X.env.locals s.heap m:=⟨hn,I.bk,Z11 I.ok.bsz I.ok.above⟩;have N:News X.base X.env.locals s.heap (yC X.base s.heap X.env.locals):=JV;have keepN:∀ {h':Heap}{r:List (Addr×Obj)},Fr X.base X.env.locals h' m->News X.base X.env.locals h' r->(∀ p∈yC X.base s.heap X.env.locals,p∈r)->∀ b o,b≠X.env.locals->s.heap.get? b=some o->h'.get? b=some o:=fun {h' r} F' N' sub b o hb e=>by
  cases z:X.base.get? b with
  | some u =>
    have:=I.bk b u z;rw[e] at this;cases this;exact F'.keep b _ z
  | none=>exact (N' (b,o) (sub _ (vK hb z e))).1
 have h2':2<=its.length:=by lia
 have oL:∃ o,s.heap.get? X.env.locals=some o:=by obtain⟨o,_,_,e,_⟩:=F.ns;exact⟨o,e⟩
 obtain⟨oL,eL⟩:=oL;have h0:X.base.get? D=none:=by
  cases z:X.base.get? D with
  | none=>rfl
  | some u=>exact absurd rfl (hDs0 _ _ (F.keep _ _ z))
 refine kat_list_sort (s:={ s with heap:=g }) (F.kept kp0) (N.grown kp0) hoL (Z4q (hDs0 _ _ eL)) h0 (fun p hp=>hDs0 _ _ (N p hp).1) h2' (by lia) fun e1 h' F' N'=>?_;have kp:=keepN F' N' (fun p hp=>Z07 _ hp);have nDD:=N' (D,seqObj "list" #[] e1) Z0y;have hDs:∀ o,s.heap.get? D≠some o:=fun o e=>hDs0 D o e rfl;have hHD:H D=none:=by
  cases z:H D with
  | none=>rfl
  | some u =>
    obtain⟨o,e⟩:=Zw.there (I.hok D u z);exact absurd e (hDs o)
 have hD:∀ q∈yC X.base s.heap X.env.locals,q.1≠D:=fun q hq=>hDs0 _ _ (N q hq).1;obtain⟨κ,hκ,hask⟩:=hkind its { s with heap:=h' } rv h2' kp;refine hκ _ ?_;have hn1:0<its.length:=by lia
 refine Srt.Jf (n:=its.length) (P:=fun s'=>s'={ s with heap:=h' }) lt (fun i j C s2 hi hj p2 hc=>by subst p2;exact hask i j C _ hi hj kp (hc _ rfl)) (kas_sort its.length) _ (Srt.UU hn1) rfl fun s2 p2=>?_;subst p2;obtain⟨pm,up⟩:=Srt.z0g O (n:=its.length) (by lia);generalize Srt.run lt (kas_sort its.length)=p at *;refine KasFin.intro F' N' (.head fun x hx=>hD x hx) fun h3 c F3 N3=>?_;have kp3:=keepN F3 N3 (fun p hp=>Z07 _ hp);have hD3:=(N3 (D,listOf (List.toArray (p.toList.map fun i=>its.getD i Value.none)) c) Z0y).1;have rel:Vals (p.toList.map fun i=>xs.getD i .Zr) (p.toList.map fun i=>its.getD i Value.none):=by
  have key:∀ (l:List Nat),(∀ i∈l,i<its.length)->Vals (l.map fun i=>xs.getD i .Zr) (l.map fun i=>its.getD i Value.none):=by
   intro l
   induction l with
   | nil=>intro _;exact .nil
   | cons a l ih =>
     intro hl';have ha:=hl' a Z0y;have ha2:a<xs.length:=(by lia);obtain⟨u,hu,ru⟩:=rv.get (i:=a) (x:=xs[a]) (by simp[ha2]);have e1:xs.getD a .Zr=xs[a]:=(by simp[ha2]);have e2:its.getD a Value.none=u:=(by rw[Z02,hu];rfl);rw[Z1y,Z1y,e1,e2];exact .cons ru (ih fun i hi=>hl' i (Z07 _ hi))
  exact key _ fun i hi=>Z23.mp (pm.mem_iff.mp hi)
 have hq:=q p.toList (by rw[hlen];exact pm) (fun k k1 k2=>by
  have:=(up k k1 (by lia)).1;rw[jC,jC];exact this) hHD
 refine⟨rfl,.ref D,_,I.z1s (t':=s.toks) hn F3 kp3 hHD hDs hD3 rel ?_,rfl,hq⟩;rw[ZB,pm.length_eq,Z2I,← hlen];rw[hlen,sizeLine_eq];lia
theorem X9{X:Cx}{σ:St}{xs:List V}(I:Inv X pins σ H s)(hl:zQ X.K H l xs\/zX X.K H l xs)(h64:xs.length<64)(lt:Nat->Nat->Bool)(O:Srt.Ord lt)(hkind:z5J X s xs lt)(q:∀ (p:List Nat) (D:Addr),p.Perm (List.range xs.length)->(∀ k,1<=k->k<xs.length->lt (p.getD k 0) (p.getD (k - 1) 0)=false)->H D=none->Q (.ref D) (upd H D (.lst (p.map fun i=>xs.getD i .Zr)))) :
 wpAny (model X.prog X.w) X.A (call (.builtin "sorted") [.ref l]) (EP X pins σ Q) X.xe s:=by
 have ⟨T,hT,its,rv,ht⟩:∃ T,(T="list"\/T="tuple")/\∃ its,Vals xs its/\∃ o,s.heap.get? l=some o/\o.cls=.type T/\∃ n,o.data=.seq its.toArray n:=by
  rcases hl with hl | hl;obtain⟨its,rv,pl,_⟩:=I.list hl;exact⟨_,.inl rfl,its,rv,pl.isList⟩;obtain⟨its,rv,pl,_⟩:=I.tuple hl;exact⟨_,.inr rfl,its,rv,pl⟩
 refine jo hT ht (by rw[← rv.length,sizeLine_eq];lia) fun g D kp hDs hoL=>?_;exact z0S I kp hDs hoL rv h64 lt O hkind fun p a b c=>q p D a b c
theorem yM{α:Type}{R:α->α->Prop}(tr:∀ a b c,R a b->R b c->R a c):∀ l:List α,(∀ k a b,l[k]?=some a->l[k+1]?=some b->R a b)->l.Pairwise R
 | [],_=>.nil
 | [a],_=>by simp
 | a :: b :: l,h=>by
   have ih:=yM tr (b :: l) fun k x y hx hy=>h (k+1) x y (by simpa using hx) (by simpa using hy);refine Z4X.mpr ⟨fun c hc=>?_,ih⟩;rcases Z0z.mp hc with rfl | hc;exact h 0 a c rfl rfl;exact tr a b c (h 0 a b rfl rfl) ((Z4X.mp ih).1 c hc)
theorem range_getD{α:Type}(l:List α)(d:α):(List.range l.length).map (fun i=>l.getD i d)=l:=by
 refine Z5f (by simp) fun i h1 h2=>?_;simp[h2]
theorem map_getD{α β:Type}{f:α->β}{l:List α}{d:α}{d':β}:∀ {p:List Nat},(∀ i∈p,i<l.length)->(p.map fun i=>(l.map f).getD i d')=(p.map fun i=>l.getD i d).map f
 | [],_=>rfl
 | i :: p,h=>by
   have hi:=h i Z0y;rw[Z1y,Z1y,Z1y,map_getD (d:=d) (d':=d') fun j hj=>h j (Z07 _ hj)];simp[hi]
theorem Xp{α:Type}{l:List α}{d:α}{p:List Nat}(h:p.Perm (List.range l.length)):(p.map fun i=>l.getD i d).Perm l:=by
 have:=h.map (fun i=>l.getD i d);rw[range_getD] at this;exact this
theorem Xj(r:Vals xs vs)(h:i<vs.length):RelV (xs.getD i .Zr) (vs.getD i Value.none):=by
 have h':i<xs.length:=by rw[r.length];exact h
 obtain⟨u,hu,ru⟩:=r.get (i:=i) (x:=xs[i]) (by simp[h']);have e1:xs.getD i .Zr=xs[i]:=by simp[h']
 have e2:vs.getD i Value.none=u:=by rw[Z02,hu];rfl
 rw[e1,e2];exact ru
def ltI(ns:List Int)(i j:Nat):Bool:=decide (ns.getD i 0<ns.getD j 0)
theorem z3H(ns:List Int):Srt.Ord (ltI ns):=by
 refine⟨fun i j h=>?_,fun i j k h1 h2=>?_⟩ <;> simp only[ltI,decide_eq_true_eq,decide_eq_false_iff_not] at * <;> lia
def xy(p q:Int×Int):Bool:=decide (p.1<q.1\/(p.1=q.1/\p.2<q.2))
def Z2(p q:Int×Int):Prop:=p.1<q.1\/(p.1=q.1/\p.2<=q.2)
theorem z3i(h:xy q p=false):Z2 p q:=by
 simp only[xy,Z2,decide_eq_false_iff_not] at *;lia
theorem XY(a b c:Int×Int)(h1:Z2 a b)(h2:Z2 b c):Z2 a c:=by
 simp only[Z2] at *;lia
def ltP(ps:List (Int×Int))(i j:Nat):Bool:=xy (ps.getD i (0,0)) (ps.getD j (0,0))
theorem z3W(ps:List (Int×Int)):Srt.Ord (ltP ps):=by
 refine⟨fun i j h=>?_,fun i j k h1 h2=>?_⟩ <;> simp only[ltP,xy,decide_eq_true_eq,decide_eq_false_iff_not] at * <;> lia
theorem Yw{α:Type}{R:α->α->Prop}(tr:∀ a b c,R a b->R b c->R a c){l:List α}{d:α}{p:List Nat}(h:p.Perm (List.range l.length)){lt:Nat->Nat->Bool}
 (up:∀ k,1<=k->k<l.length->lt (p.getD k 0) (p.getD (k - 1) 0)=false) (hR:∀ i j,lt j i=false->R (l.getD i d) (l.getD j d)):(p.map fun i=>l.getD i d).Pairwise R:=by
 refine yM tr _ fun k a b ha hb=>?_;have hl:p.length=l.length:=by rw[h.length_eq,Z2I]
 rw[Z14] at ha hb;cases e1:p[k]? with
 | none=>rw[e1] at ha;cases ha
 | some i =>
   cases e2:p[k+1]? with
   | none=>rw[e2] at hb;cases hb
   | some j =>
     rw[e1] at ha;rw[e2] at hb;have ha:l.getD i d=a:=Z1X ha;have hb:l.getD j d=b:=Z1X hb;subst ha hb;have hk:k+1<p.length:=(Z12.mp e2).1;have:=up (k+1) (by lia) (by lia);have g1:p.getD (k+1) 0=j:=(by rw[Z02,e2];rfl);have g2:p.getD (k+1 - 1) 0=i:=(by rw[Z02,Nat.add_sub_cancel,e1];rfl);rw[g1,g2] at this;exact hR i j this
def dtP(p:Int×Int):Dt:=.tup [.int p.1,.int p.2]
def Zp(K:PySem.W.Frag)(H:Hp)(ps:List (Int×Int))(vs:List V):Prop:=Zg K H (ps.map dtP) vs
theorem vo{α:Type}{f:α->Dt}{l:List α}{d:α}{vs:List V}(h:Zg K H (l.map f) vs):∀ {p:List Nat},(∀ i∈p,i<l.length)->Zg K H ((p.map fun i=>l.getD i d).map f) (p.map fun i=>vs.getD i .Zr)
 | [],_=>by simp only[Z42,Zg]
 | i :: p,hp=>by
   have hi:=hp i Z0y;simp only[Z1y,Zg];obtain⟨x,hx,dx⟩:=h.get (j:=i) (d:=f l[i]) (by simp[hi]);refine⟨_,_,rfl,?_,vo h fun j hj=>hp j (Z07 _ hj)⟩;have e1:l.getD i d=l[i]:=by simp[hi]
   have e2:vs.getD i .Zr=x:=by rw[Z02,hx];rfl
   rw[e1,e2];exact dx
theorem z1Z(h:Zp K H ps vs)(hi:i<ps.length):∃ a,vs.getD i .Zr=.ref a/\zX K H a [.int (ps.getD i (0,0)).1,.int (ps.getD i (0,0)).2]:=by
 obtain⟨x,hx,dx⟩:=Zg.get (j:=i) (d:=dtP ps[i]) h (by simp[hi]);have e1:ps.getD i (0,0)=ps[i]:=by simp[hi]
 have e2:vs.getD i .Zr=x:=by rw[Z02,hx];rfl
 rw[e1,e2];simp only[dtP,Den,Zg] at dx;obtain⟨a,xs,rfl,hq,y,r,rfl,rfl,y2,r2,rfl,rfl,rfl⟩:=dx;exact⟨a,rfl,hq⟩
theorem Inv.Z0t{X:Cx}{σ:St}(I:Inv X pins σ H s)(h:zX X.K H a xs):a≠X.env.locals:=by
 rintro rfl;obtain⟨its,_,⟨o,e,c,n,d⟩,_⟩:=I.tuple h;obtain⟨m,⟨o',es,ep,ho,hd,_⟩,_⟩:=I.loc;rw[e] at ho;cases ho;rw[d] at hd;cases hd
def Z1u(K:PySem.W.Frag):List V->Hp->VK->Prop:=fun xs H Q=>∃ (l:Addr) (ns:List Int),xs=[.ref l]/\zQ K H l (ns.map V.int)/\ns.length<64/\∀ (ms:List Int) (D:Addr),ms.Perm ns->ms.Pairwise (·<=·)->H D=none->Q (.ref D) (upd H D (.lst (ms.map V.int)))
def Z1n(K:PySem.W.Frag):List V->Hp->VK->Prop:=fun xs H Q=>∃ (l:Addr) (vs:List V) (ps:List (Int×Int)),xs=[.ref l]/\zQ K H l vs/\Zp K H ps vs/\ps.length<64/\∀ (us:List V) (ms:List (Int×Int)) (D:Addr),ms.Perm ps->ms.Pairwise Z2->Zp K H ms us->H D=none->Q (.ref D) (upd H D (.lst us))
theorem jh:ZG X (.builtin "sorted") (Z1u X.K):=by
 intro pins s σ H xs us Q I r h;obtain⟨l,ns,rfl,hl,h64,q⟩:=h;obtain⟨u,rfl,rfl⟩:=vals1 r;refine X9 I (.inl hl) (by rw[ZB];exact h64) (ltI ns) (z3H ns) (fun vs s' rv h2 kp=>?_) fun p D pm up hD=>?_;have ia:=intsAre_of rv;refine⟨oneType',fun R hR=>?_,fun i j C s2 hi hj _ hc=>?_⟩;rw[ksk_kind (keys:=vs.toArray) (kz:=ns) (by simpa using ia) (by simpa using h2)];exact wpAny_pure hR;unfold kas_ask;have hn:vs.length=ns.length:=by rw[← rv.length,ZB]
 have gi:∀ {i:Nat},i<vs.length->∃ t,vs.getD i Value.none=.int (ns.getD i 0) t:=fun {i} hi=>by
  have rr:=Xj rv hi;have hi':i<ns.length:=by lia
  have e:(ns.map V.int).getD i .Zr=.int (ns.getD i 0):=by simp[hi']
  rw[e] at rr;exact rr
 obtain⟨t,e1⟩:=gi hi;obtain⟨t',e2⟩:=gi hj;rw[e1,e2];exact kat_lt_int hc;rw[ZB] at pm up;have hb:∀ i∈p,i<ns.length:=fun i hi=>Z23.mp (pm.mem_iff.mp hi);rw[map_getD (d:=0) hb];exact q _ D (Xp pm) (Yw (R:=fun a b:Int=>a<=b) (fun a b c=>Int.le_trans) pm up fun i j h=>by simp only[ltI,decide_eq_false_iff_not] at h;lia) hD
theorem jI:ZG X (.builtin "sorted") (Z1n X.K):=by
 intro pins s σ H xs us Q I r h;obtain⟨l,xs,ps,rfl,hl,hp,h64,q⟩:=h;obtain⟨u,rfl,rfl⟩:=vals1 r;have hlen:xs.length=ps.length:=by have:=Zg.length hp;rw[ZB] at this;exact this
 refine X9 I (.inl hl) (by lia) (ltP ps) (z3W ps) (fun vs s' rv h2 kp=>?_) fun p D pm up hD=>?_;have hv:vs.length=ps.length:=by rw[← rv.length,hlen]
 have tup:∀ {s2:Shared},(∀ b o,b≠X.env.locals->s.heap.get? b=some o->s2.heap.get? b=some o)->∀ {i:Nat},i<vs.length->∃ a o n t1 t2,vs.getD i Value.none=.ref a/\s2.heap.get? a=some o/\o.cls=.type "tuple"/\o.data=.seq #[.int (ps.getD i (0,0)).1 t1,.int (ps.getD i (0,0)).2 t2] n:=fun {s2} k {i} hi=>by
  obtain⟨a,e,hq⟩:=z1Z hp (show i<ps.length by lia);have rr:=Xj rv hi;rw[e] at rr;obtain⟨its,ri,⟨o,ho,hc,n,hd⟩,_⟩:=I.tuple hq;obtain⟨u1,u2,rfl,⟨t1,rfl⟩,⟨t2,rfl⟩⟩:=vals2 ri;exact⟨a,o,n,t1,t2,rr,k a o (I.Z0t hq) ho,hc,by simpa using hd⟩
 refine⟨tuples' true,fun R hR=>?_,fun i j C s2 hi hj k hc=>?_⟩;have build:∀ (ws:List Value),(∀ v∈ws,∃ a o n x t1 y t2,v=.ref a/\s'.heap.get? a=some o/\o.cls=.type "tuple"/\o.data=.seq #[.int x t1,.int y t2] n)->∃ fs:List Value,fs.length=ws.length/\KatTups s'.heap ws fs/\∀ v∈fs,∃ x t,v=.int x t:=by
  intro ws
  induction ws with
  | nil=>intro _;exact⟨[],rfl,KatTups.nil,fun v h=>by simp at h⟩
  | cons w ws ih =>
    intro h;obtain⟨fs,e,t,a⟩:=ih fun v hv=>h v (Z07 _ hv);obtain⟨b,o,n,x,t1,y,t2,rfl,ho,hc,hd⟩:=h w Z0y;refine⟨.int x t1 :: fs,by simp[e],KatTups.cons ho hc hd rfl t,fun v hv=>?_⟩;rcases Z0z.mp hv with rfl | hv;exact⟨_,_,rfl⟩;exact a v hv
 obtain⟨fs,e,kt,fa⟩:=build vs fun v hv=>by
  obtain⟨i,hi,rfl⟩:=List.mem_iff_getElem.mp hv;obtain⟨a,o,n,t1,t2,e,ho,hc,hd⟩:=tup kp hi;have:vs.getD i Value.none=vs[i]:=by simp[hi]
  rw[this] at e;exact⟨a,o,n,_,t1,_,t2,e,ho,hc,hd⟩
 refine kat_kind (T:=.type "int") kt (by lia) (fun v hv=>?_) (by decide) hR;obtain⟨x,t,rfl⟩:=fa v hv;exact Looks.of_pure rfl;unfold kas_ask;obtain⟨a,o,n,t1,t2,e,ho,_,hd⟩:=tup k hi;obtain⟨a',o',n',t1',t2',e',ho',_,hd'⟩:=tup k hj;rw[e,e'];refine kat_lt ho hd ho' hd' (kat_cons ?_);have hc':C (xy (ps.getD i (0,0)) (ps.getD j (0,0))) s2:=hc;generalize ps.getD i (0,0)=x at *;generalize ps.getD j (0,0)=y at *;refine wpAny_eqBool_int ?_;by_cases h1:x.1=y.1;rw[show (x.1 == y.1)=true by simp[h1]];refine kat_yes (kat_cons (wpAny_eqBool_int ?_));by_cases h2:x.2=y.2;rw[show (x.2 == y.2)=true by simp[h2]];refine kat_yes (kat_nil ?_);have:xy x y=false:=by simp only[xy,decide_eq_false_iff_not];lia
 rw[this] at hc';simpa using hc';rw[show (x.2 == y.2)=false by simp[h2]];refine kat_no (kat_one _ _ ?_);have:xy x y=decide (x.2<y.2):=by simp only[xy,decide_eq_decide];lia
 rw[this] at hc';exact lt_int hc';rw[show (x.1 == y.1)=false by simp[h1]];refine kat_no (oneLt_int ?_);have:xy x y=decide (x.1<y.1):=by simp only[xy,decide_eq_decide];lia
 rw[this] at hc';exact hc';rw[hlen] at pm up;have hb:∀ i∈p,i<ps.length:=fun i hi=>Z23.mp (pm.mem_iff.mp hi);exact q _ _ D (Xp pm) (Yw XY pm up fun i j h=>z3i h) (vo hp hb) hD
theorem xm(env:Env):∀ (names:List (Str×NameKind)) (cs:List (Str×Addr)),(∀ y∈names,y.2=.free->∃ c,env.cells.lookup y.1=some c)->(∀ p∈cs,env.cells.lookup p.1=some p.2)->
 ∃ cl:List (Str×Addr),(forIn names cs fun x cs=>(match x with | (name,kind)=>if (kind == .free)=true then do let __do_lift ←cellOf env name;pure (ForInStep.yield ((name,__do_lift) :: cs)) else pure (ForInStep.yield cs):Sem (ForInStep (List (Str×Addr)))))=pure cl/\
   (∀ p∈cl,env.cells.lookup p.1=some p.2)/\(∀ p∈cs,p∈cl)/\∀ x,(x,NameKind.free)∈names->∃ c,(x,c)∈cl
 | [],cs,_,hc=>⟨cs,by rw[List.forIn_nil],hc,fun _ h=>h,fun x h=>by simp at h⟩
 | (n,k) :: names,cs,h,hc=>by
   have h':=fun y hy=>h y (Z07 _ hy);rw[Z5s];by_cases hk:k=.free;subst hk;obtain⟨c,e⟩:=h (n,.free) Z0y rfl;obtain⟨cl,e1,e2,e3,e4⟩:=xm env names ((n,c) :: cs) h' fun p hp=>by
    rcases Z0z.mp hp with rfl | hp;exact e;exact hc p hp
   refine⟨cl,?_,e2,fun p hp=>e3 p (Z07 _ hp),fun x hx=>?_⟩;have ec:cellOf env n=pure c:=by unfold cellOf;rw[e]
   simp only[ec,beq_self_eq_true,if_true,pure_bind];exact e1;rcases Z0z.mp hx with z | hx;cases z;exact⟨c,e3 _ Z0y⟩;exact e4 x hx;obtain⟨cl,e1,e2,e3,e4⟩:=xm env names cs h' hc;refine⟨cl,?_,e2,e3,fun x hx=>?_⟩
   have:(k == NameKind.free)=false:=by simpa using hk
   simp only[this,Bool.false_eq_true,if_false,pure_bind];exact e1;rcases Z0z.mp hx with z | hx;cases z;exact absurd rfl hk;exact e4 x hx
theorem Yc:∀ {l:List (Str×Addr)},(x,c)∈l->∃ c',l.lookup x=some c'
 | [],h=>by simp at h
 | (n,d) :: l,h=>by
   rw[List.lookup_cons];cases e:x == n with
   | true=>exact⟨d,rfl⟩
   | false =>
     rcases Z0z.mp h with z | h;cases z;simp at e;exact Yc h
theorem uz(h:∀ y∈scope.names,y.2=.free->∃ c,env.cells.lookup y.1=some c) :
 ∃ cl,closureFor scope env=pure cl/\(∀ x c,cl.lookup x=some c->env.cells.lookup x=some c)/\∀ x,(x,NameKind.free)∈scope.names->∃ c,cl.lookup x=some c:=by
 obtain⟨cl,e1,e2,_,e4⟩:=xm env scope.names [] h (fun p hp=>by simp at hp);refine⟨cl,?_,fun x c hx=>e2 (x,c) (Z36 hx),fun x hx=>?_⟩;unfold closureFor;refine Eq.trans (congrArg (fun t=>t >>= fun cs=>pure cs) ?_) (bind_pure _);exact e1;obtain⟨c,hc⟩:=e4 x hx;exact Yc hc
theorem Z5(N':List Str)(ks:List (Option Nat))(hcalm:X.calm=true)(hi:PI X tg iter wi)(hfree:∀ y∈scope.names,y.2=.free->X.env.scope.names.lookup y.1=some .cell)(hcell:∀ y∈scope.names,y.2≠.cell)(hkind:scope.kind=.function)(hnames:∀ y∈scope.names,y.2=.local->scope.names.lookup y.1=some .local)(hcap:U9 X (relabel scope X.env) N' ks)(hg:∀ cl C s H fp,PG (Zh X N' scope cl C s H fp) tg g)(ht:∀ cl C s H fp,PTs (Zh X N' scope cl C s H fp) ifs tt)(he:∀ cl C s H fp,PE (Zh X N' scope cl C s H fp) elt te)(hs:∀ x,foldedSetIterable iter X.env x=pure x:=by intro _;rfl):PE X (.ListComp elt [⟨tg,iter,ifs,0⟩] scope pos) (uN wi ks g tt te):=by
 intro pins s σ H Q I h;obtain⟨cl,e1,e2,e3⟩:=uz (scope:=scope) (env:=X.env) fun y hy hf=>I.ok.has y.1 (.inl (hfree y hy hf));refine z9u hcalm hi e1 e2 hcell hkind hnames (fun x hx=>?_) hcap (hg cl) (ht cl) (he cl) hs pins s σ H Q I h;have key:∀ k,(x,k)∈(relabel scope X.env).names->k=.cell\/k=.free->(x,NameKind.free)∈scope.names:=fun k hm hk=>by
  unfold relabel at hm;obtain⟨⟨n,k'⟩,hy,e⟩:=Z17.mp hm;dsimp only at e;split at e;rename_i hc;cases e;have:k'=.free:=by simp at hc;exact hc.1.1
  rw[← this];exact hy;cases e;rcases hk with rfl | rfl;exact absurd rfl (hcell _ hy);exact hy
 rcases hx with hx | hx;exact e3 x (key _ (Z36 hx) (.inl rfl));exact e3 x (key _ (Z36 hx) (.inr rfl))
theorem ua{lo:Int}(Pv:Nat->List V->St->Hp->Prop)(h0:Pv 0 [] σ0 H0)(hl:∀ i ys σ H,Pv i ys σ H->H D=some (.lst ys))(hs:∀ i ys σ H,i<n->Pv i ys σ H->g (.int (lo+i)) σ H fun σ3 H3=>tt σ3 H3 fun b H4=>if b=true then
  te σ3 H4 fun y H5=>H5 D=some (.lst ys)/\ys.length<sizeLine/\∃ m',m'<n - i/\Wt Pv n (i+1) m' (ys ++ [y]) σ3 (upd H5 D (.lst (ys ++ [y]))) else ∃ m',m'<n - i/\Wt Pv n (i+1) m' ys σ3 H4)(hd:∀ ys σ H,Pv n ys σ H->Q (.ref D) H) :
 XI (Itr lo n) D g tt te Q σ0 H0:=by
 refine⟨Wt Pv n,⟨n,rfl,Z18 _,h0⟩,?_⟩;rintro i m ys σ' H' ⟨rfl,hi,p⟩;refine⟨hl i ys σ' H' p,?_⟩;by_cases hlt:i<n;refine .inr ⟨hlt,fun x H2 y=>?_⟩;obtain⟨e,y⟩:=y;subst e y;exact hs i ys σ' _ hlt p;have e:i=n:=by lia
 subst e;exact .inl ⟨Z03 _,hd ys σ' H' p⟩
theorem Xm{X:Cx}{K:PySem.W.Frag}{es:List Expr}{k:Nat}{t:TGs}{pos:Pos}(n:Nat)(e:X.K=K)(hc:X.calm=true)(h:PGs X es t)
 (hn:(assignEach es X.env).length=n:=by rfl) (hst:(assignEach es X.env).findIdx? (·.1)=none:=by rfl):PG X (.Tuple es k pos) (z9q K n t):=e ▸ z2k hc h hn hst
def Z2V(K:PySem.W.Frag):List V->Hp->VK->Prop:=fun xs H Q=>∃ (l:Addr) (ns:List Int),xs=[.ref l]/\zQ K H l (ns.map V.int)/\Q (.int ns.sum) H
theorem z7I(hc:X.calm=true):ZG X (.builtin "sum") (Z2V X.K):=by
 intro pins s σ H xs us Q I r h;obtain⟨l,ns,rfl,hl,q⟩:=h;obtain⟨u,rfl,rfl⟩:=vals1 r;obtain⟨its,rv,pl,_⟩:=I.list hl;have hi:=intsAre_of rv;obtain⟨xs,hx⟩:=hi.allInts.items;have hl':s.heap.IsList l (intItems xs):=hx ▸ pl.isList;refine sum_intListG (I.ok.hd hc) hl' fun h' tk t' hk=>?_;have e1:ns=xs.toList.map (·.1):=by
  rw[← nums_intItems,← hx];exact (show numsOf its.toArray.toList=ns from hi.numsOf).symm
 have e2:preSum (numAt xs) xs.size=ns.sum:=by
  rw[preSum_eq,Z0A (by simp),e1]
 rw[e2];exact⟨.int ns.sum,H,I.kept (t':=tk) hk,⟨_,rfl⟩,q⟩
theorem z8X{H:Hp}{Q:VK}{o:HO}(h:∀ (p:Addr) (H':Hp),zC H H'->H p=none->H' p=some o->Q (.ref p) H'):∀ p,H p=none->Q (.ref p) (upd H p o):=fun p hp=>h p _ (zC.new hp) hp zh
def KL(H H':Hp):Prop:=∀ b o,H b=some o->(∀ xs,o≠.lst xs)->H' b=some o
theorem KL.trans(a:KL H H1)(b:KL H1 H2):KL H H2:=fun c o h n=>b c o (a c o h n) n
theorem zC.kl(s:zC H H'):KL H H':=fun b o h _=>s b o h
theorem KL.set(h:H l=some (.lst xs)):KL H (upd H l (.lst ys)):=fun b o e n=>by
 have:b≠l:=by rintro rfl;rw[h] at e;cases e;exact n xs rfl
 rw[zD this];exact e
theorem Kp.kl(k:Kp l H H')(h:H l=some (.lst xs)):KL H H':=fun b o e n=>k b o e (by rintro rfl;rw[h] at e;cases e;exact n xs rfl)
theorem KL.tup{H H':Hp}{b:Addr}{xs:List V}(k:KL H H')(h:H b=some (.tup xs)):H' b=some (.tup xs):=k b _ h fun _ z=>by cases z
theorem KL.YT(e:KL H H')(h:zX K H a xs):zX K H' a xs:=by
 rcases h with (h |⟨o,h⟩) | h;exact .inl (.inl (e _ _ h fun _ z=>by cases z))
 exact .inl (.inr ⟨o,e _ _ h fun _ z=>by cases z⟩);exact .inr h
theorem Xa:Zp K H [] []:=by simp only[Zp,Z42,Zg]
theorem YW(h:zX K H a [.int p.1,.int p.2])(r:Zp K H ps vs):Zp K H (p :: ps) (.ref a :: vs):=by
 simp only[Zp,Z1y,Zg,dtP,Den];exact⟨_,_,rfl,⟨a,_,rfl,h,_,_,rfl,rfl,_,_,rfl,rfl,rfl⟩,r⟩
theorem yo(h:Zp K H (p :: ps) vs):∃ a r,vs=.ref a :: r/\zX K H a [.int p.1,.int p.2]/\Zp K H ps r:=by
 simp only[Zp,Z1y,Zg,dtP,Den] at h;obtain⟨x,r,rfl,⟨a,xs,rfl,hq,y,r1,rfl,rfl,y2,r2,rfl,rfl,rfl⟩,hr⟩:=h;exact⟨a,r,rfl,hq,hr⟩
theorem Zp.kl(k:KL H H'):∀ {ps:List (Int×Int)}{vs:List V},Zp K H ps vs->Zp K H' ps vs
 | [],vs,h=>by
   simp only[Zp,Z42,Zg] at h;subst h;exact Xa
 | p :: ps,vs,h=>by
   obtain⟨a,r,rfl,hq,hr⟩:=yo h;exact YW (k.YT hq) (Zp.kl k hr)
theorem Zp.snoc(hp:zX K H a [.int p.1,.int p.2]):∀ {ps:List (Int×Int)}{vs:List V},Zp K H ps vs->Zp K H (ps ++ [p]) (vs ++ [.ref a])
 | [],vs,h=>by
   simp only[Zp,Z42,Zg] at h;subst h;exact YW hp Xa
 | q :: ps,vs,h=>by
   obtain⟨b,r,rfl,hq,hr⟩:=yo h;exact YW hq (Zp.snoc hp hr)
theorem Zp.append{qs:List (Int×Int)}(hq:Zp K H qs us):∀ {ps:List (Int×Int)}{vs:List V},Zp K H ps vs->Zp K H (ps ++ qs) (vs ++ us)
 | [],vs,h=>by
   simp only[Zp,Z42,Zg] at h;subst h;exact hq
 | q :: ps,vs,h=>by
   obtain⟨b,r,rfl,h1,hr⟩:=yo h;exact YW h1 (Zp.append hq hr)
theorem Zp.len(h:Zp K H ps vs):vs.length=ps.length:=by
 have:=Zg.length h;rw[ZB] at this;exact this
theorem Zp.get{K:PySem.W.Frag}{H:Hp}{ps:List (Int×Int)}{vs:List V}(h:Zp K H ps vs){i:Nat}{v:V}(hv:vs[i]?=some v):∃ a p,ps[i]?=some p/\v=.ref a/\zX K H a [.int p.1,.int p.2]:=by
 have hi:i<ps.length:=by rw[← h.len];exact (Z12.mp hv).1
 obtain⟨a,e,q⟩:=z1Z h hi;have e1:vs.getD i .Zr=v:=by rw[Z02,hv];rfl
 have e2:ps.getD i (0,0)=ps[i]:=by simp[hi]
 rw[e1] at e;rw[e2] at q;exact⟨a,ps[i],by simp[hi],e,q⟩
theorem z1a:∀ ps qs:List (Int×Int),Yr (ps.map dtP) (qs.map dtP)=decide (ps=qs)
 | [],[]=>rfl
 | [],_ :: _=>rfl
 | _ :: _,[]=>rfl
 | p :: ps,q :: qs=>by
   have e:uZ (dtP p) (dtP q)=decide (p=q):=by
    simp only[dtP,uZ];exact z7B p.1 p.2 q.1 q.2
   simp only[Z1y,Yr,e,z1a ps qs];by_cases h:p=q <;> simp[h]
theorem QM{ns:List Int}(p:ms.Perm ns)(h1:ms.Pairwise (·<=·))(h2:ns.Pairwise (·<=·)):ms=ns:=p.eq_of_pairwise (fun a b _ _ x y=>Int.le_antisymm x y) h1 h2
def Z0I:R2:=fun x y H Q=>∃ l b xs zs,x=.ref l/\y=.ref b/\H l=some (.lst xs)/\H b=some (.lst zs)/\xs.length+zs.length<=sizeLine/\∀ (p:Addr) (H':Hp),zC H H'->H p=none->H' p=some (.lst (xs ++ zs))->Q (.ref p) H'
def z9z(K:PySem.W.Frag):List V->Hp->VK->Prop:=fun xs H Q=>∃ (l:Addr) (ns:List Int),xs=[.ref l]/\zQ K H l (ns.map V.int)/\ns.length<64/\∀ (ms:List Int) (D:Addr) (H':Hp),ms.Perm ns->ms.Pairwise (·<=·)->zC H H'->H D=none->H' D=some (.lst (ms.map V.int))->Q (.ref D) H'
def z9S(K:PySem.W.Frag):List V->Hp->VK->Prop:=fun xs H Q=>∃ (l:Addr) (vs:List V) (ps:List (Int×Int)),xs=[.ref l]/\zQ K H l vs/\Zp K H ps vs/\ps.length<64/\∀ (us:List V) (ms:List (Int×Int)) (D:Addr) (H':Hp),ms.Perm ps->ms.Pairwise Z2->Zp K H' ms us->zC H H'->H D=none->H' D=some (.lst us)->Q (.ref D) H'
def Z1Y(K:PySem.W.Frag):List V->Hp->VK->Prop:=fun xs H Q=>∃ (p:Addr) (ys:List V),xs=[.ref p]/\zQ K H p ys/\∀ (t:Addr) (H':Hp),zC H H'->H t=none->H' t=some (.tup ys)->Q (.ref t) H'
theorem xZ:Y4 X (binaryOp .Add) Z0I:=fun pins s σ H x y v u Q I rx ry ⟨l,b,xs,zs,e1,e2,h1,h2,h3,q⟩=>Z2r pins s σ H x y v u Q I rx ry ⟨l,b,xs,zs,e1,e2,h1,h2,h3,z8X q⟩
theorem XE:ZG X (.builtin "sorted") (z9z X.K):=fun pins s σ H xs us Q I r ⟨l,ns,e,h1,h2,q⟩=>jh pins s σ H xs us Q I r ⟨l,ns,e,h1,h2,fun ms D a b hD=>q ms D _ a b (zC.new hD) hD zh⟩
theorem uX:ZG X (.builtin "sorted") (z9S X.K):=fun pins s σ H xs us Q I r ⟨l,vs,ps,e,h1,h2,h3,q⟩=>jI pins s σ H xs us Q I r ⟨l,vs,ps,e,h1,h2,h3,fun us ms D a b c hD=>q us ms D _ a b (c.kl (zC.new hD).kl) (zC.new hD) hD zh⟩
theorem yZ:ZG X (.type "tuple") (Z1Y X.K):=fun pins s σ H xs us Q I r ⟨p,ys,e,h1,q⟩=>Um pins s σ H xs us Q I r ⟨p,ys,e,.inl ⟨h1,z8X q⟩⟩
end L2
namespace Pw
def outs(ps:List (Int×Int))(page:Int):List Int:=(ps.filter fun p=>decide (p.1=page)).map (·.2)
theorem yY(ps:List (Int×Int))(p:Int×Int)(page:Int):outs (ps ++ [p]) page=outs ps page ++ (if p.1=page then [p.2] else []):=by
 unfold outs;rw[List.filter_append,Z15];by_cases h:p.1=page <;> simp[h]
theorem Z4(ps:List (Int×Int))(page:Int):(outs ps page).length<=ps.length:=by
 unfold outs;rw[ZB];exact List.length_filter_le ..
end Pw
namespace L2
def xC(K:PySem.W.Frag)(H:Hp)(w:Addr)(pages:Int)(ps:List (Int×Int)):Prop:=∃ (ws:Addr) (us:List V),H w=some (.tup [.int pages,.ref ws])/\H ws=some (.tup us)/\Zp K H ps us
theorem xC.kl(h:xC K H w pages ps)(k:KL H H'):xC K H' w pages ps:=by
 obtain⟨ws,us,a,b,c⟩:=h;exact⟨ws,us,k.tup a,k.tup b,c.kl k⟩
theorem xC.same(h:xC K H w pages ps)(k:zC H H'):xC K H' w pages ps:=h.kl k.kl
def Vt(K:PySem.W.Frag)(f:List (Int×Int)->Int->List Int):Sp:=fun vs H Q _=>∃ (w:Addr) (pages page:Int) (ps:List (Int×Int)),vs=[.ref w,.int page]/\xC K H w pages ps/\ps.length<=100/\
 ∀ (p:Addr) (H':Hp),zC H H'->H p=none->H' p=some (.lst ((f ps page).map V.int))->Q (.ref p) H'
open Builtin in
theorem Qu(a:Int)(t:Tok)(l:Addr)(items:Array Value)(n:Nat)(dd:Option Addr)(sl:Array (Option Value)) :
 Meets (Builtin.«int.__rmul__» ⟨[.int a t,.ref l],[]⟩) (fun _ R s=>s.heap.get? l=some { cls:=.type "tuple",dict:=dd,data:=.seq items n,slots:=sl }/\R (.ok (.ret Value.notImplemented)) s) :=
 .of_wp fun prog w A R s h=>by obtain⟨hp,g,d,tk,os⟩:=s;obtain⟨hl,h⟩:=h;wp_walk;exact⟨_,rfl,h⟩
theorem xU:fillsNumberSlot (.type "tuple") "mul"=pure false :=
 PySem.fillsNumberSlot_seq (id:="tuple.__mul__") (r:=some (.builtin "tuple.__rmul__")) F.slot_tuple_mul.lookup (by decide +kernel) F.slot_tuple_rmul.lookup (by decide +kernel)
theorem uF:seqRepeat? (.type "tuple")=pure (some (.builtin "tuple.__mul__")):=by
 unfold seqRepeat?;rw[PySem.seqSlot_of (T:="tuple") (name:="__mul__") (id:="tuple.__mul__") F.slot_tuple_mul.lookup (by decide +kernel),PySem.seqSlot_of (T:="tuple") (name:="__rmul__") (id:="tuple.__rmul__") F.slot_tuple_rmul.lookup (by decide +kernel)];rfl
open Builtin in
theorem z0w(l:Addr)(items:Array Value)(n:Nat)(dd:Option Addr)(sl:Array (Option Value))(u:Tok) :
 Meets (Builtin.«tuple.__mul__» ⟨[.ref l,.int 1 u],[]⟩) (fun _ R s=>s.heap.get? l=some { cls:=.type "tuple",dict:=dd,data:=.seq items n,slots:=sl }/\R (.ok (.ret (.ref l))) s) :=
 .of_wp fun prog w A R s h=>by obtain⟨hp,g,d,tk,os⟩:=s;obtain⟨hl,h⟩:=h;have f1:=AutoSeq1.idx_int;have f2:=AutoSeq1.sub_tuple_tuple;wp_walk using wpAny_loadPart' hl;exact⟨_,rfl,h⟩
open Builtin in
theorem jz(l:Addr)(items:Array Value)(n:Nat)(dd:Option Addr)(sl:Array (Option Value))(x:Int)(u:Tok)(h1:(decide (x < -(2 ^ 63)) || decide (x ≥ 2 ^ 63))=false)(h2:(items.isEmpty || x == 1)=false)(h3:(decide (x<=0) || items.isEmpty)=false)(h4:¬ (items.size * x > (2 ^ 63 - 1) / 8))(h5:Builtin.Tuple.tupleTooMany (items.size * x)=false)(hz:sizeOk (.seq ((List.replicate x.toNat items).foldl (· ++ ·) #[]))) :
 Meets (Builtin.«tuple.__mul__» ⟨[.ref l,.int x u],[]⟩) (fun _ R s=>s.heap.get? l=some { cls:=.type "tuple",dict:=dd,data:=.seq items n,slots:=sl }/\R (.ok (.ret (.ref s.heap.objs.size))) { s with heap:=s.heap.push { cls:=.type "tuple",data:=.seq ((List.replicate x.toNat items).foldl (· ++ ·) #[]) } }) :=
 .of_wp fun prog w A R s h=>by obtain⟨hp,g,d,tk,os⟩:=s;obtain⟨hl,h⟩:=h;have f1:=AutoSeq1.idx_int;have f2:=AutoSeq1.sub_tuple_tuple;wp_walk using wpAny_loadPart' hl;refine wpAny_ite_false (by simpa using h1) ?_;wp_walk using wpAny_loadPart' hl;refine wpAny_ite_false (decide_eq_false h4) ?_;wp_walk using wpAny_loadPart' hl;refine wpAny_ite_false (decide_eq_false (Nat.not_lt.mpr hz)) ?_;wp_walk using wpAny_loadPart' hl;exact⟨_,rfl,h⟩
def Z3O:R2:=fun x y H Q=>∃ l k xs,x=.ref l/\y=.int k/\H l=some (.tup xs)/\xs≠[]/\1<=k/\k<2 ^ 60/\xs.length * k.toNat<=sizeLine/\
 ∀ (p:Addr) (H':Hp),zC H H'->H' p=some (.tup (List.replicate k.toNat xs).flatten)->Q (.ref p) H'
theorem uc(its:List Value)(m:Nat):List.foldl (fun x1 x2=>x1 ++ x2) #[] (List.replicate m its.toArray)=(List.replicate m its).flatten.toArray:=by
 have:∀ (m:Nat) (a:List Value),List.foldl (fun x1 x2=>x1 ++ x2) a.toArray (List.replicate m its.toArray)=(a ++ (List.replicate m its).flatten).toArray:=fun m=>by
  induction m with
  | zero=>intro a;simp
  | succ m ih=>intro a;rw[Z4o,List.foldl_cons,Z4o,Z54,show a.toArray ++ its.toArray=(a ++ its).toArray by simp,ih (a ++ its),Z22]
 have:=this m [];rw[List.nil_append] at this;exact this
theorem z9t:Y4 X (binaryOp .Mult) Z3O:=by
 intro pins s σ H x y v u Q I rx ry h;obtain⟨l,k,xs,rfl,rfl,hH,hne,h1,h2,hz,q⟩:=h;cases rx;obtain⟨t,rfl⟩:=ry;obtain⟨z,its,r,p⟩:xs.length<=sizeLine/\∃ its:List Value,Vals xs its/\yr s.heap l its.toArray:=I.hok l _ hH;have p:=p.tup;obtain⟨⟨cls,dd,data,sl⟩,ho,hc,n,hd⟩:=id p;simp only at hc hd;subst hc hd;have hlen:its.toArray.size=xs.length:=by rw[Z05];exact r.length.symm
 have hpos:0<xs.length:=Z2K.mpr hne;by_cases hk:k=1;subst hk;refine wpAny_binaryOp_repeat_ref (T:="tuple") (U:="int") (by decide) ⟨_,ho,rfl⟩ (fun s'=>typeIs_int s' 1 t) xU F.fills_int_mul F.slot_int_rmul uF F.slot_int_index.lookup
  (call_meets F.slot_int_rmul (typeIs_int s 1 t) F.entry_int_rmul (F.args_int_rmul_2 _ _) (Qu 1 t l its.toArray n dd sl)
   ⟨ho,rfl,⟨_,ho,rfl⟩,call_meets F.slot_tuple_mul ⟨_,ho,rfl⟩ F.entry_tuple_mul (F.args_tuple_mul_2 _ _) (z0w l its.toArray n dd sl t) ⟨ho,?_⟩⟩)
 refine⟨.ref l,H,I,rfl,q l H (zC.refl _) ?_⟩;have:(List.replicate (1:Int).toNat xs).flatten=xs:=by
  show (List.replicate 1 xs).flatten=xs;simp
 rw[this];exact hH;have hz2:(List.replicate k.toNat its).flatten.length<=sizeLine:=by
  rw[len_rep,← r.length,Nat.mul_comm];exact hz
 have e1:((its.toArray.size:Nat):Int) * k=((xs.length * k.toNat:Nat):Int):=by
  rw[hlen,Int.natCast_mul,Int.toNat_of_nonneg (by lia)]
 have hsl:((sizeLine:Nat):Int)<=(2 ^ 63 - 1) / 8:=by decide
 have hzi:((xs.length * k.toNat:Nat):Int)<=((sizeLine:Nat):Int):=Int.ofNat_le.mpr hz;have hem:its.toArray.isEmpty=false:=by
  rw[Bool.eq_false_iff];intro h;have:=Array.isEmpty_iff.mp h;have h2:its.toArray.size=0:=by rw[this];rfl
  lia
 refine wpAny_binaryOp_repeat_ref (T:="tuple") (U:="int") (by decide) ⟨_,ho,rfl⟩ (fun s'=>typeIs_int s' k t) xU F.fills_int_mul F.slot_int_rmul uF F.slot_int_index.lookup
  (call_meets F.slot_int_rmul (typeIs_int s k t) F.entry_int_rmul (F.args_int_rmul_2 _ _) (Qu k t l its.toArray n dd sl)
   ⟨ho,rfl,⟨_,ho,rfl⟩,call_meets F.slot_tuple_mul ⟨_,ho,rfl⟩ F.entry_tuple_mul (F.args_tuple_mul_2 _ _)
    (jz l its.toArray n dd sl k t (by rw[decide_eq_false (by lia),decide_eq_false (by lia)];rfl) (by rw[hem];simpa using hk) (by rw[hem,decide_eq_false (by lia)];rfl)
     (by rw[e1];lia) (by unfold Builtin.Tuple.tupleTooMany;rw[e1];exact decide_eq_false (by lia)) (by rw[uc];show (List.replicate k.toNat its).flatten.toArray.size<=sizeLine;rw[Z05];exact hz2)) ⟨ho,?_⟩⟩)
 rw[uc];refine⟨.ref s.heap.objs.size,_,I.laid (t':=s.toks) (o:=.tup (List.replicate k.toNat xs).flatten) (fun b ob q=>Z00 _ q) (Z03 _) ?_,rfl,q _ _ (zC.new I.fresh) zh⟩;exact⟨by rw[len_rep,Nat.mul_comm];exact hz,_,r.rep k.toNat,yr.new _ _⟩
theorem VV:∀ {bs:List Bool}{its:List Value},Vals (bs.map V.bl) its->LSm.BoolsAre its bs
 | [],_,.nil=>.nil
 | b :: bs,_,.cons r t=>by
   cases r;exact .cons b (VV t)
def Z5c(K:PySem.W.Frag):List V->Hp->VK->Prop:=fun xs H Q=>∃ (l:Addr) (bs:List Bool),xs=[.ref l]/\zQ K H l (bs.map V.bl)/\Q (.bl (bs.all id)) H
theorem Qk(hc:X.calm=true):ZG X (.builtin "all") (Z5c X.K):=by
 intro pins s σ H xs us Q I r h;obtain⟨l,bs,rfl,hl,q⟩:=h;obtain⟨u,rfl,rfl⟩:=vals1 r;obtain⟨its,rv,pl,_⟩:=I.list hl;have hb:=VV rv;have hl':=pl.isList;have hh:=I.ok.hd hc;have hlt:l<s.heap.objs.size:=by obtain⟨_,e,_⟩:=hl';exact Z09 e
 refine call_all_walk (wpAny_pyIter_list hl' ?_);refine⟨s.heap.objs.size,[s.heap.objs.size,l],[s.heap.objs.size],its.toArray.size,_,_,fun i=>(bs[i]?).getD true,rfl,Walks.list (A:=X.A.in1) hh _ l (Z0T hlt) its.toArray,
  ⟨⟨_,Z08 _ rfl,rfl,rfl⟩,hl'.push _⟩,fun i v s' Q' E' hP hQ=>?_,fun h' tk hk=>?_⟩
 obtain⟨b,e,rfl⟩:=hb.get i v (by simpa using hP);simp only[e,Option.getD_some] at hQ;exact wpAny_truthy_bool hQ;have e:((List.range its.toArray.size).all fun i=>(bs[i]?).getD true)=bs.all id:=by
  rw[Z05,hb.length];exact LSm.range_all bs
 rw[e];exact⟨.bl (bs.all id),H,I.kept (t':=tk) (LSm.kept_iter hk),rfl,q⟩
end L2
namespace Pw
theorem z5D(hb:0<b)(ha:0<=a):0<=(mk a b).1:=by
 obtain⟨⟨c1,_⟩,w⟩:=Xs (a:=a) (b:=b) (by lia);have h:0<=(mk a b).1 * b:=by rw[w];exact Z4m ha (by lia)
 exact Int.nonneg_of_mul_nonneg_left h hb
theorem z7a:∀ {l:List Int},(∀ n∈l,0<=n)->0<=l.sum
 | [],_=>by simp
 | a :: l,h=>by
   have:=z7a fun n hn=>h n (Z07 _ hn);have:=h a Z0y;rw[List.sum_cons];lia
theorem Z5a{n:Int}(hn:0<n):mk 1 n=(1,n):=JU (p:=(1,n)) ⟨hn,by simp[Canon]⟩
end Pw
namespace L2
def yp(K:PySem.W.Frag)(H:Hp):List (Int×Int)->List V->Prop
 | [],vs=>vs=[]
 | A :: As,vs=>∃ p r,vs=.ref p :: r/\XC K H p A/\yp K H As r
def Qo(A:Int×Int):Dt:=.tup [.int A.1,.int A.2]
theorem yp.same(s:zC H H'):∀ {As:List (Int×Int)}{vs:List V},yp K H As vs->yp K H' As vs
 | [],_,h=>h
 | _ :: _,_,⟨p,r,e,f,h⟩=>⟨p,r,e,s _ _ f,yp.same s h⟩
theorem yp.snoc(f:XC K H p A):∀ {As:List (Int×Int)}{vs:List V},yp K H As vs->yp K H (As ++ [A]) (vs ++ [.ref p])
 | [],_,h=>by
   have h:_=([]:List V):=h;subst h;exact⟨p,[],rfl,f,rfl⟩
 | _ :: _,_,⟨q,r,e,g,h⟩=>⟨q,r ++ [.ref p],by rw[e];rfl,g,yp.snoc f h⟩
theorem yp.Z1Q:∀ {As:List (Int×Int)}{vs:List V},yp K H As vs->Zg K H (As.map Qo) vs
 | [],_,h=>by simp only[Z42,Zg];exact h
 | A :: As,_,⟨p,r,e,f,h⟩=>by
   simp only[Z1y,Zg];refine⟨.ref p,r,e,?_,yp.Z1Q h⟩;unfold Qo;simp only[Den];exact⟨p,_,rfl,zX.of f,z0O K H A.1 A.2⟩
theorem yp.dep:∀ As:List (Int×Int),yl (As.map Qo)<=20
 | []=>by simp only[Z42,yl];decide
 | A :: As=>by
   have:=yp.dep As;simp only[Z1y,yl,Qo,Xx];lia
theorem yp.len:∀ {As:List (Int×Int)}{vs:List V},yp K H As vs->vs.length=As.length
 | [],_,h=>by
   have h:_=([]:List V):=h;subst h;rfl
 | _ :: _,_,⟨p,r,e,f,h⟩=>by rw[e];simp[yp.len h]
theorem yp.kp(k:KL H H'):∀ {As:List (Int×Int)}{vs:List V},yp K H As vs->yp K H' As vs
 | [],_,h=>h
 | _ :: _,_,⟨p,r,e,f,h⟩=>⟨p,r,e,k.tup f,yp.kp k h⟩
theorem yp.at{K:PySem.W.Frag}{H:Hp}{As:List (Int×Int)}{vs:List V}(h:yp K H As vs){j:Nat}{A:Int×Int}(e:As[j]?=some A):∃ p,vs[j]?=some (.ref p)/\XC K H p A:=by
 induction As generalizing vs j with
 | nil=>simp at e
 | cons B As ih =>
   obtain⟨p,r,rfl,f,h⟩:=h;cases j with
   | zero=>simp at e;subst e;exact⟨p,by simp,f⟩
   | succ j =>
     obtain⟨q,a,b⟩:=ih h (j:=j) (by simpa using e);exact⟨q,by simpa using a,b⟩
theorem yp.rep(f:XC K H p A):∀ n:Nat,yp K H (List.replicate n A) (List.replicate n [V.ref p]).flatten
 | 0=>rfl
 | n+1=>by
   rw[Z4o,Z4o,Z54];exact⟨p,_,rfl,f,yp.rep f n⟩
theorem z4E(e:X.K=K)(hc:X.calm=true):ZG X (.builtin "sum") (Z2V K):=e ▸ z7I hc
theorem zB{X:Cx}{e:Expr}{es:List Expr}{te:TE}{t:TA}(hs:starEach (e :: es) X.env=(false,eval e X.env) :: starEach es X.env)(h1:PE X e te)(h2:PA X es t):PA X (e :: es) (UB te t):=xh h1 h2 hs
theorem jx{X:Cx}{pos:Pos}{i:Nat}{x:Str}{e:Expr}{te:TE}{pos':Pos}(hs:swapsWith e (some (.Name x pos')) pos.line X.env=pure false)(hf:X.fn x=true\/X.env.scope.names.lookup x=some .local)(hN:X.N.Nodup)(hi:X.N[i]?=some x)(hx:Loc X.env.scope x)(he:PE X e te) :
 PS X (.Assign [.Name x pos'] e pos) (z1r te (Zs i)):=QY hN hi hx he hs hf
def Z3b(K:PySem.W.Frag)(neg:Bool):R2:=fun x y H Q=>∃ a b xs,x=.ref a/\y=.ref b/\((zX K H a xs/\zX K H b [])\/(zQ K H a xs/\zQ K H b []))/\Q (.bl (if neg then !xs.isEmpty else xs.isEmpty)) H
theorem z4k{X:Cx}{σ:St}{A:Around}{xs:List V}(I:Inv X pins σ H s)(hu:A.units<cLine)(ha:zX X.K H a xs)(hb:zX X.K H b []) :
 SeqAt.RcAt A s (.ref a) (.ref b) xs.isEmpty/\SeqAt.RcNeAt A s (.ref a) (.ref b) (!xs.isEmpty):=by
 obtain⟨its,r1,p1,_⟩:=I.tuple ha;obtain⟨its2,r2,p2,_⟩:=I.tuple hb;cases r2;have l3:=r1.length;have q:=SeqAt.RcAt.tuples (A:=A) (s:=s) (e:=fun _=>true) p1 p2 hu (fun j h1 h2=>absurd h2 (Z41 j));have q2:=SeqAt.RcNeAt.tuples (A:=A) (s:=s) (e:=fun _=>true) p1 p2 hu (fun j h1 h2=>absurd h2 (Z41 j));have e:((List.range (min its.toArray.size ([]:List Value).toArray.size)).all (fun _=>true) && its.toArray.size == ([]:List Value).toArray.size)=xs.isEmpty:=by
  cases xs <;> cases its <;> simp at l3 ⊢
 rw[e] at q q2;exact⟨q,q2⟩
theorem z3K{X:Cx}{σ:St}{A:Around}{xs:List V}(I:Inv X pins σ H s)(hu:A.units<cLine)(ha:zQ X.K H a xs)(hb:zQ X.K H b []) :
 SeqAt.RcAt A s (.ref a) (.ref b) xs.isEmpty/\SeqAt.RcNeAt A s (.ref a) (.ref b) (!xs.isEmpty):=by
 obtain⟨its,r1,p1,_⟩:=I.list ha;obtain⟨its2,r2,p2,_⟩:=I.list hb;cases r2;have l3:=r1.length;cases xs with
 | nil =>
   cases r1;exact⟨SeqAt.RcAt.lists (A:=A) (s:=s) (e:=fun _=>true) p1.isList p2.isList rfl hu (fun j h1 h2=>absurd h2 (Z41 j)),SeqAt.RcNeAt.lists (A:=A) (s:=s) (e:=fun _=>true) p1.isList p2.isList rfl hu (fun j h1 h2=>absurd h2 (Z41 j))⟩
 | cons x xs =>
   have hsz:(its.toArray.size != ([]:List Value).toArray.size)=true:=by
    cases its <;> simp at l3 ⊢
   exact⟨SeqAt.RcAt.lists_lengths p1.isList p2.isList hsz hu,SeqAt.RcNeAt.lists_lengths p1.isList p2.isList hsz hu⟩
theorem z5R(hr:Zk k X.A):Y4 X (compareOp .Eq) (Z3b X.K false):=by
 intro pins s σ H x y v u Q I rx ry h;obtain⟨a,b,xs,rfl,rfl,hk,q⟩:=h;cases rx;cases ry;have hu:=hr.units;rcases hk with⟨ha,hb⟩|⟨ha,hb⟩;exact (z4k (A:=X.A) I (by lia) ha hb).1 _ _ _ _ ⟨.bl _,H,I,rfl,q⟩;exact (z3K (A:=X.A) I (by lia) ha hb).1 _ _ _ _ ⟨.bl _,H,I,rfl,q⟩
theorem z6u(hr:Zk k X.A):Y4 X (compareOp .NotEq) (Z3b X.K true):=by
 intro pins s σ H x y v u Q I rx ry h;obtain⟨a,b,xs,rfl,rfl,hk,q⟩:=h;cases rx;cases ry;have hu:=hr.units;rcases hk with⟨ha,hb⟩|⟨ha,hb⟩;exact (z4k (A:=X.A) I (by lia) ha hb).2 _ _ _ _ ⟨.bl _,H,I,rfl,q⟩;exact (z3K (A:=X.A) I (by lia) ha hb).2 _ _ _ _ ⟨.bl _,H,I,rfl,q⟩
end L2
namespace HT
theorem z6B{ws:List Value}(ht:IsTup s.heap t ([]:List Value).toArray)(hb:IsTup s.heap b ws.toArray)(h:Q (.ref b) s):wpAny (model prog w) A (binaryOp .Add (.ref t) (.ref b)) Q E s:=by
 obtain⟨⟨cls,dd,data,sl⟩,ho,hc,n,hd⟩:=id ht;obtain⟨⟨cls2,dd2,data2,sl2⟩,ho2,hc2,n2,hd2⟩:=id hb;simp only at hc hd hc2 hd2;subst hc hd hc2 hd2;exact concat_meets ⟨_,ho,rfl⟩ ⟨_,ho2,rfl⟩ noFill_tuple_add seq_tuple_add PySem.F.slot_tuple_add PySem.F.entry_tuple_add (PySem.F.args_tuple_add_2 _ _)
  (tuple_addW0 t b _ ws.toArray n n2 dd dd2 sl sl2 rfl) ⟨ho,ho2,h⟩
end HT
namespace L2
def Z1K:R2:=fun x y H Q=>∃ a b xs ys,x=.ref a/\y=.ref b/\H a=some (.tup xs)/\H b=some (.tup ys)/\xs.length+ys.length<=sizeLine/\∀ (p:Addr) (H':Hp),zC H H'->H' p=some (.tup (xs ++ ys))->Q (.ref p) H'
theorem z1g:Y4 X (binaryOp .Add) Z1K:=by
 intro pins s σ H x y v u Q I rx ry h;obtain⟨a,b,xs,ys,rfl,rfl,ha,hb,hz,q⟩:=h;cases hx:xs with
 | nil =>
   subst hx;cases rx;cases ry;obtain⟨_,its,r1,p1⟩:([]:List V).length<=sizeLine/\∃ its:List Value,Vals [] its/\yr s.heap a its.toArray:=I.hok a _ ha;obtain⟨_,its2,r2,p2⟩:ys.length<=sizeLine/\∃ its:List Value,Vals ys its/\yr s.heap b its.toArray:=I.hok b _ hb;cases r1;exact HT.z6B p1.tup p2.tup ⟨.ref b,H,I,rfl,q b H (zC.refl _) hb⟩
 | cons z zs =>
   refine z9Y pins s σ H _ _ v u Q I rx ry ⟨a,b,xs,ys,rfl,rfl,zX.of ha,zX.of hb,by rw[hx];simp,hz,fun e=>?_,fun _ p hp=>q p _ (zC.new hp) zh⟩;subst e;exact q a H (zC.refl _) (by rw[Z43];exact ha)
def Z0e(K:PySem.W.Frag):V->Option Int->Option Int->Hp->VK->Prop:=fun x lo hi H Q=>∃ a xs,x=.ref a/\zX K H a xs/\
 ¬ (HT.ZY xs.length 0 lo=0/\HT.ZY xs.length xs.length hi=xs.length)/\∀ (p:Addr) (H':Hp),zC H H'->H p=none->H' p=some (.tup (ZQ xs lo hi))->Q (.ref p) H'
theorem z9T:SlR X (Z0e X.K):=fun pins s σ H x v vl vu lo hi sl Q I rx hs pl pu ⟨a,xs,e,h1,h2,q⟩=>Z2n pins s σ H x v vl vu lo hi sl Q I rx hs pl pu ⟨a,xs,e,h1,h2,z8X q⟩
section
variable{κ:Type}[DecidableEq κ]
end
def Z3U(i:Expr):Prop:=∀ ov iv,subscripted i false ov iv=operate [ov,iv] (getItem ov iv)
theorem z8y{id:String}(hl:typeLookup (.type T) "__getitem__"=pure (some (.builtin id)))(hs:Z3U slice)(h:wpAny (model prog w) A (eval value env) (fun o s₁=>wpAny (model prog w) A (eval slice env) (fun i s₂=>s₂.TypeIs o T/\wpAny (model prog w) A (getItem o i) Q E s₂) E s₁) E s) :
 wpAny (model prog w) A (eval (.Subscript value slice pos) env) Q E s:=by
 refine Subscript_ (wpAny_mono h (fun o s₁ h₁=>wpAny_mono h₁ (fun i s₂ h₂=>?_) fun _ _ x=>x) fun _ _ x=>x);obtain⟨hT,h₂⟩:=h₂;unfold subscriptTail;refine wpAny_bind ?_;rw[getitemInPython_of_ne hT.not_modules];refine wpAny_bind (wpAny_specialOf hT hl ?_);have fin:wpAny (model prog w) A (subscripted slice false o i) (fun r s₃=>wpAny (model prog w) A (letTemporaryGo value o r >>= fun _=>pure r) Q E s₃) E s₂:=by
  rw[hs o i];exact wpAny_operating (wpAny_mono h₂ (fun r s₃ h₃=>wpAny_bind (wpAny_letTemporaryGo (wpAny_pure h₃))) fun _ _ x=>x)
 first
  | exact wpAny_pure (wpAny_bind fin)
  | exact wpAny_bind (wpAny_pure (wpAny_bind fin))
  | exact wpAny_bind fin
theorem z9j(h:j<n):ixN n (j:Int)=some j:=by
 unfold ixN;rw[if_pos (by lia),if_pos (by lia),Z2J]
theorem z8C:PE X (.UnaryOp .USub (.Constant (.int 1) j pos') pos) (tC (.int (-1))):=fun pins s σ H Q I h=>z3b jQ zP pins s σ H Q I ⟨_,rfl,h⟩
theorem z8J(hs:∀ x:Value,foldedSetIterable iter X.env x=pure x)(h1:PassesOwn (model X.prog X.w) X.A X.env X.xe)(h2:X.calm=true)(hi:PI X tg iter wi)(hg:PG X tg g)(hb:QW X body tb) :
 PS X (.For tg iter body [] pos) (Z2t wi g tb):=Z1N h1 h2 hi hg hb hs
end L2
namespace Pw
def qs:Nat->(Nat->Rat)->Rat
 | 0,_=>0
 | n+1,f=>qs n f+f n
theorem zN:∀ {n:Nat},(∀ i,i<n->f i=g i)->qs n f=qs n g
 | 0,_=>rfl
 | n+1,h=>by
   show qs n f+f n=qs n g+g n;rw[zN (n:=n) fun i hi=>h i (by lia),h n (by lia)]
theorem Zv(f g:Nat->Rat):∀ n,qs n (fun i=>f i+g i)=qs n f+qs n g
 | 0=>by show (0:Rat)=0+0;grind
 | n+1=>by
   show qs n _+(f n+g n)=(qs n f+f n)+(qs n g+g n);rw[Zv f g n];grind
theorem zY(c:Rat)(f:Nat->Rat):∀ n,qs n (fun i=>c * f i)=c * qs n f
 | 0=>by show (0:Rat)=c * 0;grind
 | n+1=>by
   show qs n _+c * f n=c * (qs n f+f n);rw[zY c f n];grind
theorem QG:∀ n,qs n (fun _=>0)=0
 | 0=>rfl
 | n+1=>by show qs n _+0=(0:Rat);rw[QG n];grind
theorem Vo(f:Nat->Nat->Rat)(m:Nat):∀ n,qs n (fun i=>qs m (fun j=>f i j))=qs m (fun j=>qs n (fun i=>f i j))
 | 0=>(QG m).symm
 | n+1=>by
   show qs n _+qs m _=qs m (fun j=>qs n (fun i=>f i j)+f n j);rw[Zv,Vo f m n]
theorem Xh:∀ {n:Nat},(∀ i,i<n->0<=f i)->0<=qs n f
 | 0,_=>by show (0:Rat)<=0;grind
 | n+1,h=>by
   have h1:=Xh (n:=n) fun i hi=>h i (by lia);have h2:=h n (by lia);show 0<=qs n f+f n;grind
theorem vP:∀ {n:Nat},(∀ i,i<n->f i<=g i)->qs n f<=qs n g
 | 0,_=>by show (0:Rat)<=0;grind
 | n+1,h=>by
   have h1:=vP (n:=n) fun i hi=>h i (by lia);have h2:=h n (by lia);show qs n f+f n<=qs n g+g n;grind
theorem YO:∀ {n:Nat},k<n->(∀ i,i<n->i≠k->f i=0)->qs n f=f k
 | n+1,hk,h=>by
   show qs n f+f n=f k;by_cases e:k=n;subst e;rw[zN (g:=fun _=>0) fun i hi=>h i (by lia) (by lia),QG];grind;rw[YO (n:=n) (by lia) fun i hi hn=>h i (by lia) hn,h n (by lia) (by lia)];grind
def val(A:Int×Int):Rat:=(A.1:Rat) / (A.2:Rat)
theorem Ze{d:Int}(h:d≠0):(d:Rat)≠0:=by simpa using h
theorem div_eq{a b c d:Rat}(hb:b≠0)(hd:d≠0):a / b=c / d↔a * d=c * b:=by
 constructor;intro h;grind;intro h;grind
theorem Z1F{n:Int}(h:Fr A n d):val A=(n:Rat) / (d:Rat):=by
 unfold val;rw[div_eq (Ze h.pos) (Ze h.ne)]
 exact_mod_cast h.w
theorem val_inj(a:Canon A)(b:Canon B)(h:val A=val B):A=B:=by
 have ha:=(Fr.of a).pos;have hb:=(Fr.of b).pos;unfold val at h;rw[div_eq (Ze ha) (Ze hb)] at h;exact Ql a b (by exact_mod_cast h)
theorem val_mk(h:b≠0):val (mk a b)=(a:Rat) / (b:Rat):=Z1F (Fr.made h)
theorem Zt(h:b≠0):Canon (mk a b):=(Xs h).1
theorem ve(ha:A.2≠0)(hb:B.2≠0):val (vC A B)=val A+val B:=by
 unfold vC;rw[val_mk (Z34 ha hb)];unfold val;have h1:=Ze ha;have h2:=Ze hb;rw[Z5m,Z0L,Z0L,Z0L];grind
theorem z4X(ha:A.2≠0)(hb:B.2≠0):val (JH A B)=val A - val B:=by
 unfold JH;rw[val_mk (Z34 ha hb)];unfold val;have h1:=Ze ha;have h2:=Ze hb;rw[Z48,Z0L,Z0L,Z0L];grind
theorem X3(ha:A.2≠0)(hb:B.2≠0):val (xV A B)=val A * val B:=by
 unfold xV;rw[val_mk (Z34 ha hb)];unfold val;have h1:=Ze ha;have h2:=Ze hb;rw[Z0L,Z0L];grind
theorem YA(ha:A.2≠0)(hb:B.2≠0):Canon (vC A B):=Zt (Z34 ha hb)
theorem yF(ha:A.2≠0)(hb:B.2≠0):Canon (JH A B):=Zt (Z34 ha hb)
theorem Zn(ha:A.2≠0)(hb:B.2≠0):Canon (xV A B):=Zt (Z34 ha hb)
theorem zI(h:Canon A):A.2≠0:=by have:=h.1;lia
theorem z9Q:Canon (0,1):=⟨by decide,by decide⟩
theorem Z2X:val (1,1)=1:=by unfold val;show ((1:Int):Rat) / ((1:Int):Rat)=1;rw[Rat.intCast_one];grind
def QI(A B:Int×Int)(c m:Int):Int×Int:=vC (xV A B) (xV (JH (1,1) A) (mk c m))
theorem xJ(a:Canon A)(b:Canon B)(hm:m≠0):val (QI A B c m)=val A * val B+(1 - val A) * ((c:Rat) / (m:Rat)):=by
 have ha:=zI a;have hb:=zI b;unfold QI;rw[ve (zI (Zn ha hb)) (zI (Zn (zI (yF (by decide) ha)) (zI (Zt hm)))),X3 ha hb,X3 (zI (yF (by decide) ha)) (zI (Zt hm)),z4X (by decide) ha,Z2X,val_mk hm]
theorem XX(a:Canon A)(b:Canon B)(hm:m≠0):Canon (QI A B c m):=by
 have ha:=zI a;have hb:=zI b;exact YA (zI (Zn ha hb)) (zI (Zn (zI (yF (by decide) ha)) (zI (Zt hm))))
def Zb(ps:List (Int×Int))(A:Int×Int)(Bs:List (Int×Int))(page:Int):List (Int×Int) :=
 if outs ps page=[] then Bs else (List.range Bs.length).map fun t=>QI A (Bs.getD t (0,1)) ((outs ps page).count (t:Int):Nat) ((outs ps page).length:Nat)
theorem vt(ps:List (Int×Int))(A:Int×Int)(Bs:List (Int×Int))(page:Int):(Zb ps A Bs page).length=Bs.length:=by
 unfold Zb;split <;> simp
def z9(Bs:List (Int×Int)):Prop:=∀ B∈Bs,Canon B
theorem z9.getD(h:z9 Bs)(t:Nat):Canon (Bs.getD t (0,1)):=by
 rw[Z02];cases e:Bs[t]? with
 | none=>exact z9Q
 | some B=>exact h B (Z21 e)
theorem yJ(h:outs ps page≠[]):(((outs ps page).length:Nat):Int)≠0:=by
 have:=Z2K.mpr h;lia
theorem vF(a:Canon A)(b:z9 Bs):z9 (Zb ps A Bs page):=by
 unfold Zb;split;exact b;rename_i h;intro B hB;obtain⟨t,_,rfl⟩:=Z17.mp hB;exact XX a (b.getD t) (yJ h)
theorem QX:∀ {l:List Int},(∀ x∈l,0<=x/\x<n)->qs n (fun t=>((l.count (t:Int):Nat):Rat))=((l.length:Nat):Rat)
 | [],_=>by
   rw[zN (g:=fun _=>0) fun i _=>by simp,QG];simp
 | x :: l,h=>by
   have ih:=QX (l:=l) fun y hy=>h y (Z07 _ hy);have hx:=h x Z0y;rw[zN (g:=fun t=>((l.count (t:Int):Nat):Rat)+(if (t:Int)=x then 1 else 0)) fun t _=>?_,Zv,ih,YO (k:=x.toNat) (by lia) fun i _ hi=>?_];rw[if_pos (by lia)];simp;rw[if_neg (by lia)];rw[List.count_cons];by_cases c:(t:Int)=x;rw[if_pos c,if_pos (by simp[c])];simp;rw[if_neg c,if_neg (by simpa using fun z=>c z.symm)];simp;grind
theorem Yp{f:Nat->Int×Int}{d:Int×Int}(h:t<n):((List.range n).map f).getD t d=f t:=by
 rw[Z02,Z14,Z5r h];rfl
theorem z0u(ok:∀ p∈ps,0<=p.2/\p.2<pages)(h:x∈outs ps page):0<=x/\x<pages:=by
 unfold outs at h;obtain⟨p,hp,rfl⟩:=Z17.mp h;exact ok p (List.mem_filter.mp hp).1
theorem VN(ok:∀ p∈ps,0<=p.2/\p.2<(n:Int))(a:Canon A)(b:z9 Bs)(hn:Bs.length=n)(h1:qs n (fun t=>val (Bs.getD t (0,1)))=1) :
 qs n (fun t=>val ((Zb ps A Bs page).getD t (0,1)))=1:=by
 unfold Zb;split;exact h1;rename_i h;have hm:=yJ h;have hs:=QX (n:=n) (l:=outs ps page) fun x hx=>z0u ok hx;have hm':=Ze hm;rw[zN (g:=fun t=>val A * val (Bs.getD t (0,1))+((1 - val A) / ((((outs ps page).length:Nat):Int):Rat)) * (((outs ps page).count (t:Int):Nat):Rat)) fun t ht=>?_,Zv,zY,zY,hs,h1];have e:((((outs ps page).length:Nat):Int):Rat)=(((outs ps page).length:Nat):Rat):=rfl;rw[e] at hm' ⊢;grind;rw[Yp (by lia),xJ a (b.getD t) hm];have e:((((outs ps page).count (t:Int):Nat):Int):Rat)=(((outs ps page).count (t:Int):Nat):Rat):=rfl;rw[e];grind
theorem Vn:∀ ws:List Int,qs ws.length (fun t=>((ws.getD t 0:Int):Rat))=((ws.sum:Int):Rat):=by
 intro ws;have key:∀ k,k<=ws.length->qs k (fun t=>((ws.getD t 0:Int):Rat))=(((ws.take k).sum:Int):Rat):=by
  intro k
  induction k with
  | zero=>intro _;simp[qs]
  | succ k ih =>
    intro hk;show qs k _+_=_;have e:ws[k]?=some ws[k]:=(by simp);rw[ih (by lia),Z4l,List.sum_append,Z5m,e];show _+((ws.getD k 0:Int):Rat)=_;rw[Z02,e];simp
 have:=key ws.length (Z03 _);rwa [Z0A (Z03 _)] at this
end Pw
namespace L2
theorem Inv.z8G{X:Cx}{pins:List (Addr×Obj)}{σ:St}{H:Hp}{s:Shared}{h':Heap}{ch:List Addr}{t':Nat}(I:Inv X pins σ H s)(k:∀ b ob,b∉ch->s.heap.get? b=some ob->h'.get? b=some ob)(fe:∀ b∈ch,xA X pins H b):Inv X pins σ H { s with heap:=h',toks:=t' }:=by
 have nit:∀ b u,H b=some u->b∉ch:=fun b u q z=>by rw[(fe b z).1] at q;cases q
 refine I.step (g':=s.gens) (d':=s.drawn) (ch:=ch) (fun b hb=>?_) (fun b ob _ _ hc q _=>k b ob hc q) (fun b ob _ _ hc q _=>⟨ob.slots,k b ob hc q⟩) (fun _ _ _ _ n=>n)
  (fun b ob hc q=>⟨ob,k b ob hc q⟩) (fun _ _ q=>q) (fun _ _ _ q=>q) (fun b ps q=>⟨#[],by rw[q];simp⟩) (fun m hm=>?_) (fun b u q=>?_) I.bare
 have z:=fe b hb;exact⟨z.2.2.2.1,z.2.1,z.2.2.2.2.1,z.2.2.2.2.2⟩;obtain⟨ob,es,ep,ho,r⟩:=hm;exact⟨ob,es,ep,k _ ob (fun z=>(fe _ z).2.1 rfl) ho,r⟩;refine (I.hok b u q).stay (fun c v hc z=>k c v ?_ z) (fun _ z=>z) fun _ _ z=>z;rcases hc with z | z;rw[z];exact nit b u q;exact nit c _ z
theorem Inv.z2e{X:Cx}{pins:List (Addr×Obj)}{σ:St}{H:Hp}{s:Shared}{h':Heap}{ch:List Addr}{T:Addr}{o:HO}{t':Nat}(I:Inv X pins σ H s)(k:∀ b ob,b∉ch->s.heap.get? b=some ob->h'.get? b=some ob)(fe:∀ b∈ch,xA X pins H b)
 (hT:s.heap.objs.size<=T) (new:Zw X.prog X.w (upd H T o) h' T o):Inv X pins σ (upd H T o) { s with heap:=h',toks:=t' }:=by
 have hn:H T=none:=I.hok.fresh hT;have neT:∀ b ob,s.heap.get? b=some ob->b≠T:=fun b ob q=>Z0T (Z13 (Z09 q) hT);have nit:∀ b u,H b=some u->b∉ch:=fun b u q z=>by rw[(fe b z).1] at q;cases q
 refine I.step (g':=s.gens) (d':=s.drawn) (ch:=ch) (fun b hb=>?_) (fun b ob _ _ hc q _=>k b ob hc q) (fun b ob _ _ hc q _=>⟨ob.slots,k b ob hc q⟩)
  (fun b ob _ q n=>by rw[zD (neT b ob q)];exact n) (fun b ob hc q=>⟨ob,k b ob hc q⟩)
  (fun b xs q=>by rw[zD (zo q hn)];exact q) (fun b ob u q=>by rw[zD (zo q hn)];exact q) (fun b ps q=>⟨#[],by rw[zD (zo q hn),q];simp⟩) (fun m hm=>?_) (fun b u q=>?_) I.bare
 have z:=fe b hb;exact⟨z.2.2.2.1,z.2.1,z.2.2.2.2.1,z.2.2.2.2.2⟩;obtain⟨ob,es,ep,ho,r⟩:=hm;exact⟨ob,es,ep,k _ ob (fun z=>(fe _ z).2.1 rfl) ho,r⟩;by_cases hb:b=T;subst hb;rw[zh] at q;cases q;exact new;rw[zD hb] at q;refine (I.hok b u q).stay (fun c v hc z=>?_) (fun c z=>by rw[zD (zo z hn)];exact z) fun c xs z=>by rw[zD (zo z hn)];exact z
 rcases hc with e1 | e1;subst e1;exact k _ v (nit _ u q) z;exact k c v (nit c _ e1) z
def z5N(prog:Program)(w:World)(A:Around)(I:Addr)(wr:List Addr)(n:Nat)(Pt:Nat->Array Value->Prop)(St:Nat->Heap->Prop)(Mid:Nat->Addr->Heap->Prop):Prop :=
 ∀ (i:Nat) (s:Shared) (Q:Option Value->Shared->Prop) (E:Value->Shared->Prop),i<n->St i s.heap->
   (∀ (T:Addr) (x y:Value) (h':Heap) (tk:Nat),Pt i #[x,y]->s.heap.objs.size<=T->h'.get? T=some { cls:=.type "tuple",data:=.seq #[x,y] }->Mid i T h'->(∀ b o,b∉wr->s.heap.get? b=some o->h'.get? b=some o)->Q (some (.ref T)) { s with heap:=h',toks:=tk })->
   wpAny (model prog w) A (pyNext (.ref I)) Q E s
theorem z2m{St:Nat->Heap->Prop}(D:Draws prog w A.in1 it fp n Pp St)(e:Addr)(hei:e≠it)(hef:e∉fp) :
 z5N prog w A e [e,it] n (fun i vals=>∃ t x,Pp i x/\vals=#[.int i t,x]) (fun i h=>(∃ old,IsEnum h e it i old)/\St i h) (fun i T h=>(∃ x,IsEnumOut h e it ((i:Int)+1) x T)/\St (i+1) h/\T≠e/\T≠it):=fun i s Q E hi hst q=>by
 obtain⟨⟨old,he⟩,hs⟩:=hst;refine wpAny_pyNext_enum_itemD D he hs hi hei hef fun x hp tk hP ho hs' hT hsz hk=>?_;have l1:e<s.heap.objs.size:=Z09 he;have l2:it<s.heap.objs.size:=by obtain⟨_,y⟩:=D.live _ _ hs;exact Z09 y
 exact q _ _ _ hp (tk+1) ⟨_,_,hP,rfl⟩ (Z03 _) hT ⟨⟨_,ho⟩,hs',Z33 l1,Z33 l2⟩ fun b o hb y=>hk b o (fun z=>hb (by simp[z])) (fun z=>hb (by simp[z])) y
def ItP(go:Nat->Hp->Prop)(pr:Nat->Hp->V->V->Prop)(stop:Nat->Hp->Prop):It:=⟨go,fun i H x H'=>∃ T u v,x=.ref T/\H T=none/\H'=upd H T (.tup [u,v])/\pr i H u v,stop⟩
theorem Vz(hI:I∈fp)(hw:∀ b∈wr,b∈fp)(obj:∀ i h,tn i h->∀ b∈fp,∃ o,h.get? b=some o/\∀ v,o.data≠.cell v)(keep:∀ i h h',tn i h->(∀ b∈fp,∀ o,h.get? b=some o->h'.get? b=some o)->tn i h')(self:∀ (A:Around) (i:Nat) (s:Shared) (Q:Value->Shared->Prop) (E:Value->Shared->Prop),tn i s.heap->Q (.ref I) s->wpAny (model P w) A (pyIter (.ref I)) Q E s)(it:∀ (X:Cx),X.prog=P->X.w=w->X.K=K->X.calm=true->∀ (i:Nat) (pins:List (Addr×Obj)) (s:Shared) (σ:St) (H:Hp),Inv X pins σ H s->(∀ b∈fp,xA X pins H b)->tn i s.heap->go i H->
  ∃ fp' n Pt St Mid,(WalksT P w X.A I fp' wr n Pt St Mid/\z5N P w X.A I wr n Pt St Mid)/\i<n/\St i s.heap/\(∀ h',St (i+1) h'->tn (i+1) h')/\∀ vals,Pt i vals->∃ u v x y,vals=#[x,y]/\RelV u x/\RelV v y/\pr i H u v)(dn:∀ (X:Cx),X.prog=P->X.w=w->X.K=K->X.calm=true->∀ (i:Nat) (pins:List (Addr×Obj)) (s:Shared) (σ:St) (H:Hp),Inv X pins σ H s->(∀ b∈fp,xA X pins H b)->tn i s.heap->stop i H->
  ∃ fp' n Pt St Mid,WalksT P w X.A I fp' wr n Pt St Mid/\St n s.heap) :
 Turn P w K (.Tuple elts ek epos) (ItP go pr stop) fp I tn where
 mem:=hI
 obj:=obj
 keep:=keep
 self:=self
 item:=by
  intro X hP hw' hK hc i pins s σ H E I0 hf st hg;obtain⟨fp',n,Pt,St,Mid,⟨W,WN⟩,hi,hst,hnx,hpt⟩:=it X hP hw' hK hc i pins s σ H I0 hf st hg;subst hP hw' hK;refine WN i s _ _ hi hst fun T x0 y0 h1 tk hv hT hIT hmid hk1=>⟨.ref T,rfl,?_⟩;refine W.go elts ek epos i T _ _ _ hmid fun h2 hs2 hk2=>?_;obtain⟨u,v,x,y,exy,ru,rv,hpr⟩:=hpt _ hv;cases exy;have fe:∀ b∈wr,xA X pins H b:=fun b hb=>hf b (hw b hb);have hTw:T∉wr:=W.apart i T _ hmid;have hn:H T=none:=I0.hok.fresh hT;have I2:Inv X pins σ (upd H T (.tup [u,v])) { s with heap:=h2,toks:=tk } :=
   I0.z2e (ch:=wr) (fun b ob hb q=>hk2 b ob hb (hk1 b ob hb q)) fe hT ⟨by show 2<=sizeLine;decide,[x0,y0],.cons ru (.cons rv .nil),⟨_,hk2 T _ hTw hIT,rfl,_,rfl⟩⟩
  refine⟨.ref T,_,I2,rfl,⟨T,u,v,rfl,hn,rfl,hpr⟩,hnx _ hs2,fun b hb=>?_⟩;obtain⟨ob,eb,_⟩:=obj i _ st b hb;rw[zD (Z0T (Z13 (Z09 eb) hT))];exact (hf b hb).1
 done:=by
  intro X hP hw' hK hc i pins s σ H E I0 hf st hg;obtain⟨fp',n,Pt,St,Mid,W,hst⟩:=dn X hP hw' hK hc i pins s σ H I0 hf st hg;subst hP hw' hK;exact W.done s _ _ hst fun h1 tk hk=>⟨rfl,I0.z8G hk fun b hb=>hf b (hw b hb)⟩
theorem z2d(hj:s.heap.IsTupleIter j t i)(hs:s.heap.IsTuple t its)(hy:its[i]?=some y)(q:∀ hp,hp.IsTupleIter j t (i+1)->Heap.SameBut j s.heap hp->Q y { s with heap:=hp }):wpAny (model prog w) A (Builtin.SmallTypes.nextOf (.ref j)) Q E s:=by
 obtain⟨oj,gj,cj,dj⟩:=id hj;obtain⟨ot,gt,ct,nt,dt⟩:=hs;unfold Builtin.SmallTypes.nextOf;refine wpAny_bind (wpAny_callSpecial?_slot (name:=Str.ofString "__next__") hj.typeIs slot_tupleiter_next (wpAny_call_entry slot_tupleiter_next hj.typeIs entry_tupleiter_next ?_ (args_tupleiter_next _)));show wpAny _ _ (field (.ref j) 0 >>= _) _ _ s;refine wpAny_bind (wpAny_field gj dj (x:=.ref t) rfl ?_);show wpAny _ _ (if (Value.ref t == Value.none)=true then _ else _) _ _ s;rw[if_neg (show ¬ ((Value.ref t == Value.none)=true) from Z10)];show wpAny _ _ (field (.ref j) 1 >>= _) _ _ s;refine wpAny_bind (wpAny_field gj dj (x:=.int i 0) rfl ?_);show wpAny _ _ (seqItems? (.ref t) >>= _) _ _ s;refine wpAny_bind (wpAny_seqItems gt dt ?_);simp only[Z2J,hy];refine wpAny_bind (wpAny_setField gj dj (by simp) (wpAny_pure ⟨y,rfl,wpAny_pure (q _ ?_ (Heap.SameBut.update ..))⟩));exact⟨_,Heap.get?_update_self _ gj (Obj.isFreed_of_fields (Obj.data_mapFields dj _)),(Obj.cls_mapFields ..).trans cj,by rw[Obj.data_mapFields dj];simp[rawInt]⟩
theorem z2E(hh:A.handled=none)(hj:s.heap.IsTupleIter j t i)(hs:s.heap.IsTuple t its)(hy:its[i]?=none)(q:∀ hp e,Heap.ExtBut j s.heap hp->(∃ o,hp.get? e=some o/\o.cls=.type "StopIteration")->E (.ref e) { s with heap:=hp }):wpAny (model prog w) A (Builtin.SmallTypes.nextOf (.ref j)) Q E s:=by
 obtain⟨oj,gj,cj,dj⟩:=id hj;obtain⟨ot,gt,ct,nt,dt⟩:=hs;unfold Builtin.SmallTypes.nextOf;refine wpAny_bind (wpAny_callSpecial?_slot (name:=Str.ofString "__next__") hj.typeIs slot_tupleiter_next (wpAny_call_entry slot_tupleiter_next hj.typeIs entry_tupleiter_next ?_ (args_tupleiter_next _)));show wpAny _ _ (field (.ref j) 0 >>= _) _ _ s;refine wpAny_bind (wpAny_field gj dj (x:=.ref t) rfl ?_);show wpAny _ _ (if (Value.ref t == Value.none)=true then _ else _) _ _ s;rw[if_neg (show ¬ ((Value.ref t == Value.none)=true) from Z10)];show wpAny _ _ (field (.ref j) 1 >>= _) _ _ s;refine wpAny_bind (wpAny_field gj dj (x:=.int i 0) rfl ?_);show wpAny _ _ (seqItems? (.ref t) >>= _) _ _ s;refine wpAny_bind (wpAny_seqItems gt dt ?_);simp only[Z2J,hy];refine wpAny_bind (wpAny_rule (wpAny_bind (wpAny_setField gj dj (by simp) ?_)));show wpAny _ _ (newExc (.type "StopIteration") [] >>= _) _ _ _;refine wpAny_bind ?_;simp only[newExc,newTuple];refine wpAny_bind (wpAny_newObj_type ?_ (by size_fits));refine wpAny_bind (m:=firstArgMember _ _) (wpAny_of_eq (a:=Value.none) (by first | rfl | (simp only[firstArgMember];rfl)) ?_)
 refine wpAny_newObj_type ?_ (by size_fits);simp only[raiseNew];refine wpAny_bind (wpAny_handled ?_)
 first | rw[show A.in1.handled=none from hh] | rw[hh]
 refine wpAny_bind (wpAny_pure (wpAny_throw ?_));exact q _ _ (((Heap.SameBut.update ..).extBut.push _).push _) ⟨_,Z08 _ rfl,rfl⟩
theorem Z1O(hh:A.handled=none)(it l:Addr)(hne:l≠it)(its:Array Value) :
 Draws prog w A it [it,l] its.size (fun i v=>its[i]?=some v) (fun i h=>h.IsTupleIter it l i/\h.IsTuple l its) where
 live:=fun _ _ st=>by
  obtain⟨o,ho,_⟩:=st.1;exact⟨o,ho⟩
 frame:=fun _ _ _ st hk=>by
  obtain⟨o,ho,r⟩:=st.2;exact⟨st.1.at fun o e=>hk it (by simp) o e,o,hk l (by simp) o ho,r⟩
 item:=fun i s Q E hi st hQ=>by
  obtain⟨s1,o,ho,r⟩:=st;exact z2d s1 ⟨o,ho,r⟩ (y:=its[i]) (by simp[hi]) fun hp a b=>hQ _ hp s.toks (by simp[hi]) ⟨a,o,b.extBut l o hne ho,r⟩ b
 done:=fun s Q E st hE=>z2E hh st.1 st.2 (by simp) hE
def z4B(K:PySem.W.Frag)(a:Addr):It:=ItP (fun i H=>∃ xs x,zQ K H a xs/\xs[i]?=some x) (fun i H u v=>u=.int i/\∀ xs,zQ K H a xs->xs[i]?=some v) (fun i H=>∃ xs,zQ K H a xs/\xs.length=i)
theorem z1o{e:Addr}(hei:e≠it)(hae:a≠e)(hai:a≠it):Turn P w K (.Tuple elts ek epos) (z4B K a) [e,it] e (fun i h=>(∃ old,IsEnum h e it i old)/\h.IsListIter it a i):=by
 have hef:e∉[it,a]:=fun z=>by
  rcases Z0z.mp z with z | z;exact hei z;exact hae (Z04.mp z).symm
 refine Vz (wr:=[e,it]) (by simp) (fun b hb=>hb) (fun i h st b hb=>?_) (fun i h h' st k=>?_) (fun A i s Q E st q=>?_) ?_ ?_;obtain⟨⟨old,g⟩,o,ho,oc,od⟩:=st;rcases Z0z.mp hb with z | z;subst z;exact⟨_,g,fun v z=>by cases z⟩
 have z:=Z04.mp z;subst z;exact⟨o,ho,fun v z=>by rw[od] at z;cases z⟩;obtain⟨⟨old,g⟩,g2⟩:=st;exact⟨⟨old,k e (by simp) _ g⟩,g2.at fun o z=>k it (by simp) o z⟩;obtain⟨⟨old,g⟩,g2⟩:=st;exact wpAny_pyIter_enum g q;intro X hP hw' hK hc i pins s σ H I0 hf st hg;obtain⟨xs,x,hq,hx⟩:=hg;rw[← hK] at hq;obtain⟨its,rv,p,hz⟩:=I0.list hq;obtain⟨u,hu,ru⟩:=rv.get hx;have hl:=rv.length;have hix:i<xs.length:=(Z12.mp hx).1;refine⟨_,_,_,_,_,⟨WalksT.enumerateD (Draws.list (prog:=P) (w:=w) (A:=X.A.in1) (I0.ok.hd hc) it a hai its.toArray) e hei hef (by simp),z2m (Draws.list (prog:=P) (w:=w) (A:=X.A.in1) (I0.ok.hd hc) it a hai its.toArray) e hei hef⟩,by rw[Z05];lia,⟨st.1,st.2,p.isList⟩,fun h' z=>⟨z.1,z.2.1⟩,?_⟩;rintro vals ⟨t,y,hy,rfl⟩;refine⟨.int i,x,_,y,rfl,⟨t,rfl⟩,?_,rfl,fun ys hys=>?_⟩;have:its[i]?=some y:=by simpa using hy
 rw[hu] at this;cases this;exact ru;have hys':zQ X.K H a ys:=by rw[hK];exact hys
 rw[I0.Qx hys' hq];exact hx;intro X hP hw' hK hc i pins s σ H I0 hf st hg;obtain⟨xs,hq,hx⟩:=hg;rw[← hK] at hq;obtain⟨its,rv,p,hz⟩:=I0.list hq;have hl:=rv.length;have e1:its.toArray.size=i:=by rw[Z05];lia
 refine⟨_,_,_,_,_,WalksT.enumerateD (Draws.list (prog:=P) (w:=w) (A:=X.A.in1) (I0.ok.hd hc) it a hai its.toArray) e hei hef (by simp),?_⟩;rw[e1];exact⟨st.1,st.2,p.isList⟩
def Z3f(K:PySem.W.Frag)(ta:TA):TI:=fun σ H R=>ta σ H fun vs H1=>∃ a xs,vs=[.ref a]/\zQ K H1 a xs/\R (z4B K a) H1
theorem Z2B(hg:Gl X "enumerate")(hm:X.mg "enumerate"=none)(ha:PA X [a] ta)(hs:starEach [a] X.env=[(false,eval a X.env)]:=by rfl):PI X (.Tuple elts ek epos) (.Call (.Name "enumerate" p) [a] [] pos) (Z3f X.K ta):=by
 intro pins s σ H R I h;refine Call_ (yn I hg hm boot_enumerate (Z2L (Zj (ha pos pins s σ H _ I h) fun us s1 ⟨vs,H1,I1,r1,q1⟩=>?_) hs rfl));obtain⟨l,xs,rfl,hl,q⟩:=q1;obtain⟨u,rfl,ru⟩:=vals1 r1;cases ru;obtain⟨its,rv,pl,hz⟩:=id (I1.list hl);have hll:l<s1.heap.objs.size:=by obtain⟨o,z,_⟩:=pl.isList;exact Z09 z
 refine call_enumerate_list pl.isList fun hp he hit hsz hk=>?_;have I2:Inv X pins σ H1 { s1 with heap:=hp }:=I1.kept (t':=s1.toks) hk;have nx:∀ b,s1.heap.objs.size<=b->xA X pins H1 b:=fun b hb=>I1.JS hb (I1.hok.fresh hb);refine wpAny_pyIter_enum he ⟨_,[s1.heap.objs.size+1,s1.heap.objs.size],_,_,H1,rfl,I2,z1o (Nat.succ_ne_self _) (Z0T (Nat.lt_succ_of_lt hll)) (Z0T hll),⟨⟨_,he⟩,hit⟩,fun b hb=>?_,q⟩;rcases Z0z.mp hb with z | z;subst z;exact nx _ (Nat.le_succ _);have z:=Z04.mp z;subst z;exact nx _ (Z03 _)
theorem U1:∀ {ns:List Int}{its:List Value},Vals (ns.map V.int) its->IntsAre its ns
 | [],_,h=>by cases h;exact .nil
 | n :: ns,_,h=>by
   cases h with
   | cons r rr =>
     obtain⟨t,rfl⟩:=r;exact .cons n t (U1 rr)
def Z3M(K:PySem.W.Frag):V->List V->Hp->VK->Prop:=fun o xs H Q=>∃ (l:Addr) (ns:List Int) (k:Int),o=.ref l/\xs=[.int k]/\zQ K H l (ns.map V.int)/\Q (.int ((ns.count k:Nat):Int)) H
theorem z4P:MtM X "list.count" (Z3M X.K):=by
 intro pins s σ H x vs v us Q I rx rv h;obtain⟨l,ns,k,rfl,rfl,hq,q⟩:=h;cases rx;obtain⟨u,rfl,t,rfl⟩:=rv.one;obtain⟨its,r,pl,hz⟩:=I.list hq;exact count_list_ints pl.isList (U1 r) ⟨.int _,H,I.tok _,⟨_,rfl⟩,q⟩
def ZJ(K:PySem.W.Frag)(mg:Str->Option Value)(nm:Str)(st:Stmt)(ps:List Str):Prop:=∃ (f:Addr) (fd:FuncData),Vb K nm nm st f fd/\mg nm=some (.ref f)/\Binds K fd ps []
def Def(P:Program)(w:World)(K:PySem.W.Frag)(mg:Str->Option Value)(base:Heap)(k:Nat)(nm:Str)(ps:List Str)(sp:Sp):Prop :=
 ∃ (f:Addr) (fd:FuncData),PySem.W.keepIn K (.ref f)=true/\mg nm=some (.ref f)/\Binds K fd ps []/\ZK P w K mg base yk k f fd ps sp
theorem ZJ.def{st:Stmt}(S:ZJ K mg nm st ps)(h:∀ f fd,Vb K nm nm st f fd->ZK P w K mg base yk k f fd ps sp):Def P w K mg base k nm ps sp:=by
 obtain⟨f,fd,F,m,b⟩:=S;exact⟨f,fd,F.kp,m,b,h f fd F⟩
theorem Def.imp(D:Def P w K mg base k nm ps sp)(h:∀ vs H Q E,sp' vs H Q E->sp vs H Q E):Def P w K mg base k nm ps sp':=by
 obtain⟨f,fd,a,b,c,F⟩:=D;exact⟨f,fd,a,b,c,F.imp h⟩
theorem ZP{e:Expr}(hg:Gl X nm)(he:starEach (e :: es) X.env=(false,eval e X.env) :: starEach es X.env)(hpl:(backTo pos (starEach es X.env)).any (·.1)=false)(hdb:(nm == ("__debug__":Str))=false)(D:Def X.prog X.w X.K X.mg X.base k nm ps sp)(hr:Zk k X.A)(ha:PA X (e :: es) t) :
 PE X (.Call (.Name nm p) (e :: es) [] pos) (z3l sp [] E0 t):=by
 obtain⟨f,fd,a,b,c,F⟩:=D;exact z3c F hr hg b a c .nil xE ha hdb he hpl
theorem UG(he:∀ whole,isTrue a X.env whole=(do let v ←whole;standAt a.pos;holding [v] (truthy v)))(ha:PE X a ta):PT X a (fun σ H Q=>ta σ H fun x H'=>∃ k,Z2q X.K x H' k/\Q k H'):=z5Z ha he
theorem Z2A{e:Expr}{cpos:Pos}{id:String}(hX:X.K=K)(hbase:attributeBase o name X.env (eval o X.env)=eval o X.env)(hfew:((backTo cpos (starEach (e :: es) X.env)).all (fun x=>!x.1) && (backToKw cpos (keywordEach [] X.env)).all (fun x=>x.1.isSome) && decide ((e :: es).length+([]:List Keyword).length+(if ([]:List Keyword).isEmpty then 0 else 1)<30))=true)(hline:(apos.endLine == cpos.line)=true)(hs:starEach (e :: es) X.env=(false,eval e X.env) :: starEach es X.env)(hplain:(backTo cpos (starEach es X.env)).any (·.1)=false)(pa:PlainAttrs T)(slot:Slot T name id)(hty:typeOf (.builtin id)=pure (.type "method_descriptor"))(hm:MtR X id r)(ho:PE X o to)(ha:PA X (e :: es) t):PE X (.Call (.Attribute o name apos) (e :: es) [] cpos) (tBM K T r to t):=by
 subst hX;exact z2U pa slot hty hm ho ha hbase hfew hline hs hplain
theorem Vh(hg:Gl X "enumerate")(hs:starEach [a] X.env=[(false,eval a X.env)])(e:X.K=K)(hm:X.mg "enumerate"=none)(ha:PA X [a] ta):PI X (.Tuple elts ek epos) (.Call (.Name "enumerate" p) [a] [] pos) (Z3f K ta):=e ▸ Z2B hg hm ha hs
theorem V8(Pv:Nat->List V->St->Hp->Prop)(h0:Pv 0 [] σ0 H0)(hl:∀ i ys σ H,Pv i ys σ H->zQ K H a xs/\H D=some (.lst ys))(hs:∀ i x ys σ H T G,xs[i]?=some x->i<xs.length->Pv i ys σ H->H T=none->zC H G->G T=some (.tup [.int i,x])->g (.ref T) σ G fun σ3 H3=>tt σ3 H3 fun b H4=>if b=true then
  te σ3 H4 fun y H5=>H5 D=some (.lst ys)/\ys.length<sizeLine/\∃ m',m'<xs.length - i/\Wt Pv xs.length (i+1) m' (ys ++ [y]) σ3 (upd H5 D (.lst (ys ++ [y]))) else ∃ m',m'<xs.length - i/\Wt Pv xs.length (i+1) m' ys σ3 H4)(hd:∀ ys σ H,Pv xs.length ys σ H->Q (.ref D) H):XI (z4B K a) D g tt te Q σ0 H0:=by
 refine⟨Wt Pv xs.length,⟨xs.length,rfl,Z18 _,h0⟩,?_⟩;rintro i m ys σ' H' ⟨rfl,hi,p⟩;obtain⟨hq,hD⟩:=hl i ys σ' H' p;refine⟨hD,?_⟩;by_cases hlt:i<xs.length;refine .inr ⟨⟨xs,xs[i],hq,by simp[hlt]⟩,fun x H2 y=>?_⟩;obtain⟨T,u,v,rfl,hT,rfl,rfl,hv⟩:=y;exact hs i v ys σ' H' T _ (hv xs hq) hlt p hT (zC.new hT) zh;have e:i=xs.length:=by lia
 subst e;exact .inl ⟨⟨xs,hq,rfl⟩,hd ys σ' H' p⟩
structure Txt(mg:Str->Option Value):Prop where
 abs:mg "abs"=none
 isi:mg "isinstance"=none
 tup:mg "tuple"=none
 int:mg "int"=none
 bool:mg "bool"=none
 lst:mg "list"=none
 enu:mg "enumerate"=none
 len:mg "len"=none
 range:mg "range"=none
 srt:mg "sorted"=none
 sum:mg "sum"=none
 zip:mg "zip"=none
 max:mg "max"=none
def xw(K:PySem.W.Frag)(H:Hp)(p:Addr)(A:Int×Int):Prop:=zX K H p [.int A.1,.int A.2]
theorem xw.of(h:XC K H p A):xw K H p A:=zX.of h
theorem xw.same(h:xw K H p A)(s:zC H H'):xw K H' p A:=s.YT h
def Ve:Sp:=fun vs H Q _=>∃ x y:Int,vs=[.int x,.int y]/\y≠0/\Sz 8000 x/\Sz 8000 y/\∀ (p:Addr) (H':Hp),zC H H'->H' p=some (.tup [.int (Pw.mk x y).1,.int (Pw.mk x y).2])->Q (.ref p) H'
theorem z8Y(a:Pw.Canon A)(b:Pw.Canon B)(sa:yc n A)(sb:yc m' B)(hm:0<m)(sc:Sz 10 c)(sm:Sz 10 m):yc ((n+m'+1)+((1+n+1)+10+1)+1) (Pw.QI A B c m):=by
 have ha:=Pw.zI a;have hb:=Pw.zI b;have s1:yc 1 (1,1):=⟨Zd 1 (by decide),Zd 1 (by decide)⟩;have h1:=UM sa sb ha hb;have h2:=z7i s1 sa (by decide) ha;have h3:=U3 (x:=c) (y:=m) (by lia) sc sm;have n2:=Pw.zI (Pw.yF (A:=(1,1)) (by decide) ha);have n3:=Pw.zI (Pw.Zt (a:=c) (b:=m) (by lia));have h4:=UM h2 h3 n2 n3;exact (z5L h1 h4 (Pw.zI (Pw.Zn ha hb)) (Pw.zI (Pw.Zn n2 n3))).mono (by lia)
set_option genInjectivity false in
structure Gv(K:PySem.W.Frag)(H:Hp)(w lp ls:Addr)(pages:Int)(ps:List (Int×Int))(A:Int×Int)(Bs:List (Int×Int))(us:List V):Prop where
 web:xC K H w pages ps
 few:ps.length<=100
 lk:∀ p∈ps,0<=p.1/\p.1<pages/\0<=p.2/\p.2<pages
 leap:XC K H lp A
 ca:Pw.Canon A
 sa:yc 100 A
 leaps:H ls=some (.tup us)
 row:yp K H Bs us
 cb:Pw.z9 Bs
 sb:∀ B∈Bs,yc 600 B
 len:(Bs.length:Int)=pages
 plo:1<=pages
 phi:pages<=13
theorem Gv.same(g:Gv K H w lp ls pages ps A Bs us)(s:zC H H'):Gv K H' w lp ls pages ps A Bs us :=
 { g with web:=g.web.same s,leap:=s _ _ g.leap,leaps:=s _ _ g.leaps,row:=g.row.same s }
theorem z6s(few:ps.length<=100)(a:Pw.Canon A)(b:Pw.z9 Bs)(sa:yc n A)(sb:∀ B∈Bs,yc m B):∀ B∈Pw.Zb ps A Bs page,yc (n+m+n+16) B:=by
 unfold Pw.Zb;split;intro B hB;exact (sb B hB).mono (by lia);rename_i h;intro B hB;obtain⟨t,ht,rfl⟩:=Z17.mp hB;have hl:=Pw.Z4 ps page;have hc:=List.count_le_length (a:=(t:Int)) (l:=Pw.outs ps page);have h0:=Z2K.mpr h;have sB:yc m (Bs.getD t (0,1)):=by
  rw[Z23] at ht;rw[Z02,Z01 ht];exact sb _ (Z26 ht)
 exact (z8Y a (b.getD t) sa sB (by lia) (Zd 10 (by lia)) (Zd 10 (by lia))).mono (by lia)
theorem z2r(hsw:swapsWith (.ListComp elt [⟨tg,iter,ifs,0⟩] scope pos) (some (.Name x pos')) pos2.line X.env=pure true)(hN:X.N.Nodup)(hxi:X.N[i]?=some x)(hxl:X.env.scope.names.lookup x=some .local)(hcalm:X.calm=true)(hi:PI X tg iter wi)(hclos:closureFor scope X.env=pure cl)(hcl:∀ x c,cl.lookup x=some c->X.env.cells.lookup x=some c)(hcell:∀ y∈scope.names,y.2≠.cell)(hkind:scope.kind=.function)(hnames:∀ y∈scope.names,y.2=.local->scope.names.lookup y.1=some .local)(hhas:∀ x,((relabel scope X.env).names.lookup x=some .cell\/(relabel scope X.env).names.lookup x=some .free)->∃ c,cl.lookup x=some c)(hcap:U9 X (relabel scope X.env) N' ks)(hg:∀ C s H fp,PG (Zh X N' scope cl C s H fp) tg g)(ht:∀ C s H fp,PTs (Zh X N' scope cl C s H fp) ifs tt)(he:∀ C s H fp,PE (Zh X N' scope cl C s H fp) elt te)(hs:∀ x,foldedSetIterable iter X.env x=pure x:=by intro _;rfl):PS X (.Assign [.Name x pos'] (.ListComp elt [⟨tg,iter,ifs,0⟩] scope pos) pos2) (z1r (uN wi ks g tt te) (Zs i)):=by
 intro pins s σ H DD I h;let Q:VK:=fun v H1=>DD.nx (σ.set i (some v)) H1;have h:uN wi ks g tt te σ H Q:=h;rw[exec_Assign_Name_used _ _ _ _ hsw];refine wpAny_bind (wpAny_standAt (wpAny_bind ?_));show wpAny _ _ (do let _ ←comprehension (.ListComp elt [⟨tg,iter,ifs,0⟩] scope pos) scope X.env _ (newList []) false (eval iter X.env) (some (assign (.Name x pos') X.env))) _ _ s;refine wpAny_bind (wpAny_mono (wpAny_comprehension_free (use:=some (assign (.Name x pos') X.env)) (Q:=fun _ s'=>SP X pins DD .next s') rfl hs hclos hkind hnames (Zj (hi pins s σ H _ I h) fun v s1 h1=>Zj h1 fun itv s2 h2=>?_)) (fun _ s' hq=>wpAny_pure (wpAny_pure hq)) fun _ _ z=>z);obtain⟨it,fp,tn,J,H2,e,I2,T,st2,f2,R⟩:=h2;subst e;refine wpAny_newObj_type (wpAny_newFunctionEnv hcell (by intro y hy;simp at hy) (fun h₁ hns₁ hsb₁=>?_) hkind);dsimp only at hns₁ hsb₁ ⊢;have hD:H2 s2.heap.objs.size=none:=I2.hok.fresh (Z03 _);obtain⟨W,⟨m0,w0⟩,turn⟩:=R _ hD;generalize hs3:({ s2 with heap:=s2.heap.push { cls:=.type "list",dict:=none,data:=.seq ([]:List Value).toArray } }:Shared)=s3;have e3:s3.heap=s2.heap.push { cls:=.type "list",dict:=none,data:=.seq ([]:List Value).toArray }:=by rw[← hs3]
 have I3:Inv X pins σ (upd H2 s2.heap.objs.size (.lst [])) s3:=by
  rw[← hs3];exact I2.laid (t':=s2.toks) (fun b o e=>Z00 _ e) (Z03 _) ⟨Z18 _,[],0,.nil,Z08 _ rfl⟩
 generalize hD0:s2.heap.objs.size=D at *;generalize hH3:upd H2 D (.lst [])=H3 at *;rw[← e3] at hns₁ hsb₁ ⊢;have kp:∀ b o,s3.heap.get? b=some o->h₁.get? b=some o:=fun b o e=>hsb₁.extBut b o (Z0T (Z09 e)) (Z00 _ e);have f3:∀ b∈fp,xA X pins H3 b/\b<s3.heap.objs.size:=fun b hb=>by
  obtain⟨o,ho,_⟩:=T.obj 0 _ st2 b hb;have hlt:b<D:=by rw[← hD0];exact Z09 ho
  refine⟨⟨?_,(f2 b hb).2⟩,?_⟩;rw[← hH3,zD (Z0T hlt)];exact (f2 b hb).1;rw[e3,Z4p,hD0];exact Nat.lt_succ_of_lt hlt
 have st3:tn 0 h₁:=T.keep 0 s2.heap h₁ st2 fun b hb o e=>kp b o (by rw[e3];exact Z00 _ e);have capK:∀ x c,cl.lookup x=some c->X.env.cells.lookup x=some c:=hcl;have stkne:∀ b∈fp,b∉frs X.stack:=fun b hb z=>by
  rcases Z0z.mp (I3.jN b z) with e | e;exact (f3 b hb).1.2.1 e;exact (f3 b hb).1.2.2.1 e
 have Cfresh:H3 s3.heap.objs.size=none:=I3.hok.fresh (Z03 _);have ok':(Zh X N' scope cl s3.heap.objs.size s3 H3 fp).Ok:=by
  refine⟨I3.ok.mod,hkind,I3.ok.glob,I3.ok.blt,Z03 _,fun x y c h1 h2=>I3.ok.inj x y c (capK x c h1) (capK y c h2),fun x hx=>hhas x hx,fun x c hf _=>absurd (show false=true from hf) Z10,fun z=>I3.ok.hd z,I3.ok.frames,.inl rfl,
   fun b hb=>⟨Z0T (f3 b hb).2,fun x c e=>(f3 b hb).1.2.2.2.2.1 x c (capK x c e)⟩,I3.bs,Z11 I3.ok.bsz I3.sz,fun b o e hb=>?_,fun b hb=>stkne b hb,I3.stack,I3.jV⟩
  rcases (f3 b hb).1.2.2.2.1 with z | z;exact I3.ok.noex b o e z;exact absurd (Z13 (Z09 e) (Z11 I3.ok.bsz z)) (Z2N _)
 have I4:Inv (Zh X N' scope cl s3.heap.objs.size s3 H3 fp) [] (uP ks σ) H3 { s3 with heap:=h₁,toks:=s3.toks+([]:List (Str×Value)).length }:=by
  refine⟨ok',rfl,I3.bare,Un.kept kp,⟨_,hns₁,fun i x v e1 e2 e3'=>?_⟩,fun x c e=>?_,Cfresh,fun x c e=>I3.freeC x c (capK x c e),fun p hp=>absurd (show p∈([]:List (Addr×Obj)) from hp) (by simp),I3.hok.kept kp,?_⟩;have e2':(uP ks σ)[i]?=some (some v):=e2;unfold uP at e2';rw[Z14] at e2';cases hk:ks[i]? with
  | none=>rw[hk] at e2';cases e2'
  | some o =>
    rw[hk] at e2';cases o with
    | none=>cases e2'
    | some k =>
      have ev:σ.getD k none=some v:=Z1X e2';obtain⟨c1,c2,c3⟩:=hcap.get e1 hk;obtain⟨m,hn,hl⟩:=I3.loc;have es:σ[k]?=some (some v):=by
       rw[Z02] at ev;cases q:σ[k]? with
       | none=>rw[q] at ev;cases ev
       | some z=>rw[q] at ev;exact congrArg some ev
      obtain⟨u,r,l⟩:=hl k x v c1 es (.inr (.inl c2));refine⟨u,r,.inr ⟨c3,?_⟩⟩;rcases l with⟨l1,_⟩|⟨_,c,l2,l3⟩;have l1':X.env.scope.names.lookup x=some .local:=l1;rw[c2] at l1';cases l1';obtain⟨c',hc'⟩:=hhas x c3;have:X.env.cells.lookup x=some c':=capK x c' hc';rw[l2] at this;cases this;refine⟨c,hc',?_⟩;obtain⟨o,ho,hd⟩:=l3;exact⟨o,kp c o ho,hd⟩
  obtain⟨v,o,ho,hd⟩:=I3.cell x c (capK x c e);exact⟨v,o,kp c o ho,hd⟩;show (uP ks σ).length=N'.length;unfold uP;rw[ZB,hcap.len]
 have Cne:∀ p∈X.pn ++ pins,p.1≠s3.heap.objs.size:=fun p hp=>Z0T (Z09 (I3.pin p hp).1);have back:∀ {σ':St}{H':Hp}{s':Shared},Inv (Zh X N' scope cl s3.heap.objs.size s3 H3 fp) [] σ' H' s'->∀ h'':Heap,Heap.SameBut s3.heap.objs.size s'.heap h''->Inv X pins σ H' { s' with heap:=h'' }:=fun {σ' H' s'} I' h'' sb=>by
  have J1:Inv X pins σ H' s':=I3.z7n (ch:=fp) I'.os I'.base I'.hok I'.bare fun b hb=>⟨(f3 b hb).1.2.2.2.1,(f3 b hb).1.2.1,(f3 b hb).1.2.2.2.2.1,(f3 b hb).1.2.2.2.2.2⟩;refine J1.turned (t':=s'.toks) (it:=s3.heap.objs.size) (fun b o hb e=>(sb.2 b hb).trans e) I'.free (Z33 I3.lt) (.inr I3.sz) (fun x c e=>?_) Cne;obtain⟨v,q⟩:=I3.cell x c e;exact Z0T q.lt
 have fpok:∀ {H':Hp},(∀ b∈fp,H' b=none)->∀ b∈fp,xA (Zh X N' scope cl s3.heap.objs.size s3 H3 fp) [] H' b:=fun hn b hb =>
  ⟨hn b hb,Z0T (f3 b hb).2,stkne b hb,.inl hb,fun x c e=>(f3 b hb).1.2.2.2.2.1 x c (capK x c e),fun p hp=>absurd (show p∈([]:List (Addr×Obj)) from hp) (by simp)⟩
 have loop:codeAny (model X.prog X.w) X.A (.compLoop (.ListComp elt [⟨tg,iter,ifs,0⟩] scope pos) 0 (.ref it) (.ref D) (compEnvC scope cl s3.heap.objs.size X.env))
  (compPost (model X.prog X.w) X.A X.xe (some (assign (.Name x pos') X.env)) (fun _ s'=>SP X pins DD .next s') (.ref D) s3.heap.objs.size) { s3 with heap:=h₁,toks:=s3.toks+([]:List (Str×Value)).length }:=by
  refine Qn (fun n s'=>∃ i ys σ' H',Inv (Zh X N' scope cl s3.heap.objs.size s3 H3 fp) [] σ' H' s'/\tn i s'.heap/\(∀ b∈fp,H' b=none)/\W i n ys σ' H') ?_ m0 ⟨0,[],_,_,I4,st3,fun b hb=>(f3 b hb).1.1,w0⟩;rintro n s5 ⟨i,ys,σ5,H5,I5,st5,fr5,w5⟩;obtain⟨hD5,tq⟩:=turn i n ys σ5 H5 w5;rcases tq with⟨stop,q⟩|⟨go,step⟩;refine Zj (T.done (Zh X N' scope cl s3.heap.objs.size s3 H3 fp) rfl rfl rfl hcalm i [] s5 σ5 H5 _ I5 (fpok fr5) st5 stop) fun r s6 ⟨hr,I6⟩=>?_
  subst hr;obtain⟨m,hn,_⟩:=I6.loc;have J1:Inv X pins σ H5 s6:=I3.z7n (ch:=fp) I6.os I6.base I6.hok I6.bare fun b hb=>⟨(f3 b hb).1.2.2.2.1,(f3 b hb).1.2.1,(f3 b hb).1.2.2.2.2.1,(f3 b hb).1.2.2.2.2.2⟩;have cL:∀ y c,X.env.cells.lookup y=some c->c≠s3.heap.objs.size:=fun y c e=>by
   obtain⟨v,q⟩:=I3.cell y c e;exact Z0T q.lt
  refine wpAny_assign_Name (UW (v:=.ref D) J1 hN hxi (.inl hxl) rfl (fun s7 I7 sb7=>?_) (.inr hxl));obtain⟨a,sba,ha⟩:=sb7;have nC:s3.heap.objs.size≠a:=fun z=>by
   rcases ha with e | e;exact Z33 I3.lt (z.trans e);exact cL _ _ e z.symm
  refine⟨m,hn.at' fun o e=>(sba.2 _ nC).trans e,fun h'' sb=>⟨_,H5,?_,q⟩⟩;exact I7.turned (t':=s7.toks) (it:=s3.heap.objs.size) (fun b o hb e=>(sb.2 b hb).trans e) I6.free (Z33 I3.lt) (.inr I3.sz) cL Cne;refine Zj (T.item (Zh X N' scope cl s3.heap.objs.size s3 H3 fp) rfl rfl rfl hcalm i [] s5 σ5 H5 _ I5 (fpok fr5) st5 go) fun r s6 ⟨u,hr,h6⟩=>?_;subst hr;refine Zj h6 fun _ s7 ⟨x,H7,I7,r7,y7,st7,fr7⟩=>?_;have I7':=I7.pinned (fpok fr7) (T.obj _ _ st7);refine Zj (hg _ _ _ _ _ s7 σ5 H7 x u _ I7' r7 (step x H7 y7)) fun _ s8 ⟨σ8,H8,I8,q8⟩=>?_;refine Zj (ht _ _ _ _ _ s8 σ8 H8 _ I8 q8) fun ok s9 ⟨H9,I9,q9⟩=>?_;have again:∀ {σ':St}{H':Hp}{s':Shared}{ys':List V},Inv (Zh X N' scope cl s3.heap.objs.size s3 H3 fp) ([] ++ Q4 fp s7.heap) σ' H' s'->(∃ m',m'<n/\W (i+1) m' ys' σ' H')->
   ∃ m',m'<n/\∃ i ys σ' H',Inv (Zh X N' scope cl s3.heap.objs.size s3 H3 fp) [] σ' H' s'/\tn i s'.heap/\(∀ b∈fp,H' b=none)/\W i m' ys σ' H':=fun {σ' H' s' ys'} I' hw=>by
   obtain⟨m',hm,w'⟩:=hw;refine⟨m',hm,i+1,ys',σ',H',I'.xT,T.keep _ _ _ st7 fun b hb o e=>(I'.pin (b,o) (Z28 _ (Z28 _ (yt hb e)))).1,fun b hb=>?_,w'⟩;obtain⟨o,e,d⟩:=T.obj _ _ st7 b hb;exact (I'.pin (b,o) (Z28 _ (Z28 _ (yt hb e)))).2.1
  cases ok with
  | false =>
    rw[if_neg Z10] at q9 ⊢;exact again I9 q9
  | true =>
    rw[if_pos rfl] at q9 ⊢;refine Zj (he _ _ _ _ _ s9 σ8 H9 _ I9 q9) fun y s10 ⟨yv,H10,I10,r10,q10,z10,w10⟩=>?_;refine Zj (yW _ s10 σ8 H10 (.ref D) [yv] (.ref D) [y] (fun v H'=>v=.Zr/\H'=upd H10 D (.lst (ys ++ [yv]))) I10 rfl (.cons r10 .nil) ⟨D,ys,yv,rfl,rfl,q10,z10,rfl,rfl⟩) fun _ s11 ⟨_,H11,I11,_,_,e11⟩=>?_;subst e11;exact again I11 w10
 have es:({ s3 with heap:=h₁,toks:=s3.toks+([]:List (Str×Value)).length }:Shared)={ s2 with heap:=h₁,toks:=s2.toks+([]:List (Str×Value)).length }:=by rw[← hs3]
 rw[es] at loop;exact codeAny_compStart_list loop (T.self _ 0 _ _ _ st3 loop)
theorem z3w(i:Nat)(N':List Str)(ks:List (Option Nat))(hsw:swapsWith (.ListComp elt [⟨tg,iter,ifs,0⟩] scope pos) (some (.Name x pos')) pos2.line X.env=pure true)(hN:X.N.Nodup)(hxi:X.N[i]?=some x)(hxl:X.env.scope.names.lookup x=some .local)(hcalm:X.calm=true)(hi:PI X tg iter wi)(hfree:∀ y∈scope.names,y.2=.free->X.env.scope.names.lookup y.1=some .cell)(hcell:∀ y∈scope.names,y.2≠.cell)(hkind:scope.kind=.function)(hnames:∀ y∈scope.names,y.2=.local->scope.names.lookup y.1=some .local)(hcap:U9 X (relabel scope X.env) N' ks)(hg:∀ cl C s H fp,PG (Zh X N' scope cl C s H fp) tg g)(ht:∀ cl C s H fp,PTs (Zh X N' scope cl C s H fp) ifs tt)(he:∀ cl C s H fp,PE (Zh X N' scope cl C s H fp) elt te)(hs:∀ x,foldedSetIterable iter X.env x=pure x:=by intro _;rfl):PS X (.Assign [.Name x pos'] (.ListComp elt [⟨tg,iter,ifs,0⟩] scope pos) pos2) (z1r (uN wi ks g tt te) (Zs i)):=by
 intro pins s σ H D I h;obtain⟨cl,e1,e2,e3⟩:=uz (scope:=scope) (env:=X.env) fun y hy hf=>I.ok.has y.1 (.inl (hfree y hy hf));refine z2r hsw hN hxi hxl hcalm hi e1 e2 hcell hkind hnames (fun x hx=>?_) hcap (hg cl) (ht cl) (he cl) hs pins s σ H D I h;have key:∀ k,(x,k)∈(relabel scope X.env).names->k=.cell\/k=.free->(x,NameKind.free)∈scope.names:=fun k hm hk=>by
  unfold relabel at hm;obtain⟨⟨n,k'⟩,hy,e⟩:=Z17.mp hm;dsimp only at e;split at e;rename_i hc;cases e;have:k'=.free:=by simp at hc;exact hc.1.1
  rw[← this];exact hy;cases e;rcases hk with rfl | rfl;exact absurd rfl (hcell _ hy);exact hy
 rcases hx with hx | hx;exact e3 x (key _ (Z36 hx) (.inl rfl));exact e3 x (key _ (Z36 hx) (.inr rfl))
theorem z4D(As:List (Int×Int)):Yr (As.map Qo) (As.map Qo)=true:=(z1a As As).trans (by simp)
theorem Z3A(h1:zQ K H p xs)(h2:zQ K H q ys)(f1:yp K H W xs)(f2:yp K H W ys)(k:Q (.bl false) H):z9Z K true (.ref p) (.ref q) H Q :=
 ⟨p,q,_,_,_,_,rfl,rfl,.inr ⟨h1,h2⟩,f1.Z1Q,f2.Z1Q,yp.dep _,by rw[if_pos rfl,z4D];exact k⟩
theorem mem_getD{Bs:List (Int×Int)}(h:t<Bs.length):Bs.getD t (0,1)∈Bs:=by
 rw[Z02,Z01 h];exact Z26 h
end L2
namespace Pw
def Vv(q:Rat):Int×Int:=(q.num,(q.den:Int))
theorem ZH(q:Rat):Canon (Vv q):=⟨by show (0:Int)<(q.den:Int);have:=q.den_nz;lia,by show Int.gcd q.num (q.den:Int)=1;have:=q.reduced;unfold Int.gcd;simpa[Nat.Coprime] using this⟩
theorem Yt(q:Rat):val (Vv q)=q:=by
 unfold val Vv;show ((q.num:Int):Rat) / (((q.den:Nat):Int):Rat)=q;rw[← Rat.divInt_eq_div,Rat.num_divInt_den]
theorem z3N(h:Canon A):Vv (val A)=A:=val_inj (ZH _) h (Yt _)
theorem jb(ha:A.2≠0)(hb:B.2≠0):vC A B=Vv (val A+val B):=val_inj (YA ha hb) (ZH _) (by rw[ve ha hb,Yt])
theorem z2J(ha:A.2≠0)(hb:B.2≠0):xV A B=Vv (val A * val B):=val_inj (Zn ha hb) (ZH _) (by rw[X3 ha hb,Yt])
theorem cpos{d:Int}(h:0<d):(0:Rat)<(d:Rat):=by
 have:((0:Int):Rat)<(d:Rat):=Rat.intCast_lt_intCast.mpr h;simpa using this
theorem cnn{d:Int}(h:0<=d):(0:Rat)<=(d:Rat):=by
 have:((0:Int):Rat)<=(d:Rat):=Z16.mpr h;simpa using this
theorem ZC{a b c:Rat}(h:a<=b)(hc:0<=c):a * c<=b * c:=Rat.mul_le_mul_of_nonneg_right h hc
theorem yg{a b:Rat}(ha:0<=a)(hb:0<=b):0<=a * b:=by
 have:=ZC ha hb;grind
theorem VD{a b:Rat}(ha:0<=a)(hb:0<b):0<=a / b:=by
 rw[Rat.div_def];exact yg ha (Z4O (Rat.inv_pos.mpr hb))
theorem vd{a b c:Rat}(hc:0<c)(h:a * c<=b * c):a<=b:=Rat.le_of_mul_le_mul_right h hc
theorem xG(h:0<A.2)(h1:0<=A.1):0<=val A:=VD (cnn h1) (cpos h)
theorem jW(h:0<A.2)(h1:A.1<=A.2):val A<=1:=by
 have hp:=cpos h;refine vd hp ?_;unfold val;have:(A.1:Rat)<=(A.2:Rat):=Z16.mpr h1;have e:(A.1:Rat) / (A.2:Rat) * (A.2:Rat)=A.1:=by have:=Ze (d:=A.2) (by lia);grind
 rw[e];grind
structure Bd(D:Int)(C:Rat)(q:Rat):Prop where
 int:∃ n:Int,q * (D:Rat)=(n:Rat)
 lo:-C<=q
 hi:q<=C
theorem Bd.zero:Bd D 0 0:=⟨⟨0,by simp⟩,by grind,by grind⟩
theorem Bd.add(a:Bd D C p)(b:Bd D C' q):Bd D (C+C') (p+q):=by
 obtain⟨⟨n,hn⟩,l1,h1⟩:=a;obtain⟨⟨m,hm⟩,l2,h2⟩:=b;refine⟨⟨n+m,?_⟩,by grind,by grind⟩;rw[Z5m];grind
theorem Bd.Z3I{E:Int}(a:Bd D C p)(h:∃ m:Int,q * (E:Rat)=(m:Rat))(h0:0<=q)(h1:q<=1)(hC:0<=C):Bd (D * E) C (p * q):=by
 obtain⟨⟨n,hn⟩,lo,hi⟩:=a;obtain⟨m,hm⟩:=h;refine⟨⟨n * m,?_⟩,?_,?_⟩;rw[Z0L,Z0L,← hn,← hm];grind;have h4:=ZC lo h0;have h5:=Rat.mul_le_mul_of_nonneg_left h1 hC;grind;have h4:=ZC hi h0;have h5:=Rat.mul_le_mul_of_nonneg_left h1 hC;grind
theorem Bd.mono(a:Bd D C q)(h:C<=C'):Bd D C' q:=⟨a.int,by have:=a.lo;grind,by have:=a.hi;grind⟩
theorem Bd.qs:∀ {n:Nat},(∀ i,i<n->Bd D C (f i))->Bd D ((n:Nat) * C) (qs n f)
 | 0,_=>by
   have:(((0:Nat):Rat)) * C=0:=by simp
   rw[this];exact Bd.zero
 | n+1,h=>by
   have h1:=(Bd.qs (n:=n) fun i hi=>h i (by lia)).add (h n (by lia));have e:(((n+1:Nat):Rat)) * C=((n:Nat):Rat) * C+C:=by
    have:((n+1:Nat):Rat)=((n:Nat):Rat)+1:=(by push_cast;rfl);rw[this];grind
   rw[e];exact h1
theorem z8T{q:Rat}{D n:Int}(hD:D≠0)(h:q * (D:Rat)=(n:Rat)):(q.den:Int)∣D:=by
 have hq:Fr (Vv q) n D:=by
  refine⟨ZH q,hD,?_⟩;have e:=Yt q;unfold val at e;have hd:=Ze (zI (ZH q));have:((Vv q).1:Rat) * (D:Rat)=(n:Rat) * ((Vv q).2:Rat):=by rw[← h];rw[← e];grind
  exact_mod_cast this
 have w:=hq.w;have:(Vv q).2∣(Vv q).1 * D:=⟨n,by rw[w];exact Int.mul_comm ..⟩;exact YS this hq.canon.2
theorem Bd.sz{C:Int}(a:Bd D (C:Rat) q)(hD:0<D)(hC:1<=C)(z:L2.Sz k (C * D)):L2.yc k (Vv q):=by
 obtain⟨⟨n,hn⟩,lo,hi⟩:=a;have hd:=z8T (by lia) hn;have hle:(q.den:Int)<=D:=Int.le_of_dvd hD hd;have hp:(0:Int)<(q.den:Int):=(ZH q).1;have hz:(C * D).natAbs<2 ^ k:=z;have hCD:D<=C * D:=by
  have:=Int.mul_le_mul_of_nonneg_right hC (Z44 hD);lia
 refine⟨?_,?_⟩;show q.num.natAbs<2 ^ k;have e:=Yt q;unfold val at e;have hpq:=cpos hp;have hne:=Ze (d:=(q.den:Int)) (by lia);have en:(q.num:Rat)=q * ((q.den:Int):Rat):=by
  have:((Vv q).1:Rat) / ((Vv q).2:Rat)=q:=e;have e2:(q.num:Rat) / ((q.den:Int):Rat)=q:=this;grind
 have u1:(q.num:Rat)<=((C * (q.den:Int):Int):Rat):=by
  rw[en,Z0L];exact ZC hi (Z4O hpq)
 have u2:((-(C * (q.den:Int)):Int):Rat)<=(q.num:Rat):=by
  rw[en,Rat.intCast_neg,Z0L];have:=ZC lo (Z4O hpq);grind
 have v1:q.num<=C * (q.den:Int):=Z16.mp u1;have v2:-(C * (q.den:Int))<=q.num:=Z16.mp u2;have v3:C * (q.den:Int)<=C * D:=Int.mul_le_mul_of_nonneg_left hle (by lia);lia;show (q.den:Int).natAbs<2 ^ k;lia
def Z1i(w d:Int):Int:=(w.fdiv (Int.gcd w d:Int)) * d
theorem z9V(hw:0<w)(hd:0<d):Z1i w d=(Int.lcm w d:Int):=by
 unfold Z1i;have hg:=z9v (a:=w) (b:=d) (by lia);obtain⟨u,hu⟩:=Int.gcd_dvd_left w d;have e1:w.fdiv (Int.gcd w d:Int)=u:=by
  conv=>lhs;lhs;rw[hu]
  rw[Z32 _ (by lia),Int.mul_ediv_cancel_left _ (by lia)]
 rw[e1];have key:(Int.gcd w d:Int) * (Int.lcm w d:Int)=w * d:=by
  have:=Int.gcd_mul_lcm w d;have h2:((Int.gcd w d * Int.lcm w d:Nat):Int)=(((w * d).natAbs:Nat):Int):=by rw[this,Int.natAbs_mul]
  have h3:(((w * d).natAbs:Nat):Int)=w * d:=Int.natAbs_of_nonneg (Z44 (Z4s hw hd));rw[← h3,← h2];push_cast;rfl
 refine Int.eq_of_mul_eq_mul_left (a:=(Int.gcd w d:Int)) (by lia) ?_;rw[key]
 conv=>rhs;rw[hu]
 rw[Int.mul_assoc]
structure YB(As:List (Int×Int))(L:Int):Prop where
 pos:0<L
 dvd:∀ A∈As,A.2∣L
 least:∀ M:Int,0<M->(∀ A∈As,A.2∣M)->L∣M
theorem YB.nil:YB [] 1:=⟨by decide,by simp,fun M _ _=>Int.one_dvd M⟩
theorem YB.snoc(h:YB As L)(hA:0<A.2):YB (As ++ [A]) (Z1i L A.2):=by
 rw[z9V h.pos hA];refine⟨?_,fun B hB=>?_,fun M hM hd=>?_⟩;have:=Int.lcm_pos (m:=L) (n:=A.2) (by have:=h.pos;lia) (by lia);lia;rcases Z25.mp hB with hB | hB;exact Int.dvd_trans (h.dvd B hB) (Int.dvd_lcm_left _ _);rw[Z04.mp hB];exact Int.dvd_lcm_right _ _;have h1:=h.least M hM fun B hB=>hd B (List.mem_append_left _ hB)
 have h2:=hd A (by simp);obtain⟨m,rfl⟩:∃ m:Nat,M=m:=⟨M.toNat,by lia⟩;exact Int.natCast_dvd_natCast.mpr (Int.lcm_dvd h1 h2)
theorem YB.le(h:YB As L)(hM:0<M)(hd:∀ A∈As,A.2∣M):L<=M:=Int.le_of_dvd hM (h.least M hM hd)
def yq(As:List (Int×Int))(L:Int):List Int:=As.map fun A=>A.1 * (L.fdiv A.2)
theorem j6{L:Int}(hA:0<A.2)(hL:0<L)(h:A.2∣L):((A.1 * (L.fdiv A.2):Int):Rat)=val A * (L:Rat):=by
 obtain⟨u,rfl⟩:=h;have e:(A.2 * u).fdiv A.2=u:=by rw[Z32 _ (by lia),Int.mul_ediv_cancel_left _ (by lia)]
 rw[e];unfold val;have:=Ze (d:=A.2) (by lia);rw[Z0L,Z0L];grind
theorem z3Y:∀ n,qs n (fun i=>((f i:Int):Rat))=((((List.range n).map f).sum:Int):Rat)
 | 0=>by simp[qs]
 | n+1=>by
   show qs n _+_=_;rw[z3Y n,Z5p,Z15,List.sum_append,Z5m];simp
end Pw
namespace L2
def Sq(b:Bool)(K:PySem.W.Frag)(H:Hp)(a:Addr)(xs:List V):Prop:=if b=true then zQ K H a xs else zX K H a xs
def ItB(b:Bool)(K:PySem.W.Frag)(a:Addr):It:=if b=true then Itl K a else Itt K a
def Z4D(K:PySem.W.Frag)(tl:TE):TI:=fun σ H R=>tl σ H fun x H1=>∃ (b:Bool) (a:Addr),x=.ref a/\(∃ xs,Sq b K H1 a xs)/\R (ItB b K a) H1
theorem Sq.same(h:Sq b K H a xs)(s:zC H H'):Sq b K H' a xs:=by
 cases b;exact s.YT h;exact s.seq h
theorem z7L(hl:PE X l tl):PI X tg l (Z4D X.K tl):=by
 intro pins s σ H R I h;refine Zj (hl pins s σ H _ I h) fun v s1 ⟨x,H1,I1,r1,q1⟩=>?_;obtain⟨b,a,e,⟨xs,hq⟩,q⟩:=q1;subst e;cases r1;cases b with
 | true =>
   have hq:zQ X.K H1 a xs:=hq;have q:R (Itl X.K a) H1:=q;obtain⟨its,rv,p,hz⟩:=I1.list hq;refine wpAny_pyIter_list p.isList ?_;refine⟨s1.heap.objs.size,[s1.heap.objs.size],_,_,H1,rfl,I1.kept (t':=s1.toks) fun b o e=>Z00 _ e,Uu a _,⟨_,Z08 _ rfl,rfl,rfl⟩,fun b hb=>?_,q⟩;have e:b=s1.heap.objs.size:=by simpa using hb
   subst e;exact I1.JS (Z03 _) (I1.hok.fresh (Z03 _))
 | false =>
   have hq:zX X.K H1 a xs:=hq;have q:R (Itt X.K a) H1:=q;obtain⟨its,rv,p,hz⟩:=I1.tuple hq;refine wpAny_pyIter_tuple (show s1.heap.IsTuple a its.toArray from p) ?_;refine⟨s1.heap.objs.size,[s1.heap.objs.size],_,_,H1,rfl,I1.kept (t':=s1.toks) fun b o e=>Z00 _ e,ux a _,⟨_,Z08 _ rfl,rfl,rfl⟩,fun b hb=>?_,q⟩;have e:b=s1.heap.objs.size:=by simpa using hb
   subst e;exact I1.JS (Z03 _) (I1.hok.fresh (Z03 _))
theorem z6W(Pv:Nat->List V->St->Hp->Prop)(h0:Pv 0 [] σ0 H0)(hl:∀ i ys σ H,Pv i ys σ H->Sq b K H a xs/\H D=some (.lst ys))(hs:∀ i x ys σ H,xs[i]?=some x->i<xs.length->Pv i ys σ H->g x σ H fun σ3 H3=>tt σ3 H3 fun b H4=>if b=true then
  te σ3 H4 fun y H5=>H5 D=some (.lst ys)/\ys.length<sizeLine/\∃ m',m'<xs.length - i/\Wt Pv xs.length (i+1) m' (ys ++ [y]) σ3 (upd H5 D (.lst (ys ++ [y]))) else ∃ m',m'<xs.length - i/\Wt Pv xs.length (i+1) m' ys σ3 H4)(hd:∀ ys σ H,Pv xs.length ys σ H->Q (.ref D) H):XI (ItB b K a) D g tt te Q σ0 H0:=by
 cases b;exact Yn Pv h0 hl hs hd;exact Z0 Pv h0 hl hs hd
theorem z9s{xs:List V}{g:TG}{tb:TS}{D:Ends}(Pv:Nat->St->Hp->Prop)(h0:Pv 0 σ H)(hl:∀ i σ H,i<=xs.length->Pv i σ H->Sq b K H a xs)(hs:∀ i x σ H,xs[i]?=some x->Pv i σ H->g x σ H fun σ2 H2=>tb { D with nx:=Pv (i+1),ct:=Pv (i+1),bk:=D.nx } σ2 H2)(hd:∀ σ H,Pv xs.length σ H->D.nx σ H) :
 ∃ W:Nat->Nat->St->Hp->Prop,(∃ m,W 0 m σ H)/\∀ i m σ H,W i m σ H->
   ((ItB b K a).stop i H/\D.nx σ H)\/((ItB b K a).go i H/\∃ N:St->Hp->Prop,(∀ σ' H',N σ' H'->∃ m',m'<m/\W (i+1) m' σ' H')/\∀ x H',(ItB b K a).yld i H x H'->g x σ H' fun σ2 H2=>tb { D with nx:=N,ct:=N,bk:=D.nx } σ2 H2):=by
 cases b;exact z8U Pv h0 hl hs hd;exact Yo Pv h0 hl hs hd
set_option genInjectivity false in
structure Rw(Rs:List (Int×Int))(n:Nat)(D C:Int):Prop where
 len:Rs.length=n
 canon:Pw.z9 Rs
 dpos:0<D
 cpos:1<=C
 dvd:∀ R∈Rs,R.2∣D
 bnd:∀ R∈Rs,-(C * R.2)<=R.1/\R.1<=C * R.2
 sz:Sz 2000 (C * D)
theorem Rw.bd(h:Rw Rs n D C)(hR:R∈Rs):Pw.Bd D (C:Rat) (Pw.val R):=by
 have c:=h.canon R hR;have hp:=Pw.cpos c.1;have hne:=Pw.Ze (Pw.zI c);obtain⟨u,hu⟩:=h.dvd R hR;obtain⟨b1,b2⟩:=h.bnd R hR;have e:Pw.val R * (R.2:Rat)=(R.1:Rat):=by unfold Pw.val;grind
 refine⟨⟨R.1 * u,?_⟩,?_,?_⟩;rw[hu,Z0L,Z0L,← e];grind;refine Pw.vd hp ?_;rw[e];have:((-(C * R.2):Int):Rat)<=(R.1:Rat):=Z16.mpr b1;rw[Rat.intCast_neg,Z0L] at this;grind;refine Pw.vd hp ?_;rw[e];have:(R.1:Rat)<=((C * R.2:Int):Rat):=Z16.mpr b2;rw[Z0L] at this;exact this
theorem Rw.sz2(h:Rw Rs n D C)(hR:R∈Rs):yc 2000 R:=by
 have:=(h.bd hR).sz h.dpos h.cpos h.sz;rwa [Pw.z3N (h.canon R hR)] at this
set_option genInjectivity false in
structure Pr(A:Int×Int)(Bs:List (Int×Int))(S:Int):Prop where
 a0:0<A.1
 a1:A.1<=A.2
 nn:∀ B∈Bs,0<=B.1
 one:Pw.qs Bs.length (fun t=>Pw.val (Bs.getD t (0,1)))=1
 spos:0<S
 ssz:Sz 700 S
 sdvd:∀ B∈Bs,B.2∣S
end L2
namespace Pw
def U8:Nat->(Nat->Int)->Int
 | 0,_=>1
 | n+1,f=>U8 n f * f n
theorem Uv:∀ {n:Nat},(∀ i,i<n->0<f i)->0<U8 n f
 | 0,_=>by show (0:Int)<1;decide
 | n+1,h=>Z4s (Uv fun i hi=>h i (by lia)) (h n (by lia))
theorem Uq:∀ {n i:Nat},i<n->f i∣U8 n f
 | n+1,i,h=>by
   by_cases e:i=n;subst e;exact Int.dvd_mul_left ..;exact Int.dvd_trans (Uq (n:=n) (by lia)) (Int.dvd_mul_right ..)
theorem JB:∀ {n:Nat},(∀ i,i<n->L2.Sz k (f i))->L2.Sz (k * n+1) (U8 n f)
 | 0,_=>by show (1:Int).natAbs<2 ^ (k * 0+1);simp
 | n+1,h=>(L2.Sz.mul (JB fun i hi=>h i (by lia)) (h n (by lia))).mono (by rw[Nat.mul_add];lia)
def Mw(ps:List (Int×Int))(A:Int×Int)(S:Int)(n:Nat):Int:=A.2 * S * U8 n (fun i=>(max 1 (outs ps (i:Int)).length:Nat))
theorem z1Y{n:Int}(h:Fr A n d):A.2∣d:=by
 have w:=h.w;have:A.2∣A.1 * d:=⟨n,by rw[w];exact Int.mul_comm ..⟩;exact YS this h.canon.2
theorem z8L(a:Canon A)(b:Canon B)(hm:m≠0):Fr (QI A B c m) (A.1 * B.1 * m+(A.2 - A.1) * c * B.2) (A.2 * B.2 * m):=by
 have e:=xJ (c:=c) a b hm;have ha:=zI a;have hb:=zI b;refine⟨XX a b hm,Z34 (Z34 ha hb) hm,?_⟩;have h1:=Ze ha;have h2:=Ze hb;have h3:=Ze hm;have h4:=Ze (zI (XX (c:=c) a b hm));unfold val at e;have:(((QI A B c m).1 * (A.2 * B.2 * m):Int):Rat)=(((A.1 * B.1 * m+(A.2 - A.1) * c * B.2) * (QI A B c m).2:Int):Rat):=by
  generalize (QI A B c m).1=x at *;generalize (QI A B c m).2=y at *
  push_cast
  grind
 exact_mod_cast this
theorem z7z(a:Canon A)(b:z9 Bs)(hS:∀ B∈Bs,B.2∣S)(hi:i<n):∀ W∈Zb ps A Bs i,W.2∣Mw ps A S n:=by
 intro W hW;unfold Zb at hW;unfold Mw;split at hW;exact Int.dvd_trans (hS W hW) (Int.dvd_trans (Int.dvd_mul_left ..) (Int.dvd_mul_right ..));rename_i h;obtain⟨t,ht,rfl⟩:=Z17.mp hW;have hB:=L2.mem_getD (Bs:=Bs) (Z23.mp ht);have h1:=z1Y (z8L (c:=((outs ps i).count (t:Int):Nat)) a (b _ hB) (yJ h));refine Int.dvd_trans h1 ?_;have hm:(((max 1 (outs ps (i:Int)).length:Nat)):Int)=((outs ps (i:Int)).length:Nat):=by
  have:=Z2K.mpr h;lia
 have h2:(((outs ps (i:Int)).length:Nat):Int)∣U8 n (fun i=>(max 1 (outs ps (i:Int)).length:Nat)):=by
  rw[← hm];exact Uq (f:=fun i=>((max 1 (outs ps (i:Int)).length:Nat):Int)) hi
 obtain⟨u,hu⟩:=hS _ hB;obtain⟨v,hv⟩:=h2;rw[hv,hu];exact⟨u * v,by grind⟩
theorem Z0R(a:Canon A)(hS:0<S):0<Mw ps A S n :=
 Z4s (Z4s a.1 hS) (Uv fun i _=>by lia)
theorem Z3N(sa:L2.Sz 100 A.2)(sS:L2.Sz 700 S)(few:ps.length<=100)(hn:n<=13):L2.Sz 892 (Mw ps A S n):=by
 refine (L2.Sz.mul (L2.Sz.mul sa sS) (JB (k:=7) fun i _=>?_)).mono (by lia);have:=Z4 ps (i:Int);show ((max 1 (outs ps (i:Int)).length:Nat):Int).natAbs<2 ^ 7;lia
theorem Z3y(a:Canon A)(b:Canon B)(a0:0<=A.1)(a1:A.1<=A.2)(b0:0<=B.1)(c0:0<=c)(hm:0<m):0<=val (QI A B c m):=by
 rw[xJ a b (by lia)];have h1:=xG a.1 a0;have h2:=jW a.1 a1;have h3:=xG b.1 b0;have h4:=VD (cnn c0) (cpos hm);have h5:=yg h1 h3;have h6:=yg (a:=1 - val A) (by grind) h4;grind
theorem JN:∀ {n k:Nat},k<n->(∀ i,i<n->0<=f i)->f k<=qs n f
 | n+1,k,hk,h=>by
   show f k<=qs n f+f n;by_cases e:k=n;subst e;have:=Xh (n:=k) (f:=f) fun i hi=>h i (by lia);grind;have h1:=JN (n:=n) (k:=k) (by lia) fun i hi=>h i (by lia);have h2:=h n (by lia);grind
theorem z9A(a:Canon A)(b:z9 Bs)(a0:0<=A.1)(a1:A.1<=A.2)(nn:∀ B∈Bs,0<=B.1):∀ W∈Zb ps A Bs page,0<=val W:=by
 intro W hW;unfold Zb at hW;split at hW;exact xG (b W hW).1 (nn W hW);rename_i h;obtain⟨t,ht,rfl⟩:=Z17.mp hW;have hB:=L2.mem_getD (Bs:=Bs) (Z23.mp ht);have:=Z2K.mpr h;exact Z3y a (b _ hB) a0 a1 (nn _ hB) (by lia) (by lia)
theorem z8v(ok:∀ p∈ps,0<=p.2/\p.2<(n:Int))(a:Canon A)(b:z9 Bs)(a0:0<=A.1)(a1:A.1<=A.2)(nn:∀ B∈Bs,0<=B.1)(hn:Bs.length=n)(h1:qs n (fun t=>val (Bs.getD t (0,1)))=1)(ht:t<n) :
 0<=val ((Zb ps A Bs page).getD t (0,1))/\val ((Zb ps A Bs page).getD t (0,1))<=1:=by
 have hw:=z9A (ps:=ps) (page:=page) a b a0 a1 nn;have hl:=vt ps A Bs page;have hall:∀ i,i<n->0<=val ((Zb ps A Bs page).getD i (0,1)):=fun i hi=>hw _ (L2.mem_getD (by lia));refine⟨hall t ht,?_⟩;have:=JN (f:=fun t=>val ((Zb ps A Bs page).getD t (0,1))) ht hall;rwa [VN ok a b hn h1] at this
def z0I(ps:List (Int×Int))(A:Int×Int)(Bs Rs:List (Int×Int))(n t:Nat):Rat:=qs n (fun i=>val (Rs.getD i (0,1)) * val ((Zb ps A Bs i).getD t (0,1)))
def z5m(ps:List (Int×Int))(A:Int×Int)(Bs Rs:List (Int×Int)):List (Int×Int):=(List.range Bs.length).map fun t=>Vv (z0I ps A Bs Rs Bs.length t)
theorem z6J(ps:List (Int×Int))(A:Int×Int)(Bs Rs:List (Int×Int)):(z5m ps A Bs Rs).length=Bs.length:=by unfold z5m;simp
end Pw
namespace L2
theorem z3P(hL:0<L)(hg:0<g)(z:Sz k L):Sz k (L.fdiv g):=by
 have z':L.natAbs<2 ^ k:=z;show (L.fdiv g).natAbs<2 ^ k;rw[Z32 _ (by lia)];have h1:0<=L / g:=Int.ediv_nonneg (by lia) (by lia);have h2:L / g<=L:=Int.ediv_le_self _ (by lia);lia
theorem z6o(h0:0<=x)(h:x<=y)(z:Sz k y):Sz k x:=by
 have z':y.natAbs<2 ^ k:=z;show x.natAbs<2 ^ k;lia
theorem Z2z(hy:0<y):0<(Int.gcd x y:Int)/\(Int.gcd x y:Int)<=y :=
 ⟨Pw.z9v (by lia),Int.le_of_dvd hy (Int.gcd_dvd_right ..)⟩
def Jc(K:PySem.W.Frag):Sp:=fun vs H Q _=>∃ (b:Bool) (a:Addr) (us:List V) (As:List (Int×Int)) (M:Int),vs=[.ref a]/\Sq b K H a us/\yp K H As us/\(∀ A∈As,0<A.2)/\0<M/\Sz 8000 M/\(∀ A∈As,A.2∣M)/\∀ L,Pw.YB As L->Q (.int L) H
def Qj(K:PySem.W.Frag):Sp:=fun vs H Q _=>∃ (b:Bool) (a:Addr) (us:List V) (As:List (Int×Int)) (L:Int),vs=[.ref a,.int L]/\Sq b K H a us/\yp K H As us/\As.length<=100/\(∀ A∈As,0<A.2/\yc 8000 A)/\0<L/\Sz 8000 L/\
 ∀ (p:Addr) (H':Hp),zC H H'->H p=none->H' p=some (.lst ((Pw.yq As L).map V.int))->Q (.ref p) H'
theorem YB.Z0l(h:Pw.YB As L)(hM:0<M)(hd:∀ A∈As,A.2∣M)(z:Sz k M):Sz k L:=z6o (Z44 h.pos) (h.le hM hd) z
theorem z1J:∀ {ns:List Int},(∀ n∈ns,Sz k n)->Sz (k+ns.length) ns.sum
 | [],_=>by show (0:Int).natAbs<2 ^ (k+0);exact Nat.two_pow_pos _
 | n :: ns,h=>by
   have h1:=z1J (ns:=ns) fun m hm=>h m (Z07 _ hm);have h2:=h n Z0y;rw[List.sum_cons];exact ((h2.mono (by lia)).add h1).mono (by rw[Z0u];lia)
theorem Xo{ns:List Int}(h:i<ns.length):ns[i]?=some (ns.getD i 0):=by
 rw[Z02,Z01 h];rfl
theorem z9.pos(h:Pw.z9 As):∀ A∈As,0<A.2:=fun A hA=>(h A hA).1
theorem z9I(c:Pw.Canon W)(h:W.2∣M):∃ m:Int,Pw.val W * (M:Rat)=(m:Rat):=by
 obtain⟨u,rfl⟩:=h;refine⟨W.1 * u,?_⟩;have:=Pw.Ze (Pw.zI c);unfold Pw.val;rw[Z0L,Z0L];grind
theorem z3q(lk:∀ p∈ps,0<=p.2/\p.2<(n:Int))(ca:Pw.Canon A)(cb:Pw.z9 Bs)(hn:Bs.length=n)(pr:Pr A Bs S)(rw:Rw Rs n D C)(hi:i<n)(ht:t<n) :
 Pw.Bd (D * Pw.Mw ps A S n) (C:Rat) (Pw.val (Rs.getD i (0,1)) * Pw.val ((Pw.Zb ps A Bs i).getD t (0,1))):=by
 have hR:=rw.bd (mem_getD (Bs:=Rs) (t:=i) (by have:=rw.len;lia));have hW:=mem_getD (Bs:=Pw.Zb ps A Bs i) (t:=t) (by rw[Pw.vt];lia);have one:=pr.one;rw[hn] at one;obtain⟨w0,w1⟩:=Pw.z8v (page:=(i:Int)) lk ca cb (by have:=pr.a0;lia) pr.a1 pr.nn hn one ht;exact hR.Z3I (z9I (Pw.vF ca cb _ hW) (Pw.z7z ca cb pr.sdvd hi _ hW)) w0 w1 (Pw.cnn (by have:=rw.cpos;lia))
theorem z9c(lk:∀ p∈ps,0<=p.2/\p.2<(n:Int))(few:ps.length<=100)(ca:Pw.Canon A)(sa:yc 100 A)(cb:Pw.z9 Bs)(hn:Bs.length=n)(h13:n<=13)(pr:Pr A Bs S)(rw:Rw Rs n D C)(hj:j<=n)(ht:t<n) :
 yc 2897 (Pw.Vv (Pw.qs j (fun i=>Pw.val (Rs.getD i (0,1)) * Pw.val ((Pw.Zb ps A Bs i).getD t (0,1)))))/\(∀ i,i<n->yc 2897 (Pw.Vv (Pw.val (Rs.getD i (0,1)) * Pw.val ((Pw.Zb ps A Bs i).getD t (0,1))))):=by
 have hM:=Pw.Z0R (ps:=ps) (n:=n) ca pr.spos;have zM:=Pw.Z3N (ps:=ps) (n:=n) sa.2 pr.ssz few h13;have hC:=rw.cpos;have hC0:=Pw.cnn (d:=C) (by lia);have z:Sz 2897 ((13 * C) * (D * Pw.Mw ps A S n)):=by
  have h0:Sz 4 13:=Zd 4 (by decide);have h1:=h0.mul (rw.sz.mul zM);have e:(13 * C) * (D * Pw.Mw ps A S n)=13 * (C * D * Pw.Mw ps A S n):=by grind
  rw[e];exact h1.mono (by decide)
 have hD:=Z4s rw.dpos hM;have h13':((13 * C:Int):Rat)=13 * (C:Rat):=by rw[Z0L];rfl
 refine⟨?_,fun i hi=>?_⟩;have hb:=Pw.Bd.qs (n:=j) (D:=D * Pw.Mw ps A S n) (C:=(C:Rat)) (f:=fun i=>Pw.val (Rs.getD i (0,1)) * Pw.val ((Pw.Zb ps A Bs i).getD t (0,1))) fun i hi=>z3q lk ca cb hn pr rw (by lia) ht;refine Pw.Bd.sz (C:=13 * C) (hb.mono ?_) hD (by lia) z;rw[h13'];refine Pw.ZC ?_ hC0;have:((j:Int):Rat)<=((13:Int):Rat):=Z16.mpr (by lia);exact this;refine Pw.Bd.sz (C:=13 * C) ((z3q lk ca cb hn pr rw hi ht).mono ?_) hD (by lia) z;rw[h13'];have:(C:Rat) * 1<=(C:Rat) * 13:=Rat.mul_le_mul_of_nonneg_left (by decide) hC0;grind
end L2
namespace Pw
abbrev Yq:=Nat->Rat
def expand(r:Yq)(D:List Nat->Rat):List Nat->Rat
 | []=>0
 | c :: cs=>r c * D cs - expand r (fun l=>D (c :: l)) cs
def det:List Yq->List Nat->Rat
 | [],_=>1
 | r :: rs,cols=>expand r (det rs) cols
theorem yy(h:∀ l,D l=E l):∀ cs,expand r D cs=expand r E cs:=fun cs=>by
 have:D=E:=funext h;rw[this]
theorem xo(r:Yq):∀ cs,expand r (fun _=>0) cs=0
 | []=>rfl
 | c :: cs=>by
   show r c * 0 - expand r (fun l=>0) cs=0;rw[xo r cs];grind
theorem Yv(r:Yq)(a b:Rat):∀ (cs:List Nat) (D E:List Nat->Rat),expand r (fun l=>a * D l+b * E l) cs=a * expand r D cs+b * expand r E cs
 | [],D,E=>by show (0:Rat)=a * 0+b * 0;grind
 | c :: cs,D,E=>by
   show r c * (a * D cs+b * E cs) - expand r (fun l=>a * D (c :: l)+b * E (c :: l)) cs=a * (r c * D cs - expand r (fun l=>D (c :: l)) cs)+b * (r c * E cs - expand r (fun l=>E (c :: l)) cs);rw[Yv r a b cs];grind
theorem yH(r s:Yq)(a b:Rat):∀ (cs:List Nat) (D:List Nat->Rat),expand (fun c=>a * r c+b * s c) D cs=a * expand r D cs+b * expand s D cs
 | [],D=>by show (0:Rat)=a * 0+b * 0;grind
 | c :: cs,D=>by
   show (a * r c+b * s c) * D cs - expand _ (fun l=>D (c :: l)) cs=a * (r c * D cs - expand r (fun l=>D (c :: l)) cs)+b * (s c * D cs - expand s (fun l=>D (c :: l)) cs);rw[yH r s a b cs];grind
theorem yK(r:Yq):∀ (cs:List Nat) (D:List Nat->Rat),expand r (expand r D) cs=0
 | [],D=>rfl
 | c :: cs,D=>by
   show r c * expand r D cs - expand r (fun l=>r c * D l - expand r (fun l=>D (c :: l)) l) cs=0;have e:expand r (fun l=>r c * D l - expand r (fun l=>D (c :: l)) l) cs=r c * expand r D cs+(-1) * expand r (expand r (fun l=>D (c :: l))) cs:=by
    rw[← Yv];exact yy (fun l=>by grind) cs
   rw[e,yK r cs];grind
theorem vO(r s:Yq)(cs:List Nat)(D:List Nat->Rat):expand r (expand s D) cs=-expand s (expand r D) cs:=by
 have h:=yK (fun c=>1 * r c+1 * s c) cs D;have e:expand (fun c=>1 * r c+1 * s c) (expand (fun c=>1 * r c+1 * s c) D) cs=expand (fun c=>1 * r c+1 * s c) (fun l=>1 * expand r D l+1 * expand s D l) cs:=yy (fun l=>yH r s 1 1 l D) cs;rw[e,yH,Yv,Yv,yK,yK] at h;grind
theorem yx{s:Yq}:∀ {cs:List Nat}{D:List Nat->Rat},(∀ c∈cs,r c=s c)->expand r D cs=expand s D cs
 | [],D,_=>rfl
 | c :: cs,D,h=>by
   show r c * D cs - expand r _ cs=s c * D cs - expand s _ cs;rw[h c Z0y,yx fun x hx=>h x (Z07 _ hx)]
theorem Y6:∀ {cs:List Nat}{D:List Nat->Rat},(∀ c∈cs,r c=0)->expand r D cs=0
 | [],D,_=>rfl
 | c :: cs,D,h=>by
   show r c * D cs - expand r _ cs=0;rw[h c Z0y,Y6 fun x hx=>h x (Z07 _ hx)];grind
def vJ(rs:List Yq)(u:Yq):Prop:=∀ cols,det (u :: rs) cols=0
theorem vJ.mem:∀ {rs:List Yq}{r:Yq},r∈rs->vJ rs r
 | s :: rs,r,h=>fun cols=>by
   rcases Z0z.mp h with rfl | h;exact yK _ _ _;show expand r (expand s (det rs)) cols=0;rw[vO];have:expand s (expand r (det rs)) cols=expand s (fun _=>0) cols:=yy (vJ.mem h) cols
   rw[this,xo];grind
theorem vJ.cons{s:Yq}(h:vJ rs u):vJ (s :: rs) u:=fun cols=>by
 show expand u (expand s (det rs)) cols=0;rw[vO];have:expand s (expand u (det rs)) cols=expand s (fun _=>0) cols:=yy h cols;rw[this,xo];grind
theorem vJ.lin(a b:Rat)(hu:vJ rs u)(hv:vJ rs v):vJ rs (fun c=>a * u c+b * v c):=fun cols=>by
 have h1:expand u (det rs) cols=0:=hu cols;have h2:expand v (det rs) cols=0:=hv cols;show expand _ (det rs) cols=0;rw[yH,h1,h2];grind
section
variable(A:Nat->Yq)
def Rk:Nat->List Yq
 | 0=>[]
 | k+1=>A k :: Rk k
def Kk:Nat->List Nat
 | 0=>[]
 | k+1=>k :: Kk k
def dd(k:Nat):Rat:=det (Rk A k) (Kk k)
def BB(k:Nat)(v:Yq)(j:Nat):Rat:=det (v :: Rk A k) (j :: Kk k)
theorem Xn(k:Nat):dd A (k+1)=BB A k (A k) k:=rfl
theorem z3n:dd A 0=1:=rfl
theorem z2g:∀ {k c:Nat},c∈Kk k↔c<k
 | 0,c=>by simp[Kk]
 | k+1,c=>by
   show c∈k :: Kk k↔_;rw[Z0z,z2g];lia
theorem Jm:∀ {k i:Nat},i<k->A i∈Rk A k
 | k+1,i,h=>by
   show A i∈A k :: Rk A k;by_cases e:i=k;subst e;exact Z0y;exact Z07 _ (Jm (by lia))
theorem jF(k:Nat)(u v:Yq)(a b:Rat)(j:Nat):BB A k (fun c=>a * u c+b * v c) j=a * BB A k u j+b * BB A k v j:=yH u v a b _ _
theorem QC(hj:u j=v j)(h:∀ c,c<k->u c=v c):BB A k u j=BB A k v j:=yx fun c hc=>by
 rcases Z0z.mp hc with rfl | hc;exact hj;exact h c (z2g.mp hc)
theorem XU(h:∀ c,c<k->w c=0)(j:Nat):BB A k w j=w j * dd A k:=by
 show w j * det (Rk A k) (Kk k) - expand w _ (Kk k)=w j * dd A k;rw[Y6 fun c hc=>h c (z2g.mp hc)];unfold dd;grind
theorem Z1p(h:i<k)(j:Nat):BB A k (A i) j=0:=vJ.mem (Jm A h) _
theorem reduced(k:Nat)(hd:∀ l,l<=k->dd A l≠0):∀ v:Yq,∃ w:Yq,vJ (Rk A k) (fun c=>v c - w c)/\∀ c,c<k->w c=0:=by
 induction k with
 | zero =>
   intro v;refine⟨v,fun cols=>?_,fun c hc=>by lia⟩;exact Y6 fun c _=>by grind
 | succ k ih =>
   intro v;have ih:=ih fun l hl=>hd l (by lia);obtain⟨x,nx,zx⟩:=ih v;obtain⟨y,ny,zy⟩:=ih (A k);have hdk:=hd k (by lia);have hdk1:=hd (k+1) (by lia);have ey:dd A (k+1)=y k * dd A k:=by
    have e1:BB A k (A k) k=BB A k y k:=by
     have:=ny (k :: Kk k);have e2:BB A k (fun c=>1 * A k c+(-1) * y c) k=0:=by
      rw[QC A (v:=fun c=>A k c - y c) (by grind) (fun c _=>by grind)];exact this
     rw[jF] at e2;grind
    rw[Xn,e1,XU A zy]
   have hy:y k≠0:=fun z=>hdk1 (by rw[ey,z];grind);refine⟨fun c=>x c - x k / y k * y c,?_,fun c hc=>?_⟩;have n1:vJ (Rk A (k+1)) (fun c=>v c - x c):=nx.cons;have n2:vJ (Rk A (k+1)) (fun c=>A k c - y c):=ny.cons;have n3:vJ (Rk A (k+1)) (A k):=vJ.mem (Jm A (by lia));have n4:=vJ.lin 1 (-1) n3 n2;have n5:=vJ.lin 1 (x k / y k) n1 n4;intro cols;have:=n5 cols;rw[← this];exact yx fun c _=>by grind
   show x c - x k / y k * y c=0;by_cases e:c=k;subst e;grind;rw[zx c (by lia),zy c (by lia)];grind
theorem uH{w:Yq}(hn:vJ (Rk A k) (fun c=>v c - w c))(hz:∀ c,c<k->w c=0)(j:Nat):BB A k v j=w j * dd A k:=by
 have e2:BB A k (fun c=>1 * v c+(-1) * w c) j=0:=by
  rw[QC A (v:=fun c=>v c - w c) (by grind) (fun c _=>by grind)];exact hn _
 rw[jF,XU A hz] at e2;grind
theorem z3I(hd:∀ l,l<=k+1->dd A l≠0)(v:Yq)(j:Nat):BB A (k+1) v j * dd A k=dd A (k+1) * BB A k v j - BB A k v k * BB A k (A k) j:=by
 obtain⟨x,nx,zx⟩:=reduced A k (fun l hl=>hd l (by lia)) v;obtain⟨y,ny,zy⟩:=reduced A k (fun l hl=>hd l (by lia)) (A k);have hdk:=hd k (by lia);have hdk1:=hd (k+1) (by lia);have ey:dd A (k+1)=y k * dd A k:=by rw[Xn];exact uH A ny zy k
 have hy:y k≠0:=fun z=>hdk1 (by rw[ey,z];grind);have n1:vJ (Rk A (k+1)) (fun c=>v c - x c):=nx.cons;have n2:vJ (Rk A (k+1)) (fun c=>A k c - y c):=ny.cons;have n3:vJ (Rk A (k+1)) (A k):=vJ.mem (Jm A (by lia));have n4:=vJ.lin 1 (-1) n3 n2;have n5:=vJ.lin 1 (x k / y k) n1 n4;have n6:vJ (Rk A (k+1)) (fun c=>v c - (x c - x k / y k * y c)):=fun cols=>by
  have:=n5 cols;rw[← this];exact yx fun c _=>by grind
 have z6:∀ c,c<k+1->x c - x k / y k * y c=0:=fun c hc=>by
  by_cases e:c=k;subst e;grind;rw[zx c (by lia),zy c (by lia)];grind
 rw[uH A n6 z6 j,uH A nx zx j,uH A nx zx k,uH A ny zy j,ey];grind
end
def ZW(q:Rat):Prop:=∃ n:Int,q=(n:Rat)
theorem ZW.mul(a:ZW p)(b:ZW q):ZW (p * q):=by
 obtain⟨x,rfl⟩:=a;obtain⟨y,rfl⟩:=b;exact⟨x * y,by rw[Z0L]⟩
theorem ZW.sub(a:ZW p)(b:ZW q):ZW (p - q):=by
 obtain⟨x,rfl⟩:=a;obtain⟨y,rfl⟩:=b;exact⟨x - y,by rw[Z48]⟩
theorem uf:∀ {cs:List Nat}{D:List Nat->Rat},(∀ c∈cs,ZW (r c))->(∀ l,ZW (D l))->ZW (expand r D cs)
 | [],D,_,_=>⟨0,rfl⟩
 | c :: cs,D,h,hD=>((h c Z0y).mul (hD cs)).sub (uf (fun x hx=>h x (Z07 _ hx)) fun l=>hD (c :: l))
theorem z3S:∀ {rs:List Yq},(∀ r∈rs,∀ c,ZW (r c))->∀ cols,ZW (det rs cols)
 | [],_,_=>⟨1,rfl⟩
 | r :: rs,h,cols=>uf (fun c _=>h r Z0y c) (z3S fun x hx=>h x (Z07 _ hx))
theorem UY{V:Rat}(hU:0<=U)(hV:0<=V)(hr:∀ c,-U<=r c/\r c<=U):∀ {cs:List Nat}{D:List Nat->Rat},(∀ l,l.length+1=cs.length->-V<=D l/\D l<=V)->-(((cs.length:Nat):Rat) * (U * V))<=expand r D cs/\expand r D cs<=((cs.length:Nat):Rat) * (U * V)
 | [],D,_=>by
   show -(((0:Nat):Rat) * (U * V))<=0/\(0:Rat)<=((0:Nat):Rat) * (U * V);simp
 | c :: cs,D,hD=>by
   obtain⟨i1,i2⟩:=UY hU hV hr (cs:=cs) (D:=fun l=>D (c :: l)) fun l hl=>hD (c :: l) (by simp only[Z0u];lia);obtain⟨r1,r2⟩:=hr c;obtain⟨d1,d2⟩:=hD cs (by simp only[Z0u]);have key:-(U * V)<=r c * D cs/\r c * D cs<=U * V:=by
    have p1:=yg (a:=U - r c) (b:=V - D cs) (by grind) (by grind);have p2:=yg (a:=U+r c) (b:=V+D cs) (by grind) (by grind);have p3:=yg (a:=U - r c) (b:=V+D cs) (by grind) (by grind);have p4:=yg (a:=U+r c) (b:=V - D cs) (by grind) (by grind);constructor <;> grind
   have e:(((c :: cs).length:Nat):Rat)=((cs.length:Nat):Rat)+1:=by rw[Z0u];push_cast;rfl
   show -_<=r c * D cs - expand r _ cs/\r c * D cs - expand r _ cs<=_;rw[e];grind
theorem pow_succ'(Y:Nat)(m:Nat):((Y ^ (m+1):Nat):Rat)=((Y ^ m:Nat):Rat) * (Y:Rat):=by rw[Z56];push_cast;rfl
theorem Z0g(m:Nat):(0:Rat)<=((m:Nat):Rat):=by
 have:=cnn (d:=(m:Int)) (by lia);exact this
theorem Z0B(h:a<=b):((a:Nat):Rat)<=((b:Nat):Rat):=by
 have:((a:Int):Rat)<=((b:Int):Rat):=Z16.mpr (by lia);exact this
theorem z2i(hY:13 * U<=Y):∀ {rs:List Yq},(∀ r∈rs,∀ c,-((U:Nat):Rat)<=r c/\r c<=((U:Nat):Rat))->∀ cols:List Nat,cols.length<=13->-((Y ^ rs.length:Nat):Rat)<=det rs cols/\det rs cols<=((Y ^ rs.length:Nat):Rat)
 | [],_,cols,_=>by
   show -(((Y ^ 0:Nat)):Rat)<=1/\(1:Rat)<=((Y ^ 0:Nat):Rat);rw[Nat.pow_zero];exact⟨by decide,by decide⟩
 | r :: rs,h,cols,hc=>by
   have ih:=z2i hY (rs:=rs) fun x hx=>h x (Z07 _ hx);have hV:=Z0g (Y ^ rs.length);have hU:=Z0g U;obtain⟨b1,b2⟩:=UY (r:=r) hU hV (h r Z0y) (cs:=cols) (D:=det rs) fun l hl=>ih l (by lia);have k1:((cols.length:Nat):Rat) * (((U:Nat):Rat) * ((Y ^ rs.length:Nat):Rat))<=((Y ^ (rs.length+1):Nat):Rat):=by
    rw[pow_succ'];have e1:((cols.length:Nat):Rat) * ((U:Nat):Rat)<=((Y:Nat):Rat):=by
     have:((cols.length * U:Nat):Rat)<=((Y:Nat):Rat):=Z0B (Z11 (Z5j U hc) hY);have e2:((cols.length * U:Nat):Rat)=((cols.length:Nat):Rat) * ((U:Nat):Rat):=(by push_cast;rfl);rw[← e2];exact this
    have e3:=ZC e1 hV;grind
   show -(((Y ^ (rs.length+1):Nat)):Rat)<=expand r (det rs) cols/\expand r (det rs) cols<=((Y ^ (rs.length+1):Nat):Rat);grind
def eV(i:Nat):Yq:=fun c=>if c=i then -1 else 0
def vv(A:Nat->Yq)(k i:Nat):Yq:=if i<k then eV i else A i
def yd(f:Nat->Nat->Int)(k:Nat)(d:Int)(i j:Nat):Int:=if i=k then f k j else (f k k * f i j - f i k * f k j).fdiv d
structure Stg(A:Nat->Yq)(n k:Nat)(f:Nat->Nat->Int)(d:Int):Prop where
 d:(d:Rat)=dd A k
 f:∀ i j,i<n->j<=n->(f i j:Rat)=if j<k then (if i=j then dd A k else 0) else BB A k (vv A k i) j
theorem z1Q:∀ c,c<k->eV k c=0:=fun c hc=>by unfold eV;rw[if_neg (by lia)]
theorem z4i{m d:Int}(hd:d≠0):(m * d).fdiv d=m:=Int.mul_fdiv_cancel _ hd
theorem Z1d(hA:∀ i c,ZW (A i c))(k i:Nat):∀ c,ZW (vv A k i c):=fun c=>by
 unfold vv;split;unfold eV;split;exact⟨-1,rfl⟩;exact⟨0,rfl⟩;exact hA i c
theorem jT{A:Nat->Yq}{p:Yq->Prop}(h:∀ i,p (A i)):∀ k,∀ r∈Rk A k,p r
 | 0,r,hr=>by simp[Rk] at hr
 | k+1,r,hr=>by
   rcases Z0z.mp hr with rfl | hr;exact h k;exact jT h k r hr
theorem Z1a(hA:∀ i c,ZW (A i c))(hv:∀ c,ZW (v c))(j:Nat):ZW (BB A k v j) :=
 z3S (fun r hr=>by
  rcases Z0z.mp hr with rfl | hr;exact hv;exact jT (p:=fun r=>∀ c,ZW (r c)) hA k r hr) _
theorem Stg.exact{A:Nat->Yq}{n k:Nat}{f:Nat->Nat->Int}{d:Int}(h:Stg A n k f d)(hA:∀ i c,ZW (A i c))(hk:k<n)(hd:∀ l,l<=k+1->dd A l≠0){i j:Nat}(hi:i<n)(hj:j<=n)(hik:i≠k) :
 ∃ m:Int,f k k * f i j - f i k * f k j=m * d/\(m:Rat)=if j<k+1 then (if i=j then dd A (k+1) else 0) else BB A (k+1) (vv A (k+1) i) j:=by
 have hkk:=h.f k k hk (by lia);have hij:=h.f i j hi hj;have hik':=h.f i k hi (by lia);have hkj:=h.f k j hk hj;have hvk:vv A k k=A k:=by unfold vv;rw[if_neg (by lia)]
 have hvi:vv A (k+1) i=vv A k i:=by
  unfold vv;by_cases e:i<k;rw[if_pos e,if_pos (by lia)];rw[if_neg e,if_neg (by lia)]
 rw[if_neg (by lia),hvk] at hkk;rw[if_neg (by lia)] at hik';have ekk:(f k k:Rat)=dd A (k+1):=by rw[Xn];exact hkk
 rw[hvk] at hkj;have hdk:=hd k (by lia);have fin:∀ m:Int,(((f k k * f i j - f i k * f k j:Int)):Rat)=(m:Rat) * (d:Rat)->f k k * f i j - f i k * f k j=m * d:=fun m e=>by
  have:(((f k k * f i j - f i k * f k j:Int)):Rat)=((m * d:Int):Rat):=by rw[e,Z0L]
  exact_mod_cast this
 by_cases c1:j<k;rw[if_pos c1,if_neg (by lia)] at hkj;rw[if_pos c1] at hij;rw[if_pos (by lia:j<k+1)];by_cases e:i=j;rw[if_pos e] at hij ⊢;refine⟨f k k,fin _ ?_,ekk⟩;rw[Z48,Z0L,Z0L,hkj,hij,h.d];grind;rw[if_neg e] at hij ⊢;refine⟨0,fin _ ?_,by simp⟩;rw[Z48,Z0L,Z0L,hkj,hij,Rat.intCast_zero];grind;by_cases c2:j=k;subst c2;rw[if_pos (by lia:j<j+1),if_neg hik];exact⟨0,by rw[Int.mul_comm (f i j)];lia,by simp⟩;rw[if_neg c1] at hij hkj;rw[if_neg (by lia:¬ j<k+1),hvi];obtain⟨m,hm⟩:=Z1a hA (k:=k+1) (Z1d hA k i) j;refine⟨m,fin m ?_,hm.symm⟩;rw[Z48,Z0L,Z0L,ekk,hij,hik',hkj,h.d,← hm];exact (z3I A hd (vv A k i) j).symm
theorem Stg.next{f:Nat->Nat->Int}{d:Int}(h:Stg A n k f d)(hA:∀ i c,ZW (A i c))(hk:k<n)(hd:∀ l,l<=k+1->dd A l≠0):Stg A n (k+1) (yd f k d) (f k k):=by
 have hkk:=h.f k k hk (by lia);have hvk:vv A k k=A k:=by unfold vv;rw[if_neg (by lia)]
 rw[if_neg (by lia),hvk] at hkk;have hdk:=hd k (by lia);have hd0:d≠0:=fun z=>hdk (by rw[← h.d,z];rfl);refine⟨by rw[Xn];exact hkk,fun i j hi hj=>?_⟩;unfold yd;by_cases e:i=k;subst e;rw[if_pos rfl];have hij:=h.f i j hi hj;rw[hvk] at hij;by_cases c1:j<i;rw[if_pos c1,if_neg (by lia)] at hij;rw[if_pos (by lia),if_neg (by lia),hij];rw[if_neg c1] at hij;by_cases c2:j=i;subst c2;rw[if_pos (by lia),if_pos rfl,hij,Xn];rw[if_neg (by lia),hij];have hv1:vv A (i+1) i=eV i:=by unfold vv;rw[if_pos (by lia)]
 rw[hv1];have:=z3I A hd (eV i) j;rw[XU A z1Q,XU A z1Q] at this;have e1:eV i j=0:=by unfold eV;rw[if_neg c2]
 have e2:eV i i=-1:=by unfold eV;rw[if_pos rfl]
 rw[e1,e2] at this;generalize BB A (i+1) (eV i) j=x at *;generalize BB A i (A i) j=y at *;generalize dd A (i+1)=z at *;have h3:(x - y) * dd A i=0:=by grind
 grind;rw[if_neg e];obtain⟨m,e1,e2⟩:=h.exact hA hk hd hi hj e;rw[e1,z4i hd0];exact e2
structure Sgn(n k:Nat)(f:Nat->Nat->Int):Prop where
 off:∀ i j,i<n->k<=j->j<n->i≠j->f i j<=0
 col:∀ j,k<=j->j<n->0<qs n (fun i=>if k<=i then (f i j:Rat) else 0)
 rhs:∀ i,i<n->0<=f i n
theorem qE{g:Nat->Rat}:∀ {n k:Nat},k<n->qs n (fun i=>if k<=i then g i else 0)=g k+qs n (fun i=>if k+1<=i then g i else 0)
 | n+1,k,h=>by
   show qs n _+(if k<=n then g n else 0)=g k+(qs n _+(if k+1<=n then g n else 0));by_cases e:k=n;subst e;rw[if_pos (by lia),if_neg (by lia),zN (g:=fun _=>0) fun i hi=>by rw[if_neg (by lia)],zN (f:=fun i=>if k+1<=i then g i else 0) (g:=fun _=>0) fun i hi=>by rw[if_neg (by lia)]];grind;rw[if_pos (by lia),if_pos (by lia),qE (n:=n) (by lia)];grind
theorem Sgn.pivot(h:Sgn n k f)(hk:k<n):0<f k k:=by
 have h1:=h.col k (by lia) hk;rw[qE hk] at h1;have h2:qs n (fun i=>if k+1<=i then (f i k:Rat) else 0)<=qs n (fun _=>0):=vP fun i hi=>by
  split;have:=h.off i k hi (by lia) hk (by lia);have:(f i k:Rat)<=((0:Int):Rat):=Z16.mpr this;simpa using this;grind
 rw[QG] at h2;have h3:(0:Rat)<(f k k:Rat):=by grind
 have:((0:Int):Rat)<(f k k:Rat):=by simpa using h3
 exact Rat.intCast_lt_intCast.mp this
theorem z2F{x d:Int}(hd:0<d)(h:x * d<=0):x<=0:=by
 refine Int.not_lt.mp fun z=>?_;have:=Z4s z hd;lia
theorem Sgn.next(h:Sgn n k f)(hk:k<n)(hd:0<d)(ex:∀ i j,i<n->j<=n->i≠k->f k k * f i j - f i k * f k j=yd f k d i j * d):Sgn n (k+1) (yd f k d):=by
 have hp:=h.pivot hk;refine⟨fun i j hi hkj hj hij=>?_,fun j hkj hj=>?_,fun i hi=>?_⟩;by_cases e:i=k;subst e;unfold yd;rw[if_pos rfl];exact h.off i j hi (by lia) hj hij;refine z2F hd ?_;rw[← ex i j hi (by lia) e];have a1:=h.off i j hi (by lia) hj hij;have a2:=h.off i k hi (by lia) hk e;have a3:=h.off k j hk (by lia) hj (by lia);have b1:f k k * f i j<=0:=Int.mul_nonpos_of_nonneg_of_nonpos (Z44 hp) a1;have b2:0<=f i k * f k j:=Int.mul_nonneg_of_nonpos_of_nonpos a2 a3;lia;have hdq:=cpos hd;have e:qs n (fun i=>if k+1<=i then (yd f k d i j:Rat) else 0) * (d:Rat)=(f k k:Rat) * qs n (fun i=>if k<=i then (f i j:Rat) else 0) - (f k j:Rat) * qs n (fun i=>if k<=i then (f i k:Rat) else 0):=by
  rw[qE (g:=fun i=>(f i j:Rat)) hk,qE (g:=fun i=>(f i k:Rat)) hk,Rat.mul_comm,← zY,Rat.mul_add,Rat.mul_add,← zY,← zY];have e2:qs n (fun i=>(d:Rat) * (if k+1<=i then (yd f k d i j:Rat) else 0))=qs n (fun i=>(f k k:Rat) * (if k+1<=i then (f i j:Rat) else 0)+(-1) * ((f k j:Rat) * (if k+1<=i then (f i k:Rat) else 0))):=zN fun i hi=>by
   split;have:=ex i j hi (by lia) (by lia);have:((f k k * f i j - f i k * f k j:Int):Rat)=((yd f k d i j * d:Int):Rat):=by rw[this]
   rw[Z48,Z0L,Z0L,Z0L] at this;grind;grind
  rw[e2,Zv,zY (-1)];grind
 have a3:=h.off k j hk (by lia) hj (by lia);have a3':(f k j:Rat)<=0:=by
  have:(f k j:Rat)<=((0:Int):Rat):=Z16.mpr a3;simpa using this
 have s1:=h.col j (by lia) hj;have s2:=h.col k (by lia) hk;have p1:=Z53 (cpos hp) s1;have p2:=yg (a:=-(f k j:Rat)) (by grind) (Z4O s2);have:0<qs n (fun i=>if k+1<=i then (yd f k d i j:Rat) else 0) * (d:Rat):=by rw[e];grind
 refine Rat.not_le.mp fun z=>?_;have:=ZC z (Z4O hdq);grind;by_cases e:i=k;subst e;unfold yd;rw[if_pos rfl];exact h.rhs i hi;have a2:=h.off i k hi (by lia) hk e;have a1:=h.rhs i hi;have a3:=h.rhs k hk;have b1:0<=f k k * f i n:=Z4m (Z44 hp) a1;have b2:f i k * f k n<=0:=Int.mul_nonpos_of_nonpos_of_nonneg a2 a3;have:=ex i n hi (Z03 _) e;refine Int.not_lt.mp fun z=>?_;have:=Int.mul_neg_of_neg_of_pos z hd;lia
def fF(f0:Nat->Nat->Int):Nat->(Nat->Nat->Int)×Int
 | 0=>(f0,1)
 | k+1=>(yd (fF f0 k).1 k (fF f0 k).2,(fF f0 k).1 k k)
def aV(f0:Nat->Nat->Int)(i:Nat):Yq:=fun c=>(f0 i c:Rat)
theorem z7q(f0:Nat->Nat->Int):∀ i c,ZW (aV f0 i c):=fun i c=>⟨f0 i c,rfl⟩
theorem UJ(s0:Sgn n 0 f0):∀ k,k<=n->Stg (aV f0) n k (fF f0 k).1 (fF f0 k).2/\Sgn n k (fF f0 k).1/\0<(fF f0 k).2/\∀ l,l<=k->0<dd (aV f0) l
 | 0,_=>by
   refine⟨⟨rfl,fun i j hi hj=>?_⟩,s0,by show (0:Int)<1;decide,fun l hl=>?_⟩;rw[if_neg (by lia)];have e:vv (aV f0) 0 i=aV f0 i:=by unfold vv;rw[if_neg (by lia)]
   rw[e,XU _ (fun c hc=>by lia),z3n];show (f0 i j:Rat)=(f0 i j:Rat) * 1;grind;rw[show l=0 by lia,z3n];decide
 | k+1,hk=>by
   obtain⟨st,sg,dp,dl⟩:=UJ s0 k (by lia);have pv:=sg.pivot (by lia);have hkk:((fF f0 k).1 k k:Rat)=dd (aV f0) (k+1):=by
    have:=st.f k k (by lia) (by lia);rw[if_neg (by lia)] at this;have e:vv (aV f0) k k=aV f0 k:=(by unfold vv;rw[if_neg (by lia)]);rw[e] at this;rw[Xn];exact this
   have dl':∀ l,l<=k+1->0<dd (aV f0) l:=fun l hl=>by
    by_cases e:l=k+1;subst e;rw[← hkk];exact cpos pv;exact dl l (by lia)
   have hne:∀ l,l<=k+1->dd (aV f0) l≠0:=fun l hl z=>by
    have:=dl' l hl;rw[z] at this;exact absurd this (by decide)
   refine⟨st.next (z7q f0) (by lia) hne,sg.next (by lia) dp fun i j hi hj hik=>?_,pv,dl'⟩;obtain⟨m,e1,_⟩:=st.exact (z7q f0) (by lia) hne hi hj hik;rw[e1];unfold yd;rw[if_neg hik,e1,z4i (by lia)]
theorem z5B(s0:Sgn n 0 f0)(hi:i<n):qs n (fun j=>(f0 i j:Rat) * ((fF f0 n).1 j n:Rat))=((fF f0 n).2:Rat) * (f0 i n:Rat):=by
 obtain⟨st,sg,dp,dl⟩:=UJ s0 n (Z03 _);have hx:∀ j,j<n->((fF f0 n).1 j n:Rat)=BB (aV f0) n (eV j) n:=fun j hj=>by
  have:=st.f j n hj (Z03 _);rw[if_neg (by lia)] at this;have e:vv (aV f0) n j=eV j:=by unfold vv;rw[if_pos hj]
  rw[e] at this;exact this
 have h0:=Z1p (aV f0) hi n;have part:∀ m,m<=n->BB (aV f0) n (fun c=>if c<m then aV f0 i c else 0) n=(-1) * qs m (fun j=>(f0 i j:Rat) * BB (aV f0) n (eV j) n):=by
  intro m
  induction m with
  | zero =>
    intro _;rw[XU _ (fun c hc=>by simp)];simp[qs]
  | succ m ih =>
    intro hm;have e:BB (aV f0) n (fun c=>if c<m+1 then aV f0 i c else 0) n=BB (aV f0) n (fun c=>1 * (if c<m then aV f0 i c else 0)+(-(f0 i m:Rat)) * eV m c) n:=by
     have pt:∀ c:Nat,(if c<m+1 then aV f0 i c else 0)=1 * (if c<m then aV f0 i c else 0)+(-(f0 i m:Rat)) * eV m c:=fun c=>by
      unfold eV;by_cases c1:c<m;rw[if_pos (by lia),if_pos c1,if_neg (by lia)];grind;by_cases c2:c=m;subst c2;rw[if_pos (by lia),if_neg (by lia),if_pos rfl];show (f0 i c:Rat)=_;grind;rw[if_neg (by lia),if_neg c1,if_neg c2];grind
     exact QC _ (pt n) fun c _=>pt c
    rw[e,jF,ih (by lia)];show _=(-1) * (qs m _+_);grind
 have split:BB (aV f0) n (aV f0 i) n=BB (aV f0) n (fun c=>1 * (if c<n then aV f0 i c else 0)+(-(f0 i n:Rat)) * eV n c) n:=by
  have pt:∀ c:Nat,c<=n->aV f0 i c=1 * (if c<n then aV f0 i c else 0)+(-(f0 i n:Rat)) * eV n c:=fun c hc=>by
   unfold eV;by_cases c1:c<n;rw[if_pos c1,if_neg (by lia)];grind;have c2:c=n:=by lia
   subst c2;rw[if_neg (by lia),if_pos rfl];show (f0 i c:Rat)=_;grind
  exact QC _ (pt n (Z03 _)) fun c hc=>pt c (by lia)
 rw[split,jF,part n (Z03 _),XU _ z1Q] at h0;have e2:eV n n=-1:=by unfold eV;rw[if_pos rfl]
 rw[e2,← st.d] at h0;rw[zN fun j hj=>by rw[hx j hj]];grind
theorem le_pow(hY:1<=Y)(h:m<=k):Y ^ m<=Y ^ k:=Z3a hY h
theorem z1k:∀ k,(Kk k).length=k
 | 0=>rfl
 | k+1=>by show (k :: Kk k).length=_;rw[Z0u,z1k k]
theorem z1F(A:Nat->Yq):∀ k,(Rk A k).length=k
 | 0=>rfl
 | k+1=>by show (A k :: Rk A k).length=_;rw[Z0u,z1F A k]
theorem Z2T(s0:Sgn n 0 f0)(hn:n<=12)(hU:1<=U)(hY:13 * U<=Y)(hb:∀ i j,(f0 i j).natAbs<=U)(hk:k<=n):(∀ i j,i<n->j<=n->((fF f0 k).1 i j).natAbs<=Y ^ 13)/\(fF f0 k).2.natAbs<=Y ^ 13:=by
 obtain⟨st,sg,dp,dl⟩:=UJ s0 k hk;have hA:∀ i c,-((U:Nat):Rat)<=aV f0 i c/\aV f0 i c<=((U:Nat):Rat):=fun i c=>by
  have h:=hb i c;have h1:((-(U:Int):Int):Rat)<=(f0 i c:Rat):=Z16.mpr (by lia);have h2:(f0 i c:Rat)<=(((U:Int)):Rat):=Z16.mpr (by lia);rw[Rat.intCast_neg] at h1;exact⟨h1,h2⟩
 have one:(1:Rat)<=((U:Nat):Rat):=Z0B hU;have hE:∀ i c,-((U:Nat):Rat)<=eV i c/\eV i c<=((U:Nat):Rat):=fun i c=>by
  unfold eV;split <;> grind
 have hY1:1<=Y:=by lia
 have toInt:∀ {x:Int}{m:Nat},m<=13->-((Y ^ m:Nat):Rat)<=(x:Rat)/\(x:Rat)<=((Y ^ m:Nat):Rat)->x.natAbs<=Y ^ 13:=fun {x m} hm h=>by
  have hp:=le_pow hY1 hm;obtain⟨h1,h2⟩:=h;have h1':((-((Y ^ m:Nat):Int):Int):Rat)<=(x:Rat):=by rw[Rat.intCast_neg];exact h1
  have h2':(x:Rat)<=((((Y ^ m:Nat):Int)):Rat):=h2;have a1:=Z16.mp h1';have a2:=Z16.mp h2';generalize Y ^ 13=z at *;generalize Y ^ m=y at *;lia
 have dB:-((Y ^ k:Nat):Rat)<=dd (aV f0) k/\dd (aV f0) k<=((Y ^ k:Nat):Rat):=by
  have:=z2i hY (rs:=Rk (aV f0) k) (fun r hr=>jT (p:=fun r=>∀ c,-((U:Nat):Rat)<=r c/\r c<=((U:Nat):Rat)) hA k r hr) (Kk k) (by rw[z1k];lia);rwa [z1F] at this
 refine⟨fun i j hi hj=>?_,toInt (m:=k) (by lia) (by rw[st.d];exact dB)⟩;have e:=st.f i j hi hj;split at e;split at e;exact toInt (m:=k) (by lia) (by rw[e];exact dB);have hz:(fF f0 k).1 i j=0:=by exact_mod_cast e
 rw[hz];simp;refine toInt (m:=k+1) (by lia) ?_;rw[e];have:=z2i hY (rs:=vv (aV f0) k i :: Rk (aV f0) k) (fun r hr=>by
  rcases Z0z.mp hr with rfl | hr;unfold vv;split;exact hE i;exact hA i;exact jT (p:=fun r=>∀ c,-((U:Nat):Rat)<=r c/\r c<=((U:Nat):Rat)) hA k r hr) (j :: Kk k) (by rw[Z0u,z1k];lia)
 rwa [Z0u,z1F] at this
def yb(x:Rat):Rat:=if x<0 then -x else x
theorem z4f(x:Rat):0<=yb x:=by unfold yb;split <;> grind
theorem z6I(x y:Rat):yb (x+y)<=yb x+yb y:=by unfold yb;split <;> split <;> split <;> grind
theorem z5w(h:yb x<=0):x=0:=by unfold yb at h;split at h <;> grind
theorem z7T(hc:0<=c):yb (x * c)<=yb x * c:=by
 unfold yb;split <;> split;grind;rename_i h1 h2;have:=yg (a:=x) (b:=c) (by grind) hc;grind;rename_i h1 h2;have:=yg (a:=-x) (b:=c) (by grind) hc;grind;grind
theorem z2X(f:Nat->Rat):∀ n,yb (qs n f)<=qs n (fun i=>yb (f i))
 | 0=>by show yb 0<=0;unfold yb;grind
 | n+1=>by
   have h1:=z2X f n;have h2:=z6I (qs n f) (f n);show yb (qs n f+f n)<=qs n _+yb (f n);grind
theorem z6V{W:Nat->Nat->Rat}(hW:∀ i t,i<n->t<n->a * B t<=W i t)(hs:∀ i,i<n->qs n (fun t=>W i t)=1)(hB:qs n B=1)(hxy:qs n x=qs n y) :
 qs n (fun t=>yb (qs n (fun i=>x i * W i t) - qs n (fun i=>y i * W i t)))<=(1 - a) * qs n (fun i=>yb (x i - y i)):=by
 have h1:∀ t,t<n->yb (qs n (fun i=>x i * W i t) - qs n (fun i=>y i * W i t))<=qs n (fun i=>yb (x i - y i) * (W i t - a * B t)):=fun t ht=>by
  have e:qs n (fun i=>x i * W i t) - qs n (fun i=>y i * W i t)=qs n (fun i=>(x i - y i) * (W i t - a * B t)):=by
   have e1:qs n (fun i=>(x i - y i) * (W i t - a * B t))=qs n (fun i=>(x i * W i t+(-1) * (y i * W i t))+((-(a * B t)) * x i+(a * B t) * y i)):=zN fun i _=>by grind
   rw[e1,Zv,Zv,Zv,zY,zY,zY,hxy];grind
  rw[e];have h2:=z2X (fun i=>(x i - y i) * (W i t - a * B t)) n;have h3:qs n (fun i=>yb ((x i - y i) * (W i t - a * B t)))<=qs n (fun i=>yb (x i - y i) * (W i t - a * B t)):=vP fun i hi=>z7T (by have:=hW i t hi ht;grind);grind
 have h4:=vP h1;rw[Vo (fun t i=>yb (x i - y i) * (W i t - a * B t))] at h4;have e2:qs n (fun i=>qs n (fun t=>yb (x i - y i) * (W i t - a * B t)))=qs n (fun i=>(1 - a) * yb (x i - y i)):=zN fun i hi=>by
  rw[zY];have e3:qs n (fun t=>W i t - a * B t)=1 - a:=by
   have:qs n (fun t=>W i t - a * B t)=qs n (fun t=>W i t+(-a) * B t):=zN fun t _=>by grind
   rw[this,Zv,zY,hs i hi,hB];grind
  rw[e3];grind
 rw[e2,zY] at h4;exact h4
theorem unique{W:Nat->Nat->Rat}(ha:0<a)(hW:∀ i t,i<n->t<n->a * B t<=W i t)(hs:∀ i,i<n->qs n (fun t=>W i t)=1)(hB:qs n B=1)(hxy:qs n x=qs n y)(sx:∀ t,t<n->qs n (fun i=>x i * W i t)=x t)(sy:∀ t,t<n->qs n (fun i=>y i * W i t)=y t):∀ t,t<n->x t=y t:=by
 have h:=z6V hW hs hB hxy;rw[zN (g:=fun t=>yb (x t - y t)) fun t ht=>by rw[sx t ht,sy t ht]] at h;have h0:0<=qs n (fun t=>yb (x t - y t)):=Xh fun t _=>z4f _;have h1:qs n (fun t=>yb (x t - y t))<=0:=by
  refine Rat.not_lt.mp fun z=>?_;have:=Z53 ha z;grind
 intro t ht;have h2:=JN (f:=fun t=>yb (x t - y t)) ht fun i _=>z4f _;have:=z5w (x:=x t - y t) (Rat.le_trans h2 h1);grind
def mp(ps:List (Int×Int))(j:Nat):Int:=(max 1 (outs ps (j:Int)).length:Nat)
def cn(ps:List (Int×Int))(j i:Nat):Int:=((outs ps (j:Int)).count (i:Int):Nat)
def fac(ps:List (Int×Int))(A:Int×Int)(j i:Nat):Int:=if j=i then A.2 * mp ps j - (A.2 - A.1) * cn ps j i else -((A.2 - A.1) * cn ps j i)
def VU(ps:List (Int×Int))(A:Int×Int)(ss:List Int)(n i j:Nat):Int:=if i<n then (if j<n then fac ps A j i else if j=n then ss.getD i 0 else 0) else 0
theorem YR(ps:List (Int×Int))(j i:Nat):((ps.count ((j:Int),(i:Int)):Nat):Int)=cn ps j i:=by
 unfold cn outs;congr 1
 induction ps with
 | nil=>rfl
 | cons p ps ih =>
   obtain⟨a,b⟩:=p;rw[List.count_cons];by_cases h:a=(j:Int);subst h;rw[List.filter_cons_of_pos (by simp),Z1y,List.count_cons,ih];simp;rw[List.filter_cons_of_neg (by simpa using h),ih];simp[h]
theorem j8(lk:∀ p∈ps,0<=p.2/\p.2<(n:Int))(j:Nat):qs n (fun i=>(cn ps j i:Rat))=(((outs ps (j:Int)).length:Nat):Rat):=QX fun x hx=>z0u lk hx
structure YK(ps:List (Int×Int))(A:Int×Int)(ss:List Int)(n:Nat):Prop where
 lk:∀ p∈ps,0<=p.2/\p.2<(n:Int)
 a0:0<A.1
 a1:A.1<=A.2
 len:ss.length=n
 nn:∀ s∈ss,0<=s
 pos:0<ss.sum
theorem z1h(ps:List (Int×Int))(A:Int×Int)(j i:Nat):(fac ps A j i:Rat)=(if i=j then (A.2:Rat) * (mp ps j:Rat) else 0)+(-((A.2:Rat) - (A.1:Rat))) * (cn ps j i:Rat):=by
 unfold fac;by_cases e:j=i;subst e;rw[if_pos rfl,if_pos rfl,Z48,Z0L,Z0L,Z48];grind;rw[if_neg e,if_neg (fun z=>e z.symm),Rat.intCast_neg,Z0L,Z48];grind
theorem Z0K(ps:List (Int×Int))(j:Nat):1<=mp ps j/\(((outs ps (j:Int)).length:Nat):Int)<=mp ps j:=by unfold mp;lia
theorem YK.sgn(h:YK ps A ss n):Sgn n 0 (VU ps A ss n):=by
 refine⟨fun i j hi _ hj hij=>?_,fun j _ hj=>?_,fun i hi=>?_⟩;unfold VU fac;rw[if_pos hi,if_pos hj,if_neg (fun z=>hij z.symm)];have:0<=(A.2 - A.1) * cn ps j i:=Z4m (by have:=h.a1;lia) (by unfold cn;lia);lia;rw[zN (g:=fun i=>(if i=j then (A.2:Rat) * (mp ps j:Rat) else 0)+(-((A.2:Rat) - (A.1:Rat))) * (cn ps j i:Rat)) fun i hi=>?_,Zv,zY,j8 h.lk,YO hj fun i _ hi=>by rw[if_neg hi]];rw[if_pos rfl];obtain⟨m1,m2⟩:=Z0K ps j;have m2':(((outs ps (j:Int)).length:Nat):Rat)<=(mp ps j:Rat):=by
  have:((((outs ps (j:Int)).length:Nat):Int):Rat)<=(mp ps j:Rat):=Z16.mpr m2;exact this
 have a1:(A.1:Rat)<=(A.2:Rat):=Z16.mpr h.a1;have p1:=Z53 (cpos h.a0) (cpos (show (0:Int)<mp ps j by lia));have p2:=yg (a:=(A.2:Rat) - (A.1:Rat)) (b:=(mp ps j:Rat) - (((outs ps (j:Int)).length:Nat):Rat)) (by grind) (by grind);grind;rw[if_pos (Z18 _)];unfold VU;rw[if_pos hi,if_pos hj];exact z1h ps A j i;unfold VU;rw[if_pos hi,if_neg (by lia),if_pos rfl];exact h.nn _ (Z21 (L2.Xo (by have:=h.len;lia)))
section
variable(ps:List (Int×Int))(A:Int×Int)(ss:List Int)(n:Nat)
def xS(j:Nat):Int:=(fF (VU ps A ss n) n).1 j n
def dS:Int:=(fF (VU ps A ss n) n).2
def vS(j:Nat):Int:=mp ps j * xS ps A ss n j
def VS:Int:=((List.range n).map (vS ps A ss n)).sum
def shL:List (Int×Int):=(List.range n).map fun j=>mk (vS ps A ss n j) (VS ps A ss n)
end
theorem YK.Z4T(h:YK ps A ss n)(hj:j<n):0<=xS ps A ss n j:=((UJ h.sgn n (Z03 _)).2.1).rhs j hj
theorem YK.d_pos(h:YK ps A ss n):0<dS ps A ss n:=(UJ h.sgn n (Z03 _)).2.2.1
theorem YK.z6A(h:YK ps A ss n)(hj:j<n):0<=vS ps A ss n j:=Z4m (by have:=(Z0K ps j).1;lia) (h.Z4T hj)
theorem YK.row(h:YK ps A ss n)(hi:i<n):(A.2:Rat) * (vS ps A ss n i:Rat)=((A.2:Rat) - (A.1:Rat)) * qs n (fun j=>(cn ps j i:Rat) * (xS ps A ss n j:Rat))+(dS ps A ss n:Rat) * (ss.getD i 0:Rat):=by
 have h1:=z5B h.sgn hi;have e0:VU ps A ss n i n=ss.getD i 0:=by unfold VU;rw[if_pos hi,if_neg (by lia),if_pos rfl]
 rw[e0] at h1;have e1:qs n (fun j=>(VU ps A ss n i j:Rat) * ((fF (VU ps A ss n) n).1 j n:Rat))=qs n (fun j=>(if j=i then (A.2:Rat) * (vS ps A ss n i:Rat) else 0)+(-((A.2:Rat) - (A.1:Rat))) * ((cn ps j i:Rat) * (xS ps A ss n j:Rat))):=zN fun j hj=>by
  have e2:VU ps A ss n i j=fac ps A j i:=by unfold VU;rw[if_pos hi,if_pos hj]
  rw[e2,z1h];show _ * (xS ps A ss n j:Rat)=_;by_cases e:j=i;subst e;rw[if_pos rfl,if_pos rfl];unfold vS;rw[Z0L];grind;rw[if_neg e,if_neg (fun z=>e z.symm)];grind
 rw[e1,Zv,zY,YO hi fun j _ hj=>by rw[if_neg hj],if_pos rfl] at h1;have e3:((fF (VU ps A ss n) n).2:Rat)=(dS ps A ss n:Rat):=rfl;rw[e3] at h1;grind
theorem z0h:(VS ps A ss n:Rat)=qs n (fun j=>(vS ps A ss n j:Rat)):=(z3Y n).symm
def dg(ps:List (Int×Int))(A:Int×Int)(ss:List Int)(n j:Nat):Rat:=if outs ps (j:Int)=[] then (vS ps A ss n j:Rat) else 0
theorem Z0s(j:Nat):(((outs ps (j:Int)).length:Nat):Rat) * (xS ps A ss n j:Rat)=(vS ps A ss n j:Rat)+(-1) * dg ps A ss n j:=by
 unfold dg vS;by_cases e:outs ps (j:Int)=[];rw[if_pos e,e];simp;grind;rw[if_neg e];have:mp ps j=(((outs ps (j:Int)).length:Nat):Int):=by
  unfold mp;have:=Z2K.mpr e;lia
 rw[this,Z0L];have e2:((((outs ps (j:Int)).length:Nat):Int):Rat)=(((outs ps (j:Int)).length:Nat):Rat):=rfl;rw[e2];grind
theorem YK.all(h:YK ps A ss n):(A.1:Rat) * (VS ps A ss n:Rat)+((A.2:Rat) - (A.1:Rat)) * qs n (fun j=>dg ps A ss n j)=(dS ps A ss n:Rat) * (ss.sum:Rat):=by
 have h1:qs n (fun i=>(A.2:Rat) * (vS ps A ss n i:Rat))=qs n (fun i=>((A.2:Rat) - (A.1:Rat)) * qs n (fun j=>(cn ps j i:Rat) * (xS ps A ss n j:Rat))+(dS ps A ss n:Rat) * (ss.getD i 0:Rat)):=zN fun i hi=>h.row hi;rw[zY,Zv,zY,zY,Vo (fun i j=>(cn ps j i:Rat) * (xS ps A ss n j:Rat)),← z0h] at h1;have h2:qs n (fun j=>qs n (fun i=>(cn ps j i:Rat) * (xS ps A ss n j:Rat)))=qs n (fun j=>(vS ps A ss n j:Rat)+(-1) * dg ps A ss n j):=zN fun j hj=>by
  have:qs n (fun i=>(cn ps j i:Rat) * (xS ps A ss n j:Rat))=qs n (fun i=>(xS ps A ss n j:Rat) * (cn ps j i:Rat)):=zN fun i _=>Rat.mul_comm ..;rw[this,zY,j8 h.lk,← Z0s];grind
 have h3:qs n (fun i=>(ss.getD i 0:Rat))=(ss.sum:Rat):=by
  have:=Vn ss;rwa [h.len] at this
 rw[h2,h3,Zv,zY,← z0h] at h1;grind
theorem Z3D(h:YK ps A ss n)(hj:j<n):0<=dg ps A ss n j/\dg ps A ss n j<=(vS ps A ss n j:Rat):=by
 have:=cnn (h.z6A hj);unfold dg;split <;> grind
theorem YK.z3O(h:YK ps A ss n):0<VS ps A ss n:=by
 have h1:=h.all;have h2:=vP fun j hj=>(Z3D h (j:=j) hj).2;rw[← z0h] at h2;have a1:(A.1:Rat)<=(A.2:Rat):=Z16.mpr h.a1;have p1:=Z53 (cpos h.d_pos) (cpos h.pos);have p2:=yg (a:=(A.2:Rat) - (A.1:Rat)) (b:=(VS ps A ss n:Rat) - qs n (fun j=>dg ps A ss n j)) (by grind) (by grind);have a2:=cpos (show 0<A.2 by have:=h.a0;have:=h.a1;lia);have h3:0<(A.2:Rat) * (VS ps A ss n:Rat):=by grind
 have h4:(0:Rat)<(VS ps A ss n:Rat):=by
  refine Rat.not_le.mp fun z=>?_;have:=ZC z (Z4O a2);grind
 have:((0:Int):Rat)<(VS ps A ss n:Rat):=by simpa using h4
 exact Rat.intCast_lt_intCast.mp this
structure Zi(ps:List (Int×Int))(A:Int×Int)(Bs:List (Int×Int))(n:Nat)(Ss:List (Int×Int)):Prop where
 len:Ss.length=n
 canon:z9 Ss
 nn:∀ S∈Ss,0<=S.1
 one:qs n (fun t=>val (Ss.getD t (0,1)))=1
 stay:∀ t,t<n->z0I ps A Bs Ss n t=val (Ss.getD t (0,1))
theorem Qa(ca:Canon A)(cb:z9 Bs)(hn:Bs.length=n)(ht:t<n):val ((Zb ps A Bs (j:Nat)).getD t (0,1))=if outs ps (j:Int)=[] then val (Bs.getD t (0,1)) else val A * val (Bs.getD t (0,1))+(1 - val A) * ((cn ps j t:Rat) / (((outs ps (j:Int)).length:Nat):Rat)):=by
 unfold Zb;split;rfl;rename_i h;rw[Yp (by lia),xJ ca (cb.getD t) (yJ h)];rfl
theorem z5Q{Bs:List (Int×Int)}{ss:List Int}{L:Int}(h:YK ps A ss n)(ca:Canon A)(cb:z9 Bs)(hn:Bs.length=n)(hL:0<L)(hB:∀ t,t<n->(ss.getD t 0:Rat)=val (Bs.getD t (0,1)) * (L:Rat))(one:qs n (fun t=>val (Bs.getD t (0,1)))=1):Zi ps A Bs n (shL ps A ss n):=by
 have hV:=h.z3O;have hVq:=cpos hV;have hVn:=Ze (d:=VS ps A ss n) (by lia);have vs:∀ t,t<n->val ((shL ps A ss n).getD t (0,1))=(vS ps A ss n t:Rat) / (VS ps A ss n:Rat):=fun t ht=>by
  unfold shL;rw[Yp ht,val_mk (by lia)]
 refine⟨by unfold shL;simp,fun S hS=>?_,fun S hS=>?_,?_,fun t ht=>?_⟩;obtain⟨t,_,rfl⟩:=Z17.mp hS;exact Zt (by lia);obtain⟨t,ht,rfl⟩:=Z17.mp hS;exact z5D hV (h.z6A (Z23.mp ht));rw[zN (g:=fun t=>(1 / (VS ps A ss n:Rat)) * (vS ps A ss n t:Rat)) fun t ht=>by rw[vs t ht];grind,zY,← z0h];grind;rw[vs t ht];unfold z0I;have ha2:0<A.2:=ca.1;have haq:=Ze (zI ca);have eα:val A * (A.2:Rat)=(A.1:Rat):=by unfold val;grind
 have sumS:(ss.sum:Rat)=(L:Rat):=by
  have h3:qs n (fun i=>(ss.getD i 0:Rat))=(ss.sum:Rat):=by
   have:=Vn ss;rwa [h.len] at this
  rw[← h3,zN (g:=fun t=>(L:Rat) * val (Bs.getD t (0,1))) fun t ht=>by rw[hB t ht];grind,zY,one];grind
 have hall:=h.all;rw[sumS] at hall;have hrow:=h.row ht;rw[hB t ht] at hrow;have key:qs n (fun j=>(vS ps A ss n j:Rat) * val ((Zb ps A Bs (j:Nat)).getD t (0,1)))=(val A * val (Bs.getD t (0,1))) * (VS ps A ss n:Rat)+(1 - val A) * qs n (fun j=>(cn ps j t:Rat) * (xS ps A ss n j:Rat))+((1 - val A) * val (Bs.getD t (0,1))) * qs n (fun j=>dg ps A ss n j):=by
  have e1:qs n (fun j=>(vS ps A ss n j:Rat) * val ((Zb ps A Bs (j:Nat)).getD t (0,1)))=qs n (fun j=>((val A * val (Bs.getD t (0,1))) * (vS ps A ss n j:Rat)+(1 - val A) * ((cn ps j t:Rat) * (xS ps A ss n j:Rat)))+((1 - val A) * val (Bs.getD t (0,1))) * dg ps A ss n j):=zN fun j hj=>by
   rw[Qa ca cb hn ht];have hlx:=Z0s (ps:=ps) (A:=A) (ss:=ss) (n:=n) j;unfold dg at hlx ⊢;by_cases e:outs ps (j:Int)=[];rw[if_pos e,if_pos e];have:cn ps j t=0:=by unfold cn;rw[e];rfl
   rw[this];simp;grind;rw[if_neg e] at hlx ⊢;rw[if_neg e];have hl:(((outs ps (j:Int)).length:Nat):Rat)≠0:=Ze (yJ e);generalize (((outs ps (j:Int)).length:Nat):Rat)=l at *;have:(vS ps A ss n j:Rat)=l * (xS ps A ss n j:Rat):=by grind
   rw[this];grind
  rw[e1,Zv,Zv,zY,zY,zY,← z0h]
 have e2:qs n (fun i=>val ((shL ps A ss n).getD i (0,1)) * val ((Zb ps A Bs (i:Nat)).getD t (0,1)))=(1 / (VS ps A ss n:Rat)) * qs n (fun j=>(vS ps A ss n j:Rat) * val ((Zb ps A Bs (j:Nat)).getD t (0,1))):=by
  rw[← zY];exact zN fun j hj=>by rw[vs j hj];grind
 rw[e2,key];generalize qs n (fun j=>(cn ps j t:Rat) * (xS ps A ss n j:Rat))=Cq at *;generalize qs n (fun j=>dg ps A ss n j)=Dq at *;generalize val (Bs.getD t (0,1))=b at *;generalize (vS ps A ss n t:Rat)=v at *;generalize (VS ps A ss n:Rat)=V at *;generalize (dS ps A ss n:Rat)=d at *;generalize val A=α at *;generalize (A.2:Rat)=a2 at *;generalize (A.1:Rat)=a1 at *;subst eα;have k1:a2 * v=a2 * ((1 - α) * Cq+(α * V+(1 - α) * Dq) * b):=by grind
 have k2:v=(1 - α) * Cq+(α * V+(1 - α) * Dq) * b:=by grind
 rw[k2];grind
end Pw
namespace L2
def Z4H(r:V->List V->Hp->VK->Prop)(to:TE)(t:TA):TE:=fun σ H Q=>to σ H fun x H1=>(∃ (p:Addr) (xs:List V),x=.ref p/\H1 p=some (.tup xs))/\t σ H1 fun xs H2=>r x xs H2 Q
theorem Z1r{e:Expr}{cpos:Pos}{id:String}(hbase:attributeBase o name X.env (eval o X.env)=eval o X.env)(hfew:((backTo cpos (starEach (e :: es) X.env)).all (fun x=>!x.1) && (backToKw cpos (keywordEach [] X.env)).all (fun x=>x.1.isSome) && decide ((e :: es).length+([]:List Keyword).length+(if ([]:List Keyword).isEmpty then 0 else 1)<30))=true)(hline:(apos.endLine == cpos.line)=true)(hs:starEach (e :: es) X.env=(false,eval e X.env) :: starEach es X.env)(hplain:(backTo cpos (starEach es X.env)).any (·.1)=false)(pa:PlainAttrs "tuple")(slot:Slot "tuple" name id)(hty:typeOf (.builtin id)=pure (.type "method_descriptor"))(hm:MtM X id r)(ho:PE X o to)(ha:PA X (e :: es) t):PE X (.Call (.Attribute o name apos) (e :: es) [] cpos) (Z4H r to t):=by
 intro pins s σ H Q I h;refine wpAny_Call_method_late hbase hfew hline rfl (Zj (ho pins s σ H _ I h) fun v s1 ⟨x,H1,I1,r1,ty,q1⟩=>?_);obtain⟨p,xs,rfl,hp⟩:=ty;cases r1;obtain⟨_,its,_,ob,e1,c1,n1,d1⟩:xs.length<=sizeLine/\∃ its:List Value,Vals xs its/\yr s1.heap p its.toArray:=I1.hok p _ hp;refine⟨"tuple",id,pa,slot,hty,⟨ob,e1,congrArg Prod.fst c1⟩,fun a ea=>by cases ea;exact⟨ob,e1,congrArg Prod.snd c1⟩,?_⟩;have hA:=ha cpos pins s1 σ H1 _ I1 q1;rw[hs] at hA ⊢;refine Calls.callWith_builtin (by show (false || (backTo cpos (starEach es X.env)).any (·.1))=false;rw[hplain] <;> rfl) (Calls.evalArgs_plain ?_)
 exact Zj hA fun us s2 ⟨vs,H2,I2,r2,q2⟩=>hm pins s2 σ H2 (.ref p) vs (.ref p) us Q I2 rfl r2 q2
def Z3S(K:PySem.W.Frag):V->List V->Hp->VK->Prop:=fun o xs H Q=>∃ (t q:Addr) (us:List V) (ps:List (Int×Int)) (p:Int×Int),o=.ref t/\xs=[.ref q]/\H t=some (.tup us)/\Zp K H ps us/\zX K H q [.int p.1,.int p.2]/\Q (.int ((ps.count p:Nat):Int)) H
open Classical in
theorem z4o(hr:Zk k X.A):MtM X "tuple.count" (Z3S X.K):=by
 intro pins s σ H x vs v us' Q I rx rv h;obtain⟨t,q,us,ps,p,rfl,rfl,ht,hp,hq,k⟩:=h;cases rx;obtain⟨u,rfl,ru⟩:=rv.one;cases ru;obtain⟨its,r,pl,hz⟩:=I.tuple (zX.of ht);obtain⟨⟨c,dd,dt,sl⟩,e,hc,n,hd⟩:=pl;have hc:c=.type "tuple":=hc;have hd:dt=.seq its.toArray n:=hd;subst hc hd;have hu:=hr.units;have hu0:X.A.in1.units<=X.A.units+8:=by
  first | exact Z59 _ _ | (simp[Around.in1]) | (unfold Around.in1;simp)
 have hu1:X.A.in1.units+20<cLine:=by lia
 refine call_meets F.slot_tuple_count ⟨_,e,rfl⟩ F.entry_tuple_count (F.args_tuple_count_2 _ _) (SeqAt.tuple_countAt t its.toArray n dd sl (.ref q) (fun y=>decide (∃ a,y=.ref a/\zX X.K H a [.int p.1,.int p.2]))) ⟨e,fun y hy=>?_,?_⟩;have hy:y∈its:=by simpa using hy
 obtain⟨i,hi,rfl⟩:=List.getElem_of_mem hy;have hl:=r.length;obtain⟨a,p',e1,e2,e3⟩:=hp.get (i:=i) (v:=us[i]) (by simp);obtain⟨w,ew,rw'⟩:=r.get (i:=i) (x:=us[i]) (by simp);rw[e2] at rw';cases rw';have ew:its[i]=.ref a:=by
  have:=ew;rw[Z01 hi] at this;exact Z1X this
 rw[ew];have key:=uq I 20 (X.A.in1) (Qo p') (Qo p) (.ref a) (.ref q) (.ref a) (.ref q) (by unfold Qo;simp only[Xx,yl];decide) hu1 (by unfold Qo;simp only[Den];exact⟨a,_,rfl,e3,z0O _ _ _ _⟩) (by unfold Qo;simp only[Den];exact⟨q,_,rfl,hq,z0O _ _ _ _⟩) rfl rfl;have e4:uZ (Qo p') (Qo p)=decide (∃ b,Value.ref a=.ref b/\zX X.K H b [.int p.1,.int p.2]):=by
  unfold Qo;simp only[uZ];rw[z7B];by_cases hh:p'=p;subst hh;rw[decide_eq_true (show (p'.1,p'.2)=(p'.1,p'.2) from rfl),decide_eq_true ⟨a,rfl,e3⟩];rw[decide_eq_false (fun z=>hh z),decide_eq_false];rintro⟨b,hb,hs⟩;cases hb;have:=I.Y3 e3 hs;simp at this;exact hh (Prod.ext this.1 this.2)
 rw[← e4];exact key;refine⟨.int _,H,I.tok _,⟨_,rfl⟩,?_⟩;have cnt:∀ {ps:List (Int×Int)}{us:List V}{its:List Value},Zp X.K H ps us->Vals us its->its.countP (fun y=>decide (∃ a,y=.ref a/\zX X.K H a [.int p.1,.int p.2]))=ps.count p:=by
  intro ps
  induction ps with
  | nil =>
    intro us its hp r;have hl:=hp.len;have:us=[]:=Z2G.mp hl;subst this;cases r;rfl
  | cons p' ps ih =>
    intro us its hp r;obtain⟨a,us',rfl,e3,hp'⟩:=yo hp;cases r with
    | cons ra rr =>
      cases ra;rw[List.countP_cons,List.count_cons,ih hp' rr];congr 1;by_cases hh:p'=p;subst hh;rw[if_pos (decide_eq_true ⟨a,rfl,e3⟩),if_pos (by simp)];rw[if_neg,if_neg (by simpa using hh)];intro z;obtain⟨b,hb,hs⟩:=of_decide_eq_true z;cases hb;have:=I.Y3 e3 hs;simp at this;exact hh (Prod.ext this.1 this.2)
 show Q (.int ((List.countP _ its.toArray.toList:Nat):Int)) H;rw[List.toList_toArray,cnt hp r];exact k
def ZL(f:Nat->Int)(m:Nat):List V:=((List.range m).map f).map V.int
theorem Zl(f:Nat->Int)(m:Nat):(ZL f m).length=m:=by unfold ZL;simp
theorem YQ(h:j<m):(ZL f m)[j]?=some (.int (f j)):=by
 unfold ZL;rw[Z14,Z14,Z5r h];rfl
theorem yX(f:Nat->Int)(m:Nat):ZL f (m+1)=ZL f m ++ [.int (f m)]:=by
 unfold ZL;rw[Z5p,Z15,Z15];rfl
theorem XN(h:∀ j,j<m->f j=g j):ZL f m=ZL g m:=by
 unfold ZL;congr 1;exact List.map_congr_left fun j hj=>h j (Z23.mp hj)
def Xy(H:Hp)(n m:Nat)(f:Nat->Nat->Int)(us:List V):Prop:=us.length=n/\∀ i,i<n->∃ q,us[i]?=some (.ref q)/\H q=some (.lst (ZL (f i) m))
theorem Xy.same(h:Xy H n m f us)(s:zC H H'):Xy H' n m f us :=
 ⟨h.1,fun i hi=>by
  obtain⟨q,a,b⟩:=h.2 i hi;exact⟨q,a,s _ _ b⟩⟩
theorem Xy.snoc(h:Xy H n m f us)(hq:H q=some (.lst (ZL (f n) m))):Xy H (n+1) m f (us ++ [.ref q]):=by
 refine⟨by rw[Z0M,h.1];rfl,fun i hi=>?_⟩;by_cases e:i=n;subst e;exact⟨q,by rw[← h.1];simp,hq⟩;obtain⟨q',a,b⟩:=h.2 i (by lia);exact⟨q',by rw[Z2H (by rw[h.1];lia)];exact a,b⟩
theorem Xy.put{xs:List V}(h:Xy H n m f us)(hD:∀ i,i<n->us[i]?≠some (.ref D)):Xy (upd H D o) n m f us :=
 ⟨h.1,fun i hi=>by
  obtain⟨q,a,b⟩:=h.2 i hi;exact⟨q,a,by rw[zD (fun z=>hD i hi (by rw[a,z]))];exact b⟩⟩
def j7(K:PySem.W.Frag):Sp:=fun vs H Q _=>∃ (w:Addr) (pages:Int) (j:Nat) (ps:List (Int×Int)),vs=[.ref w,.int j]/\xC K H w pages ps/\ps.length<=100/\∀ H',zC H H'->Q (.int (Pw.mp ps j)) H'
def JD(K:PySem.W.Frag):Sp:=fun vs H Q _=>∃ (w lp:Addr) (pages:Int) (j i:Nat) (ps:List (Int×Int)) (A:Int×Int),vs=[.ref w,.ref lp,.int j,.int i]/\xC K H w pages ps/\ps.length<=100/\XC K H lp A/\yc 150 A/\∀ H',zC H H'->Q (.int (Pw.fac ps A j i)) H'
def VI(K:PySem.W.Frag):Sp:=fun vs H Q _=>∃ (w lp:Addr) (pages:Int) (i:Nat) (st:Int) (ps:List (Int×Int)) (A:Int×Int),vs=[.ref w,.ref lp,.int i,.int st]/\xC K H w pages ps/\1<=pages/\pages<=13/\ps.length<=100/\XC K H lp A/\yc 150 A/\
 ∀ (p:Addr) (H':Hp),zC H H'->H p=none->H' p=some (.lst (ZL (fun j=>Pw.fac ps A j i) pages.toNat ++ [.int st]))->Q (.ref p) H'
def vy(K:PySem.W.Frag):Sp:=fun vs H Q _=>∃ (e c:Addr) (k m:Nat) (d:Int) (f g:Nat->Int),vs=[.ref e,.ref c,.int k,.int d]/\H e=some (.lst (ZL f m))/\H c=some (.lst (ZL g m))/\k<m/\m<=20/\d≠0/\Sz 8000 d/\(∀ j,j<m->Sz 8000 (f j)/\Sz 8000 (g j))/\
 ∀ (p:Addr) (H':Hp),zC H H'->H p=none->H' p=some (.lst (ZL (fun j=>(g k * f j - f k * g j).fdiv d) m))->Q (.ref p) H'
def z0a(K:PySem.W.Frag):Sp:=fun vs H Q _=>∃ (e:Addr) (us:List V) (n z:Nat) (f0:Nat->Nat->Int),vs=[.ref e]/\H e=some (.lst us)/\Xy H n (n+1) f0 us/\Pw.Sgn n 0 f0/\1<=n/\n<=12/\z<=150/\(∀ i j,(f0 i j).natAbs<=2 ^ z)/\
 ∀ (t l:Addr) (H':Hp),zC H H'->H' t=some (.tup [.ref l,.int (Pw.fF f0 n).2])->H' l=some (.lst (ZL (fun i=>(Pw.fF f0 n).1 i n) n))->Q (.ref t) H'
theorem z6r(s0:Pw.Sgn n 0 f0)(hn:n<=12)(hb:∀ i j,(f0 i j).natAbs<=2 ^ z)(hk:k<=n):(∀ i j,i<n->j<=n->Sz ((z+4) * 13+1) ((Pw.fF f0 k).1 i j))/\Sz ((z+4) * 13+1) (Pw.fF f0 k).2:=by
 obtain⟨h1,h2⟩:=Pw.Z2T (U:=2 ^ z) (Y:=2 ^ (z+4)) s0 hn (Nat.two_pow_pos _) (by rw[Nat.pow_add];lia) hb hk;have e:(2 ^ (z+4)) ^ 13=2 ^ ((z+4) * 13):=(Nat.pow_mul ..).symm;rw[e] at h2;have lt:2 ^ ((z+4) * 13)<2 ^ ((z+4) * 13+1):=Nat.pow_lt_pow_right (by decide) (by lia);refine⟨fun i j hi hj=>?_,Z29 h2 lt⟩;have:=h1 i j hi hj;rw[e] at this;exact Z29 this lt
theorem z7Y(few:ps.length<=100)(h:Pw.YK ps A ss n)(sa:Sz z A.2)(hs:∀ s∈ss,s<=2 ^ z):∀ i j,(Pw.VU ps A ss n i j).natAbs<=2 ^ (z+7):=by
 intro i j;have a0:=h.a0;have a1:=h.a1;have sa':A.2.natAbs<2 ^ z:=sa;have ep:(2:Nat) ^ (z+7)=2 ^ z * 128:=by rw[Nat.pow_add]
 unfold Pw.VU;split;split;have hl:=Pw.Z4 ps (j:Int);have hc:=List.count_le_length (a:=(i:Int)) (l:=Pw.outs ps (j:Int));have hm:1<=Pw.mp ps j/\Pw.mp ps j<=100:=by unfold Pw.mp;lia
 have hcn:0<=Pw.cn ps j i/\Pw.cn ps j i<=100:=by unfold Pw.cn;lia
 have k1:0<=A.2 * Pw.mp ps j:=Z4m (by lia) (by lia);have k2:A.2 * Pw.mp ps j<=A.2 * 100:=Int.mul_le_mul_of_nonneg_left hm.2 (by lia);have k3:0<=(A.2 - A.1) * Pw.cn ps j i:=Z4m (by lia) hcn.1;have k4:(A.2 - A.1) * Pw.cn ps j i<=(A.2 - A.1) * 100:=Int.mul_le_mul_of_nonneg_left hcn.2 (by lia);unfold Pw.fac;split <;> lia;split;have hs':Pw.YK ps A ss n:=h;by_cases hi:i<ss.length;have hm:ss.getD i 0∈ss:=Z21 (Xo hi);have b1:=hs _ hm;have b2:=h.nn _ hm;have:((2:Int) ^ z)=((2 ^ z:Nat):Int):=by push_cast;rfl
 rw[this] at b1;lia;rw[Z02,List.getElem?_eq_none (by lia)];simp;simp;simp
def z0B(K:PySem.W.Frag):Sp:=fun vs H Q _=>∃ (w lp ls:Addr) (pages:Int) (ps:List (Int×Int)) (A:Int×Int) (Bs:List (Int×Int)) (us:List V) (S:Int) (z:Nat),vs=[.ref w,.ref lp,.ref ls]/\Gv K H w lp ls pages ps A Bs us/\Pr A Bs S/\pages<=12/\z<=140/\yc z A/\Sz z S/\
 ∀ (p:Addr) (H':Hp) (ss:List Int) (L:Int),Pw.YK ps A ss pages.toNat->0<L->(∀ t,t<pages.toNat->(ss.getD t 0:Rat)=Pw.val (Bs.getD t (0,1)) * (L:Rat))->(∀ j,j<pages.toNat->Sz ((z+11) * 13+8) (Pw.vS ps A ss pages.toNat j))->zC H H'->H' p=some (.lst (ZL (Pw.vS ps A ss pages.toNat) pages.toNat))->Q (.ref p) H'
def VP(K:PySem.W.Frag):Sp:=fun vs H Q _=>∃ (w lp ls:Addr) (pages:Int) (ps:List (Int×Int)) (A:Int×Int) (Bs:List (Int×Int)) (us:List V) (S:Int) (z:Nat),vs=[.ref w,.ref lp,.ref ls]/\Gv K H w lp ls pages ps A Bs us/\Pr A Bs S/\pages<=12/\z<=140/\yc z A/\Sz z S/\
 ∀ (t:Addr) (H':Hp) (Ss:List (Int×Int)) (V':Int) (ys:List V),Pw.Zi ps A Bs pages.toNat Ss->0<V'->Sz ((z+11) * 13+20) V'->(∀ S∈Ss,S.2∣V')->zC H H'->H' t=some (.tup ys)->yp K H' Ss ys->Q (.ref t) H'
end L2
namespace Pw
theorem z7s(ca:Canon A)(cb:z9 Bs)(hn:Bs.length=n)(pr:L2.Pr A Bs S)(ht:t<n):val A * val (Bs.getD t (0,1))<=val ((Zb ps A Bs (j:Nat)).getD t (0,1)):=by
 rw[Qa ca cb hn ht];have a0:=xG ca.1 (by have:=pr.a0;lia);have a1:=jW ca.1 pr.a1;have hB:=L2.mem_getD (Bs:=Bs) (t:=t) (by lia);have b0:=xG (cb _ hB).1 (pr.nn _ hB);split;have:=yg (a:=1 - val A) (by grind) b0;grind;rename_i h;have l0:(0:Rat)<(((outs ps (j:Int)).length:Nat):Rat):=cpos (d:=(((outs ps (j:Int)).length:Nat):Int)) (by have:=Z2K.mpr h;lia);have c0:=VD (cnn (d:=cn ps j t) (by unfold cn;lia)) l0;have:=yg (a:=1 - val A) (by grind) c0;grind
theorem Zi.unique(lk:∀ p∈ps,0<=p.2/\p.2<(n:Int))(ca:Canon A)(cb:z9 Bs)(hn:Bs.length=n)(pr:L2.Pr A Bs S)(h:Zi ps A Bs n Ss)(h':Zi ps A Bs n Ts):Ss=Ts:=by
 have one:=pr.one;rw[hn] at one;have u:=Pw.unique (n:=n) (W:=fun i t=>val ((Zb ps A Bs i).getD t (0,1))) (B:=fun t=>val (Bs.getD t (0,1))) (a:=val A) (x:=fun t=>val (Ss.getD t (0,1))) (y:=fun t=>val (Ts.getD t (0,1)))
  (by
   have hp:=cpos ca.1;have h1:=cpos pr.a0;unfold val;rw[Rat.div_def];exact Z53 h1 (Rat.inv_pos.mpr hp))
  (fun i t _ ht=>z7s ca cb hn pr ht) (fun i _=>VN lk ca cb hn one) one (by rw[h.one,h'.one]) (fun t ht=>h.stay t ht) (fun t ht=>h'.stay t ht)
 refine Z5f (by rw[h.len,h'.len]) fun i h1 h2=>?_;have:=u i (by have:=h.len;lia);rw[Z02,Z01 h1,Z02,Z01 h2] at this;exact val_inj (h.canon _ (Z26 h1)) (h'.canon _ (Z26 h2)) this
theorem Zi.le1(h:Zi ps A Bs n Ss):∀ S∈Ss,S.1<=S.2:=by
 intro S hS;obtain⟨i,hi,rfl⟩:=List.getElem_of_mem hS;have c:=h.canon _ (Z26 hi);have h1:=JN (n:=n) (k:=i) (f:=fun t=>val (Ss.getD t (0,1))) (by have:=h.len;lia) fun t ht=>by
  have:=L2.mem_getD (Bs:=Ss) (t:=t) (by have:=h.len;lia);exact xG (h.canon _ this).1 (h.nn _ this)
 rw[h.one] at h1;rw[Z02,Z01 hi] at h1;have h1:val Ss[i]<=1:=h1;have hp:=cpos c.1;have h2:=ZC h1 (Z4O hp);have hne:=Ze (zI c);have e:val Ss[i] * (Ss[i].2:Rat)=(Ss[i].1:Rat):=by unfold val;grind
 rw[e] at h2;have h3:(Ss[i].1:Rat)<=(Ss[i].2:Rat):=by grind
 exact Z16.mp h3
theorem Zi.beh(h:Zi ps A Bs n Ss)(hn:Bs.length=n):z5m ps A Bs Ss=Ss:=by
 refine Z5f (by rw[z6J,hn,h.len]) fun i h1 h2=>?_;have e:(z5m ps A Bs Ss)[i]=Vv (z0I ps A Bs Ss Bs.length i):=by
  simp only[z5m,List.getElem_map,List.getElem_range]
 rw[e,hn,h.stay i (by have:=h.len;lia),Z02,Z01 h2];exact z3N (h.canon _ (Z26 h2))
end Pw
namespace L2
theorem z1H:∀ {ns:List Int}{s:Int},(∀ n∈ns,0<=n)->s∈ns->s<=ns.sum
 | n :: ns,s,h,hs=>by
   have h1:=Pw.z7a fun m hm=>h m (Z07 _ hm);have h2:=h n Z0y;rw[List.sum_cons];rcases Z0z.mp hs with rfl | hs;lia;have:=z1H (fun m hm=>h m (Z07 _ hm)) hs
   lia
theorem Rw.Z5e(h:Pw.Zi ps A Bs n Ss)(hV:0<V')(hz:z<=140)(zV:Sz ((z+11) * 13+20) V')(dv:∀ S∈Ss,S.2∣V'):Rw Ss n V' 1 where
 len:=h.len
 canon:=h.canon
 dpos:=hV
 cpos:=by decide
 dvd:=dv
 bnd:=fun R hR=>by
  have h1:=h.nn R hR;have h2:=h.le1 R hR;have h3:=(h.canon R hR).1;lia
 sz:=by rw[Int.one_mul];exact zV.mono (by lia)
theorem z8o(h:Rw Rs n D C)(hn:n<=13)(hj:j<=n):yc 2004 (Pw.Vv (Pw.qs j (fun t=>Pw.val (Rs.getD t (0,1))))):=by
 have hb:=Pw.Bd.qs (n:=j) (D:=D) (C:=(C:Rat)) (f:=fun t=>Pw.val (Rs.getD t (0,1))) fun i hi=>h.bd (mem_getD (by have:=h.len;lia));have hC:=h.cpos;have hC0:=Pw.cnn (d:=C) (by lia);have h13':((13 * C:Int):Rat)=13 * (C:Rat):=by rw[Z0L];rfl
 have h0:Sz 4 13:=Zd 4 (by decide);have z:Sz 2004 ((13 * C) * D):=by rw[Int.mul_assoc];exact (h0.mul h.sz).mono (by decide)
 refine Pw.Bd.sz (C:=13 * C) (hb.mono ?_) h.dpos (by lia) z;rw[h13'];refine Pw.ZC ?_ hC0;have:((j:Int):Rat)<=((13:Int):Rat):=Z16.mpr (by lia);exact this
end L2
namespace Pw
theorem z9W(h:0<A.2)(h1:0<A.1):0<val A:=by
 unfold val;rw[Rat.div_def];exact Z53 (cpos h1) (Rat.inv_pos.mpr (cpos h))
theorem Zi.z6A(h:Zi ps A Bs n Ss)(ht:t<n):0<=val (Ss.getD t (0,1)):=by
 have hm:=L2.mem_getD (Bs:=Ss) (t:=t) (by have:=h.len;lia);exact xG (h.canon _ hm).1 (h.nn _ hm)
theorem Zi.geA(ca:Canon A)(cb:z9 Bs)(hn:Bs.length=n)(pr:L2.Pr A Bs S)(h:Zi ps A Bs n Ss)(ht:t<n):val A * val (Bs.getD t (0,1))<=val (Ss.getD t (0,1)):=by
 have e:=h.stay t ht;unfold z0I at e;rw[← e];have h1:qs n (fun i=>(val A * val (Bs.getD t (0,1))) * val (Ss.getD i (0,1)))<=qs n (fun i=>val (Ss.getD i (0,1)) * val ((Zb ps A Bs i).getD t (0,1))):=vP fun i hi=>by
  have:=ZC (z7s (ps:=ps) (j:=i) ca cb hn pr ht) (h.z6A hi);grind
 rw[zY,h.one] at h1;grind
theorem Z0U(hn:1<=n)(h:∀ t,t<n->B t=1 / (n:Rat)):qs n B=1:=by
 have hq:((n:Nat):Rat)≠0:=Ze (d:=(n:Int)) (by lia);have key:∀ m,qs m (fun _=>1 / (n:Rat))=(m:Rat) * (1 / (n:Rat)):=fun m=>by
  induction m with
  | zero=>show (0:Rat)=((0:Nat):Rat) * _;simp
  | succ m ih =>
    show qs m _+_=_;rw[ih];have:((m+1:Nat):Rat)=(m:Rat)+1:=(by push_cast;rfl);rw[this];grind
 rw[zN h,key];grind
theorem z3g(h:ms.Perm ps)(j i:Nat):cn ms j i=cn ps j i:=by
 rw[← YR,← YR,h.count_eq]
theorem z4x(ps qs:List (Int×Int))(j i:Nat):cn (ps ++ qs) j i=cn ps j i+cn qs j i:=by
 rw[← YR,← YR,← YR,List.count_append];lia
end Pw
namespace L2
theorem Z3E(few:ps.length<=100)(lk:∀ p∈ps,0<=p.2/\p.2<(n:Int))(ca:Pw.Canon A)(cb:Pw.z9 Bs)(hn:Bs.length=n)(n12:n<=12)(pr:Pr A Bs S)(sz:Sz z A.2)(sS:Sz z S) :
 ∃ (Ss:List (Int×Int)) (V':Int),Pw.Zi ps A Bs n Ss/\0<V'/\Sz ((z+11) * 13+20) V'/\∀ R∈Ss,R.2∣V':=by
 have hss:(Pw.yq Bs S).length=n:=by unfold Pw.yq;rw[ZB];exact hn
 have hB:∀ t,t<n->((Pw.yq Bs S).getD t 0:Rat)=Pw.val (Bs.getD t (0,1)) * (S:Rat):=fun t ht=>by
  have hi':t<Bs.length:=by lia
  have hR:Bs[t]?=some Bs[t]:=by simp
  have e1:(Pw.yq Bs S).getD t 0=Bs[t].1 * (S.fdiv Bs[t].2):=by
   unfold Pw.yq;rw[Z02,Z14,hR];rfl
  have e2:Bs.getD t (0,1)=Bs[t]:=by rw[Z02,hR];rfl
  have mR:=Z26 hi';rw[e1,e2,Pw.j6 (cb _ mR).1 pr.spos (pr.sdvd _ mR)]
 have one:=pr.one;rw[hn] at one;have snn:∀ s∈Pw.yq Bs S,0<=s:=fun s hs=>by
  obtain⟨B,hB',rfl⟩:=Z17.mp hs;have c:=(cb B hB').1;exact Z4m (pr.nn B hB') (by rw[Z32 _ (by lia)];exact Int.ediv_nonneg (Z44 pr.spos) (by lia))
 have ssum:(Pw.yq Bs S).sum=S:=by
  have h3:=Pw.Vn (Pw.yq Bs S);rw[hss,Pw.zN (g:=fun t=>(S:Rat) * Pw.val (Bs.getD t (0,1))) fun t ht=>by rw[hB t ht];grind,Pw.zY,one] at h3;have:(S:Rat)=((Pw.yq Bs S).sum:Rat):=by rw[← h3];grind
  exact_mod_cast this.symm
 have eo:Pw.YK ps A (Pw.yq Bs S) n:=⟨lk,pr.a0,pr.a1,hss,snn,by rw[ssum];exact pr.spos⟩;have sle:∀ s∈Pw.yq Bs S,s<=2 ^ z:=fun s hs=>by
  have h1:s<=(Pw.yq Bs S).sum:=z1H snn hs;have h2:S.natAbs<2 ^ z:=sS;have:((2:Int) ^ z)=((2 ^ z:Nat):Int):=by push_cast;rfl
  rw[this];lia
 have ez:=z7Y few eo sz sle;obtain⟨zf,zd⟩:=z6r eo.sgn (by lia) ez (k:=n) (Z03 _);have zv:∀ j,j<n->Sz ((z+11) * 13+8) (Pw.vS ps A (Pw.yq Bs S) n j):=fun j hj=>by
  have hol:=Pw.Z4 ps (j:Int);have zm:Sz 7 (Pw.mp ps j):=Zd 7 (by unfold Pw.mp;lia);exact (zm.mul (zf j _ hj (Z03 _))).mono (by lia)
 refine⟨Pw.shL ps A (Pw.yq Bs S) n,Pw.VS ps A (Pw.yq Bs S) n,Pw.z5Q eo ca cb hn pr.spos hB one,eo.z3O,?_,fun R hR=>?_⟩;refine (z1J (k:=(z+11) * 13+8) fun m hm=>?_).mono (by rw[ZB,Z2I];lia);obtain⟨t,ht,rfl⟩:=Z17.mp hm;exact zv t (Z23.mp ht);obtain⟨t,_,rfl⟩:=Z17.mp hR;exact Pw.z1Y (Pw.Fr.made (by have:=eo.z3O;lia))
theorem Rw.any{Ds:List (Int×Int)}(few:ps.length<=100)(lk:∀ p∈ps,0<=p.2/\p.2<(n:Int))(ca:Pw.Canon A)(cb:Pw.z9 Bs)(hn:Bs.length=n)(n12:n<=12)(pr:Pr A Bs S)(hz:z<=140)(sz:Sz z A.2)(sS:Sz z S)(ok:Pw.Zi ps A Bs n Ds):∃ V',Rw Ds n V' 1:=by
 obtain⟨Ss,V',ok',hV,zV,dv⟩:=Z3E few lk ca cb hn n12 pr sz sS;have e:Ss=Ds:=Pw.Zi.unique lk ca cb hn pr ok' ok;subst e;exact⟨V',Rw.Z5e ok hV hz zV dv⟩
theorem zG(h:∀ R:St->Hp->Prop,R=u D->t { D with nx:=R } σ H):Uc t u D σ H:=h _ rfl
structure z7h(z TI TO i1 i2:Addr)(f1 f2:List Addr):Prop where
 a1:TI≠z
 a2:TO≠z
 a3:i1≠z
 a4:i2≠z
 a5:TI≠TO
 a6:TI≠i1
 a7:TI≠i2
 a8:TO≠i1
 a9:TO≠i2
 b0:i1≠i2
 b1:z∉f1
 b2:z∉f2
 b3:TO∉f1
 b4:TO∉f2
 b5:i2∉f1
 b6:i1∉f2
theorem Draws.but{St:Nat->Heap->Prop}(D:Draws prog w A it f n Pp St)(nc:c∉f)(x:Heap.ExtBut c h h')(st:St i h):St i h' :=
 D.frame i h h' st fun b hb o e=>x b o (fun y=>nc (y ▸ hb)) e
theorem z5u{prog:Program}{w:World}{A:Around}{E:Value->Shared->Prop}{s:Shared}{z TI TO i1 i2:Addr}{f1 f2:List Addr}{n1 n2 k:Nat}{P1 P2:Nat->Value->Prop}{S1 S2:Nat->Heap->Prop}{a b:Value}{Q:Value->Shared->Prop}(D1:Draws prog w A i1 f1 n1 P1 S1)(D2:Draws prog w A i2 f2 n2 P2 S2)(Z:z7h z TI TO i1 i2 f1 f2)
 (gz:IsZip s.heap z TI TO .none) (gI:IsPair s.heap TI (.ref i1) (.ref i2)) (gO:IsPair s.heap TO a b) (g1:S1 k s.heap) (g2:S2 k s.heap) (l1:k<n1) (l2:k<n2)
 (q:∀ x y hp tk,P1 k x->P2 k y->IsZip hp z TI TO (rawInt s.heap.objs.size)->IsPair hp TO x y->S1 (k+1) hp->S2 (k+1) hp->IsPair hp s.heap.objs.size x y->
  (∀ c o,c≠z->c≠TO->c≠i1->c≠i2->s.heap.get? c=some o->hp.get? c=some o)->Q (.ref s.heap.objs.size) { s with heap:=hp,toks:=tk }) :
 wpAny (model prog w) A (Builtin.«zip.__next__» ⟨[.ref z],[]⟩) (fun fin s'=>∃ v,fin=.done (.ret v)/\Q v s') E s:=by
 show wpAny _ _ (field (.ref z) 2 >>= _) _ _ _;refine wpAny_bind (wpAny_field gz rfl (x:=.bool false) rfl ?_);show wpAny _ _ (field (.ref z) 3 >>= _) _ _ _;refine wpAny_bind (wpAny_field gz rfl (x:=.ref TI) rfl (wpAny_bind (wpAny_seqItems gI rfl ?_)));show wpAny _ _ (Builtin.SmallTypes.ownedTupleIsFree (.ref z) >>= _) _ _ _;refine wpAny_bind ?_;unfold Builtin.SmallTypes.ownedTupleIsFree;refine wpAny_bind (wpAny_field gz rfl (x:=.none) rfl (wpAny_pure ?_));simp only[if_true];refine wpAny_bind (wpAny_rule (wpAny_bind (wpAny_field gz rfl (x:=.ref TO) rfl (wpAny_bind (wpAny_setField_rec gz (by simp) fun p1 gz1 t1=>?_)))));replace gz1:IsZip p1 z TI TO .ellipsis:=gz1;refine wpAny_bind ?_;simp only[List.zipIdx_cons,List.zipIdx_nil,Z5s,List.forIn_nil];refine wpAny_bind (wpAny_bind (wpAny_onRaise ?_));show wpAny _ _ (Builtin.SmallTypes.nextOf (.ref i1) >>= _) _ _ _;refine wpAny_bind (D1.item k _ _ _ l1 (Draws.but D1 Z.b1 t1.extBut g1) fun x p2 tk2 px g12 t2=>wpAny_pure ?_);have gO2:IsPair p2 TO a b:=t2.extBut _ _ Z.a8 (t1.extBut _ _ Z.a2 gO);refine wpAny_bind (wpAny_seqItems gO2 rfl (wpAny_bind (wpAny_updateSeq_pair gO2 fun p3 gO3 t3=>?_)));replace gO3:IsPair p3 TO x b:=gO3;refine wpAny_bind (wpAny_letGo (wpAny_pure ?_));refine wpAny_bind (wpAny_bind (wpAny_onRaise ?_));show wpAny _ _ (Builtin.SmallTypes.nextOf (.ref i2) >>= _) _ _ _;refine wpAny_bind (D2.item k _ _ _ l2 (Draws.but D2 Z.b4 t3.extBut (Draws.but D2 Z.b6 t2.extBut (Draws.but D2 Z.b2 t1.extBut g2))) fun y p4 tk4 py g24 t4=>wpAny_pure ?_);have gO4:IsPair p4 TO x b:=t4.extBut _ _ Z.a9 gO3;refine wpAny_bind (wpAny_seqItems gO4 rfl (wpAny_bind (wpAny_updateSeq_pair gO4 fun p5 gO5 t5=>?_)));replace gO5:IsPair p5 TO x y:=gO5;refine wpAny_bind (wpAny_letGo (wpAny_pure (wpAny_pure ?_)));refine wpAny_bind (wpAny_seqItems gO5 rfl (wpAny_bind (wpAny_newTuple ?_)));have sz:p5.objs.size=s.heap.objs.size:=by rw[t5.1,t4.1,t3.1,t2.1,t1.1]
 have gz5:IsZip p5 z TI TO .ellipsis:=t5.extBut _ _ Z.a2.symm (t4.extBut _ _ Z.a4.symm (t3.extBut _ _ Z.a2.symm (t2.extBut _ _ Z.a3.symm gz1)));have kp5:∀ c o,c≠z->c≠TO->c≠i1->c≠i2->s.heap.get? c=some o->p5.get? c=some o:=fun c o c1 c2 c3 c4 e=>t5.extBut _ _ c2 (t4.extBut _ _ c4 (t3.extBut _ _ c2 (t2.extBut _ _ c3 (t1.extBut _ _ c1 e))));have g15:S1 (k+1) p5:=Draws.but D1 Z.b3 t5.extBut (Draws.but D1 Z.b5 t4.extBut (Draws.but D1 Z.b3 t3.extBut g12));have g25:S2 (k+1) p5:=Draws.but D2 Z.b4 t5.extBut g24;have lz:z<p5.objs.size:=Z09 gz5;show wpAny _ _ (Builtin.SmallTypes.ownedTupleHandOut (.ref z) (.ref p5.objs.size) >>= _) _ _ _;refine wpAny_bind ?_;unfold Builtin.SmallTypes.ownedTupleHandOut;have gz6:IsZip (p5.push { cls:=.type "tuple",data:=.seq #[x,y] }) z TI TO .ellipsis:=Z00 _ gz5;refine wpAny_bind (wpAny_setField_rec gz6 (by simp) fun p7 gz7 t7=>?_);replace gz7:IsZip p7 z TI TO (rawInt p5.objs.size):=gz7;refine wpAny_setField_rec gz7 (by simp) fun p8 gz8 t8=>?_;replace gz8:IsZip p8 z TI TO (rawInt p5.objs.size):=gz8;have up:∀ c o,c≠z->p5.get? c=some o->p8.get? c=some o:=fun c o c1 e=>t8.extBut _ _ c1 (t7.extBut _ _ c1 (Z00 _ e));have gT8:IsPair p8 p5.objs.size x y:=t8.extBut _ _ (Z33 lz) (t7.extBut _ _ (Z33 lz) (Z08 _ rfl));rw[sz] at gz8 gT8;refine wpAny_pure ⟨_,rfl,?_⟩;show Q (.ref p5.objs.size) _;rw[sz];exact q x y p8 tk4 px py gz8 (up _ _ Z.a2 gO5) (D1.frame _ _ _ g15 fun b hb o e=>up _ o (fun y=>Z.b1 (y ▸ hb)) e) (D2.frame _ _ _ g25 fun b hb o e=>up _ o (fun y=>Z.b2 (y ▸ hb)) e) gT8 fun c o c1 c2 c3 c4 e=>up c o c1 (kp5 c o c1 c2 c3 c4 e)
theorem z7Z{TI TO:Addr}(D1:Draws prog w A i1 f1 n1 P1 S1)(D2:Draws prog w A i2 f2 n2 P2 S2)(Z:z7h z TI TO i1 i2 f1 f2)(gz:IsZip s.heap z TI TO .none)(gI:IsPair s.heap TI (.ref i1) (.ref i2))(gO:IsPair s.heap TO a b)(g1:S1 k s.heap)(g2:S2 k s.heap)(hk:k=n1\/(k<n1/\k=n2))(q:∀ hp e tk,(∀ c o,c≠z->c≠TO->c≠i1->c≠i2->s.heap.get? c=some o->hp.get? c=some o)->(∃ o,hp.get? e=some o/\o.cls=.type "StopIteration")->E (.ref e) { s with heap:=hp,toks:=tk }) :
 wpAny (model prog w) A (Builtin.«zip.__next__» ⟨[.ref z],[]⟩) Q E s:=by
 show wpAny _ _ (field (.ref z) 2 >>= _) _ _ _;refine wpAny_bind (wpAny_field gz rfl (x:=.bool false) rfl ?_);show wpAny _ _ (field (.ref z) 3 >>= _) _ _ _;refine wpAny_bind (wpAny_field gz rfl (x:=.ref TI) rfl (wpAny_bind (wpAny_seqItems gI rfl ?_)));show wpAny _ _ (Builtin.SmallTypes.ownedTupleIsFree (.ref z) >>= _) _ _ _;refine wpAny_bind ?_;unfold Builtin.SmallTypes.ownedTupleIsFree;refine wpAny_bind (wpAny_field gz rfl (x:=.none) rfl (wpAny_pure ?_));simp only[if_true];refine wpAny_bind (wpAny_rule (wpAny_bind (wpAny_field gz rfl (x:=.ref TO) rfl (wpAny_bind (wpAny_setField_rec gz (by simp) fun p1 gz1 t1=>?_)))));replace gz1:IsZip p1 z TI TO .ellipsis:=gz1;refine wpAny_bind ?_;simp only[List.zipIdx_cons,List.zipIdx_nil,Z5s,List.forIn_nil];refine wpAny_bind (wpAny_bind (wpAny_onRaise ?_));show wpAny _ _ (Builtin.SmallTypes.nextOf (.ref i1) >>= _) _ _ _;rcases hk with e |⟨hlt,e⟩;subst e;refine wpAny_bind (D1.done _ _ _ (Draws.but D1 Z.b1 t1.extBut g1) fun p2 e t2 he=>?_)
 obtain⟨oe,hoe,hce⟩:=he;have gz2:IsZip p2 z TI TO .ellipsis:=t2 _ _ Z.a3.symm gz1;have ez:e≠z:=fun x=>by subst x;rw[gz2] at hoe;cases hoe;simp at hce
 exact wpAny_setField_rec gz2 (by simp) fun p3 _ t3=>q p3 e _ (fun c o c1 _ c3 _ x=>t3.extBut _ _ c1 (t2 _ _ c3 (t1.extBut _ _ c1 x))) ⟨oe,t3.extBut _ _ ez hoe,hce⟩;subst e;refine wpAny_bind (D1.item k _ _ _ hlt (Draws.but D1 Z.b1 t1.extBut g1) fun x p2 tk2 px g12 t2=>wpAny_pure ?_);have gO2:IsPair p2 TO a b:=t2.extBut _ _ Z.a8 (t1.extBut _ _ Z.a2 gO);refine wpAny_bind (wpAny_seqItems gO2 rfl (wpAny_bind (wpAny_updateSeq_pair gO2 fun p3 gO3 t3=>?_)));refine wpAny_bind (wpAny_letGo (wpAny_pure (wpAny_bind (wpAny_bind (wpAny_onRaise ?_)))));show wpAny _ _ (Builtin.SmallTypes.nextOf (.ref i2) >>= _) _ _ _;refine wpAny_bind (D2.done _ _ _ (Draws.but D2 Z.b4 t3.extBut (Draws.but D2 Z.b6 t2.extBut (Draws.but D2 Z.b2 t1.extBut g2))) fun p4 e t4 he=>?_);obtain⟨oe,hoe,hce⟩:=he;have gz4:IsZip p4 z TI TO .ellipsis:=t4 _ _ Z.a4.symm (t3.extBut _ _ Z.a2.symm (t2.extBut _ _ Z.a3.symm gz1));have ez:e≠z:=fun x=>by subst x;rw[gz4] at hoe;cases hoe;simp at hce
 exact wpAny_setField_rec gz4 (by simp) fun p5 _ t5=>q p5 e _ (fun c o c1 c2 c3 c4 x=>t5.extBut _ _ c1 (t4 _ _ c4 (t3.extBut _ _ c2 (t2.extBut _ _ c3 (t1.extBut _ _ c1 x))))) ⟨oe,t5.extBut _ _ ez hoe,hce⟩
def ZSt(z TI TO i1 i2:Addr)(S1 S2:Nat->Heap->Prop)(i:Nat)(h:Heap):Prop:=IsZip h z TI TO .none/\IsPair h TI (.ref i1) (.ref i2)/\(∃ a b,IsPair h TO a b)/\S1 i h/\S2 i h
def Z3Q(z TI TO i1 i2:Addr)(S1 S2:Nat->Heap->Prop)(i:Nat)(T:Addr)(h:Heap):Prop:=IsZip h z TI TO (rawInt T)/\IsPair h TI (.ref i1) (.ref i2)/\(∃ a b,IsPair h TO a b)/\S1 (i+1) h/\S2 (i+1) h/\T≠z/\T≠TO/\T≠i1/\T≠i2
theorem Z0b{TI TO:Addr}(D1:Draws prog w A.in1 i1 f1 n1 P1 S1)(D2:Draws prog w A.in1 i2 f2 n2 P2 S2)(Z:z7h z TI TO i1 i2 f1 f2) :
 z5N prog w A z [z,TO,i1,i2] (min n1 n2) (fun i vals=>∃ x y,P1 i x/\P2 i y/\vals=#[x,y]) (ZSt z TI TO i1 i2 S1 S2) (Z3Q z TI TO i1 i2 S1 S2):=fun i s Q E hi st q=>by
 obtain⟨gz,gI,⟨a,b,gO⟩,g1,g2⟩:=st;have hT:s.TypeIs (.ref z) "zip":=⟨_,gz,rfl⟩;have gt:∀ {c:Addr}{o:Obj},s.heap.get? c=some o->s.heap.objs.size≠c:=fun e=>Z33 (Z09 e);unfold pyNext;refine wpAny_bind (wpAny_attempt (wpAny_callSpecial?_slot (name:=Str.ofString "__next__") hT F.slot_zip_next (wpAny_call_entry F.slot_zip_next hT F.entry_zip_next
  (z5u D1 D2 Z gz gI gO g1 g2 (Z13 hi (Nat.min_le_left ..)) (Z13 hi (Nat.min_le_right ..)) fun x y hp tk px py a1 a2 a3 a4 a5 kp=>wpAny_pure ?_) (F.args_zip_next_1 _))))
 exact q _ _ _ hp tk ⟨_,_,px,py,rfl⟩ (Z03 _) a5 ⟨a1,kp _ _ Z.a1 Z.a5 Z.a6 Z.a7 gI,⟨_,_,a2⟩,a3,a4,gt gz,gt gO,(by obtain⟨_,e⟩:=D1.live _ _ g1;exact gt e),(by obtain⟨_,e⟩:=D2.live _ _ g2;exact gt e)⟩
  fun c o hc e=>kp c o (fun y=>hc (by simp[y])) (fun y=>hc (by simp[y])) (fun y=>hc (by simp[y])) (fun y=>hc (by simp[y])) e
theorem walkZ{TI TO:Addr}(D1:Draws prog w A.in1 i1 f1 n1 P1 S1)(D2:Draws prog w A.in1 i2 f2 n2 P2 S2)(Z:z7h z TI TO i1 i2 f1 f2) :
 WalksT prog w A z ([z,TI,TO,i1,i2] ++ (f1 ++ f2)) [z,TO,i1,i2] (min n1 n2) (fun i vals=>∃ x y,P1 i x/\P2 i y/\vals=#[x,y]) (ZSt z TI TO i1 i2 S1 S2) (Z3Q z TI TO i1 i2 S1 S2) where
 sub:=fun c hc=>by
  simp at hc ⊢;rcases hc with rfl | rfl | rfl | rfl <;> simp
 frame:=fun i h h' st hk=>by
  obtain⟨gz,gI,⟨a,b,gO⟩,g1,g2⟩:=st;exact⟨hk z (by simp) _ gz,hk TI (by simp) _ gI,⟨a,b,hk TO (by simp) _ gO⟩,D1.frame _ _ _ g1 fun b hb o e=>hk b (by simp[hb]) o e,D2.frame _ _ _ g2 fun b hb o e=>hk b (by simp[hb]) o e⟩
 item:=fun i s Q E hi st hQ=>Z0b D1 D2 Z i s Q E hi st fun T x y h' tk pt hT gT mid kp=>hQ T #[x,y] h' tk pt hT ⟨_,gT,rfl,_,rfl⟩ mid kp
 go:=fun elts k pos i T s Q E hm hQ=>by
  obtain⟨gz,gI,⟨a,b,gO⟩,g1,g2,_⟩:=hm;exact wpAny_letOwnedTupleGo_zip gz fun h' gz' t=>hQ h' ⟨gz',t.extBut _ _ Z.a1 gI,⟨a,b,t.extBut _ _ Z.a2 gO⟩,Draws.but D1 Z.b1 t.extBut g1,Draws.but D2 Z.b2 t.extBut g2⟩ fun c o hc e=>t.extBut _ _ (fun x=>hc (by simp[x])) e
 apart:=fun i T h hm hT=>by
  obtain⟨_,_,_,_,_,t1,t2,t3,t4⟩:=hm;simp at hT;rcases hT with y | y | y | y;exact t1 y;exact t2 y;exact t3 y;exact t4 y
 done:=fun s Q E st hQ=>by
  obtain⟨gz,gI,⟨a,b,gO⟩,g1,g2⟩:=st;have hT:s.TypeIs (.ref z) "zip":=⟨_,gz,rfl⟩;unfold pyNext;refine wpAny_bind (wpAny_attempt (wpAny_callSpecial?_slot (name:=Str.ofString "__next__") hT F.slot_zip_next (wpAny_call_entry F.slot_zip_next hT F.entry_zip_next (z7Z D1 D2 Z gz gI gO g1 g2 (by lia) fun h' e tk hk he=>?_) (F.args_zip_next_1 _))));obtain⟨o,ho,hc⟩:=he;refine wpAny_bind (wpAny_isInstance (T:="StopIteration") (b:=true) ⟨o,ho,hc⟩ isSubtype_stop (wpAny_pure ?_));exact hQ _ _ fun c o hc e=>hk c o (fun x=>hc (by simp[x])) (fun x=>hc (by simp[x])) (fun x=>hc (by simp[x])) (fun x=>hc (by simp[x])) e
 self:=fun i s Q E st hQ=>wpAny_pyIter_zip st.1 hQ
def xu(b:Bool)(h:Heap)(it a:Addr)(i:Nat):Prop:=if b=true then h.IsListIter it a i else h.IsTupleIter it a i
def vn(b:Bool)(h:Heap)(a:Addr)(its:Array Value):Prop:=if b=true then h.IsList a its else h.IsTuple a its
theorem jS(b:Bool)(hh:A.handled=none)(it l:Addr)(hne:l≠it)(its:Array Value) :
 Draws prog w A it [it,l] its.size (fun i v=>its[i]?=some v) (fun i h=>xu b h it l i/\vn b h l its):=by
 cases b;exact Z1O hh it l hne its;exact Draws.list hh it l hne its
theorem Inv.z5l{X:Cx}{σ:St}(I:Inv X pins σ H s)(h:Sq b X.K H a xs):∃ its:List Value,Vals xs its/\vn b s.heap a its.toArray:=by
 cases b;obtain⟨its,r,p,_⟩:=I.tuple h;exact⟨its,r,p⟩;obtain⟨its,r,p,_⟩:=I.list h;exact⟨its,r,p.isList⟩
theorem Inv.z0m{X:Cx}{σ:St}(I:Inv X pins σ H s)(h:Sq b X.K H a xs)(h':Sq b X.K H a ys):xs=ys:=by
 cases b;exact I.Y3 h h';exact I.Qx h h'
theorem xu.at(x:xu b h it a i)(k:∀ o,h.get? it=some o->h'.get? it=some o):xu b h' it a i:=by
 cases b;obtain⟨o,e,r⟩:=x;exact⟨o,k o e,r⟩;obtain⟨o,e,r⟩:=x;exact⟨o,k o e,r⟩
theorem xu.obj(x:xu b h it a i):∃ o,h.get? it=some o/\∀ v,o.data≠.cell v:=by
 cases b;obtain⟨o,e,c,d⟩:=x;exact⟨o,e,fun v z=>by rw[d] at z;cases z⟩;obtain⟨o,e,c,d⟩:=x;exact⟨o,e,fun v z=>by rw[d] at z;cases z⟩
def z1U(b1 b2:Bool)(K:PySem.W.Frag)(a b:Addr):It:=ItP (fun i H=>∃ xs ys x y,Sq b1 K H a xs/\Sq b2 K H b ys/\xs[i]?=some x/\ys[i]?=some y) (fun i H u v=>(∀ xs,Sq b1 K H a xs->xs[i]?=some u)/\∀ ys,Sq b2 K H b ys->ys[i]?=some v) (fun i H=>∃ xs ys,Sq b1 K H a xs/\Sq b2 K H b ys/\min xs.length ys.length=i)
def z6H(z TI TO i1 i2 l1 l2:Addr):Prop:=z7h z TI TO i1 i2 [i1,l1] [i2,l2]/\l1≠i1/\l2≠i2
theorem z5x{TI TO:Addr}(Z:z6H z TI TO i1 i2 l1 l2):Turn P w K (.Tuple elts ek epos) (z1U b1 b2 K l1 l2) [z,TI,TO,i1,i2] z (fun i h=>IsZip h z TI TO .none/\IsPair h TI (.ref i1) (.ref i2)/\(∃ a b,IsPair h TO a b)/\xu b1 h i1 l1 i/\xu b2 h i2 l2 i):=by
 obtain⟨Z,n1,n2⟩:=Z;refine Vz (wr:=[z,TO,i1,i2]) (by simp) (fun b hb=>?_) (fun i h st b hb=>?_) (fun i h h' st k=>?_) (fun A i s Q E st q=>?_) ?_ ?_;simp at hb ⊢;rcases hb with y | y | y | y <;> simp[y];obtain⟨g1,g2,⟨x,y,g3⟩,g4,g5⟩:=st;simp at hb;rcases hb with y | y | y | y | y;exact⟨_,y ▸ g1,fun v z=>by cases z⟩
 exact⟨_,y ▸ g2,fun v z=>by cases z⟩;exact⟨_,y ▸ g3,fun v z=>by cases z⟩;rw[y];exact g4.obj;rw[y];exact g5.obj;obtain⟨g1,g2,⟨x,y,g3⟩,g4,g5⟩:=st;exact⟨k z (by simp) _ g1,k TI (by simp) _ g2,⟨x,y,k TO (by simp) _ g3⟩,g4.at fun o e=>k i1 (by simp) o e,g5.at fun o e=>k i2 (by simp) o e⟩;exact wpAny_pyIter_zip st.1 q;intro X hP hw' hK hc i pins s σ H I0 hf st hg;obtain⟨xs,ys,x,y,hq,hq',hx,hy⟩:=hg;rw[← hK] at hq hq';obtain⟨its,rv,p⟩:=I0.z5l hq;obtain⟨its',rv',p'⟩:=I0.z5l hq';obtain⟨u,hu,ru⟩:=rv.get hx;obtain⟨u',hu',ru'⟩:=rv'.get hy;have hl:=rv.length;have hl':=rv'.length;have hix:i<xs.length:=(Z12.mp hx).1;have hiy:i<ys.length:=(Z12.mp hy).1;obtain⟨g1,g2,g3,g4,g5⟩:=st;have D1:=jS (prog:=P) (w:=w) (A:=X.A.in1) b1 (I0.ok.hd hc) i1 l1 n1 its.toArray;have D2:=jS (prog:=P) (w:=w) (A:=X.A.in1) b2 (I0.ok.hd hc) i2 l2 n2 its'.toArray;refine⟨_,_,_,_,_,⟨walkZ D1 D2 Z,Z0b D1 D2 Z⟩,by rw[Z05,Z05];lia,⟨g1,g2,g3,⟨g4,p⟩,⟨g5,p'⟩⟩,fun h' q=>⟨q.1,q.2.1,q.2.2.1,q.2.2.2.1.1,q.2.2.2.2.1⟩,?_⟩;rintro vals ⟨v,v',hv,hv',rfl⟩;have e1:its[i]?=some v:=by simpa using hv
 have e2:its'[i]?=some v':=by simpa using hv'
 rw[hu] at e1;rw[hu'] at e2;cases e1;cases e2;exact⟨x,y,_,_,rfl,ru,ru',fun ys hys=>by rw[← hK] at hys;rw[I0.z0m hys hq];exact hx,fun ys hys=>by rw[← hK] at hys;rw[I0.z0m hys hq'];exact hy⟩;intro X hP hw' hK hc i pins s σ H I0 hf st hg;obtain⟨xs,ys,hq,hq',hx⟩:=hg;rw[← hK] at hq hq';obtain⟨its,rv,p⟩:=I0.z5l hq;obtain⟨its',rv',p'⟩:=I0.z5l hq';have hl:=rv.length;have hl':=rv'.length;obtain⟨g1,g2,g3,g4,g5⟩:=st;have e1:min its.toArray.size its'.toArray.size=i:=by rw[Z05,Z05];lia
 refine⟨_,_,_,_,_,walkZ (jS (prog:=P) (w:=w) (A:=X.A.in1) b1 (I0.ok.hd hc) i1 l1 n1 its.toArray) (jS (prog:=P) (w:=w) (A:=X.A.in1) b2 (I0.ok.hd hc) i2 l2 n2 its'.toArray) Z,?_⟩;rw[e1];exact⟨g1,g2,g3,⟨g4,p⟩,⟨g5,p'⟩⟩
def itO(b:Bool)(l:Addr):Obj:=if b=true then { cls:=.type "list_iterator",data:=.fields #[.ref l,.int 0 0] } else { cls:=.type "tuple_iterator",data:=.fields #[.ref l,.int 0 0] }
def zH(b1 b2:Bool)(h:Heap)(l1 l2:Addr):Heap:=((((h.push (itO b1 l1)).push (itO b2 l2)).push { cls:=.type "tuple",data:=.seq #[.ref h.objs.size,.ref (h.objs.size+1)] }).push { cls:=.type "tuple",data:=.seq #[.none,.none] }).push { cls:=.type "zip",data:=.fields #[.none,.bool false,.bool false,.ref (h.objs.size+2),.ref (h.objs.size+3)] }
theorem UT(hl:vn b s.heap l its)(q:Q (.ref s.heap.objs.size) { s with heap:=s.heap.push (itO b l) }):wpAny (model prog w) A (pyIter (.ref l)) Q E s:=by
 cases b;exact wpAny_pyIter_tuple hl q;exact wpAny_pyIter_list hl q
theorem vn.push(x:vn b h l its)(o:Obj):vn b (h.push o) l its:=by
 cases b;obtain⟨u,e,r⟩:=x;exact⟨u,Z00 _ e,r⟩;obtain⟨u,e,r⟩:=x;exact⟨u,Z00 _ e,r⟩
theorem z6R(b1 b2:Bool)(l1 l2:Addr)(xs ys:Array Value) :
 Meets (Builtin.«zip.__new__» ⟨[.type "zip",.ref l1,.ref l2],[]⟩) (fun _ R s=>vn b1 s.heap l1 xs/\vn b2 s.heap l2 ys/\R (.ok (.ret (.ref (s.heap.objs.size+4)))) { s with heap:=zH b1 b2 s.heap l1 l2 }) :=
 .of_wp fun prog w A R s h=>by
  obtain⟨hp,g,d,tk,os⟩:=s;obtain⟨hl1,hl2,h⟩:=h;have hsub:=sub_zip;have hL1:vn b1 (Shared.heap ⟨hp,g,d,tk,os⟩) l1 xs:=hl1;have hL2:vn b2 (Shared.heap ⟨hp.push (itO b1 l1),g,d,tk,os⟩) l2 ys:=hl2.push _;wp_walk using UT hL1,UT hL2;refine⟨_,rfl,?_⟩;simp only[Z4p];exact h
theorem z4q(hl1:vn b1 s.heap l1 xs)(hl2:vn b2 s.heap l2 ys)(q:∀ hp,IsZip hp (s.heap.objs.size+4) (s.heap.objs.size+2) (s.heap.objs.size+3) .none->IsPair hp (s.heap.objs.size+2) (.ref s.heap.objs.size) (.ref (s.heap.objs.size+1))->IsPair hp (s.heap.objs.size+3) .none .none->xu b1 hp s.heap.objs.size l1 0->xu b2 hp (s.heap.objs.size+1) l2 0->
  (∀ c o,s.heap.get? c=some o->hp.get? c=some o)->Q (.ref (s.heap.objs.size+4)) { s with heap:=hp }):wpAny (model prog w) A (call (.type "zip") [.ref l1,.ref l2]) Q E s:=by
 refine callType_new F.called_zip (by decide) (F.typeCall_zip_2 _ _) (F.newCall_zip_2 _ _) (fun obj=>F.args_object_init_3 obj _ _) F.entry_zip_new (z6R b1 b2 l1 l2 xs ys) ⟨hl1,hl2,?_⟩;generalize hn:s.heap.objs.size=n at q;have z1:(s.heap.push (itO b1 l1)).objs.size=n+1:=by rw[Z4p,hn]
 have z2:((s.heap.push (itO b1 l1)).push (itO b2 l2)).objs.size=n+2:=by rw[Z4p,z1]
 have z3:(((s.heap.push (itO b1 l1)).push (itO b2 l2)).push { cls:=.type "tuple",data:=.seq #[.ref s.heap.objs.size,.ref (s.heap.objs.size+1)] }).objs.size=n+3:=by rw[Z4p,z2]
 have z4:((((s.heap.push (itO b1 l1)).push (itO b2 l2)).push { cls:=.type "tuple",data:=.seq #[.ref s.heap.objs.size,.ref (s.heap.objs.size+1)] }).push { cls:=.type "tuple",data:=.seq #[.none,.none] }).objs.size=n+4:=by rw[Z4p,z3]
 have itf:∀ b l,(itO b l).isFreed=false:=fun b l=>by cases b <;> rfl
 have g5:(zH b1 b2 s.heap l1 l2).get? (n+4)=some { cls:=.type "zip",data:=.fields #[.none,.bool false,.bool false,.ref (s.heap.objs.size+2),.ref (s.heap.objs.size+3)] }:=by rw[← z4];exact Z08 _ rfl
 have g4:(zH b1 b2 s.heap l1 l2).get? (n+3)=some { cls:=.type "tuple",data:=.seq #[.none,.none] }:=by rw[← z3];exact Z00 _ (Z08 _ rfl)
 have g3:(zH b1 b2 s.heap l1 l2).get? (n+2)=some { cls:=.type "tuple",data:=.seq #[.ref s.heap.objs.size,.ref (s.heap.objs.size+1)] }:=by rw[← z2];exact Z00 _ (Z00 _ (Z08 _ rfl))
 have g2:(zH b1 b2 s.heap l1 l2).get? (n+1)=some (itO b2 l2):=by rw[← z1];exact Z00 _ (Z00 _ (Z00 _ (Z08 _ (itf _ _))))
 have g1:(zH b1 b2 s.heap l1 l2).get? n=some (itO b1 l1):=by rw[← hn];exact Z00 _ (Z00 _ (Z00 _ (Z00 _ (Z08 _ (itf _ _)))))
 rw[hn] at g5 g3;have i1:xu b1 (zH b1 b2 s.heap l1 l2) n l1 0:=by
  cases b1;exact⟨_,g1,rfl,rfl⟩;exact⟨_,g1,rfl,rfl⟩
 have i2:xu b2 (zH b1 b2 s.heap l1 l2) (n+1) l2 0:=by
  cases b2;exact⟨_,g2,rfl,rfl⟩;exact⟨_,g2,rfl,rfl⟩
 show _/\_;exact⟨⟨_,g5,rfl⟩,q _ g5 g3 g4 i1 i2 fun c o x=>Z00 _ (Z00 _ (Z00 _ (Z00 _ (Z00 _ x))))⟩
def Z3s(K:PySem.W.Frag)(ta:TA):TI:=fun σ H R=>ta σ H fun vs H1=>∃ b1 b2 a b xs ys,vs=[.ref a,.ref b]/\Sq b1 K H1 a xs/\Sq b2 K H1 b ys/\R (z1U b1 b2 K a b) H1
theorem z2p{n l1 l2:Addr}(h1:l1<n)(h2:l2<n):z6H (n+4) (n+2) (n+3) n (n+1) l1 l2:=by
 have m:∀ c x y:Addr,c≠x->c≠y->c∉[x,y]:=fun c x y a b h=>by
  rcases Z0z.mp h with h | h;exact a h;exact b (Z04.mp h)
 have ne:∀ n i j:Nat,i≠j->n+i≠n+j:=fun n i j h e=>h (Nat.add_left_cancel e);have nl:∀ n l i:Nat,l<n->n+i≠l:=fun n l i h e=>by lia
 have nr:∀ n l i:Nat,l<n->l≠n+i:=fun n l i h e=>by lia
 exact⟨⟨ne n 2 4 (by decide),ne n 3 4 (by decide),ne n 0 4 (by decide),ne n 1 4 (by decide),ne n 2 3 (by decide),ne n 2 0 (by decide),ne n 2 1 (by decide),ne n 3 0 (by decide),ne n 3 1 (by decide),ne n 0 1 (by decide),
  m _ _ _ (ne n 4 0 (by decide)) (nl n l1 4 h1),m _ _ _ (ne n 4 1 (by decide)) (nl n l2 4 h2),m _ _ _ (ne n 3 0 (by decide)) (nl n l1 3 h1),m _ _ _ (ne n 3 1 (by decide)) (nl n l2 3 h2),m _ _ _ (ne n 1 0 (by decide)) (nl n l1 1 h1),m _ _ _ (ne n 0 1 (by decide)) (nl n l2 0 h2)⟩,nr n l1 0 h1,nr n l2 1 h2⟩
theorem uy(hg:Gl X "zip")(hs:starEach [a,b] X.env=[(false,eval a X.env),(false,eval b X.env)])(hs2:starEach [b] X.env=[(false,eval b X.env)])(eK:X.K=K)(hm:X.mg "zip"=none)(ha:PA X [a,b] ta) :
 PI X (.Tuple elts ek epos) (.Call (.Name "zip" p) [a,b] [] pos) (Z3s K ta):=by
 subst eK;intro pins s σ H R I h;refine Call_ (yn I hg hm boot_zip (Z2L (Zj (ha pos pins s σ H _ I h) fun us s1 ⟨vs,H1,I1,r1,q1⟩=>?_) (by rw[hs,hs2]) (by rw[hs2];rfl)));obtain⟨b1,b2,l,l',xs,ys,rfl,hl,hl',q⟩:=q1;obtain⟨u,v,rfl,ru,rv'⟩:=vals2 r1;cases ru;cases rv';obtain⟨its,rv,pl⟩:=I1.z5l hl;obtain⟨its',rv',pl'⟩:=I1.z5l hl';have lt:∀ {b:Bool}{l:Addr}{its:Array Value},vn b s1.heap l its->l<s1.heap.objs.size:=fun {b l its} x=>by
  cases b;obtain⟨o,z,_⟩:=x;exact Z09 z;obtain⟨o,z,_⟩:=x;exact Z09 z
 have hll:=lt pl;have hll':=lt pl';refine z4q pl pl' fun hp g1 g2 g3 g4 g5 hk=>?_;have I2:Inv X pins σ H1 { s1 with heap:=hp }:=I1.kept (t':=s1.toks) hk;have nx:∀ b,s1.heap.objs.size<=b->xA X pins H1 b:=fun b hb=>I1.JS hb (I1.hok.fresh hb);generalize s1.heap.objs.size=n at *;refine wpAny_pyIter_zip g1 ⟨_,[n+4,n+2,n+3,n,n+1],_,_,H1,rfl,I2,z5x (z2p hll hll'),⟨g1,g2,⟨_,_,g3⟩,g4,g5⟩,fun b hb=>?_,q⟩;simp at hb;rcases hb with rfl | rfl | rfl | rfl | rfl <;> exact nx _ (by first | exact Z59 _ _ | exact Z03 _)
theorem z5A(hlen:zs.length=xs.length)(Pv:Nat->List V->St->Hp->Prop)(h0:Pv 0 [] σ0 H0)(hl:∀ i ys σ H,Pv i ys σ H->Sq b1 K H a xs/\Sq b2 K H b zs/\H D=some (.lst ys))(hs:∀ i x z ys σ H T G,xs[i]?=some x->zs[i]?=some z->i<xs.length->Pv i ys σ H->H T=none->zC H G->G T=some (.tup [x,z])->g (.ref T) σ G fun σ3 H3=>tt σ3 H3 fun b H4=>if b=true then
  te σ3 H4 fun y H5=>H5 D=some (.lst ys)/\ys.length<sizeLine/\∃ m',m'<xs.length - i/\Wt Pv xs.length (i+1) m' (ys ++ [y]) σ3 (upd H5 D (.lst (ys ++ [y]))) else ∃ m',m'<xs.length - i/\Wt Pv xs.length (i+1) m' ys σ3 H4)(hd:∀ ys σ H,Pv xs.length ys σ H->Q (.ref D) H):XI (z1U b1 b2 K a b) D g tt te Q σ0 H0:=by
 refine⟨Wt Pv xs.length,⟨xs.length,rfl,Z18 _,h0⟩,?_⟩;rintro i m ys σ' H' ⟨rfl,hi,p⟩;obtain⟨hq,hq',hD⟩:=hl i ys σ' H' p;refine⟨hD,?_⟩;by_cases hlt:i<xs.length;refine .inr ⟨⟨xs,zs,xs[i],zs[i],hq,hq',by simp[hlt],by simp[hlt,hlen]⟩,fun x H2 y=>?_⟩;obtain⟨T,u,v,rfl,hT,rfl,hu,hv⟩:=y;exact hs i u v ys σ' H' T _ (hu xs hq) (hv zs hq') hlt p hT (zC.new hT) zh;have e:i=xs.length:=by lia
 subst e;exact .inl ⟨⟨xs,zs,hq,hq',by rw[hlen];exact Nat.min_self _⟩,hd ys σ' H' p⟩
theorem zC.kpd(k:zC H H'):Kp l H H':=fun b o e _=>k b o e
theorem VJ(Pv:St->Hp->Prop)(μ:St->Hp->Nat)(h0:Pv σ H)(hs:∀ σ H,Pv σ H->c σ H fun b H1=>if b=true then ∃ N:St->Hp->Prop,(∀ σ' H',N σ' H'->∃ m',m'<μ σ H/\m'=μ σ' H'/\Pv σ' H')/\tb { D with nx:=N,ct:=N,bk:=D.nx } σ H1 else D.nx σ H1):jf c tb D σ H :=
 ⟨fun m σ H=>m=μ σ H/\Pv σ H,⟨_,rfl,h0⟩,fun m σ H ⟨e,p⟩=>by subst e;exact hs σ H p⟩
theorem wN{Pv:St->Hp->Prop}{μ:St->Hp->Nat}{n:Nat}:∀ σ' H',(Pv σ' H'/\μ σ' H'<n)->∃ m',m'<n/\m'=μ σ' H'/\Pv σ' H':=fun _ _ ⟨p,l⟩=>⟨_,l,rfl,p⟩
theorem Inv.Z2F{σ:St}(I:Inv X pins σ H s)(h:H a=some (.lst xs)):∃ its:List Value,Vals xs its/\s.heap.PlainList a its.toArray:=by
 obtain⟨_,its,n,r,e⟩:xs.length<=sizeLine/\∃ (its:List Value) (n:Nat),Vals xs its/\s.heap.get? a=some { cls:=.type "list",data:=.seq its.toArray n }:=I.hok a _ h;exact⟨its,r,n,e⟩
theorem Uy:∀ {ns:List Int}{its:List Value},Vals (ns.map V.int) its->∃ xs:Array (Int×Tok),its.toArray=intItems xs/\xs.toList.map (·.1)=ns
 | [],its,r=>by cases r;exact⟨#[],by simp[intItems],rfl⟩
 | n :: ns,its,r=>by
   obtain⟨v,vs,rfl⟩:∃ v vs,its=v :: vs:=by cases r;exact⟨_,_,rfl⟩
   have hr:RelV (.int n) v/\Vals (ns.map V.int) vs:=by
    cases r with
    | cons rx rs=>exact⟨rx,rs⟩
   obtain⟨⟨t,rfl⟩,rs⟩:=hr;obtain⟨xs,e1,e2⟩:=Uy rs;refine⟨((n,t) :: xs.toList).toArray,?_,?_⟩;have e3:vs=xs.toList.map (fun p:Int×Tok=>Value.int p.1 p.2):=by
    have:=congrArg Array.toList e1;simpa[intItems] using this
   simp[intItems,e3];simp[e2]
def Z3T:List V->Hp->VK->Prop:=fun vs H Q=>∃ (p:Addr) (ns:List Int),vs=[.ref p]/\H p=some (.lst (ns.map V.int))/\ns≠[]/\∀ m,m∈ns->(∀ x∈ns,x<=m)->Q (.int m) H
theorem z4Z(hc:X.calm=true):ZG X (.builtin "max") Z3T:=by
 intro pins s σ H xs us Q I r h;obtain⟨p,ns,rfl,hp,hn,q⟩:=h;obtain⟨u,rfl,ru⟩:=vals1 r;cases ru;obtain⟨its,rv,pl⟩:=I.Z2F hp;obtain⟨ys,e1,e2⟩:=Uy rv;rw[e1] at pl;have hsz:ys.size=ns.length:=by rw[← e2,ZB,Z06]
 have h0:0<ys.size:=by
  rw[hsz];exact Z2K.mpr hn
 refine max_intList (I.ok.hd hc) pl.isList h0 fun v h' tk hv hk=>?_;obtain⟨t,rfl⟩:=intItems_at hv;refine⟨.int (numAt ys (argBest (fun i j=>decide (numAt ys i > numAt ys j)) (ys.size - 1))),H,I.kept hk,⟨t,rfl⟩,q _ ?_ fun x hx=>?_⟩;have hlt:=(Array.getElem?_eq_some_iff.mp hv).1;generalize argBest (fun i j=>decide (numAt ys i > numAt ys j)) (ys.size - 1)=k at *;have hk2:k<ys.size:=by simpa[intItems] using hlt
 rw[← e2];unfold numAt;rw[Z35 hk2];exact Z17.mpr ⟨ys[k],Array.getElem_mem_toList hk2,rfl⟩;rw[← e2] at hx;obtain⟨y,hy,rfl⟩:=Z17.mp hx;obtain⟨j,hj,ej⟩:=List.getElem_of_mem hy;have hj2:j<ys.size:=by simpa using hj
 have e3:numAt ys j=y.1:=by
  unfold numAt;rw[Z35 hj2];show (ys[j]).1=y.1;rw[← ej,Array.getElem_toList]
 rw[← e3];exact (argBest_gt (numAt ys) (ys.size - 1)).2 j (by lia)
end L2
namespace Pw
theorem JA(h:0<A.2):val A * (A.2:Rat)=(A.1:Rat):=by
 unfold val;have:=cpos h;have:(A.2:Rat)≠0:=by grind
 grind
end Pw
namespace L2
theorem z5b:typeLookup (.type "list_reverseiterator") "__len__"=pure none:=by rw[typeLookup_type,builtinLookup_eq_fast];kernel_rfl
theorem z7Q:typeLookup (.type "list_reverseiterator") "__length_hint__"=pure (some (.builtin "list_reverseiterator.__length_hint__")):=by rw[typeLookup_type,builtinLookup_eq_fast];kernel_rfl
def z8S(K:PySem.W.Frag):List V->Hp->VK->Prop:=fun xs H Q=>∃ (l:Addr) (vs:List V) (ps:List (Int×Int)),xs=[.ref l]/\zX K H l vs/\Zp K H ps vs/\ps.length<64/\∀ (us:List V) (ms:List (Int×Int)) (D:Addr),ms.Perm ps->ms.Pairwise Z2->Zp K H ms us->H D=none->Q (.ref D) (upd H D (.lst us))
theorem VG:ZG X (.builtin "sorted") (z8S X.K):=by
 intro pins s σ H xs us Q I r h;obtain⟨l,xs,ps,rfl,hl,hp,h64,q⟩:=h;obtain⟨u,rfl,rfl⟩:=vals1 r;have hlen:xs.length=ps.length:=by have:=Zg.length hp;rw[ZB] at this;exact this
 refine X9 I (.inr hl) (by lia) (ltP ps) (z3W ps) (fun vs s' rv h2 kp=>?_) fun p D pm up hD=>?_;have hv:vs.length=ps.length:=by rw[← rv.length,hlen]
 have tup:∀ {s2:Shared},(∀ b o,b≠X.env.locals->s.heap.get? b=some o->s2.heap.get? b=some o)->∀ {i:Nat},i<vs.length->∃ a o n t1 t2,vs.getD i Value.none=.ref a/\s2.heap.get? a=some o/\o.cls=.type "tuple"/\o.data=.seq #[.int (ps.getD i (0,0)).1 t1,.int (ps.getD i (0,0)).2 t2] n:=fun {s2} k {i} hi=>by
  obtain⟨a,e,hq⟩:=z1Z hp (show i<ps.length by lia);have rr:=Xj rv hi;rw[e] at rr;obtain⟨its,ri,⟨o,ho,hc,n,hd⟩,_⟩:=I.tuple hq;obtain⟨u1,u2,rfl,⟨t1,rfl⟩,⟨t2,rfl⟩⟩:=vals2 ri;exact⟨a,o,n,t1,t2,rr,k a o (I.Z0t hq) ho,hc,by simpa using hd⟩
 refine⟨tuples' true,fun R hR=>?_,fun i j C s2 hi hj k hc=>?_⟩;have build:∀ (ws:List Value),(∀ v∈ws,∃ a o n x t1 y t2,v=.ref a/\s'.heap.get? a=some o/\o.cls=.type "tuple"/\o.data=.seq #[.int x t1,.int y t2] n)->∃ fs:List Value,fs.length=ws.length/\KatTups s'.heap ws fs/\∀ v∈fs,∃ x t,v=.int x t:=by
  intro ws
  induction ws with
  | nil=>intro _;exact⟨[],rfl,KatTups.nil,fun v h=>by simp at h⟩
  | cons w ws ih =>
    intro h;obtain⟨fs,e,t,a⟩:=ih fun v hv=>h v (Z07 _ hv);obtain⟨b,o,n,x,t1,y,t2,rfl,ho,hc,hd⟩:=h w Z0y;refine⟨.int x t1 :: fs,by simp[e],KatTups.cons ho hc hd rfl t,fun v hv=>?_⟩;rcases Z0z.mp hv with rfl | hv;exact⟨_,_,rfl⟩;exact a v hv
 obtain⟨fs,e,kt,fa⟩:=build vs fun v hv=>by
  obtain⟨i,hi,rfl⟩:=List.mem_iff_getElem.mp hv;obtain⟨a,o,n,t1,t2,e,ho,hc,hd⟩:=tup kp hi;have:vs.getD i Value.none=vs[i]:=by simp[hi]
  rw[this] at e;exact⟨a,o,n,_,t1,_,t2,e,ho,hc,hd⟩
 refine kat_kind (T:=.type "int") kt (by lia) (fun v hv=>?_) (by decide) hR;obtain⟨x,t,rfl⟩:=fa v hv;exact Looks.of_pure rfl;unfold kas_ask;obtain⟨a,o,n,t1,t2,e,ho,_,hd⟩:=tup k hi;obtain⟨a',o',n',t1',t2',e',ho',_,hd'⟩:=tup k hj;rw[e,e'];refine kat_lt ho hd ho' hd' (kat_cons ?_);have hc':C (xy (ps.getD i (0,0)) (ps.getD j (0,0))) s2:=hc;generalize ps.getD i (0,0)=x at *;generalize ps.getD j (0,0)=y at *;refine wpAny_eqBool_int ?_;by_cases h1:x.1=y.1;rw[show (x.1 == y.1)=true by simp[h1]];refine kat_yes (kat_cons (wpAny_eqBool_int ?_));by_cases h2:x.2=y.2;rw[show (x.2 == y.2)=true by simp[h2]];refine kat_yes (kat_nil ?_);have:xy x y=false:=by simp only[xy,decide_eq_false_iff_not];lia
 rw[this] at hc';simpa using hc';rw[show (x.2 == y.2)=false by simp[h2]];refine kat_no (kat_one _ _ ?_);have:xy x y=decide (x.2<y.2):=by simp only[xy,decide_eq_decide];lia
 rw[this] at hc';exact lt_int hc';rw[show (x.1 == y.1)=false by simp[h1]];refine kat_no (oneLt_int ?_);have:xy x y=decide (x.1<y.1):=by simp only[xy,decide_eq_decide];lia
 rw[this] at hc';exact hc';rw[hlen] at pm up;have hb:∀ i∈p,i<ps.length:=fun i hi=>Z23.mp (pm.mem_iff.mp hi);exact q _ _ D (Xp pm) (Yw XY pm up fun i j h=>z3i h) (vo hp hb) hD
def z8K(K:PySem.W.Frag):List V->Hp->VK->Prop:=fun xs H Q=>∃ (l:Addr) (vs:List V) (ps:List (Int×Int)),xs=[.ref l]/\zX K H l vs/\Zp K H ps vs/\ps.length<64/\∀ (us:List V) (ms:List (Int×Int)) (D:Addr) (H':Hp),ms.Perm ps->ms.Pairwise Z2->Zp K H' ms us->zC H H'->H D=none->H' D=some (.lst us)->Q (.ref D) H'
theorem XJ:ZG X (.builtin "sorted") (z8K X.K):=fun pins s σ H xs us Q I r ⟨l,vs,ps,e,h1,h2,h3,q⟩=>VG pins s σ H xs us Q I r ⟨l,vs,ps,e,h1,h2,h3,fun us ms D a b c d=>q us ms D _ a b (Zp.kl (zC.new d).kl c) (zC.new d) d zh⟩
def ZX(K:PySem.W.Frag)(H:Hp)(a:Addr)(n:Int)(ps:List (Int×Int)):Prop:=∃ (t:Addr) (us:List V),H a=some (.tup [.int n,.ref t])/\H t=some (.tup us)/\Zp K H ps us
theorem ZX.kl{n:Int}(h:ZX K H a n ps)(k:KL H H'):ZX K H' a n ps:=by
 obtain⟨t,us,e1,e2,p⟩:=h;exact⟨t,us,k.tup e1,k.tup e2,Zp.kl k p⟩
theorem ZX.same{n:Int}(h:ZX K H a n ps)(k:zC H H'):ZX K H' a n ps:=h.kl k.kl
theorem Z1b{ns:List (Int×Int)}(p:ms.Perm ns)(h1:ms.Pairwise Z2)(h2:ns.Pairwise Z2):ms=ns:=p.eq_of_pairwise (fun a b _ _ x y=>by
 simp only[Z2] at x y;exact Prod.ext (by lia) (by lia)) h1 h2
theorem Z3j{xs:List V}{i:Nat}(h:i<xs.length):ZQ xs (some ((i:Int)+1)) none=xs.drop (i+1):=by
 unfold ZQ;rw[show (i:Int)+1=((i+1:Nat):Int) from rfl,HT.yR,HT.xH,Z5o (by lia)];exact Z0A (by rw[Z30];lia)
theorem Zp.take:∀ {ps:List (Int×Int)}{vs:List V}(i:Nat),Zp K H ps vs->Zp K H (ps.take i) (vs.take i)
 | [],vs,i,h=>by
   simp only[Zp,Z42,Zg] at h;subst h;rw[List.take_nil,List.take_nil];exact Xa
 | p :: ps,vs,0,h=>by rw[List.take_zero,List.take_zero];exact Xa
 | p :: ps,vs,i+1,h=>by
   obtain⟨a,r,rfl,hq,hr⟩:=yo h;rw[List.take_succ_cons,List.take_succ_cons];exact YW hq (Zp.take i hr)
def Jo(K:PySem.W.Frag):Sp:=fun vs H Q _=>∃ (a:Addr) (n x y:Int) (ps:List (Int×Int)),vs=[.ref a,.int x,.int y]/\ZX K H a n ps/\ps.length<=62/\∀ (b:Addr) (H':Hp) (ms:List (Int×Int)),zC H H'->H b=none->ZX K H' b n ms->ms.Perm (ps ++ [(x,y)])->ms.Pairwise Z2->Q (.ref b) H'
end L2
namespace Pw
theorem Ur(h:ms.Perm ps)(j:Int):(outs ms j).Perm (outs ps j):=by
 unfold outs;exact (h.filter _).map _
theorem z9f(x y j t:Nat):cn [((x:Int),(y:Int))] j t=if j=x/\t=y then 1 else 0:=by
 unfold cn outs;by_cases hj:j=x;subst hj;by_cases ht:t=y;subst ht;simp;rw[if_neg (fun z=>ht z.2)];have:((y:Int) == (t:Int))=false:=by simp;lia
 simp[List.count_cons,this];rw[if_neg (fun z=>hj z.1)];have:decide ((x:Int)=(j:Int))=false:=by simp;lia
 simp[List.filter_cons,this]
theorem z8q(pm:ms.Perm (ps ++ [((x:Int),(y:Int))])):cn ms j t=cn ps j t+(if j=x/\t=y then 1 else 0):=by
 rw[z3g pm,z4x,z9f]
theorem Z3R(ht:t<n):val ((List.replicate n (1,(n:Int))).getD t (0,1))=1 / (n:Rat):=by
 rw[Z02,List.getElem?_replicate,if_pos ht];rfl
theorem Yh(hn:1<=n):z9 (List.replicate n (1,(n:Int))):=fun B hB=>by
 rw[(List.mem_replicate.mp hB).2];exact⟨by show (0:Int)<(n:Int);lia,by show Int.gcd 1 (n:Int)=1;simp⟩
end Pw
namespace L2
theorem Z2f(hn:n<=12):Sz 4 (n:Int)/\Sz 4 ((n:Int) - 1):=⟨by unfold Sz;lia,by unfold Sz;lia⟩
def Vm(K:PySem.W.Frag):Sp:=fun vs H Q _=>∃ (wa:Addr) (n:Nat) (r:List V),vs=[.ref wa]/\H wa=some (.tup (.int (n:Int) :: r))/\1<=n/\n<=12/\
 ∀ (q:Addr) (H':Hp) (us:List V),zC H H'->H' q=some (.tup us)->yp K H' (List.replicate n (1,(n:Int))) us->Q (.ref q) H'
structure VQ(K:PySem.W.Frag)(H:Hp)(w lp ls:Addr)(n:Nat)(ps:List (Int×Int))(A:Int×Int)(Bs:List (Int×Int))(us:List V)(S:Int):Prop where
 g:Gv K H w lp ls (n:Int) ps A Bs us
 pr:Pr A Bs S
 n12:n<=12
 sA:yc 140 A
 sS:Sz 140 S
theorem VQ.same(h:VQ K H w lp ls n ps A Bs us S)(s:zC H H'):VQ K H' w lp ls n ps A Bs us S:=⟨h.g.same s,h.pr,h.n12,h.sA,h.sS⟩
theorem Z0D(ok:Pw.Zi ps A Bs n Ss)(v0:0<V')(zV:Sz ((140+11) * 13+20) V')(dv:∀ S∈Ss,S.2∣V'):∀ S∈Ss,yc 1983 S:=fun S hS=>by
 have c:=(ok.canon S hS).1;have h1:=ok.nn S hS;have h2:=ok.le1 S hS;have h3:S.2<=V':=Int.le_of_dvd v0 (dv S hS);have h4:V'.natAbs<2 ^ 1983:=zV;exact⟨by show S.1.natAbs<2 ^ 1983;lia,by show S.2.natAbs<2 ^ 1983;lia⟩
def Z2v(K:PySem.W.Frag):Sp:=fun vs H Q _=>∃ (w lp ls:Addr) (n:Nat) (ps:List (Int×Int)) (A:Int×Int) (Bs:List (Int×Int)) (us:List V) (S:Int),vs=[.ref w,.ref lp,.ref ls]/\VQ K H w lp ls n ps A Bs us S/\
 ∀ (t:Addr) (H':Hp) (Ss:List (Int×Int)) (ys:List V),Pw.Zi ps A Bs n Ss->(∀ S∈Ss,yc 1983 S)->zC H H'->H' t=some (.tup ys)->yp K H' Ss ys->Q (.ref t) H'
theorem Def.sh(D:Def P w K mg base k "shares" ["web","leap","leaps"] (VP K)):Def P w K mg base k "shares" ["web","leap","leaps"] (Z2v K):=by
 obtain⟨f,fd,F,m,b,G⟩:=D;refine⟨f,fd,F,m,b,G.imp fun vs H Q E h=>?_⟩;obtain⟨wa,lp,ls,n,ps,A,Bs,us,S,rfl,i,k⟩:=h;refine⟨wa,lp,ls,(n:Int),ps,A,Bs,us,S,140,rfl,i.g,i.pr,by have:=i.n12;lia,by decide,i.sA,i.sS,fun t H' Ss V' ys ok v0 zV dv s e f=>?_⟩;rw[Z2J] at ok;exact k t H' Ss ys ok (Z0D ok v0 zV dv) s e f
theorem Z2u(n1:1<=n):Pw.qs (List.replicate n ((1:Int),(n:Int))).length (fun t=>Pw.val ((List.replicate n ((1:Int),(n:Int))).getD t (0,1)))=1:=by
 rw[Z4r];exact Pw.Z0U n1 fun t ht=>Pw.Z3R ht
theorem Y9(n1:1<=n)(n12:n<=12)(a0:0<A.1)(a1:A.1<=A.2):Pr A (List.replicate n ((1:Int),(n:Int))) (n:Int) :=
 ⟨a0,a1,fun B hB=>by rw[(List.mem_replicate.mp hB).2];show (0:Int)<=1;decide,Z2u n1,by lia,(Z2f n12).1.mono (by decide),fun B hB=>by rw[(List.mem_replicate.mp hB).2];exact Int.dvd_refl _⟩
theorem vg(hw:ZX K H w (n:Int) ps)(few:ps.length<=100)(lk:∀ p∈ps,0<=p.1/\p.1<(n:Int)/\0<=p.2/\p.2<(n:Int))(fA:XC K H lp A)(ca:Pw.Canon A)(a0:0<A.1)(a1:A.1<=A.2)(sa:yc 41 A)(n1:1<=n)(n12:n<=12)(e:H ev=some (.tup us))(f:yp K H (List.replicate n ((1:Int),(n:Int))) us):VQ K H w lp ev n ps A (List.replicate n ((1:Int),(n:Int))) us (n:Int) :=
 ⟨⟨hw,few,lk,fA,ca,sa.mono (by decide),e,f,Pw.Yh n1,fun B hB=>by
  rw[(List.mem_replicate.mp hB).2];exact⟨(Zd 1 (by decide):Sz 600 (1:Int)),(Z2f n12).1.mono (by decide)⟩,by rw[Z4r],by lia,by lia⟩,Y9 n1 n12 a0 a1,n12,sa.mono (by decide),(Z2f n12).1.mono (by decide)⟩
def Z4k(ta:TA):TE:=fun σ H Q=>ta σ H fun vs H1=>∃ n:Nat,vs=[.int (n:Int)]/\n<=100000/\∀ (p:Addr) (H':Hp),zC H1 H'->H1 p=none->H' p=some (.lst ((List.range n).map fun (k:Nat)=>V.int (k:Int)))->Q (.ref p) H'
theorem z7p:∀ {n:Nat}{its:List Value},its.length=n->(∀ (j:Nat) (v:Value),its[j]?=some v->∃ t,v=Value.int (0+(j:Int) * 1) t)->Vals ((List.range n).map fun (k:Nat)=>V.int (k:Int)) its:=by
 intro n its hl h;have key:∀ (its:List Value) (b:Nat),(∀ (j:Nat) (v:Value),its[j]?=some v->∃ t,v=Value.int ((b+j:Nat):Int) t)->Vals ((List.range' b its.length).map fun (k:Nat)=>V.int (k:Int)) its:=by
  intro its
  induction its with
  | nil=>intro b _;exact .nil
  | cons v its ih =>
    intro b h;rw[Z0u,List.range'_succ,Z1y];obtain⟨t,rfl⟩:=h 0 v rfl;refine .cons ⟨t,rfl⟩ (ih (b+1) fun j v hv=>?_);obtain⟨t,e⟩:=h (j+1) v (by simpa using hv);exact⟨t,by rw[e];congr 2;lia⟩
 have:=key its 0 fun j v hv=>by
  obtain⟨t,e⟩:=h j v hv;exact⟨t,by rw[e];congr 1;lia⟩
 rw[hl,← List.range_eq_range'] at this;exact this
theorem j3{X:Cx}{a:Expr}{ta:TA}{p p' pos pos':Pos}(hc:X.calm=true)(hgL:Gl X "list")(hmL:X.mg "list"=none)(hgE:Gl X "range")(hmE:X.mg "range"=none)(ha:PA X [a] ta)
 (hs:starEach [.Call (.Name "range" p') [a] [] pos'] X.env=[(false,eval (.Call (.Name "range" p') [a] [] pos') X.env)]:=by rfl) (hs2:starEach [a] X.env=[(false,eval a X.env)]:=by rfl) :
 PE X (.Call (.Name "list" p) [.Call (.Name "range" p') [a] [] pos'] [] pos) (Z4k ta):=by
 intro pins s σ H Q I h;refine wpAny_Call_Name_kw (yn I hgL hmL boot_list ?_ (by decide) (by decide));refine Z2L ?_ hs rfl;rw[hs];show wpAny _ _ (spliced ((false,eval (.Call (.Name "range" p') [a] [] pos') X.env) :: backTo pos [])) _ _ s;refine Calls.spliced_cons ?_;refine wpAny_Call_Name_kw (yn I hgE hmE boot_range ?_ (by decide) (by decide));refine Z2L (Zj (ha pos' pins s σ H _ I h) fun us s1 ⟨vs,H1,I1,r1,q1⟩=>?_) hs2 rfl;obtain⟨n,rfl,hn,q⟩:=q1;obtain⟨u,rfl,ru⟩:=vals1 r1;obtain⟨t,rfl⟩:=ru;refine call_range_1 ?_;refine Calls.spliced_nil ?_;have hn2:(n:Int)<2 ^ 62:=by lia
 have hsm:Builtin.Range.small 0 (n:Int) 1=true:=small_one (by decide) (by decide) (by lia) hn2;refine call_list_range (s:={ s1 with heap:=s1.heap.push { cls:=.type "range",data:=.fields #[.int 0 s1.toks,.int (n:Int) t,.int 1 (s1.toks+1)] },toks:=s1.toks+1+1 }) (n:=n) (I1.ok.hd hc) (IsRange.new ..) hsm (by rw[rangeSize_one];split <;> lia) (by lia) fun h' tk acc c kp hS hacc=>?_;have hsz:(s1.heap.push { cls:=.type "range",data:=.fields #[.int 0 s1.toks,.int (n:Int) t,.int 1 (s1.toks+1)] }).objs.size=s1.heap.objs.size+1:=size_push' _ _;rw[show ({ s1 with heap:=s1.heap.push { cls:=.type "range",data:=.fields #[.int 0 s1.toks,.int (n:Int) t,.int 1 (s1.toks+1)] },toks:=s1.toks+1+1 }:Shared).heap.objs.size=s1.heap.objs.size+1 from hsz] at hS ⊢;have kp':∀ b o,s1.heap.get? b=some o->h'.get? b=some o:=fun b o e=>kp b o (Z00 _ e);have hfr:H1 (s1.heap.objs.size+1)=none:=I1.hok.fresh (Nat.le_succ _);refine⟨.ref _,_,I1.laid (t':=tk) (o:=.lst ((List.range n).map fun (k:Nat)=>V.int (k:Int))) kp' (Nat.le_succ _) ⟨?_,acc.toList,c,?_,?_⟩,rfl,q _ _ (zC.new hfr) hfr zh⟩;rw[ZB,Z2I,sizeLine_eq];lia;refine z7p (by rw[Z06];exact hacc.1) fun j v hv=>hacc.2 j v (by rw[← Z38];exact hv);rw[hS]
end L2
namespace Pw
theorem z9i(lk:∀ p∈ps,0<=p.2/\p.2<(n:Int))(lk':∀ p∈ms,0<=p.2/\p.2<(n:Int))(h:qs n (fun i=>(cn ps j i:Rat))=qs n (fun i=>(cn ms k i:Rat))):(outs ps (j:Int)).length=(outs ms (k:Int)).length:=by
 rw[j8 lk,j8 lk'] at h
 exact_mod_cast h
theorem z6b(ca:Canon A)(cb:z9 Bs)(hn:Bs.length=n)(lk:∀ p∈ps,0<=p.2/\p.2<(n:Int))(lk':∀ p∈ms,0<=p.2/\p.2<(n:Int))(h:∀ i,i<n->cn ps j i=cn ms j i)(ht:t<n) :
 val ((Zb ps A Bs (j:Nat)).getD t (0,1))=val ((Zb ms A Bs (j:Nat)).getD t (0,1)):=by
 have hl:=z9i (j:=j) (k:=j) lk lk' (zN fun i hi=>by rw[h i hi]);rw[Qa ca cb hn ht,Qa ca cb hn ht,h t ht,hl];by_cases ho:outs ps (j:Int)=[];have ho':outs ms (j:Int)=[]:=Z2G.mp (by rw[← hl,ho];rfl);rw[if_pos ho,if_pos ho'];have ho':outs ms (j:Int)≠[]:=fun z=>ho (Z2G.mp (by rw[hl,z];rfl));rw[if_neg ho,if_neg ho']
theorem Zi.ways(hw:∀ j t,j<n->t<n->val ((Zb ps A Bs (j:Nat)).getD t (0,1))=val ((Zb ms A Bs (j:Nat)).getD t (0,1)))(h:Zi ps A Bs n Ss):Zi ms A Bs n Ss:=by
 refine⟨h.len,h.canon,h.nn,h.one,fun t ht=>?_⟩;rw[← h.stay t ht];unfold z0I;exact zN fun j hj=>by rw[hw j t hj ht]
theorem Zi.perm(ca:Canon A)(cb:z9 Bs)(hn:Bs.length=n)(lk:∀ p∈ps,0<=p.2/\p.2<(n:Int))(pm:ms.Perm ps)(h:Zi ps A Bs n Ss):Zi ms A Bs n Ss :=
 h.ways fun j t hj ht=>z6b ca cb hn lk (fun p hp=>lk p (pm.mem_iff.mp hp)) (fun i _=>(z3g pm j i).symm) ht
end Pw
namespace L2
def oiL(ord:List Nat):List Int:=ord.map fun (k:Nat)=>(k:Int)
end L2
namespace Pw
def Xe:List Int->Nat->List (List Int)
 | _,0=>[[]]
 | [],_+1=>[]
 | x :: r,m+1=>(Xe r m).map (x :: ·) ++ Xe r (m+1)
theorem Qv(l:List Int):Xe l 0=[[]]:=by cases l <;> rfl
theorem j4:∀ {l:List Int}{m:Nat}{r:List Int},r∈Xe l m->r.length=m
 | l,0,r,h=>by rw[Qv] at h;rw[Z04.mp h];rfl
 | [],m+1,r,h=>by simp[Xe] at h
 | x :: l,m+1,r,h=>by
   simp only[Xe,Z25,Z17] at h;rcases h with⟨q,hq,rfl⟩| h;rw[Z0u,j4 hq];exact j4 h
theorem ZS:∀ {l:List Int}{m:Nat}{r:List Int},r∈Xe l m↔r.Sublist l/\r.length=m
 | l,0,r=>by
   rw[Qv,Z04];constructor;rintro rfl;exact⟨List.nil_sublist _,rfl⟩;rintro⟨_,h⟩;exact Z2G.mp h
 | [],m+1,r=>by
   constructor;intro h;simp[Xe] at h;rintro⟨h,h2⟩;rw[List.sublist_nil.mp h] at h2;simp at h2
 | x :: l,m+1,r=>by
   simp only[Xe,Z25,Z17];constructor;rintro (⟨q,hq,rfl⟩| h);obtain⟨h1,h2⟩:=ZS.mp hq;exact⟨h1.cons_cons x,by rw[Z0u,h2]⟩;obtain⟨h1,h2⟩:=ZS.mp h;exact⟨h1.cons x,h2⟩;rintro⟨h,h2⟩;cases h with
   | cons _ h=>exact .inr (ZS.mpr ⟨h,h2⟩)
   | cons_cons _ h =>
     rename_i q;exact .inl ⟨q,ZS.mpr ⟨h,by simpa using h2⟩,rfl⟩
theorem Vq:∀ (l:List Int) (m:Nat),(Xe l m).length<=2 ^ l.length
 | l,0=>by rw[Qv];exact Nat.one_le_two_pow
 | [],m+1=>by simp[Xe]
 | x :: l,m+1=>by
   simp only[Xe,Z0M,ZB,Z0u];have a:=Vq l m;have b:=Vq l (m+1);rw[Z56];lia
def xQ(l:List Int)(m j:Nat):List (List Int):=((List.range j).map fun t=>(Xe (l.drop (t+1)) m).map (l.getD t 0 :: ·)).flatten
theorem vG(l:List Int)(m j:Nat):xQ l m (j+1)=xQ l m j ++ (Xe (l.drop (j+1)) m).map (l.getD j 0 :: ·):=by
 unfold xQ;rw[Z5p,Z15,List.flatten_append];simp
theorem um:∀ (l:List Int) (m:Nat),xQ l m l.length=Xe l (m+1)
 | [],m=>rfl
 | x :: l,m=>by
   simp only[Xe];rw[← um l m];unfold xQ;rw[Z0u,List.range_succ_eq_map,Z1y,Z54,Z57];congr 1
theorem z2x(l:List Int)(m j:Nat):(xQ l m j).length<=j * 2 ^ l.length:=by
 induction j with
 | zero=>simp[xQ]
 | succ j ih =>
   rw[vG,Z0M,ZB];have a:=Vq (l.drop (j+1)) m;have b:2 ^ (l.drop (j+1)).length<=2 ^ l.length:=Z3a (by decide) (by rw[Z30];lia);rw[Nat.succ_mul];lia
end Pw
namespace L2
def Z3(H:Hp)(Fs:List (List Int))(us:List V)(X:Addr):Prop:=us.length=Fs.length/\∀ (i:Nat) (row:List Int),Fs[i]?=some row->∃ r:Addr,us[i]?=some (V.ref r)/\r≠X/\H r=some (.lst (row.map V.int))
theorem Z3.nil(H:Hp)(X:Addr):Z3 H [] [] X:=⟨rfl,fun i row e=>by simp at e⟩
theorem Z3.keep(h:Z3 H Fs us X)(s:∀ b o,H b=some o->b≠X->H' b=some o):Z3 H' Fs us X :=
 ⟨h.1,fun i row e=>by obtain⟨r,a,n,b⟩:=h.2 i row e;exact⟨r,a,n,s _ _ b n⟩⟩
theorem Z3.append(h:Z3 H Fs us X)(g:Z3 H Gs vs X):Z3 H (Fs ++ Gs) (us ++ vs) X:=by
 refine⟨by rw[Z0M,Z0M,h.1,g.1],fun i row e=>?_⟩;by_cases hi:i<Fs.length;rw[Z2H hi] at e;obtain⟨r,a,n,b⟩:=h.2 i row e;exact⟨r,by rw[Z2H (by rw[h.1];exact hi)];exact a,n,b⟩;rw[Z3H (by lia)] at e;obtain⟨r,a,n,b⟩:=g.2 _ row e;exact⟨r,by rw[Z3H (by rw[h.1];lia),h.1];exact a,n,b⟩
theorem Z3.one(n:r≠X)(e:H r=some (.lst (row.map V.int))):Z3 H [row] [.ref r] X:=⟨rfl,fun i row' e'=>by
 cases i with
 | zero=>cases e';exact⟨r,rfl,n,e⟩
 | succ i=>simp at e'⟩
theorem z8A{xs:List V}{g:TG}{tb:TS}{DD:Ends}(Pv:Nat->St->Hp->Prop)(h0:Pv 0 σ H)(hl:∀ i σ H,Pv i σ H->zQ K H a xs)(hs:∀ i x σ H T G,xs[i]?=some x->i<xs.length->Pv i σ H->H T=none->zC H G->G T=some (.tup [.int i,x])->g (.ref T) σ G fun σ2 H2=>tb { DD with nx:=Pv (i+1),ct:=Pv (i+1),bk:=DD.nx } σ2 H2)(hd:∀ σ H,Pv xs.length σ H->DD.nx σ H) :
 ∃ W:Nat->Nat->St->Hp->Prop,(∃ m,W 0 m σ H)/\∀ i m σ H,W i m σ H->
   ((z4B K a).stop i H/\DD.nx σ H)\/((z4B K a).go i H/\∃ N:St->Hp->Prop,(∀ σ' H',N σ' H'->∃ m',m'<m/\W (i+1) m' σ' H')/\∀ x H',(z4B K a).yld i H x H'->g x σ H' fun σ2 H2=>tb { DD with nx:=N,ct:=N,bk:=DD.nx } σ2 H2):=by
 refine⟨fun i m σ H=>m=xs.length - i/\i<=xs.length/\Pv i σ H,⟨xs.length,by simp,Z18 _,h0⟩,?_⟩;rintro i m σ H ⟨rfl,hi,p⟩;have hq:=hl i σ H p;by_cases hlt:i<xs.length;refine .inr ⟨⟨xs,xs[i],hq,by simp[hlt]⟩,Pv (i+1),fun σ' H' p'=>⟨xs.length - (i+1),by lia,rfl,hlt,p'⟩,fun x H' y=>?_⟩;obtain⟨T,u,v,rfl,hT,rfl,rfl,hv⟩:=y;exact hs i v σ H T _ (hv xs hq) hlt p hT (zC.new hT) zh;have e:i=xs.length:=by lia
 subst e;exact .inl ⟨⟨xs,hq,rfl⟩,hd σ H p⟩
theorem ZJ.bot{st:Stmt}(S:ZJ K mg nm st ps)(h:∀ vs H Q E,¬ sp vs H Q E)(k:Nat):Def P w K mg base k nm ps sp :=
 S.def fun f fd F=>⟨fun vs H Q E z=>absurd z (h vs H Q E),fun A outer s H args us vs Q E _ _ _ _ z=>absurd z (h vs H Q E)⟩
end L2
namespace Pw
def jE(Ss:List (Int×Int))(x y:Nat):Bool:=decide ((Ss.getD y (0,1)).1 * (Ss.getD x (0,1)).2<(Ss.getD x (0,1)).1 * (Ss.getD y (0,1)).2)
def toL(x:Nat)(row:List Int):List (Int×Int):=row.map fun r=>(r,(x:Int))
def vQ(ps:List (Int×Int))(A:Int×Int)(Bs:List (Int×Int))(n x y:Nat)(row:List Int):Prop:=∃ ms Ss,ms.Perm (ps ++ toL x row)/\Zi ms A Bs n Ss/\jE Ss x y=true
theorem z0D(ca:Canon A)(cb:z9 Bs)(hb:Bs.length=n)(pr:L2.Pr A Bs S)(lk:∀ p∈ms,0<=p.2/\p.2<(n:Int))(pm:ms.Perm (ps ++ toL x row))(ok:Zi ms A Bs n Ss):vQ ps A Bs n x y row↔jE Ss x y=true:=by
 constructor;rintro⟨ms',Ss',pm',ok',h⟩;have pq:ms.Perm ms':=pm.trans pm'.symm;have:Ss=Ss':=Zi.unique lk ca cb hb pr ok (Zi.perm ca cb hb (fun p hp=>lk p (pq.symm.mem_iff.mp hp)) pq ok');rw[this];exact h;intro h;exact⟨ms,Ss,pm,ok,h⟩
end Pw
namespace L2
def JW(K:PySem.W.Frag):Sp:=fun vs H Q _=>∃ (w C:Addr) (n:Int) (x:Nat) (ps:List (Int×Int)) (row:List Int),vs=[.ref w,.ref C,.int (x:Int)]/\ZX K H w n ps/\H C=some (.lst (row.map V.int))/\ps.length+row.length<=60/\∀ (b:Addr) (H':Hp) (ms:List (Int×Int)),zC H H'->ZX K H' b n ms->ms.Perm (ps ++ Pw.toL x row)->Q (.ref b) H'
def z4g(K:PySem.W.Frag):Sp:=fun vs H Q _=>∃ (w lp ls:Addr) (n x y:Nat) (ps:List (Int×Int)) (A:Int×Int) (Bs:List (Int×Int)) (us:List V) (S:Int),vs=[.ref w,.ref lp,.ref ls,.int (x:Int),.int (y:Int)]/\VQ K H w lp ls n ps A Bs us S/\x<n/\y<n/\∀ (H':Hp) (Ss:List (Int×Int)),Pw.Zi ps A Bs n Ss->zC H H'->Q (.bl (Pw.jE Ss x y)) H'
theorem VQ.links(h:VQ K H w lp ls n ps A Bs us S)(few:ps.length+row.length<=60)(hx:x<n)(hr:∀ r∈row,0<=r/\r<(n:Int))(hw:ZX K H w2 (n:Int) ms)(pm:ms.Perm (ps ++ Pw.toL x row)):VQ K H w2 lp ls n ms A Bs us S:=by
 have hf:ms.length<=100:=by rw[pm.length_eq,Z0M];unfold Pw.toL;rw[ZB];lia
 have hlk:∀ p∈ms,0<=p.1/\p.1<(n:Int)/\0<=p.2/\p.2<(n:Int):=fun p hp=>by
  rcases Z25.mp (pm.mem_iff.mp hp) with z | z;exact h.g.lk p z;obtain⟨r,hr',rfl⟩:=Z17.mp z;have:=hr r hr';show 0<=r/\r<(n:Int)/\0<=(x:Int)/\(x:Int)<n;lia
 exact⟨{ h.g with web:=hw,few:=hf,lk:=hlk },h.pr,h.n12,h.sA,h.sS⟩
end L2
namespace Pw
def X5(P:List Int->Prop)(l:List Int):Option (List Int)->Prop
 | none=>∀ m row,row∈Xe l m->¬ P row
 | some row=>∃ m i:Nat,(Xe l m)[i]?=some row/\P row/\(∀ m' r,m'<m->r∈Xe l m'->¬ P r)/\∀ (i':Nat) r,i'<i->(Xe l m)[i']?=some r->¬ P r
theorem X5.sub(h:X5 P l (some row)):row.Sublist l/\P row:=by
 obtain⟨m,i,e,p,_⟩:=h;exact⟨(ZS.mp (Z21 e)).1,p⟩
theorem X5.few(h:X5 P l (some row))(hr:r.Sublist l)(p:P r):row.length<=r.length:=by
 obtain⟨m,i,e,_,h1,_⟩:=h;have:=(ZS.mp (Z21 e)).2;rw[this];exact Nat.le_of_not_lt fun z=>h1 r.length r z (ZS.mpr ⟨hr,rfl⟩) p
end Pw
namespace L2
open Pw
def XA(H0:Hp)(us:List V):Prop:=∀ r,V.ref r∈us->H0 r=none
theorem XA.append(h:XA H0 us)(g:XA H0 vs):XA H0 (us ++ vs):=fun r hr=>by
 rcases Z25.mp hr with z | z;exact h r z;exact g r z
theorem XA.nil(H0:Hp):XA H0 []:=fun r hr=>by simp at hr
theorem XA.one(h:H0 q=none):XA H0 [.ref q]:=fun r hr=>by
 have:=Z04.mp hr;injection this with this;rw[this];exact h
def Z4j(H0 H:Hp)(D:Addr)(Fs:List (List Int)):Prop:=∃ us,H D=some (.lst us)/\us.length=Fs.length/\(∀ (i:Nat) (row:List Int),Fs[i]?=some row->∃ r:Addr,us[i]?=some (V.ref r)/\H r=some (.lst (row.map V.int)))/\XA H0 us
theorem Z3.Z3x(h:Z3 H Fs us X)(e:H D=some (.lst us))(n:XA H0 us):Z4j H0 H D Fs :=
 ⟨us,e,h.1,fun i row e=>by obtain⟨r,a,_,b⟩:=h.2 i row e;exact⟨r,a,b⟩,n⟩
def uS(K:PySem.W.Frag)(m:Nat):Sp:=fun vs H Q _=>∃ (p:Addr) (l:List Int),vs=[.ref p,.int (m:Int)]/\H p=some (.lst (l.map V.int))/\l.length<=12/\∀ (D:Addr) (H':Hp),zC H H'->H D=none->Z4j H H' D (Pw.Xe l m)->Q (.ref D) H'
def Z3g(K:PySem.W.Frag)(M:Nat):Sp:=fun vs H Q E=>∃ m,m<M/\uS K m vs H Q E
def jB(K:PySem.W.Frag)(M:Nat):Sp:=fun vs H Q E=>∃ m,m<=M/\uS K m vs H Q E
def Z1h(G:Hp)(fv:V)(o:Option (List Int)):Prop:=(o=none/\fv=.Zr)\/∃ b row,o=some row/\fv=.ref b/\G b=some (.lst (row.map V.int))
theorem yj(h:Q [] H):Ub σ H Q:=h
end L2
namespace Pw
theorem Ye(a:0<A.2)(b:0<B.2):val A<val B↔A.1 * B.2<B.1 * A.2:=by
 have ha:=cpos a;have hb:=cpos b;have e1:=JA a;have e2:=JA b;have hp:=Z53 ha hb;have k1:((A.1 * B.2:Int):Rat)=val A * ((A.2:Rat) * (B.2:Rat)):=by rw[Z0L,← e1];grind
 have k2:((B.1 * A.2:Int):Rat)=val B * ((A.2:Rat) * (B.2:Rat)):=by rw[Z0L,← e2];grind
 constructor;intro h;have:0<(val B - val A) * ((A.2:Rat) * (B.2:Rat)):=Z53 (by grind) hp;have:((A.1 * B.2:Int):Rat)<((B.1 * A.2:Int):Rat):=by rw[k1,k2];grind
 exact_mod_cast this
 intro h;have h:((A.1 * B.2:Int):Rat)<((B.1 * A.2:Int):Rat):=by exact_mod_cast h
 rw[k1,k2] at h;refine Rat.not_le.mp fun z=>?_;have:=ZC z (Z4O hp);exact absurd h (Rat.not_lt.mpr this)
theorem Z0E(h:k<n)(c:Rat):qs n (fun j=>if j=k then c else 0)=c:=by
 rw[YO h (fun i _ hi=>by rw[if_neg hi]),if_pos rfl]
end Pw
namespace L2
open Pw
theorem Z1A(i:Nat):ZQ xs none (some (i:Int))=xs.take i:=by
 unfold ZQ;rw[HT.yR,HT.xH,List.drop_zero,Nat.sub_zero];by_cases h:i<=xs.length;rw[Z5o h];rw[Nat.min_eq_right (by lia),Z0A (Z03 _),Z0A (by lia)]
end L2
namespace Pw
theorem uQ{α:Type}(a b:α)(h:x<n):(List.replicate n a).getD x b=a:=by
 rw[Z02,List.getElem?_replicate,if_pos h];rfl
theorem z9C{d:Nat->Rat}{R:Nat->Nat->Rat}{x:Nat}(a0:0<a)(a1:a<=1)(c0:0<=c)(hR:∀ i t,i<n->t<n->0<=R i t)(h1:∀ i,i<n->qs n (R i)=1)(hx:x<n)(hy:y<n)(hd:∀ t,t<n->d t=(1 - a) * qs n (fun i=>d i * R i t)+c * ((if t=y then 1 else 0) - R x t)):0<=d y:=by
 refine Rat.not_lt.mp fun neg=>?_;generalize hI:(fun t:Nat=>if d t<0 then (1:Rat) else 0)=I;have I01:∀ t,0<=I t/\I t<=1:=fun t=>by
  rw[← hI];dsimp only;split;exact⟨by decide,by decide⟩;exact⟨by decide,by decide⟩
 have Iy:I y=1:=by rw[← hI];exact if_pos neg
 have Id:∀ t,I t * d t<=0/\∀ r:Rat,0<=r->r<=1->I t * d t<=d t * r:=fun t=>by
  rw[← hI];dsimp only;by_cases h:d t<0;rw[if_pos h];refine⟨by grind,fun r r0 r1=>?_⟩;have:=Z4x (Z4O (show 0 < -d t by grind)) (show 0<=1 - r by grind);grind;rw[if_neg h];refine⟨by grind,fun r r0 r1=>?_⟩;have:=Z4x (Rat.not_lt.mp h) r0;grind
 have r01:∀ i,i<n->0<=qs n (fun t=>R i t * I t)/\qs n (fun t=>R i t * I t)<=1:=fun i hi=>by
  refine⟨Xh fun t ht=>Z4x (hR i t hi ht) (I01 t).1,?_⟩;rw[← h1 i hi];refine vP fun t ht=>?_;have:=Z4x (hR i t hi ht) (show 0<=1 - I t by have:=(I01 t).2;grind);grind
 have E1:qs n (fun t=>I t * d t)=(1 - a) * qs n (fun i=>d i * qs n (fun t=>R i t * I t))+c * (I y - qs n (fun t=>R x t * I t)):=by
  rw[zN (g:=fun t=>(1 - a) * qs n (fun i=>I t * (d i * R i t))+(c * (if t=y then I y else 0)+(-c) * (R x t * I t))) fun t ht=>?_,Zv,Zv,zY,zY,zY,Z0E hy,Vo,zN (g:=fun i=>d i * qs n (fun t=>R i t * I t)) fun i _=>?_];grind;rw[← zY];exact zN fun t _=>by grind
  have e:=hd t ht;rw[zY];by_cases z:t=y;subst z;rw[if_pos rfl] at e ⊢;grind;rw[if_neg z] at e ⊢;grind
 have N0:qs n (fun t=>I t * d t)<=d y:=by
  have:=JN (f:=fun t=>-(I t * d t)) hy fun t _=>by have:=(Id t).1;grind
  have e:qs n (fun t=>-(I t * d t))=-qs n (fun t=>I t * d t):=by
   rw[zN (g:=fun t=>(-1) * (I t * d t)) fun t _=>by grind,zY];grind
  rw[e] at this;have h:-(I y * d y)<=-qs n (fun t=>I t * d t):=this;rw[Iy] at h;grind
 have N1:qs n (fun t=>I t * d t)<=qs n (fun i=>d i * qs n (fun t=>R i t * I t)):=vP fun i hi=>(Id i).2 _ (r01 i hi).1 (r01 i hi).2;have c1:=Z4x c0 (show 0<=I y - qs n (fun t=>R x t * I t) by have:=(r01 x hx).2;rw[Iy];grind);have b1:=Z4x (show 0<=1 - a by grind) (show 0<=qs n (fun i=>d i * qs n (fun t=>R i t * I t)) - qs n (fun t=>I t * d t) by grind);generalize qs n (fun t=>I t * d t)=N at *;generalize qs n (fun i=>d i * qs n (fun t=>R i t * I t))=M at *;have:0<=a * N:=by grind
 have neg2:N<0:=by grind
 have:=Z53 a0 (show 0 < -N by grind);grind
def XH(ps Bs:List (Int×Int))(j t:Nat):Rat:=if outs ps (j:Int)=[] then val (Bs.getD t (0,1)) else (cn ps j t:Rat) / (((outs ps (j:Int)).length:Nat):Rat)
theorem z4a(ca:Canon A)(cb:z9 Bs)(hn:Bs.length=n)(ht:t<n):val ((Zb ps A Bs (j:Nat)).getD t (0,1))=val A * val (Bs.getD t (0,1))+(1 - val A) * XH ps Bs j t:=by
 rw[Qa ca cb hn ht];unfold XH;split;grind;rfl
theorem z7C(ca:Canon A)(cb:z9 Bs)(hn:Bs.length=n)(ok:Zi ps A Bs n Ss)(ht:t<n):val (Ss.getD t (0,1))=val A * val (Bs.getD t (0,1))+(1 - val A) * qs n (fun i=>val (Ss.getD i (0,1)) * XH ps Bs i t):=by
 have e:=ok.stay t ht;unfold z0I at e;rw[← e,zN (g:=fun i=>(val A * val (Bs.getD t (0,1))) * val (Ss.getD i (0,1))+(1 - val A) * (val (Ss.getD i (0,1)) * XH ps Bs i t)) fun i _=>by rw[z4a ca cb hn ht];grind,Zv,zY,zY,ok.one];rw[zN (f:=fun i=>val (Ss.getD i (0,1)) * XH ps Bs i t) fun i _=>rfl];grind
theorem Z1c(cb:z9 Bs)(hn:Bs.length=n)(pr:L2.Pr A Bs S)(ht:t<n):0<=XH ps Bs j t:=by
 unfold XH;split;exact xG (cb.getD t).1 (pr.nn _ (L2.mem_getD (by lia)));rename_i h;have hp:0<(outs ps (j:Int)).length:=Z2K.mpr h;have h1:(0:Rat)<=(cn ps j t:Rat):=by
  have:(0:Int)<=cn ps j t:=by unfold cn;lia
  exact_mod_cast this
 have h2:(0:Rat)<(((outs ps (j:Int)).length:Nat):Rat):=by exact_mod_cast hp
 exact VD h1 h2
theorem z8u(lk:∀ p∈ps,0<=p.2/\p.2<(n:Int))(cb:z9 Bs)(hn:Bs.length=n)(pr:L2.Pr A Bs S)(j:Nat):qs n (XH ps Bs j)=1:=by
 have one:=pr.one;rw[hn] at one;have w:=VN (page:=(j:Int)) (A:=(1,2)) lk ⟨by decide,by decide⟩ cb hn one;rw[zN (g:=fun t=>(1 / 2:Rat) * val (Bs.getD t (0,1))+(1 / 2:Rat) * XH ps Bs j t) fun t ht=>by
  rw[z4a ⟨by decide,by decide⟩ cb hn ht];have:val ((1:Int),(2:Int))=(1 / 2:Rat):=rfl;rw[this];grind,Zv,zY,zY,one] at w
 have e:qs n (fun t=>XH ps Bs j t)=qs n (XH ps Bs j):=rfl;rw[e] at w;grind
theorem z6q{ms:List (Int×Int)}{x y j:Nat}(pm:ms.Perm (ps ++ [((x:Int),(y:Int))]))(hj:j≠x):XH ms Bs j t=XH ps Bs j t:=by
 have hp:=Ur pm (j:Int);rw[yY,if_neg (show ¬ ((x:Int)=(j:Int)) by lia),Z43] at hp;have e1:cn ms j t=cn ps j t:=by unfold cn;rw[hp.count_eq]
 have e2:=hp.length_eq;have e3:outs ms (j:Int)=[]↔outs ps (j:Int)=[]:=by rw[← Z2G,← Z2G,e2]
 unfold XH;rw[e1,e2];by_cases h:outs ps (j:Int)=[];rw[if_pos h,if_pos (e3.mpr h)];rw[if_neg h,if_neg (fun z=>h (e3.mp z))]
theorem z6G(pm:ms.Perm (ps ++ [((x:Int),(y:Int))])):XH ms Bs x t=XH ps Bs x t+(1 / ((((outs ps (x:Int)).length:Nat):Rat)+1)) * ((if t=y then 1 else 0) - XH ps Bs x t):=by
 have hp:=Ur pm (x:Int);rw[yY,if_pos rfl] at hp;have hne:outs ms (x:Int)≠[]:=fun z=>by rw[z] at hp;have:=hp.length_eq;simp at this
 have e1:(cn ms x t:Rat)=(cn ps x t:Rat)+(if t=y then 1 else 0):=by
  rw[z8q pm];by_cases z:t=y;rw[if_pos ⟨rfl,z⟩,if_pos z,Z5m];rfl;rw[if_neg (fun w=>z w.2),if_neg z,Z5m];rfl
 have e2:(((outs ms (x:Int)).length:Nat):Rat)=(((outs ps (x:Int)).length:Nat):Rat)+1:=by
  rw[hp.length_eq,Z0M,Z37];push_cast;rfl
 unfold XH;rw[if_neg hne,e1,e2];by_cases h:outs ps (x:Int)=[];rw[if_pos h];have:(cn ps x t:Rat)=0:=by unfold cn;rw[h];rfl
 rw[this,h];show ((0:Rat)+_) / (0+1)=_+1 / (0+1) * _;grind;rw[if_neg h];have hm:(0:Rat)<(((outs ps (x:Int)).length:Nat):Rat):=by exact_mod_cast Z2K.mpr h
 generalize (((outs ps (x:Int)).length:Nat):Rat)=M at hm;have h1:M≠0:=by grind
 have h2:M+1≠0:=by grind
 grind
theorem z9r(hx:x<n)(hy:y<n)(lk:∀ p∈ps,0<=p.2/\p.2<(n:Int))(ca:Canon A)(cb:z9 Bs)(hn:Bs.length=n)(pr:L2.Pr A Bs S)(pm:ms.Perm (ps ++ [((x:Int),(y:Int))]))(ok:Zi ps A Bs n Ss)(ok':Zi ms A Bs n Ts):val (Ss.getD y (0,1))<=val (Ts.getD y (0,1)):=by
 have a0:=z9W ca.1 pr.a0;have a1:val A<=1:=jW ca.1 pr.a1;have tn:=ok'.z6A hx;have hl:(0:Rat)<(((outs ps (x:Int)).length:Nat):Rat)+1:=by
  have:(0:Rat)<=(((outs ps (x:Int)).length:Nat):Rat):=by exact_mod_cast Z18 _
  grind
 have th:(0:Rat)<=1 / ((((outs ps (x:Int)).length:Nat):Rat)+1):=VD (by decide) hl;have:=z9C (n:=n) (d:=fun t=>val (Ts.getD t (0,1)) - val (Ss.getD t (0,1))) (R:=XH ps Bs) (a:=val A) (c:=(1 - val A) * ((1 / ((((outs ps (x:Int)).length:Nat):Rat)+1)) * val (Ts.getD x (0,1)))) (x:=x) (y:=y) a0 a1 (Z4x (by grind) (Z4x th tn)) (fun i t _ ht=>Z1c cb hn pr ht) (fun i _=>z8u lk cb hn pr i) hx hy fun t ht=>by
  have e1:=z7C ca cb hn ok ht;have e2:=z7C ca cb hn ok' ht;have e3:qs n (fun i=>val (Ts.getD i (0,1)) * XH ms Bs i t)=qs n (fun i=>val (Ts.getD i (0,1)) * XH ps Bs i t)+val (Ts.getD x (0,1)) * ((1 / ((((outs ps (x:Int)).length:Nat):Rat)+1)) * ((if t=y then 1 else 0) - XH ps Bs x t)):=by
   rw[zN (g:=fun i=>val (Ts.getD i (0,1)) * XH ps Bs i t+(if i=x then val (Ts.getD x (0,1)) * ((1 / ((((outs ps (x:Int)).length:Nat):Rat)+1)) * ((if t=y then 1 else 0) - XH ps Bs x t)) else 0)) fun i _=>?_,Zv,Z0E hx];by_cases z:i=x;subst z;rw[if_pos rfl,z6G pm];grind;rw[if_neg z,z6q pm z];grind
  have e4:qs n (fun i=>(val (Ts.getD i (0,1)) - val (Ss.getD i (0,1))) * XH ps Bs i t)=qs n (fun i=>val (Ts.getD i (0,1)) * XH ps Bs i t) - qs n (fun i=>val (Ss.getD i (0,1)) * XH ps Bs i t):=by
   rw[zN (g:=fun i=>val (Ts.getD i (0,1)) * XH ps Bs i t+(-1) * (val (Ss.getD i (0,1)) * XH ps Bs i t)) fun i _=>by grind,Zv,zY];grind
  show val (Ts.getD t (0,1)) - val (Ss.getD t (0,1))=_;rw[e4];rw[e3] at e2;generalize qs n (fun i=>val (Ts.getD i (0,1)) * XH ps Bs i t)=X at *;generalize qs n (fun i=>val (Ss.getD i (0,1)) * XH ps Bs i t)=Y at *;generalize XH ps Bs x t=Z at *;generalize 1 / ((((outs ps (x:Int)).length:Nat):Rat)+1)=U at *;rw[e1,e2];grind
 have h:0<=val (Ts.getD y (0,1)) - val (Ss.getD y (0,1)):=this;grind
end Pw
namespace L2
def FnAt(K:PySem.W.Frag)(n:Str)(st:Stmt):Prop:=∃ f fd,PySem.W.nsIn K mainGlobals n=some (some (.ref f))/\Vb K n n st f fd
theorem FnAt.of{n:Str}{st:Stmt}{kV:Value}(a:PySem.W.nsIn K mainGlobals n=some (some (.ref f)))(l:K.lookup f=some ⟨oc,od,.func (PySem.W.fnOf n n (ZT st) (Zy st) (ze st) .none kV doc pm an cdv ct),osl⟩)(c:PySem.W.codeIn K cdv n=true)(k:PySem.W.keepIn K (.ref f)=true):FnAt K n st:=⟨_,_,a,z1P l c k⟩
theorem FnAt.fnd{h:Heap}{n:Str}{st:Stmt}(ps:List Str)(x:FnAt K n st)(XK:K.In h)(G:h.Ns mainGlobals mg)(b:∀ (kV doc pm:Value) (an:Option Addr) (cdv ct:Value) (us:List Value),us.length=ps.length->bindArgs (PySem.W.fnOf n n (ZT st) (Zy st) (ze st) .none kV doc pm an cdv ct) ⟨us,[]⟩=pure (ps.zip us)):ZJ K mg n st ps:=by
 obtain⟨f,fd,a,F⟩:=x;exact⟨f,fd,F,Z4n XK G a,F.binds b⟩
def z8O(ns:List Nat):List V:=ns.map fun (k:Nat)=>V.int (k:Int)
abbrev yh(led:Bool):Obj:={ cls:=.type "set",dict:=none,data:=.set #[] 0 (.fresh 0 0 led) }
theorem boot_set:bootBuiltins "set"=some (.type "set"):=by decide +kernel
abbrev z5c(p:Pos):Arguments:={ posonlyargs:=[],args:=[{ arg:="page",annotation:=none,pos:=p }],vararg:=none,kwonlyargs:=[],kw_defaults:=[],kwarg:=none,defaults:=[] }
abbrev jr:Scope:={ kind:=.function,names:=[("page",.local),("numbers",.free)],isGenerator:=false,isCoroutine:=false }
abbrev z5n(p1 p2 p3 p4:Pos):Expr:=.UnaryOp .USub (.Subscript (.Name "numbers" p1) (.Name "page" p2) p3) p4
theorem z6j(hroom:A.depth<recursionLimit)(ho:s.heap.get? f=some (kla_obj "<lambda>" qual (z5c p) (z5n p1 p2 p3 p4) jr [("numbers",cN)] pm c' ctv))(hcd:s.heap.CodeRec (.ref c') qual)(lim:s.heap.NoLimit)(hcell:s.heap.IsCell cN (some (.ref nl)))(hl:s.heap.IsList nl its)(hi:0<=i)(hi2:i<2 ^ 63)(hx:its[i.toNat]?=some (.int x tx))(h:∀ h' tk t',(∀ b o,s.heap.get? b=some o->h'.get? b=some o)->Q (.int (-x) t') { s with heap:=h',toks:=tk }) :
 wpAny (model prog w) A (call (.ref f) [.int i t]) Q E s:=by
 refine wpAny_call (kla_callFunE hroom ho rfl rfl rfl rfl hcd ?_);show wpAny (model prog w) A.in1 (pure [(("page":Str),Value.int i t)]) _ _ s;refine wpAny_pure (wpAny_newFunctionEnv (show ∀ x∈jr.names,x.2≠.cell by decide) (fun y hy=>by rcases Z04.mp hy with rfl;rfl) (fun h₁ hns hsb=>?_) rfl);have kp:∀ b o,s.heap.get? b=some o->h₁.get? b=some o:=fun b o e=>hsb.extBut b o (Z0T (Z09 e)) (Z00 _ e);refine⟨lim.keeps kp,kla_codeExpr ?_⟩;obtain⟨oc,hoc,hdc⟩:=hcell;refine UnaryOp_ (Subscript_ (wpAny_Name (wpAny_loadName_free rfl rfl rfl ⟨oc,kp _ _ hoc,hdc⟩ (wpAny_Name (wpAny_loadName_local rfl rfl hns rfl ?_)))));exact item_listR (hl.at fun o e=>kp _ _ e) hi hi2 hx (neg_int (h h₁ _ _ kp)) rfl
def z5d(a:Addr)(o:Obj):HO:=.ext fun h=>h.get? a=some o
def uO(c:Addr)(qual:Str):HO:=.ext fun h=>h.CodeRec (.ref c) qual
def Tab(P:Addr)(pos:Pos)(qual:Str)(H:Hp):Prop:=H P=some (.vp #[])\/∃ c',H P=some (.vp #[rawInt pos.line,rawInt pos.col,.ref c'])/\H c'=some (uO c' qual)
def Bm(base:Heap)(mg:Str->Option Value):Prop:=∃ bm ob,mg "__builtins__"=some (.ref bm)/\bm≠builtinsNs/\bm≠mainGlobals/\base.get? bm=some ob/\ob.cls=.type "module"/\ob.dict=some builtinsNs/\ob.data=.plain
theorem U4(e:h.get? a=some o):Zw P w H h a (z5d a o):=⟨e,⟨o,e⟩,fun h1 h2 e1 k=>k o e1⟩
theorem z1K(e:h.CodeRec (.ref a) q):Zw P w H h a (uO a q):=by
 obtain⟨c,o,vs,t,ec,eo,d,v⟩:=id e;cases ec;refine⟨e,⟨o,eo⟩,fun h1 h2 e1 k=>?_⟩;obtain⟨c,o,vs,t,ec,eo,d,v⟩:=e1;cases ec;exact⟨_,o,vs,t,rfl,k o eo,d,v⟩
theorem z6O{X:Cx}{σ:St}(I:Inv X pins σ H s)(B:Bm X.base X.mg)(C:CodeHd X.base c P)(hcode:X.env.code=.ref c)(T:Tab P pos qual H)(hq:X.env.qual ++ "<lambda>"=qual)(hcl:closureFor jr X.env=pure [(("numbers":Str),cN)])(h:∀ f c' ctv pm H' s',Inv X pins σ H' s'->(∀ b o,b≠P->H b=some o->H' b=some o)->(∀ b,H b=none->b≠f->b≠c'->H' b=none)->H f=none->H' f=some (z5d f (kla_obj "<lambda>" qual (z5c p) (z5n p1 p2 p3 p4) jr [("numbers",cN)] pm c' ctv))->H' c'=some (uO c' qual)->Tab P pos qual H'->(∀ b o,b≠P->s.heap.get? b=some o->s'.heap.get? b=some o)->Q (.ref f) s') :
 wpAny (model X.prog X.w) X.A (eval (.Lambda (z5c p) (z5n p1 p2 p3 p4) jr pos) X.env) Q X.xe s:=by
 refine kla_eval rfl ?_;rw[hq];have hg:s.heap.Ns mainGlobals X.mg:=I.mod.glob.keeps I.bk;have tr:∃ u,H P=some u:=by
  rcases T with T |⟨_,T,_⟩;exact⟨_,T⟩;exact⟨_,T⟩
 have hgP:mainGlobals≠P:=fun q=>by
  obtain⟨o,es,ep,e,_⟩:=I.mod.glob;obtain⟨u,hu⟩:=tr;rw[q] at e;rw[(I.bs _ _ e).2] at hu;cases hu
 have hb:s.heap.BuiltinsAt X.mg P:=by
  obtain⟨bm,ob,b1,b2,b3,b4,b5⟩:=B;refine⟨bm,ob,b1,b2,b3,fun q=>?_,I.bk _ _ b4,b5⟩;obtain⟨u,hu⟩:=tr;rw[q] at b4;rw[(I.bs _ _ b4).2] at hu;cases hu
 rcases T with T |⟨c',T,Tc⟩;have hP:s.heap.get? P=some (tabObj #[]):=I.hok P _ T;refine kla_makeFunction (ps:=#[]) hcl I.ok.glob hg hcode (C.keeps I.bk) hP trivial rfl hgP hb fun c' ctv h' tk hx hge hlt hrec htb=>?_
 generalize hobj:kla_obj "<lambda>" qual (z5c p) (z5n p1 p2 p3 p4) jr [("numbers",cN)] ((X.mg "__name__").getD .none) c' ctv=ob;have nP:P<s.heap.objs.size:=Z09 hP;have fc:H c'=none:=I.hok.fresh hge;have sz:s.heap.objs.size<=h'.objs.size:=Z11 hge (Nat.le_of_lt hlt);have ff:H h'.objs.size=none:=I.hok.fresh sz;have cP:c'≠P:=fun q=>by subst q;exact Z2N _ (Z13 nP hge)
 have fP:h'.objs.size≠P:=fun q=>by rw[← q] at nP;exact Z2N _ (Z13 nP sz)
 have fc2:c'≠h'.objs.size:=Z0T hlt;have keep:∀ b o,b≠P->s.heap.get? b=some o->(h'.push ob).get? b=some o:=fun b o hb e=>Z00 _ (hx b o hb e);have htb':h'.get? P=some (tabObj #[rawInt pos.line,rawInt pos.col,.ref c']):=by simpa using htb
 generalize eH:upd (upd (upd H P (.vp #[rawInt pos.line,rawInt pos.col,.ref c'])) c' (uO c' qual)) h'.objs.size (z5d h'.objs.size ob)=H';have hf':H' h'.objs.size=some (z5d h'.objs.size ob):=by rw[← eH,zh]
 have hc':H' c'=some (uO c' qual):=by rw[← eH,zD fc2,zh]
 have hP':H' P=some (.vp #[rawInt pos.line,rawInt pos.col,.ref c']):=by rw[← eH,zD fP.symm,zD cP.symm,zh]
 have hO:∀ b,b≠P->b≠c'->b≠h'.objs.size->H' b=H b:=fun b h1 h2 h3=>by rw[← eH,zD h3,zD h2,zD h1]
 have hS:∀ b o,b≠P->H b=some o->H' b=some o:=fun b o h1 e=>by rw[hO b h1 (zo e fc) (zo e ff)];exact e
 have hok:Va X.prog X.w H' (h'.push ob):=fun b u e=>by
  by_cases b1:b=h'.objs.size;subst b1;rw[hf'] at e;cases e;exact U4 (Z08 _ (by rw[← hobj];rfl));by_cases b2:b=c';subst b2;rw[hc'] at e;cases e;obtain⟨c,o,vs,t,ec,eo,d,v⟩:=hrec;cases ec;exact z1K ⟨_,o,vs,t,rfl,Z00 _ eo,d,v⟩;by_cases b3:b=P;subst b3;rw[hP'] at e;cases e;exact Z00 _ htb';rw[hO b b3 b2 b1] at e;refine (I.hok b u e).stay (fun x v hx1 q=>keep x v ?_ q) (fun x q=>hS x _ ?_ q) fun x xs q=>hS x _ ?_ q;rintro rfl;rcases hx1 with z | z;exact b3 z.symm;rw[T] at z;cases z;rintro rfl;rw[T] at q;cases q;rintro rfl;rw[T] at q;cases q
 have un:Un X.fs [] H H' s.heap (h'.push ob):=by
  have nn:∀ b,H b=none->b≠P:=fun b n q=>by subst q;rw[T] at n;cases n
  refine⟨fun b o e n _ _=>keep b o (nn b n) e,fun b o e n _ _=>⟨o.slots,keep b o (nn b n) e⟩,fun b o e n _=>?_,fun b o e _=>?_,fun b xs e=>hS b _ ?_ e,fun b o u e=>hS b _ ?_ e,fun b ps e=>?_⟩;have lb:=Z09 e;rw[hO b (nn b n) (Z0T (Z13 lb hge)) (Z0T (Z13 lb sz))];exact n;by_cases z:b=P;subst z;exact⟨_,Z00 _ htb'⟩;exact⟨o,keep b o z e⟩;rintro rfl;rw[T] at e;cases e;rintro rfl;rw[T] at e;cases e;by_cases z:b=P;subst z;rw[T] at e;cases e;exact⟨#[rawInt pos.line,rawInt pos.col,.ref c'],by rw[hP'];simp⟩;exact⟨#[],by rw[hS b _ z e];simp⟩
 subst hobj;exact h _ c' ctv _ H' _ (I.un (t':=tk) un hok) hS (fun b n h1 h2=>by rw[hO b (fun q=>by subst q;rw[T] at n;cases n) h2 h1];exact n) ff hf' hc' (.inr ⟨c',hP',hc'⟩) keep;have hP:s.heap.get? P=some (tabObj #[rawInt pos.line,rawInt pos.col,.ref c']):=I.hok P _ T;refine kla_makeFunctionHit (ps:=#[rawInt pos.line,rawInt pos.col,.ref c']) (cv:=.ref c') hcl I.ok.glob hg hcode (C.keeps I.bk) hP trivial (by simp[codeAmong,rawInt]) hb fun ctv h' tk kp sz=>?_;generalize hobj:({ cls:=.type "function",data:=.func (kla_fn "<lambda>" qual (z5c p) (z5n p1 p2 p3 p4) jr [("numbers",cN)] ((X.mg "__name__").getD .none) (.ref c') ctv) }:Obj)=ob;have ff:H h'.objs.size=none:=I.hok.fresh sz;have kp':∀ b o,s.heap.get? b=some o->(h'.push ob).get? b=some o:=fun b o e=>Z00 _ (kp b o e);have hS:∀ b o,H b=some o->upd H h'.objs.size (z5d h'.objs.size ob) b=some o:=fun b o e=>by rw[zD (zo e ff)];exact e
 have J:=I.laid (t':=tk) (o:=z5d h'.objs.size ob) kp' sz (U4 (Z08 _ (by rw[← hobj];rfl)));subst hobj;exact h _ c' ctv _ _ _ J (fun b o _ e=>hS b o e) (fun b n h1 _=>by rw[zD h1];exact n) ff zh (hS _ _ Tc) (.inr ⟨c',hS _ _ T,hS _ _ Tc⟩) fun b o _ e=>kp' b o e
def Z1H(vs:List Value)(n:Nat):Prop:=vs.length=n/\∀ (j:Nat) (x:Value),vs[j]?=some x->∃ t,x=.int (j:Int) t
theorem jq{prog:Program}{w:World}{A:Around}{E:Value->Shared->Prop}{s:Shared}{r:Addr}{n:Nat}{t u v:Tok}{Q:Value->Shared->Prop}(hh:A.handled=none)(hr:IsRange s.heap r 0 (n:Int) 1 t u v)(hn:n<=1000)
 (h:∀ h' tk acc c,(∀ b o,b≠s.heap.objs.size->(s.heap.push { cls:=.type "list",data:=.seq ([]:List Value).toArray }).get? b=some o->h'.get? b=some o)->h'.get? s.heap.objs.size=some { cls:=.type "list",dict:=none,data:=.seq acc c,slots:=#[] }->ItemsOf (fun i v=>∃ t,v=.int (0+i * 1) t) acc n->Q (.ref s.heap.objs.size) { s with heap:=h',toks:=tk }) :
 wpAny (model prog w) A.in1 (Builtin.List.listExtendWith (.ref s.heap.objs.size) (.ref r) (.ref s.heap.objs.size))
  (fun fin s'=>match fin with | .done f=>(match (Except.ok f:Result) with | .ok (.ret v)=>Q v s' | .ok _=>False | .error e=>E e s') | .again c'=>c'.quiet=true/\codeAny (model prog w) A c' (fun r s'=>match r with | .ok (.ret v)=>Q v s' | .ok _=>False | .error e=>E e s') s') (fun e s'=>match (Except.error e:Result) with | .ok (.ret v)=>Q v s' | .ok _=>False | .error e=>E e s') { s with heap:=s.heap.push { cls:=.type "list",data:=.seq ([]:List Value).toArray } }:=by
 have hsm:Builtin.Range.small 0 (n:Int) 1=true:=small_one (by decide) (by decide) (by lia) (by lia);exact wpAny_extend_range (R:=fun r s'=>match r with | .ok (.ret v)=>Q v s' | .ok _=>False | .error e=>E e s') (s:={ s with heap:=s.heap.push { cls:=.type "list",data:=.seq ([]:List Value).toArray } }) (n:=n) hh (Z00 _ hr) hsm (by rw[rangeSize_one];split <;> lia) (by lia) s.heap.objs.size _ 0 (Z08 _ rfl) fun h' tk acc c kp hS hacc=>h h' tk acc c kp hS hacc
theorem J0(hh:A.handled=none)(hr:IsRange s.heap r 0 (n:Int) 1 t u v)(hn:n<=1000)(h:∀ h' tk vs,Z1H vs n->(∀ b o,s.heap.get? b=some o->h'.get? b=some o)->Q vs { s with heap:=h',toks:=tk }):wpAny (model prog w) A (collect (.ref r)) Q E s:=by
 unfold collect;refine wpAny_bind (wpAny_runValue (codeAny_builtin F.entry_proto_collect ?_));rw[Z45 F.plain_proto_collect _];show wpAny _ A.in1 (newList [] >>= fun l=>again (.builtin "list.__iadd__" ⟨[l,.ref r],[]⟩)) _ _ s;refine wpAny_bind (wpAny_newObj_type ?_);refine wpAny_pure ⟨plainId_quiet F.plain_list_iadd _,codeAny_builtin F.entry_list_iadd ?_⟩;rw[Z45 F.plain_list_iadd _];show wpAny _ A.in1 (Builtin.List.listExtendWith (.ref s.heap.objs.size) (.ref r) (.ref s.heap.objs.size)) _ _ _;refine jq (Q:=fun v s'=>wpAny (model prog w) A (match v with | .ref a=>do { let o ←load a;match o.data with | .seq xs _=>pure xs.toList | _=>unsupported "internal:collect" } | _=>unsupported "internal:collect") Q E s') hh hr hn fun h' tk acc c kp hS hacc=>?_
 show wpAny _ A (load s.heap.objs.size >>= _) _ _ _;refine wpAny_bind (wpAny_load hS (wpAny_pure ?_));refine h h' tk acc.toList ⟨by rw[Z06];exact hacc.1,fun j x hx=>?_⟩ fun b o e=>kp b o (Z0T (Z09 e)) (Z00 _ e);obtain⟨t,e⟩:=hacc.2 j x (by rw[← Z38];exact hx);exact⟨t,by rw[e];congr 1;lia⟩
theorem Jd(hh:A.handled=none)(hr:IsRange s.heap r 0 (n:Int) 1 t u v)(hn:n<=1000)(h:∀ (g:Heap) (D:Addr) (tk:Nat) (vs:List Value),Z1H vs n->(∀ b o,s.heap.get? b=some o->g.get? b=some o)->(∀ b o,s.heap.get? b=some o->b<D)->g.get? D=some (seqObj "list" vs.toArray 0)->
  wpAny (model prog w) A.in1.in1 (ksk_tree D (.ref f) false) (fun fin s'=>fin=.done (.ret .none)/\Q (.ref D) s') E { s with heap:=g,toks:=tk }) :
 wpAny (model prog w) A (call (.builtin "sorted") [.ref r] [(Str.ofString "key",.ref f)]) Q E s:=by
 refine call_function_entry_kw kind_sorted plain_sorted entry_sorted (ksk_s1 _ _) ?_;unfold Builtin.«sorted»;refine wpAny_bind (m:=checkCount "sorted" 1 1 _) (wpAny_pure ?_);refine wpAny_bind (J0 hh hr hn fun g tk vs hv kp=>?_);have few:vs.length<=sizeLine:=by rw[hv.1,sizeLine_eq];lia
 refine wpAny_bind (wpAny_newList ?_ few);have hoL:(g.push (seqObj "list" vs.toArray 0)).get? g.objs.size=some (seqObj "list" vs.toArray 0):=Z08 _ rfl;have lt:∀ b o,s.heap.get? b=some o->b<g.objs.size:=fun b o e=>Z09 (kp b o e);refine wpAny_bind (wpAny_holding (wpAny_call_entry_kw slot_list_sort ⟨_,hoL,rfl⟩ entry_list_sort ?body (ksk_l1 _ _)))
 case body =>
  show wpAny (model prog w) A.in1.in1 (Builtin.«list.sort» ⟨[.ref g.objs.size],[(Str.ofString "key",.ref f)]⟩) _ _ _;rw[ksk_t1];refine wpAny_mono (h (g.push (seqObj "list" vs.toArray 0)) g.objs.size tk vs hv (fun b o e=>Z00 _ (kp b o e)) lt hoL) (fun fin s' hf=>?_) fun _ _ e=>e;obtain⟨rfl,hq⟩:=hf;exact⟨_,rfl,wpAny_pure ⟨_,rfl,hq⟩⟩
theorem ints_snoc{ns:List Int}(h:IntsAre vs ns):IntsAre (vs ++ [.int k t]) (ns ++ [k]):=ksk_snoc h
theorem J2{Fin:List Value->Nat->Shared->Prop}(hv:Z1H vs n)(hk:∀ q∈news,q.1<D)(hDk:D<kS)(turn:∀ (i:Nat) (ti:Tok) (h:Heap) (tk:Nat) (R:Value->Shared->Prop),i<n->Fr h₀ L h m->News h₀ L h news->(∀ h' tk' t',(∀ b o,h.get? b=some o->h'.get? b=some o)->R (.int (key i) t') { s with heap:=h',toks:=tk' })->wpAny (model prog w) A (call (.ref f) [.int (i:Int) ti]) R (fun _ _=>False) { s with heap:=h,toks:=tk })(fin:∀ ks e h tk,Fr h₀ L h m->News h₀ L h ((kS,seqObj "list" (List.toArray ks) e) :: (D,seqObj "list" #[] e1) :: news)->IntsAre ks ((List.range n).map key)->Fin ks e { s with heap:=h,toks:=tk }) :
 ∀ (r:List Value) (j:Nat) (ks:List Value) (e:Nat) (h:Heap) (tk:Nat),r=vs.drop j->j<=n->Fr h₀ L h m->News h₀ L h ((kS,seqObj "list" (List.toArray ks) e) :: (D,seqObj "list" #[] e1) :: news)->IntsAre ks ((List.range j).map key)->KatKeys prog w A h₀ L m kS (.ref f) Fin r ks e { s with heap:=h,toks:=tk }
 | [],j,ks,e,h,tk,hr,hj,F,N,hi=>by
   have:j=n:=by
    have:=congrArg List.length hr;rw[Z30,hv.1] at this;simp at this;lia
   subst this;exact KatKeys.nil (fin ks e h tk F N hi)
 | v :: r,j,ks,e,h,tk,hr,hj,F,N,hi=>by
   have hlt:j<n:=by
    have:=congrArg List.length hr;rw[Z30,hv.1,Z0u] at this;lia
   have hd:vs.drop j=vs[j]'(by rw[hv.1];exact hlt) :: vs.drop (j+1):=List.drop_eq_getElem_cons (by rw[hv.1];exact hlt);rw[hd] at hr;injection hr with e1' e2';obtain⟨t,et⟩:=hv.2 j v (by rw[e1'];simp);subst et;refine KatKeys.cons (turn j t h tk _ hlt F (fun p hp=>N p (.tail _ (.tail _ hp))) fun h' tk' t' kp=>?_);refine KatBack.intro (F.kept kp) (N.grown kp) (.head fun p hp=>?_) fun h2 c F2 N2=>?_;rcases Z0z.mp hp with rfl | hp;exact Z0T hDk;exact Z0T (Nat.lt_trans (hk p hp) hDk);refine J2 hv hk hDk turn fin r (j+1) _ c h2 tk' e2' hlt F2 N2 ?_;rw[Z5p,Z15];exact ints_snoc hi
def ltK(key:Nat->Int)(i j:Nat):Bool:=decide (key i<key j)
theorem z8M(key:Nat->Int):Srt.Ord (ltK key):=by
 refine⟨fun i j h=>?_,fun i j k h1 h2=>?_⟩ <;> simp only[ltK,decide_eq_true_eq,decide_eq_false_iff_not] at * <;> lia
def Stb(key:Nat->Int)(p:List Nat):Prop:=∀ k,1<=k->k<p.length->key (p.getD (k - 1) 0)<key (p.getD k 0)\/(key (p.getD (k - 1) 0)=key (p.getD k 0)/\p.getD (k - 1) 0<=p.getD k 0)
theorem z5e{ps:List (Int×Value)}{kz:List Int}{vs:List Value}(h:ps.Perm (kz.zip vs))(hk:kz.length=vs.length)(hs:vs.length<2):ps.map Prod.snd=vs:=by
 rcases vs with _ |⟨y,_ |⟨z,r⟩⟩;have e:kz=[]:=List.eq_nil_of_length_eq_zero hk;subst e;rw[show ps=[] from List.perm_nil.mp h];rfl;obtain⟨k,rfl⟩:=List.length_eq_one_iff.mp hk;rw[show ps=[(k,y)] from List.perm_singleton.mp h];rfl;simp at hs;lia
theorem z5v{X:Cx}{σ:St}(I:Inv X pins σ H s)(hc:X.calm=true)(hr:IsRange s.heap r 0 (n:Int) 1 t u v)(h64:n<64)(turn:∀ (i:Nat) (ti:Tok) (h:Heap) (tk:Nat) (R:Value->Shared->Prop),i<n->(∀ b o,b≠X.env.locals->s.heap.get? b=some o->h.get? b=some o)->(∀ h' tk' t',(∀ b o,h.get? b=some o->h'.get? b=some o)->R (.int (key i) t') { s with heap:=h',toks:=tk' })->
  wpAny (model X.prog X.w) X.A.in1.in1 (call (.ref f) [.int (i:Int) ti]) R (fun _ _=>False) { s with heap:=h,toks:=tk })(q:∀ (p:List Nat) (D:Addr),p.Perm (List.range n)->Stb key p->H D=none->Q (.ref D) (upd H D (.lst (p.map fun (i:Nat)=>V.int (i:Int))))) :
 wpAny (model X.prog X.w) X.A (call (.builtin "sorted") [.ref r] [(Str.ofString "key",.ref f)]) (EP X pins σ Q) X.xe s:=by
 refine Jd (I.ok.hd hc) hr (by lia) fun g D tk vs hv kpg hDs hoL=>?_;obtain⟨m,hn,_⟩:=id I.loc;have F0:Fr X.base X.env.locals s.heap m:=⟨hn,I.bk,Z11 I.ok.bsz I.ok.above⟩;have F:=F0.kept kpg;have N:News X.base X.env.locals g (yC X.base s.heap X.env.locals):=News.grown JV kpg;have keepN:∀ {h':Heap}{r:List (Addr×Obj)},Fr X.base X.env.locals h' m->News X.base X.env.locals h' r->(∀ p∈yC X.base s.heap X.env.locals,p∈r)->∀ b o,b≠X.env.locals->s.heap.get? b=some o->h'.get? b=some o:=fun {h' r} F' N' sub b o hb e=>by
  cases z:X.base.get? b with
  | some u =>
    have:=I.bk b u z;rw[e] at this;cases this;exact F'.keep b _ z
  | none=>exact (N' (b,o) (sub _ (vK hb z e))).1
 have hLD:X.env.locals<D:=by obtain⟨o,_,_,ho,_⟩:=hn;exact hDs _ _ ho
 have hnD:∀ p∈yC X.base s.heap X.env.locals,p.1<D:=fun p hp=>hDs _ _ (xW hp).2.2;have hD0:X.base.get? D=none:=by
  cases z:X.base.get? D with
  | none=>rfl
  | some o=>exact absurd (hDs D o (I.bk _ _ z)) (Z2N _)
 have hHD:H D=none:=by
  cases z:H D with
  | none=>rfl
  | some u =>
    obtain⟨o,e⟩:=Zw.there (I.hok D u z);exact absurd (hDs _ _ e) (Z2N _)
 have turn':∀ (i:Nat) (ti:Tok) (h:Heap) (tk:Nat) (R:Value->Shared->Prop),i<n->Fr X.base X.env.locals h m->News X.base X.env.locals h (yC X.base s.heap X.env.locals)->(∀ h' tk' t',(∀ b o,h.get? b=some o->h'.get? b=some o)->R (.int (key i) t') { s with heap:=h',toks:=tk' })->
  wpAny (model X.prog X.w) X.A.in1.in1 (call (.ref f) [.int (i:Int) ti]) R (fun _ _=>False) { s with heap:=h,toks:=tk }:=fun i ti h tk R hi F' N' k=>turn i ti h tk R hi (keepN F' N' fun p hp=>hp) k
 have fin:∀ {p:List Nat}{h3:Heap}{tk3 c:Nat}{out:List Value},p.Perm (List.range n)->Stb key p->Fr X.base X.env.locals h3 m->(∀ b o,b≠X.env.locals->s.heap.get? b=some o->h3.get? b=some o)->h3.get? D=some (seqObj "list" out.toArray c)->out=(p.map fun i=>vs.getD i Value.none)->
  EP X pins σ Q (.ref D) { s with heap:=h3,toks:=tk3 }:=fun {p h3 tk3 c out} pm st F3 kp3 hD3 eo=>by
  have rel:Vals (p.map fun (i:Nat)=>V.int (i:Int)) out:=by
   subst eo;have key:∀ (l:List Nat),(∀ i∈l,i<n)->Vals (l.map fun (i:Nat)=>V.int (i:Int)) (l.map fun i=>vs.getD i Value.none):=by
    intro l
    induction l with
    | nil=>intro _;exact .nil
    | cons a l ih =>
      intro hl';have ha:a<vs.length:=(by rw[hv.1];exact hl' a Z0y);obtain⟨t,et⟩:=hv.2 a vs[a] (by simp[ha]);have e2:vs.getD a Value.none=vs[a]:=(by simp[ha]);rw[Z1y,Z1y,e2,et];exact .cons ⟨t,rfl⟩ (ih fun i hi=>hl' i (Z07 _ hi))
   exact key _ fun i hi=>Z23.mp (pm.mem_iff.mp hi)
  refine⟨.ref D,_,I.z1s (t':=tk3) hn F3 kp3 hHD (fun o e=>Z2N _ (hDs D o e)) hD3 rel ?_,rfl,q p D pm st hHD⟩;rw[ZB,pm.length_eq,Z2I,sizeLine_eq];lia
 by_cases h2:2<=n;have h2':2<=vs.length:=by rw[hv.1];exact h2
 refine kat_keyed F N hoL (Z33 hLD) hD0 (fun p hp=>Z0T (hnD p hp)) h2' (by rw[hv.1];exact h64) fun kS e1 h' F' N' l0 l1=>?_;refine J2 (s:=s) (n:=n) (key:=key) (D:=D) hv hnD l0 turn' (fun ks e h tk F2 N2 hi=>?_) vs 0 [] 0 h' tk rfl (Z18 _) F' N' .nil;have hkl:ks.length=n:=by rw[hi.length];simp
 rw[ksk_kind (keys:=List.toArray ks) (kz:=(List.range n).map key) (by simpa using hi) (by simpa using (by lia:2<=ks.length))];refine wpAny_pure ?_;show (kas_sort vs.length).kasWp (kas_ask X.prog X.w X.A.in1.in1 oneType' ks) (fun p s3=>KatFin X.base X.env.locals m kS D ks e e1 (p.toList.map fun i=>vs.getD i Value.none) _ s3) _;rw[hv.1];refine Srt.Jf (n:=n) (P:=fun s'=>s'={ s with heap:=h,toks:=tk }) (ltK key) (fun i j C s2 hi' hj p2 hc'=>?_) (kas_sort n) _ (Srt.UU (by lia)) rfl fun s2 p2=>?_;subst p2;unfold kas_ask;have gi:∀ {i:Nat},i<n->∃ t,ks.getD i Value.none=.int (key i) t:=fun {i} hi2=>by
  obtain⟨t,et⟩:=hi.get i (key i) (by simp[hi2]);exact⟨t,by rw[Z02,et];rfl⟩
 obtain⟨t1,e1⟩:=gi hi';obtain⟨t2,e2⟩:=gi hj;rw[e1,e2];exact kat_lt_int (hc' _ rfl);subst p2;obtain⟨pm,st⟩:=Srt.z0g (z8M key) (n:=n) (by lia);generalize Srt.run (ltK key) (kas_sort n)=p at *;have hpl:p.toList.length=n:=by rw[pm.length_eq,Z2I]
 refine KatFin.intro F2 N2 (.head fun x hx=>?_) fun h3 c3 F3 N3=>KasFin.intro F3 N3 (.tail (Z33 l0) (.head fun x hx=>Z0T (hnD x hx))) fun h4 c4 F4 N4=>⟨rfl,?_⟩;rcases Z0z.mp hx with rfl | hx;exact Z0T l0;exact Z0T (l1 x hx);refine fin pm (fun k k1 k2=>?_) F4 (keepN F4 N4 fun x hx=>.tail _ (.tail _ hx)) (N4 (D,listOf (List.toArray (p.toList.map fun i=>vs.getD i Value.none)) c4) (.tail _ (.head _))).1 rfl
 have:=st k k1 (by lia);rw[jC,jC];obtain⟨a1,a2⟩:=this;simp only[ltK,decide_eq_true_eq,decide_eq_false_iff_not] at a1 a2;lia;refine ksk_sort (s:={ s with heap:=g,toks:=tk }) (kz:=(List.range n).map key) F N hoL (Z33 hLD) hD0 (fun p hp=>Z0T (hnD p hp)) (by simp[hv.1]) (by rw[hv.1];exact h64) (fun i v k hvi hki h tk2 own F2 N2=>?_) fun h3 tk3 out c3 F3 N3 ko=>⟨rfl,?_⟩;have hi:i<n:=by rw[← hv.1];exact (Z12.mp hvi).1
 obtain⟨ti,rfl⟩:=hv.2 i v hvi;have:k=key i:=by
  rw[Z14,Z5r hi] at hki;exact (Z1X hki).symm
 subst this;exact turn' i ti h tk2 _ hi F2 (fun p hp=>N2 p (List.mem_append_left _ hp)) fun h' tk' t' kp=>⟨h',tk',t',rfl,rfl,F2.kept kp,N2.grown kp⟩;obtain⟨ps,hp,ho,_⟩:=ko;have eo:out.toList=vs:=by
  rw[ho];exact z5e hp (by simp[hv.1]) (by rw[hv.1];lia)
 refine fin (p:=List.range n) (List.Perm.refl _) (fun k k1 k2=>by rw[Z2I] at k2;lia) F3 (keepN F3 N3 fun x hx=>.tail _ hx) (out:=out.toList) (c:=c3) (by rw[Array.toArray_toList];exact (N3 _ (.head _)).1) ?_;rw[eo];have:∀ (l:List Value),(List.range l.length).map (fun i=>l.getD i Value.none)=l:=fun l=>by
  apply Z5f;simp;intro i h1 h2;simp at h1 h2 ⊢;simp[h1]
 rw[← hv.1];exact (this vs).symm
theorem z0s(h:env.cells.lookup ("numbers":Str)=some c):closureFor jr env=pure [(("numbers":Str),c)]:=by
 unfold closureFor;show (do let __s ←forIn [(("page":Str),NameKind.local),(("numbers":Str),NameKind.free)] ([]:List (Str×Addr)) _;pure __s)=_;rw[Z5s];simp only[show (NameKind.local == NameKind.free)=false from rfl,Bool.false_eq_true,if_false,pure_bind];rw[Z5s];simp only[show (NameKind.free == NameKind.free)=true from rfl,if_true,cellOf,h,pure_bind,List.forIn_nil]
theorem Inv.Z4a{X:Cx}{σ:St}(I:Inv X pins σ H s)(h:zQ X.K H a xs):a≠X.env.locals:=by
 rintro rfl;obtain⟨its,_,pl,_⟩:=I.list h;obtain⟨o,e,c,n,d⟩:=pl.isList;obtain⟨m,⟨o',es,ep,ho,hd,_⟩,_⟩:=I.loc;rw[e] at ho;cases ho;rw[d] at hd;cases hd
def z7O(K:PySem.W.Frag)(P:Addr)(pos:Pos)(qual:Str)(i:Nat)(ta:TA):TE:=fun σ H Q=>ta σ H fun vs H1=>∃ (n:Nat) (nl:Addr) (ms:List Int),vs=[.int (n:Int)]/\n<64/\σ[i]?=some (some (.ref nl))/\zQ K H1 nl (ms.map V.int)/\n<=ms.length/\Tab P pos qual H1/\
 ∀ (p:List Nat) (D:Addr) (H':Hp),p.Perm (List.range n)->Stb (fun i=>-(ms.getD i 0)) p->(∀ b o,b≠P->H1 b=some o->H' b=some o)->H1 D=none->H' D=some (.lst (p.map fun (i:Nat)=>V.int (i:Int)))->Tab P pos qual H'->Q (.ref D) H'
theorem z1w{X:Cx}{a:Expr}{ta:TA}{i:Nat}{P c:Addr}{qual:Str}{p p' q pos pos' pos2 kp p1 p2 p3 p4:Pos}(hr:Zk 2 X.A)(hc:X.calm=true)(B:Bm X.base X.mg)(C:CodeHd X.base c P)(hcode:X.env.code=.ref c)(hq:X.env.qual ++ "<lambda>"=qual)
 (hgS:Gl X "sorted") (hmS:X.mg "sorted"=none) (hgE:Gl X "range") (hmE:X.mg "range"=none) (hN:X.N[i]?=some ("numbers":Str)) (hK:X.env.scope.names.lookup ("numbers":Str)=some .cell) (ha:PA X [a] ta)
 (hs:starEach [.Call (.Name "range" p') [a] [] pos'] X.env=[(false,eval (.Call (.Name "range" p') [a] [] pos') X.env)]:=by rfl) (hs2:starEach [a] X.env=[(false,eval a X.env)]:=by rfl) :
 PE X (.Call (.Name "sorted" p) [.Call (.Name "range" p') [a] [] pos'] [⟨some "key",.Lambda (z5c q) (z5n p1 p2 p3 p4) jr pos2,kp⟩] pos) (z7O X.K P pos2 qual i ta):=by
 intro pins s σ H Q I h;refine wpAny_Call_Name_kw (yn I hgS hmS boot_sorted ?_ (by decide) (by decide));refine callWith_kw ?_ (by rw[hs];rfl) (by rw[hs];rfl);rw[hs];show wpAny _ _ (spliced ((false,eval (.Call (.Name "range" p') [a] [] pos') X.env) :: backTo pos [])) _ _ s;refine Calls.spliced_cons ?_;refine wpAny_Call_Name_kw (yn I hgE hmE boot_range ?_ (by decide) (by decide));refine Z2L (Zj (ha pos' pins s σ H _ I h) fun us s1 ⟨vs,H1,I1,r1,q1⟩=>?_) hs2 rfl;obtain⟨n,nl,ms,rfl,hn,hσ,hl,hml,T,q⟩:=q1;obtain⟨u,rfl,ru⟩:=vals1 r1;obtain⟨t,rfl⟩:=ru;refine call_range_1 ?_;refine Calls.spliced_nil ?_;refine kws_cons ?_;have hrng:IsRange (s1.heap.push { cls:=.type "range",data:=.fields #[.int 0 s1.toks,.int (n:Int) t,.int 1 (s1.toks+1)] }) s1.heap.objs.size 0 (n:Int) 1 s1.toks t (s1.toks+1):=IsRange.new ..;have I2:Inv X pins σ H1 { s1 with heap:=s1.heap.push { cls:=.type "range",data:=.fields #[.int 0 s1.toks,.int (n:Int) t,.int 1 (s1.toks+1)] },toks:=s1.toks+1+1 }:=I1.kept fun b o e=>Z00 _ e;obtain⟨cN,hcN⟩:=I2.ok.has "numbers" (.inl hK);have trP:∃ u,H1 P=some u:=by
  rcases T with T |⟨_,T,_⟩;exact⟨_,T⟩;exact⟨_,T⟩
 have rP:s1.heap.objs.size≠P:=fun z=>by
  obtain⟨u,hu⟩:=trP;have:=I1.hok.lt hu;rw[← z] at this;exact Z2N _ this
 refine z6O I2 B C hcode T hq (z0s hcN) fun f c' ctv pm H2 s2 I3 hS hF hf hf' hc' T' keep=>kws_nil ?_;have hrng2:=keep _ _ rP hrng;have hl2:zQ X.K H2 nl (ms.map V.int):=by
  have ne:∀ {o:HO},H1 nl=some o->(∀ ps,o≠.vp ps)->nl≠P:=fun {o} e no z=>by
   rcases T with T |⟨_,T,_⟩;rw[z,T] at e;cases e;exact no _ rfl;rw[z,T] at e;cases e;exact no _ rfl
  rcases hl with (e |⟨o,e⟩) | e;exact .inl (.inl (hS _ _ (ne e fun ps z=>by cases z) e))
  exact .inl (.inr ⟨o,hS _ _ (ne e fun ps z=>by cases z) e⟩);exact .inr e
 obtain⟨its,rv,pl,_⟩:=I3.list hl2;have ia:=intsAre_of rv;obtain⟨m,hns,hloc⟩:=I3.loc;obtain⟨u,ru,lk⟩:=hloc i "numbers" (.ref nl) hN hσ (.inr (.inl hK));obtain rfl:u=.ref nl:=ru;have cell:s2.heap.IsCell cN (some (.ref nl)):=by
  rcases lk with⟨k,_⟩|⟨_,c2,e2,z⟩;have k:X.env.scope.names.lookup ("numbers":Str)=some .local:=k;rw[hK] at k;cases k;rw[hcN] at e2;cases e2;exact z
 have hfo:s2.heap.get? f=some _:=(I3.hok f _ hf').1;have hcr:s2.heap.CodeRec (.ref c') qual:=(I3.hok c' _ hc').1;have neL:∀ {b:Addr}{o:HO},H2 b=some o->b≠X.env.locals:=fun {b o} e z=>by rw[z,I3.free] at e;cases e
 refine z5v (key:=fun i=>-(ms.getD i 0)) I3 hc hrng2 hn (fun j tj h tk R hj kp k=>?_) fun p D pm st hD=>?_;have hj2:j<ms.length:=Z13 hj hml;obtain⟨tx,hx⟩:=ia.get j ms[j] (by simp[hj2]);have ex:ms.getD j 0=ms[j]:=by simp[hj2]
 have bl:∀ b o,X.base.get? b=some o->b≠X.env.locals:=fun b o e z=>by
  have h1:=Z09 e;have h2:=Z11 I3.ok.bsz I3.ok.above;rw[z] at h1;exact absurd (Z13 h1 h2) (Z2N _)
 have hcr2:h.CodeRec (.ref c') qual:=by
  obtain⟨c,o,vs,t,ec,eo,d,v⟩:=hcr;cases ec;exact⟨_,o,vs,t,rfl,kp _ _ (neL hc') eo,d,v⟩
 have cell2:h.IsCell cN (some (.ref nl)):=by
  obtain⟨o,e,d⟩:=cell;exact⟨o,kp _ _ (I3.cne _ _ hcN) e,d⟩
 refine z6j (s:={ s2 with heap:=h,toks:=tk }) (i:=(j:Int)) (x:=ms[j]) (its:=its.toArray) (hr.in1.in1.depth) (kp _ _ (neL hf') hfo) hcr2 (I3.ok.mod.nolimit.keeps fun b o e=>kp b o (bl b o e) (I3.bk b o e)) cell2 (pl.isList.at fun o e=>kp _ _ (I3.Z4a hl2) e) (by lia) (by lia) (by simpa using hx) fun h' tk' t' kp'=>?_;have:=k h' tk' t' kp';rw[ex] at this;exact this;have hD1:H1 D=none:=by
  cases z:H1 D with
  | none=>rfl
  | some o =>
    by_cases e:D=P;subst e;rcases T' with T' |⟨_,T',_⟩;rw[T'] at hD;cases hD;rw[T'] at hD;cases hD;rw[hS _ _ e z] at hD;cases hD
 have up:∀ b o,H2 b=some o->upd H2 D (.lst (p.map fun (i:Nat)=>V.int (i:Int))) b=some o:=fun b o e=>by rw[zD (zo e hD)];exact e
 refine q p D _ pm st (fun b o hb e=>up b o (hS b o hb e)) hD1 zh ?_;rcases T' with T' |⟨c2,T',Tc⟩;exact .inl (up _ _ T');exact .inr ⟨c2,up _ _ T',up _ _ Tc⟩
def z6Y(P:Addr)(H:Hp):Prop:=H P=some (.vp #[])/\∀ b,b≠P->H b=none\/∃ o xs,H b=some (.frz o (.lst xs))
theorem z5q{ns:List Int}(KX:K.In s₁.heap)(hns:s₁.heap.Ns mainGlobals mg)(hb:s₁.heap.Ns builtinsNs mb)(hbb:∀ x:Str,x≠"__name__"->mb x=bootBuiltins x)(hlim:s₁.heap.NoLimit)(hg:s₁.gens=#[])(hbm:∃ bm ob,mg "__builtins__"=some (.ref bm)/\bm≠builtinsNs/\s₁.heap.get? bm=some ob/\ob.cls=.type "module"/\ob.dict=some builtinsNs/\ob.data=.plain)(hT:s₁.heap.get? tb=some (tabObj #[]))(hKT:K.lookup tb=none)(hC:codeHdIn K c tb=true)(ha:s₁.heap.get? a=some { cls:=.type "list",data:=.seq vs.toArray })(hi:IntsAre vs ns)(hl:ns.length<=sizeLine)(hr:Zk k callerA)(F:∀ base:Heap,K.In base->base.Ns mainGlobals mg->Bm base mg->ZK P w K mg base CX k fa fd [x] sp)(hbind:∀ (s:Shared) (u:Value),BindsTo s fd ⟨[u],[]⟩ [(x,u)])(hsp:∀ H:Hp,z6Y tb H->zQ K H a (ns.map V.int)->sp [.ref a] H (fun v _=>v=.bl true) fun _ _ _=>False)(hCX:∀ H e s',CX [] H s₁ (fun _ _ _=>False) e s'->False) :
 codeAny (model P w) callerA (.call (.ref fa) ⟨[.ref a],[]⟩) (fun r s'=>r=.ok (.ret (.bool true))/\OldK s₁.heap s'.heap/\s'.os=s₁.os/\AllBare s'.gens) s₁:=by
 have rv:=U7 hi;have lenV:=hi.length;have at_:a≠tb:=fun z=>by rw[z,hT] at ha;cases ha
 have core:∀ H:Hp,z6Y tb H->zQ K H a (ns.map V.int)->Va P w H s₁.heap->(∀ b,H b≠none->b=a\/b=tb)->(H a≠none->K.lookup a=none)->
  codeAny (model P w) callerA (.call (.ref fa) ⟨[.ref a],[]⟩) (fun r s'=>r=.ok (.ret (.bool true))/\OldK s₁.heap s'.heap/\s'.os=s₁.os/\AllBare s'.gens) s₁:=by
  intro H hO hS hok hA hK;have base_of:∀ {b:Addr}{o:Obj},s₁.heap.get? b=some o->H b=none->(Ue s₁.heap H).get? b=some o:=fun e n=>z7G e n;have noO:∀ {b:Addr}{o:Obj},s₁.heap.get? b=some o->(∀ its n,o.data≠.seq its n)->o.cls≠.none->H b=none:=fun {b o} e d1 d2=>by
   cases q:H b with
   | none=>rfl
   | some u =>
     rcases hA b (by rw[q];simp) with e' | e';subst e';rw[ha] at e;cases e;exact absurd rfl (d1 _ _);subst e';rw[hT] at e;cases e;exact absurd rfl d2
  have noA:∀ {b:Addr}{o:Obj}{es:Array DictEntry}{ep:Nat},s₁.heap.get? b=some o->o.data=.dict es ep->H b=none:=fun {b o es ep} e d=>by
   cases q:H b with
   | none=>rfl
   | some u =>
     rcases hA b (by rw[q];simp) with e' | e';subst e';rw[ha] at e;cases e;have d':Data.seq vs.toArray _=Data.dict es ep:=d;cases d';subst e';rw[hT] at e;cases e;have d':Data.fields #[]=Data.dict es ep:=d;cases d'
  have nsK:∀ {b:Addr}{m:Str->Option Value},s₁.heap.Ns b m->(Ue s₁.heap H).Ns b m:=fun {b m} ⟨o,es,ep,e,d,r⟩=>⟨o,es,ep,base_of e (noA e d),d,r⟩;have hKb:K.In (Ue s₁.heap H):=fun b o e=>base_of (KX b o e) (by
   cases q:H b with
   | none=>rfl
   | some u =>
     rcases hA b (by rw[q];simp) with e' | e';subst e';rw[hK (by rw[q];simp)] at e;cases e;subst e';rw[hKT] at e;cases e)
  have hM:Mod K mg (Ue s₁.heap H):=⟨hKb,nsK hns,⟨mb,nsK hb,hbb⟩,let ⟨mc,h1,h2⟩:=hlim;⟨mc,nsK h1,h2⟩⟩;have hBm:Bm (Ue s₁.heap H) mg:=by
   obtain⟨bm,ob,b1,b2,b3,b4,b5,b6⟩:=hbm;refine⟨bm,ob,b1,b2,fun z=>?_,base_of b3 (noO b3 (fun its n z=>by rw[b6] at z;cases z) (by rw[b4];intro z;cases z)),b4,b5,b6⟩;obtain⟨o,es,ep,e,d,_⟩:=hns;rw[z,e] at b3;cases b3;rw[d] at b6;cases b6
  have e0:z1m P w K mg (Ue s₁.heap H) callerA [] s₁ H:=⟨rfl,hM,fun b o e=>ji e,Nat.le_of_eq (z5t _ _),trivial,fun b hb=>absurd (show b∈([]:List Addr) from hb) (by simp),hok,.of_eq hg⟩;refine codeAny_mono ((F _ hKb (nsK hns) hBm).run callerA [] s₁ H ⟨[.ref a],[]⟩ [.ref a] [.ref a] _ _ hr e0 (hbind s₁ (.ref a)) (.cons rfl .nil) (hsp H hO hS)) fun r s' h=>?_;cases r with
  | error e=>exact (hCX H e s' h).elim
  | ok fl =>
    cases fl with
    | next=>exact False.elim h
    | brk=>exact False.elim h
    | cont=>exact False.elim h
    | ret u =>
      obtain⟨v,H',os,bare,un,hok',r',q⟩:=h;have q':v=.bl true:=q;subst q';obtain rfl:u=Value.bool true:=r';have kept:∀ b o,b≠tb->s₁.heap.get? b=some o->s'.heap.get? b=some o:=fun b o hb e=>by
       cases q:H b with
       | none=>exact un.keep b o e q (by intro z;exact absurd (show b∈([]:List Addr) from z) (by simp)) (by simp)
       | some u =>
         rcases hO.2 b hb with z |⟨ob,xs,z⟩;rw[q] at z;cases z;have z2:=un.frzs b ob _ z;obtain⟨e1,_⟩:=hok b _ z;obtain⟨e2,_⟩:=hok' b _ z2;rw[e] at e1;cases e1;exact e2
      refine⟨rfl,?_,os,bare⟩;obtain⟨more,hm⟩:=un.tbls tb _ hO.1;have ht':s'.heap.get? tb=some (tabObj (#[] ++ more)):=hok' tb _ hm;have C1:CodeHd s₁.heap c tb:=codeHd_of_K KX hC;have C2:CodeHd s'.heap c tb:=(codeHd_of_K hKb hC).keeps fun b o e=>kept b o (fun z=>by rw[z] at e;have:=(ji e).2;rw[hO.1] at this;cases this) (ji e).1;refine OldK.step_table (.refl _) (C1.tab hT) (C1.tab hT) (C2.tab ht') kept fun z=>?_;obtain⟨mc,⟨o,es,ep,e,d,_⟩,_⟩:=hlim;rw[← z,hT] at e;cases e;cases d
 cases hk:K.lookup a with
 | some o =>
   have e:=KX a o hk;rw[ha] at e;cases e;refine core (fun b=>if b=tb then some (.vp #[]) else none) ⟨if_pos rfl,fun b hb=>.inl (if_neg hb)⟩ (.inr ⟨_,vs.toArray,_,hk,rfl,rfl,rfl,by rw[Z05,lenV];exact hl,by simpa using rv⟩) (fun b u z=>?_) (fun b z=>?_) fun z=>absurd (if_neg at_) z;by_cases hb:b=tb;have z':=(if_pos hb).symm.trans z;cases z';subst hb;exact hT;have z':=(if_neg hb).symm.trans z;cases z';by_cases hb:b=tb;exact .inr hb;exact absurd (if_neg hb) z
 | none =>
   refine core (fun b=>if b=tb then some (.vp #[]) else if b=a then some (.frz { cls:=.type "list",data:=.seq vs.toArray } (.lst (ns.map V.int))) else none) ⟨if_pos rfl,fun b hb=>?_⟩ (.inl (.inr ⟨{ cls:=.type "list",data:=.seq vs.toArray },?_⟩)) (fun b u z=>?_) (fun b z=>?_) fun _=>hk;show (if b=tb then _ else _)=none\/∃ o xs,(if b=tb then _ else _)=some _;rw[if_neg hb];by_cases hb2:b=a;exact .inr ⟨_,_,if_pos hb2⟩;exact .inl (if_neg hb2);show (if a=tb then _ else _)=some _;rw[if_neg at_];exact if_pos rfl;have z:(if b=tb then some (HO.vp #[]) else if b=a then some (.frz { cls:=.type "list",data:=.seq vs.toArray } (.lst (ns.map V.int))) else none)=some u:=z;by_cases hb:b=tb;rw[if_pos hb] at z;cases z;subst hb;exact hT;rw[if_neg hb] at z;by_cases hb2:b=a;rw[if_pos hb2] at z;cases z;subst hb2;exact⟨ha,by rw[ZB];exact hl,vs,_,rv,ha⟩;rw[if_neg hb2] at z;cases z;have z:(if b=tb then some (HO.vp #[]) else if b=a then some (.frz { cls:=.type "list",data:=.seq vs.toArray } (.lst (ns.map V.int))) else none)≠none:=z;by_cases hb:b=tb;exact .inr hb;rw[if_neg hb] at z;by_cases hb2:b=a;exact .inl hb2;exact absurd (if_neg hb2) z
theorem z8d{l:PySem.W.OpenLaw}{d:DefRec}{K:Params->PySem.W.Frag}{CX:World->Ji}{sp:World->Sp}{x:Str}(hn:l.most=some n)(hn2:n<=sizeLine)(hdf:d.params.defaults=[])(hr:Zk k callerA)(hY:∀ (w:World) (h:Heap),YP w h->(K w.params).In h)(hT:∀ (w:World) (h:Heap),YP w h->h.get? tb=some (tabObj #[]))(hKT:∀ p:Params,(K p).lookup tb=none)(hC:∀ p:Params,codeHdIn (K p) c tb=true)(F:∀ (w:World) (mg:Str->Option Value) (fa:Addr) (h:Heap),(K w.params).In h->h.Ns mainGlobals mg->mg d.name=some (.ref fa)->
  ∃ fd:FuncData,(∀ (s:Shared) (u:Value),BindsTo s fd ⟨[u],[]⟩ [(x,u)])/\
    ∀ base:Heap,(K w.params).In base->base.Ns mainGlobals mg->Bm base mg->ZK l.prog w (K w.params) mg base (CX w) k fa fd [x] (sp w))(hsp:∀ (w:World) (H:Hp) (a:Addr) (ns:List Int),ns.length<=n->z6Y tb H->zQ (K w.params) H a (ns.map V.int)->sp w [.ref a] H (fun v _=>v=.bl true) fun _ _ _=>False)(hCX:∀ (w:World) (H:Hp) (s:Shared) (e:Value) (s':Shared),CX w [] H s (fun _ _ _=>False) e s'->False) :
 PySem.W.WalkO q loose XP YP l.row.toRowW d [] (fun f vs=>PySem.call f vs):=by
 refine Att.z0q hn hdf fun w s₀ s₁ mg mb fa o pm cd doc a vs ns G Y ho hd hcd hmg hobj hints hlen hg=>?_;have KX:=hY w _ Y;obtain⟨fd,hb,hF⟩:=F w mg fa _ KX G.T.g hmg;exact z5q KX G.T.g G.T.b G.T.builtins G.T.nolimit hg G.T.bmain (hT w _ Y) (hKT w.params) (hC w.params) hobj hints (Z11 hlen hn2) hr hF hb (fun H hO hS=>hsp w H a ns hlen hO hS) fun H e s'=>hCX w H s₁ e s'
theorem Vb.okC{st:Stmt}(F:Vb K x qual st f fd)(S:zE N ps (ze st))(len:∀ vs H Q E,sp vs H Q E->vs.length=ps.length)(hbody:∀ (cdv:Value) (A:Around) (outer:List Env) (s:Shared) (H:Hp) (vs:List V) (Q:VK) (E:XK),fd.code=cdv->Zk k (A.deeper (envOfC qual (ze st) s.heap.objs.size f cdv))->sp vs H Q E->
  ∃ t,QW (Jx yk P w K mg base N qual (ze st) f cdv A outer s H E).nox (Zy st) t/\t { nx:=fun _ H'=>Q .Zr H',rt:=Q } (start N vs) H):ZK P w K mg base yk (k+1) f fd ps sp:=by
 obtain⟨oc,od,kV,doc,pm,an,cdv,ct,osl,rfl,lk,hcd⟩:=F.ex;refine Z0m lk hcd S len fun A outer s H vs Q E hr hsp=>?_;obtain⟨t,h,q⟩:=hbody cdv A outer s H vs Q E rfl hr hsp;exact⟨t,h.nox,q⟩
end L2
namespace Pw
def RkR(Ss:List (Int×Int))(i j:Nat):Prop:=val (Ss.getD j (0,1))<val (Ss.getD i (0,1))\/(val (Ss.getD i (0,1))=val (Ss.getD j (0,1))/\i<j)
theorem RkR.trans(i j k:Nat)(h:RkR Ss i j)(h':RkR Ss j k):RkR Ss i k:=by
 unfold RkR at *;rcases h with h |⟨h,l⟩ <;> rcases h' with h' |⟨h',l'⟩;exact .inl (Std.lt_trans h' h);exact .inl (by rw[← h'];exact h);exact .inl (by rw[h];exact h');exact .inr ⟨h.trans h',by lia⟩
structure Rkd(Ss:List (Int×Int))(n:Nat)(p:List Nat):Prop where
 pm:p.Perm (List.range n)
 up:p.Pairwise (RkR Ss)
theorem Z3n(hl:Ss.length=n)(pos:∀ S∈Ss,0<S.2)(hL:0<L)(dv:∀ S∈Ss,S.2∣L)(pm:p.Perm (List.range n))(st:L2.Stb (fun i=>-((yq Ss L).getD i 0)) p):Rkd Ss n p:=by
 refine⟨pm,L2.yM RkR.trans p fun k a b ha hb=>?_⟩;have hk:k+1<p.length:=(Z12.mp hb).1;have s:=st (k+1) (by lia) hk;have ga:p.getD (k+1 - 1) 0=a:=by rw[Nat.add_sub_cancel,Z02,ha];rfl
 have gb:p.getD (k+1) 0=b:=by rw[Z02,hb];rfl
 rw[ga,gb] at s;have nd:p.Nodup:=pm.nodup_iff.mpr List.nodup_range;have ne:a≠b:=fun e=>by
  subst e;have:=(List.getElem?_inj (show k<p.length by lia) nd).mp (ha.trans hb.symm);lia
 have lt:∀ x,x∈p->x<n:=fun x hx=>Z23.mp (pm.mem_iff.mp hx);have key:∀ x,x<n->(((yq Ss L).getD x 0:Int):Rat)=val (Ss.getD x (0,1)) * (L:Rat):=fun x hx=>by
  have hx':x<Ss.length:=by lia
  have e1:(yq Ss L).getD x 0=Ss[x].1 * (L.fdiv Ss[x].2):=by unfold yq;simp[hx']
  have e2:Ss.getD x (0,1)=Ss[x]:=by simp[hx']
  rw[e1,e2];exact j6 (pos _ (Z26 _)) hL (dv _ (Z26 _))
 have ka:=key a (lt a (Z21 ha));have kb:=key b (lt b (Z21 hb));have L0:(0:Rat)<(L:Rat):=by exact_mod_cast hL
 dsimp only at s;rcases s with s |⟨s,l⟩;refine .inl ?_;have:(yq Ss L).getD b 0<(yq Ss L).getD a 0:=by lia
 have:(((yq Ss L).getD b 0:Int):Rat)<(((yq Ss L).getD a 0:Int):Rat):=by exact_mod_cast this
 rw[ka,kb] at this;exact (Rat.mul_lt_mul_right L0).mp this;refine .inr ⟨?_,by lia⟩;have:(yq Ss L).getD a 0=(yq Ss L).getD b 0:=by lia
 rw[this,kb] at ka;refine Rat.le_antisymm (Rat.not_lt.mp fun z=>?_) (Rat.not_lt.mp fun z=>?_);have:=(Rat.mul_lt_mul_right L0).mpr z;rw[ka] at this;exact absurd this Rat.lt_irrefl;have:=(Rat.mul_lt_mul_right L0).mpr z;rw[ka] at this;exact absurd this Rat.lt_irrefl
end Pw
namespace L2
def XG:Str:=("ranked":Str) ++ ".<locals>." ++ "<lambda>"
def JM(K:PySem.W.Frag)(tb:Addr)(pos:Pos):Sp:=fun vs H Q _=>∃ (w lp ls:Addr) (pages:Int) (ps:List (Int×Int)) (A:Int×Int) (Bs:List (Int×Int)) (us:List V) (S:Int) (z:Nat),vs=[.ref w,.ref lp,.ref ls]/\Gv K H w lp ls pages ps A Bs us/\Pr A Bs S/\pages<=12/\z<=140/\yc z A/\Sz z S/\Tab tb pos XG H/\
 ∀ (D:Addr) (H':Hp) (Ss:List (Int×Int)) (p:List Nat),Pw.Zi ps A Bs pages.toNat Ss->Pw.Rkd Ss pages.toNat p->Kp tb H H'->H D=none->H' D=some (.lst (z8O p))->Tab tb pos XG H'->Q (.ref D) H'
def xD(K:PySem.W.Frag)(nm:Str)(c:Addr):Prop:=∃ f oc od fd sl,PySem.W.nsIn K mainGlobals nm=some (some (.ref f))/\K.lookup f=some ⟨oc,od,.func fd,sl⟩/\fd.code=.ref c
theorem xD.at{st:Stmt}(x:xD K nm c)(XK:K.In h)(G:h.Ns mainGlobals mg)(F:Vb K nm nm st f fd)(m:mg nm=some (.ref f)):fd.code=.ref c:=by
 obtain⟨f',oc,od,fd',sl,a,l,e⟩:=x;have:=(Z4n XK G a).symm.trans m;cases this;obtain⟨oc2,od2,kV,doc,pm,an,cdv,ct,osl,e2,lk,_⟩:=F.ex;rw[l] at lk;injection lk with lk;injection lk with _ _ h3 _;injection h3 with h3;rw[← h3];exact e
theorem ZJ.Z5g{st:Stmt}(S:ZJ K mg nm st ps)(C:xD K nm c)(XK:K.In h)(G:h.Ns mainGlobals mg)(hh:∀ f fd,Vb K nm nm st f fd->fd.code=.ref c->ZK P w K mg base yk k f fd ps sp):Def P w K mg base k nm ps sp:=by
 obtain⟨f,fd,F,m,b⟩:=S;exact⟨f,fd,F.kp,m,b,hh f fd F (C.at XK G F m)⟩
structure KU(H H':Hp):Prop where
 tup:∀ b xs,H b=some (.tup xs)->H' b=some (.tup xs)
 frz:∀ b o u,H b=some (.frz o u)->H' b=some (.frz o u)
theorem zC.ku(s:zC H H'):KU H H':=⟨fun b _ h=>s b _ h,fun b _ _ h=>s b _ h⟩
theorem Kp.ku(k:Kp p H H')(h:(∃ xs,H p=some (.lst xs))\/∃ ps,H p=some (.vp ps)):KU H H':=by
 refine⟨fun b xs e=>k b _ e ?_,fun b o u e=>k b _ e ?_⟩ <;>
 · rintro rfl
   rcases h with⟨_,z⟩|⟨_,z⟩ <;> (rw[e] at z;cases z)
theorem KU.YT(e:KU H H')(h:zX K H a xs):zX K H' a xs:=by
 rcases h with (h |⟨o,h⟩) | h;exact .inl (.inl (e.tup _ _ h));exact .inl (.inr ⟨o,e.frz _ _ _ h⟩);exact .inr h
theorem Zp.ku(k:KU H H'):∀ {ps:List (Int×Int)}{vs:List V},Zp K H ps vs->Zp K H' ps vs
 | [],vs,h=>by
   simp only[Zp,Z42,Zg] at h;subst h;exact Xa
 | p :: ps,vs,h=>by
   obtain⟨a,r,rfl,hq,hr⟩:=yo h;exact YW (k.YT hq) (Zp.ku k hr)
theorem yp.ku(k:KU H H'):∀ {As:List (Int×Int)}{vs:List V},yp K H As vs->yp K H' As vs
 | [],_,h=>h
 | A :: As,_,⟨p,r,e,f,h⟩=>⟨p,r,e,k.tup _ _ f,yp.ku k h⟩
def Kx(S:List Addr)(H H':Hp):Prop:=∀ b o,H b=some o->b∉S->H' b=some o
theorem Kx.refl(S:List Addr)(H:Hp):Kx S H H:=fun _ _ h _=>h
theorem Kx.trans(a:Kx S H H1)(b:Kx S H1 H2):Kx S H H2:=fun c o h n=>b c o (a c o h n) n
theorem zC.kx(s:zC H H'):Kx S H H':=fun b o h _=>s b o h
theorem Kp.kx(k:Kp p H H')(h:p∈S):Kx S H H':=fun b o e n=>k b o e fun z=>n (z ▸ h)
theorem Kp.kxn(k:Kp p H H')(a:Kx S H0 H)(h:H0 p=none):Kx S H0 H':=fun b o e n=>k b o (a b o e n) (zo e h)
theorem Tab.same(t:Tab tb pos q H)(s:zC H H'):Tab tb pos q H':=by
 rcases t with t |⟨c,h1,h2⟩;exact .inl (s _ _ t);exact .inr ⟨c,s _ _ h1,s _ _ h2⟩
theorem Tab.vp(t:Tab tb pos q H):∃ ps,H tb=some (.vp ps):=by
 rcases t with t |⟨c,h1,_⟩;exact⟨_,t⟩;exact⟨_,h1⟩
theorem Tab.ne(t:Tab tb pos q H)(h:H b=some o)(n:∀ ps,o≠.vp ps):b≠tb:=fun z=>by
 obtain⟨ps,e⟩:=t.vp;rw[z,e] at h;cases h;exact n _ rfl
theorem Tab.free(t:Tab tb pos q H)(h:H b=none):b≠tb:=fun z=>by
 obtain⟨ps,e⟩:=t.vp;rw[z,e] at h;cases h
theorem zQ.kx(h:zQ K H a xs)(k:Kx S H H')(n:∀ o,H a=some o->(∀ ps,o≠.vp ps)->a∉S):zQ K H' a xs:=by
 rcases h with (h |⟨o,h⟩) | h;exact .inl (.inl (k _ _ h (n _ h fun _ z=>by cases z)))
 exact .inl (.inr ⟨o,k _ _ h (n _ h fun _ z=>by cases z)⟩);exact .inr h
theorem xD.of(a:PySem.W.nsIn K mainGlobals nm=some (some (.ref f)))(l:K.lookup f=some ⟨oc,od,.func fd,sl⟩)(e:fd.code=.ref c):xD K nm c:=⟨f,oc,od,fd,sl,a,l,e⟩
def Jt(K:PySem.W.Frag)(C:Addr)(m q:Str)(st:Stmt):Prop:=∃ f fd,Meth K C m f/\Vb K m q st f fd
theorem Jt.of{st:Stmt}{kV:Value}(a:PySem.W.findIn K (.ref C) m=some (some (.ref f)))(i:PySem.W.isFn K (.ref f)=true)(l:K.lookup f=some ⟨oc,od,.func (PySem.W.fnOf m q (ZT st) (Zy st) (ze st) .none kV doc pm an cdv ct),osl⟩)(c:PySem.W.codeIn K cdv q=true)(k:PySem.W.keepIn K (.ref f)=true):Jt K C m q st:=⟨_,_,⟨a,i,k⟩,z1P l c k⟩
def vZ(K:PySem.W.Frag)(C:Addr)(m q:Str)(st:Stmt)(ps:List Str):Prop:=∃ (f:Addr) (fd:FuncData),Vb K m q st f fd/\Meth K C m f/\Binds K fd ps []
theorem Jt.fnd{st:Stmt}(ps:List Str)(x:Jt K C m q st)(b:∀ (kV doc pm:Value) (an:Option Addr) (cdv ct:Value) (us:List Value),us.length=ps.length->bindArgs (PySem.W.fnOf m q (ZT st) (Zy st) (ze st) .none kV doc pm an cdv ct) ⟨us,[]⟩=pure (ps.zip us)):vZ K C m q st ps:=by
 obtain⟨f,fd,a,F⟩:=x;exact⟨f,fd,F,a,F.binds b⟩
def Z1(P:Program)(w:World)(K:PySem.W.Frag)(mg:Str->Option Value)(base:Heap)(CX:Ji)(k:Nat)(C:Addr)(m:Str)(ps:List Str)(sp:Sp):Prop :=
 ∃ (f:Addr) (fd:FuncData),Meth K C m f/\Binds K fd ps []/\ZK P w K mg base CX k f fd ps sp
theorem vZ.def{st:Stmt}(S:vZ K C m q st ps)(h:∀ f fd,Vb K m q st f fd->ZK P w K mg base CX k f fd ps sp):Z1 P w K mg base CX k C m ps sp:=by
 obtain⟨f,fd,F,a,b⟩:=S;exact⟨f,fd,a,b,h f fd F⟩
theorem z3k{e:Expr}(hst:starEach (e :: es) X.env=(false,eval e X.env) :: starEach es X.env)(hpl:(backTo pos (starEach es X.env)).any (·.1)=false)(ht:eval (.Call (.Attribute o m apos) (e :: es) [] pos) X.env=(do
  let ov ←eval o X.env
  standAt apos.atName
  let (f,first) ←holding [ov] (getMethod ov m pl)
  callWith pos f first (backTo pos (starEach (e :: es) X.env)) (backToKw pos (keywordEach [] X.env))))(he:PE X o ta)(c:Cls X.K C)(D:Z1 X.prog X.w X.K X.mg X.base CX k C m ps sp)(hr:Zk k X.A)(hx:Passes CX X E)(ha:PA X (e :: es) t) :
 PE X (.Call (.Attribute o m apos) (e :: es) [] pos) (UN C m sp [] E ta t):=by
 obtain⟨f,fd,a,b,F⟩:=D;exact z9J he c a F hr b .nil hx ha hst hpl ht
theorem JX(ht:eval (.Call (.Attribute o m apos) [] [] pos) X.env=(do
 let ov ←eval o X.env
 standAt apos.atName
 let (f,first) ←holding [ov] (getMethod ov m pl)
 callWith pos f first (backTo pos (starEach [] X.env)) (backToKw pos (keywordEach [] X.env))))(he:PE X o ta)(c:Cls X.K C)(D:Z1 X.prog X.w X.K X.mg X.base CX k C m ps sp)(hr:Zk k X.A)(hx:Passes CX X E) :
 PE X (.Call (.Attribute o m apos) [] [] pos) (UN C m sp [] E ta Ub):=by
 obtain⟨f,fd,a,b,F⟩:=D;exact z7j he c a F hr b .nil hx ht
def MkD(P:Program)(w:World)(K:PySem.W.Frag)(mg:Str->Option Value)(base:Heap)(CX:Ji)(k:Nat)(C:Addr)(x:Str)(ps:List Str)(sp:Sp):Prop :=
 ∃ (f:Addr) (fd:FuncData),Mk K C f/\mg x=some (.ref C)/\Binds K fd ps []/\ZK P w K mg base CX k f fd ps sp
theorem uu{e:Expr}(hg:Gl X x)(he:starEach (e :: es) X.env=(false,eval e X.env) :: starEach es X.env)(hpl:(backTo pos (starEach es X.env)).any (·.1)=false)(hdb:(x == ("__debug__":Str))=false)(D:MkD X.prog X.w X.K X.mg X.base CX k C x ps sp)(hr:Zk (k+1) X.A)(hx:Passes CX X E)(ha:PA X (e :: es) t) :
 PE X (.Call (.Name x p) (e :: es) [] pos) (z3r C sp [] E t):=by
 obtain⟨f,fd,a,b,c,F⟩:=D;exact z9w a F hr hg b c .nil hx ha hdb he hpl
theorem Def.Z0S(D:Def P w K mg base k nm ps sp)(h:mg nm'=mg nm):Def P w K mg base k nm' ps sp:=by
 obtain⟨f,fd,a,b,c,F⟩:=D;exact⟨f,fd,a,h.trans b,c,F⟩
abbrev Wb:=Int×List (Int×Int)
theorem kNL:¬ (("now":Str)="leap"):=by decide +kernel
theorem kNP:¬ (("now":Str)="past"):=by decide +kernel
theorem kLP:¬ (("leap":Str)="past"):=by decide +kernel
def lvF(now lp pd:Addr):List (Str×V):=Z9 "past" (.ref pd) (Z9 "leap" (.ref lp) (Z9 "now" (.ref now) []))
theorem ju(now lp pd:Addr):lvF now lp pd=([("now",V.ref now),("leap",V.ref lp),("past",V.ref pd)]:List (Str×V)):=by
 have e1:Z9 "leap" (V.ref lp) (Z9 "now" (V.ref now) [])=([("now",V.ref now),("leap",V.ref lp)]:List (Str×V)):=by
  show (if ("now":Str)="leap" then [(("now":Str),V.ref lp)] else (("now":Str),V.ref now) :: Z9 "leap" (V.ref lp) [])=_;rw[if_neg kNL];rfl
 unfold lvF;rw[e1];show (if ("now":Str)="past" then _ else (("now":Str),V.ref now) :: (if ("leap":Str)="past" then _ else (("leap":Str),V.ref lp) :: Z9 "past" (V.ref pd) []))=_;rw[if_neg kNP,if_neg kLP];rfl
theorem yT(now lp pd:Addr):(lvF now lp pd).lookup ("now":Str)=some (.ref now):=by
 unfold lvF;rw[Zc,if_neg kNP,Zc,if_neg kNL,Zc,if_pos rfl]
theorem Qh(now lp pd:Addr):(lvF now lp pd).lookup ("leap":Str)=some (.ref lp):=by
 unfold lvF;rw[Zc,if_neg kLP,Zc,if_pos rfl]
theorem V2(now lp pd:Addr):(lvF now lp pd).lookup ("past":Str)=some (.ref pd):=by
 unfold lvF;rw[Zc,if_pos rfl]
theorem YH(now lp pd:Addr){m:Str}(h1:¬ m="past")(h2:¬ m="leap")(h3:¬ m="now"):(lvF now lp pd).lookup m=none:=by
 unfold lvF;rw[Zc,if_neg h1,Zc,if_neg h2,Zc,if_neg h3]
 all_goals rfl
theorem z3E(now lp pd b:Addr):Z9 "now" (.ref b) (lvF now lp pd)=lvF b lp pd:=by
 rw[ju,ju];show (if ("now":Str)="now" then [(("now":Str),V.ref b),("leap",V.ref lp),("past",V.ref pd)] else _)=_;rw[if_pos rfl]
theorem z3z(now lp pd:Addr):(lvF now lp pd).length<1000:=by rw[ju];show 3<1000;decide
structure LvT(K:PySem.W.Frag)(C:Addr):Prop where
 cl:Cls K C
 nN:YI K C "now"
 nL:YI K C "leap"
 nP:YI K C "past"
structure Lv(C:Addr)(H:Hp)(p now lp pd:Addr)(us:List V):Prop where
 ob:∃ dx,H p=some (.ins C dx (lvF now lp pd))
 pl:H pd=some (.lst us)
theorem Lv.same(l:Lv C H p now lp pd us)(s:zC H H'):Lv C H' p now lp pd us:=⟨let ⟨dx,h⟩:=l.ob;⟨dx,s _ _ h⟩,s _ _ l.pl⟩
theorem Lv.kx(l:Lv C H p now lp pd us)(k:Kx S H H')(h1:p∉S)(h2:pd∉S):Lv C H' p now lp pd us:=⟨let ⟨dx,h⟩:=l.ob;⟨dx,k _ _ h h1⟩,k _ _ l.pl h2⟩
theorem Lv.ku(l:Lv C H p now lp pd us)(k:Kx [p,pd] H H'):KU H H':=by
 obtain⟨⟨dx,h⟩,h2⟩:=l;refine⟨fun b xs e=>k b _ e ?_,fun b o u e=>k b _ e ?_⟩ <;>
 · intro z
   rcases Z0z.mp z with rfl | z;rw[h] at e;cases e;obtain rfl:=Z04.mp z;rw[h2] at e;cases e
def Wbs(K:PySem.W.Frag)(H:Hp)(Ws:List Wb)(us:List V):Prop:=Paired (fun (W:Wb) (u:V)=>∃ a,u=.ref a/\ZX K H a W.1 W.2) Ws us
theorem ZX.ku{n:Int}(h:ZX K H a n ps)(k:KU H H'):ZX K H' a n ps:=by
 obtain⟨t,us,e1,e2,p⟩:=h;exact⟨t,us,k.tup _ _ e1,k.tup _ _ e2,Zp.ku k p⟩
theorem Wbs.ku(h:Wbs K H Ws us)(k:KU H H'):Wbs K H' Ws us:=Paired.Z1q h fun W u ⟨a,e,x⟩=>⟨a,e,x.ku k⟩
theorem Wbs.nil:Wbs K H [] []:=Paired.nil
theorem Wbs.len(h:Wbs K H Ws us):us.length=Ws.length:=(Paired.length h).symm
theorem Wbs.snoc(ha:ZX K H a W.1 W.2):∀ {Ws:List Wb}{us:List V},Wbs K H Ws us->Wbs K H (Ws ++ [W]) (us ++ [.ref a])
 | _,_,Paired.nil=>Paired.cons ⟨a,rfl,ha⟩ Paired.nil
 | _,_,Paired.cons x r=>Paired.cons x (Wbs.snoc ha r)
theorem Wbs.z7d:∀ {Ws:List Wb}{us:List V},Wbs K H (Ws ++ [W]) us->∃ vs a,us=vs ++ [.ref a]/\Wbs K H Ws vs/\ZX K H a W.1 W.2
 | [],_,Paired.cons ⟨a,e,x⟩ Paired.nil=>⟨[],a,by rw[e];rfl,Paired.nil,x⟩
 | _ :: Ws,_,Paired.cons y r=>by
   obtain⟨vs,a,rfl,h1,h2⟩:=Wbs.z7d r;exact⟨_ :: vs,a,rfl,Paired.cons y h1,h2⟩
def ZZ(K:PySem.W.Frag)(C:Addr)(H:Hp)(p pd lp:Addr)(W:Wb)(Ws:List Wb):Prop:=∃ now us,Lv C H p now lp pd us/\ZX K H now W.1 W.2/\Wbs K H Ws us
theorem ZZ.same(l:ZZ K C H p pd lp W Ws)(s:zC H H'):ZZ K C H' p pd lp W Ws:=by
 obtain⟨now,us,a,b,c⟩:=l;exact⟨now,us,a.same s,b.same s,c.ku s.ku⟩
theorem ZZ.kx(l:ZZ K C H p pd lp W Ws)(k:Kx S H H')(u:KU H H')(h1:p∉S)(h2:pd∉S):ZZ K C H' p pd lp W Ws:=by
 obtain⟨now,us,a,b,c⟩:=l;exact⟨now,us,a.kx k h1 h2,b.ku u,c.ku u⟩
theorem ZZ.ku(l:ZZ K C H p pd lp W Ws)(k:Kx [p,pd] H H'):KU H H':=by
 obtain⟨now,us,a,b,c⟩:=l;exact a.ku k
def Yy(C:Addr):Sp:=fun vs H Q _=>∃ (p dx wa lp:Addr),vs=[.ref p,.ref wa,.ref lp]/\H p=some (.ins C dx [])/\∀ (pd:Addr) (H':Hp),H pd=none->Lv C H' p wa lp pd []->Kp p H H'->Q .Zr H'
def Jj(C:Addr):Sp:=fun vs H Q _=>∃ (p b now lp pd:Addr) (us:List V),vs=[.ref p,.ref b]/\Lv C H p now lp pd us/\us.length<=5000/\∀ H',Lv C H' p b lp pd (us ++ [.ref now])->Kx [p,pd] H H'->Q .Zr H'
def JQ(K:PySem.W.Frag):Sp:=fun vs H Q _=>∃ (n x y:Int) (q:Addr),vs=[.int n,.ref q]/\H q=some (.tup [.int x,.int y])/\Q (.bl (decide (0<=x/\x<n/\0<=y/\y<n))) H
def JR(K:PySem.W.Frag)(C:Addr):Sp:=fun vs H Q _=>∃ (p pd lp:Addr) (W:Wb) (Ws:List Wb) (x y:Int),vs=[.ref p,.int x,.int y]/\ZZ K C H p pd lp W Ws/\(0<=x/\x<W.1/\0<=y/\y<W.1)/\∀ H',zC H H'->Q .Zr H'
def z4l(K:PySem.W.Frag)(C:Addr):Sp:=fun vs H Q _=>∃ (p pd lp:Addr) (W:Wb) (Ws:List Wb) (x y:Int),vs=[.ref p,.int x,.int y]/\ZZ K C H p pd lp W Ws/\Ws.length<=5000/\(0<=x/\x<W.1/\0<=y/\y<W.1)/\W.2.length<60/\
 ∀ (H':Hp) (ms:List (Int×Int)),ms.Perm (W.2 ++ [(x,y)])->ms.Pairwise Z2->ZZ K C H' p pd lp (W.1,ms) (Ws ++ [W])->Kx [p,pd] H H'->Q .Zr H'
def jU(K:PySem.W.Frag)(C:Addr):Sp:=fun vs H Q _=>∃ (p pd lp:Addr) (W:Wb) (Ws:List Wb),vs=[.ref p]/\ZZ K C H p pd lp W Ws/\(Ws=[]->∀ H',zC H H'->Q (.bl false) H')/\
 (∀ W0 Ws0,Ws=Ws0 ++ [W0]->∀ H',ZZ K C H' p pd lp W0 Ws0->Kx [p,pd] H H'->Q (.bl true) H')
def QS(K:PySem.W.Frag)(C:Addr):Sp:=fun vs H Q _=>∃ (p pd lp:Addr) (W:Wb) (Ws:List Wb),vs=[.ref p]/\ZZ K C H p pd lp W Ws/\∀ a,ZX K H a W.1 W.2->Q (.ref a) H
abbrev YM(n:Nat):List (Int×Int):=List.replicate n (1,(n:Int))
def UP(K:PySem.W.Frag)(C:Addr):Sp:=fun vs H Q _=>∃ (p pd lp:Addr) (n:Nat) (ps:List (Int×Int)) (Ws:List Wb) (A:Int×Int),vs=[.ref p]/\ZZ K C H p pd lp ((n:Int),ps) Ws/\1<=n/\n<=12/\ps.length<=62/\(∀ q∈ps,0<=q.1/\q.1<(n:Int)/\0<=q.2/\q.2<(n:Int))/\XC K H lp A/\Pw.Canon A/\0<A.1/\A.1<=A.2/\yc 41 A/\
 ∀ (t:Addr) (H':Hp) (Ss:List (Int×Int)) (ys:List V),Pw.Zi ps A (YM n) n Ss->(∀ S∈Ss,yc 1983 S)->zC H H'->H' t=some (.tup ys)->yp K H' Ss ys->Q (.ref t) H'
def MkF(K:PySem.W.Frag)(mg:Str->Option Value)(C:Addr)(x q:Str)(st:Stmt)(ps:List Str):Prop:=∃ (f:Addr) (fd:FuncData),Vb K "__init__" q st f fd/\Mk K C f/\mg x=some (.ref C)/\Binds K fd ps []
theorem MkF.def{st:Stmt}(S:MkF K mg C x q st ps)(h:∀ f fd,Vb K "__init__" q st f fd->ZK P w K mg base CX k f fd ps sp):MkD P w K mg base CX k C x ps sp:=by
 obtain⟨f,fd,F,a,m,b⟩:=S;exact⟨f,fd,a,m,b,h f fd F⟩
def QH:Sp:=fun vs H Q _=>∃ i:Int,vs=[.int i]/\Q (.bl true) H
structure OkL(W:Wb):Prop where
 n1:1<=W.1
 n12:W.1<=12
 few:W.2.length<=60
 up:W.2.Pairwise Z2
 rng:∀ p∈W.2,0<=p.1/\p.1<W.1/\0<=p.2/\p.2<W.1
structure JO(K:PySem.W.Frag)(x:Str)(C:Addr):Prop where
 ns:PySem.W.nsIn K mainGlobals x=some (some (.ref C))
 cl:Cls K C
 makes:PySem.W.makesIn K C=true
 kp:PySem.W.keepIn K (.ref C)=true
theorem JO.of(a:PySem.W.nsIn K mainGlobals x=some (some (.ref C)))(pg:PySem.W.plainGet K C Str.empty=true)(hd:PySem.W.hasDictIn K C=true)(po:PySem.W.plainOver K C=true)(sa:PySem.W.findIn K (.ref C) "__setattr__"=some (some (.builtin "object.__setattr__")))(mk:PySem.W.makesIn K C=true)(kc:PySem.W.keepIn K (.ref C)=true):JO K x C:=⟨a,⟨pg,hd,po,sa⟩,mk,kc⟩
theorem JO.mkf{st:Stmt}(ps:List Str)(c:JO K x C)(m:Jt K C "__init__" q st)(XK:K.In h)(G:h.Ns mainGlobals mg)(b:∀ (kV doc pm:Value) (an:Option Addr) (cdv ct:Value) (us:List Value),us.length=ps.length->bindArgs (PySem.W.fnOf "__init__" q (ZT st) (Zy st) (ze st) .none kV doc pm an cdv ct) ⟨us,[]⟩=pure (ps.zip us)):MkF K mg C x q st ps:=by
 obtain⟨f,fd,a,F⟩:=m;exact⟨f,fd,F,⟨c.makes,a.at_,a.fn,c.kp⟩,Z4n XK G c.ns,F.binds b⟩
def JK(K:PySem.W.Frag)(x y:Str):Prop:=∃ f,PySem.W.nsIn K mainGlobals x=some (some f)/\PySem.W.nsIn K mainGlobals y=some (some f)
theorem JK.of(a:PySem.W.nsIn K mainGlobals x=some (some f))(b:PySem.W.nsIn K mainGlobals y=some (some f)):JK K x y:=⟨f,a,b⟩
theorem JK.mg{K:PySem.W.Frag}{h:Heap}{mg:Str->Option Value}{x y:Str}(a:JK K x y)(XK:K.In h)(G:h.Ns mainGlobals mg):mg y=mg x:=by
 obtain⟨f,a,b⟩:=a;rw[Z4n XK G a,Z4n XK G b]
def vY(K:PySem.W.Frag)(x:Str)(i:Int):Prop:=∃ t,PySem.W.nsIn K mainGlobals x=some (some (.int i t))
theorem vY.of(a:PySem.W.nsIn K mainGlobals x=some (some (.int i t))):vY K x i:=⟨t,a⟩
theorem vY.mg{K:PySem.W.Frag}{h:Heap}{mg:Str->Option Value}{x:Str}{i:Int}(a:vY K x i)(XK:K.In h)(G:h.Ns mainGlobals mg):∃ t,mg x=some (.int i t):=by
 obtain⟨t,a⟩:=a;exact⟨t,Z4n XK G a⟩
theorem Tab.kx(t:Tab tb pos q H)(k:Kx S H H')(h:∀ b∈S,(∃ xs,H b=some (.lst xs))\/∃ C dx fs,H b=some (.ins C dx fs)):Tab tb pos q H':=by
 have ne:∀ {b:Addr}{o:HO},H b=some o->(∀ xs,o≠.lst xs)->(∀ C dx fs,o≠.ins C dx fs)->b∉S:=fun {b o} e n1 n2 z=>by
  rcases h b z with⟨xs,e'⟩|⟨C,dx,fs,e'⟩;rw[e] at e';cases e';exact n1 _ rfl;rw[e] at e';cases e';exact n2 _ _ _ rfl
 rcases t with t |⟨c,h1,h2⟩;exact .inl (k _ _ t (ne t (fun _ z=>by cases z) fun _ _ _ z=>by cases z))
 exact .inr ⟨c,k _ _ h1 (ne h1 (fun _ z=>by cases z) fun _ _ _ z=>by cases z),k _ _ h2 (ne h2 (fun _ z=>by unfold uO at z;cases z) fun _ _ _ z=>by unfold uO at z;cases z)⟩
def UR(K:PySem.W.Frag)(C tb:Addr)(pos:Pos):Sp:=fun vs H Q _=>∃ (p pd lp:Addr) (n:Nat) (ps:List (Int×Int)) (Ws:List Wb) (A:Int×Int),vs=[.ref p]/\ZZ K C H p pd lp ((n:Int),ps) Ws/\1<=n/\n<=12/\ps.length<=62/\(∀ q∈ps,0<=q.1/\q.1<(n:Int)/\0<=q.2/\q.2<(n:Int))/\XC K H lp A/\Pw.Canon A/\0<A.1/\A.1<=A.2/\yc 41 A/\Tab tb pos XG H/\
 ∀ (D:Addr) (H':Hp) (Ss:List (Int×Int)) (r:List Nat),Pw.Zi ps A (YM n) n Ss->Pw.Rkd Ss n r->Kp tb H H'->H D=none->H' D=some (.lst (z8O r))->Tab tb pos XG H'->Q (.ref D) H'
def lexLe:List Int->List Int->Bool
 | [],_=>true
 | _ :: _,[]=>false
 | x :: xs,y :: ys=>if x=y then lexLe xs ys else decide (x<=y)
theorem jA(x y:Int)(xs ys:List Int):lexLe (x :: xs) (y :: ys)=if x=y then lexLe xs ys else decide (x<=y):=rfl
section
open PySem.SeqAt
open PySem.AutoSeq1 (wpAny_loadPart')
open PySem.MeetsSeq PySem.MeetsSeq2 PySem.MeetsSeq3
theorem J3(l b:Addr)(us vs:Array Value)(n m:Nat)(d1 d2:Option Addr)(z1 z2:Array (Option Value))(ns ms:List Int)(hi:IntsAre us.toList ns)(hj:IntsAre vs.toList ms) :
 Meets (Builtin.«tuple.__le__» ⟨[.ref l,.ref b],[]⟩) (fun _ R s=>s.heap.get? l=some ⟨.type "tuple",d1,.seq us n,z1⟩/\s.heap.get? b=some ⟨.type "tuple",d2,.seq vs m,z2⟩/\R (.ok (.ret (.bool (lexLe ns ms)))) s) :=
 .of_wp fun prog w A R s h=>by
  obtain⟨hp,g,dr,tk,os⟩:=s;obtain⟨hl,hb,h⟩:=h;have fsub:=AutoSeq1.sub_tuple_tuple;have c1:us.size=ns.length:=by rw[← hi.length];simp
  have c2:vs.size=ms.length:=by rw[← hj.length];simp
  wp_walk using wpAny_loadPart' hl,wpAny_loadPart' hb,wpAny_forIn_list _ (fun rest b s'=>b.1=none/\s'=⟨hp,g,dr,tk,os⟩/\∃ (xs ys:List Value) (ns' ms':List Int),rest=xs.zip ys/\IntsAre xs ns'/\IntsAre ys ms'/\ns'.length+vs.size=ms'.length+us.size/\R (.ok (.ret (.bool (lexLe ns' ms')))) ⟨hp,g,dr,tk,os⟩) _
  case turn =>
   rintro⟨y,x⟩ rest b s' ⟨hb',rfl,xs,ys,ns',ms',hz,ix,iy,hln,hR⟩;cases ix with
   | nil=>cases hz
   | cons a t ix' =>
     cases iy with
     | nil=>rw[List.zip_nil_right] at hz;cases hz
     | cons c u iy' =>
       rw[List.zip_cons_cons] at hz;injection hz with q1 q2;injection q1 with q3 q4;subst q3 q4;rw[jA] at hR;rw[Z0u,Z0u] at hln;obtain⟨e,he,hif⟩:=HT.z7R A.in1 ⟨hp,g,dr,tk,os⟩ a t c u;refine wpAny_bind (he prog w _ _ ?_);cases e with
       | true =>
         rw[if_pos (hif.mp rfl)] at hR;wp_walk;exact⟨rfl,rfl,_,_,_,_,q2,ix',iy',by lia,hR⟩
       | false =>
         rw[if_neg (fun q=>Z10 (hif.mpr q))] at hR;have hri:∀ (E:Value->Shared->Prop) (Q:Value->Shared->Prop),Q (.bool (decide (a<=c))) ⟨hp,g,dr,tk,os⟩->wpAny (model prog w) A.in1 (richCompare .LtE (.int a t) (.int c u)) Q E ⟨hp,g,dr,tk,os⟩:=fun E Q h=>(PyProof.Rows.le_int h:wpAny (model prog w) A.in1 (compareOp .LtE (.int a t) (.int c u)) Q E _);wp_walk using hri;exact⟨_,rfl,by simpa using hR⟩
  case fin =>
   rintro⟨b1,b2⟩ s' ⟨hb',rfl,xs,ys,ns',ms',hz,ix,iy,hln,hR⟩;simp only at hb';subst hb';have hv:lexLe ns' ms'=decide (us.size<=vs.size):=by
    cases ix with
    | nil =>
      rw[Z5q] at hln;exact (decide_eq_true (by lia)).symm
    | cons a t ix' =>
      cases iy with
      | nil =>
        rw[Z5q,Z0u] at hln;exact (decide_eq_false (by lia)).symm
      | cons c u iy'=>cases hz
   rw[hv] at hR;wp_walk;exact⟨_,rfl,by simpa[Builtin.Tuple.tupleCompareSizes] using hR⟩
  case h =>
   exact⟨rfl,rfl,us.toList,vs.toList,ns,ms,rfl,hi,hj,by lia,h⟩
end
def Z3r(K:PySem.W.Frag):R2:=fun x y H Q=>∃ a b ns ms,x=.ref a/\y=.ref b/\zX K H a (ns.map V.int)/\zX K H b (ms.map V.int)/\Q (.bl (lexLe ns ms)) H
theorem Z1L(hu:X.A.units<cLine):Y4 X (compareOp .LtE) (Z3r X.K):=by
 intro pins s σ H x y v u Q I rx ry h;obtain⟨a,b,ns,ms,rfl,rfl,ha,hb,q⟩:=h;cases rx;cases ry;obtain⟨is,r1,⟨⟨c1,d1,e1,z1⟩,o1,hc1,n1,hd1⟩,_⟩:=I.tuple ha;obtain⟨js,r2,⟨⟨c2,d2,e2,z2⟩,o2,hc2,n2,hd2⟩,_⟩:=I.tuple hb;simp only at hc1 hd1 hc2 hd2;subst hc1 hd1 hc2 hd2;exact richCompare_meets_room (op:=.LtE) ⟨_,o1,rfl⟩ ⟨_,o2,rfl⟩ PySem.F.slot_tuple_le PySem.F.entry_tuple_le (PySem.F.args_tuple_le_2 _ _) (J3 a b is.toArray js.toArray n1 n2 d1 d2 z1 z2 ns ms (by simpa using intsAre_of r1) (by simpa using intsAre_of r2))
  ⟨o1,o2,show Value.bool (lexLe ns ms)≠Value.notImplemented/\EP X pins σ Q (.bool (lexLe ns ms)) s from ⟨(fun x=>nomatch x),⟨.bl _,H,I,rfl,q⟩⟩⟩ hu
theorem z9B(e:X.K=K)(hu:X.A.units<cLine):Y4 X (compareOp .LtE) (Z3r K):=e ▸ Z1L hu
def Z3Z(K:PySem.W.Frag):V->Option Int->Option Int->Hp->VK->Prop:=fun x _ _ H Q=>∃ a,x=.ref a/\zX K H a []/\Q (.ref a) H
theorem z4u{lo:Option Int}(ht:IsTup s.heap t #[])(hs:s.heap.IsSliceOf sl vl vu .none)(pl:IsPart vl lo)(pu:IsPart vu hi)(h:Q (.ref t) s):wpAny (model prog w) A (getItem (.ref t) (.ref sl)) Q E s:=by
 obtain⟨os,hos,hcs,hds⟩:=id hs;unfold getItem
 try with_reducible refine wpAny_holding ?_
 first | refine wpAny_bind (wpAny_pure ?_) | skip
 refine wpAny_bind (wpAny_sequenceKey ht.typeIs (by decide) ?_);refine wpAny_bind (wpAny_callSpecial?_slot (name:=Str.ofString "__getitem__") ht.typeIs Z40 (wpAny_call_entry Z40 ht.typeIs entry_tuple_getitem ?_ (args_tuple_getitem _ _)));show wpAny _ _ (Builtin.Tuple.tupleItemsOf (.ref t) >>= _) _ _ s;refine wpAny_bind (tupleItemsOf_ ht ?_);refine wpAny_bind (wpAny_typeOf (show s.TypeIs (.ref sl) "slice" from ⟨os,hos,hcs⟩) ?_);rw[if_pos (by decide)];refine wpAny_bind (HT.YX hs pl pu ?_);have e1:HT.ZY (#[]:Array Value).size 0 lo=0:=Nat.le_zero.mp (HT.z1B 0 0 (Z03 _) lo);have e2:HT.ZY (#[]:Array Value).size (#[]:Array Value).size hi=0:=Nat.le_zero.mp (HT.z1B 0 0 (Z03 _) hi);rw[e1,e2];show wpAny _ _ (if (((0:Nat):Int) == 0 && (1:Int) == 1 && (0 - 0:Nat) == (#[]:Array Value).size)=true then _ else _) _ _ s;rw[if_pos (show (((0:Nat):Int) == 0 && (1:Int) == 1 && (0 - 0:Nat) == (#[]:Array Value).size)=true from rfl)];unfold Builtin.Tuple.tupleIsExact;have hT:=ht.typeIs
 repeat (any_goals (first | assumption | wp_step))
 exact⟨_,rfl,wpAny_pure h⟩
theorem z8D:SlR X (Z3Z X.K):=by
 intro pins s σ H x v vl vu lo hi sl Q I rx hs pl pu h;obtain⟨a,rfl,hx,q⟩:=h;cases rx;obtain⟨its,r,ht,hz⟩:=I.tuple hx;cases r;exact⟨"tuple",_,Z40.lookup,ht.typeIs,z4u ht hs pl pu ⟨.ref a,H,I,rfl,q⟩⟩
theorem z8P:SlR X (fun x lo hi H Q=>Z3Z X.K x lo hi H Q\/Z0e X.K x lo hi H Q):=SlR.or z8D z9T
def Z4f(K:PySem.W.Frag):List V->Hp->VK->Prop:=fun xs H Q=>∃ a ys,xs=[.ref a,.ty "tuple"]/\zX K H a ys/\Q (.bl true) H
theorem vm:ZG X (.builtin "isinstance") (Z4f X.K):=by
 intro pins s σ H xs us Q I r h;obtain⟨a,ys,rfl,ht,q⟩:=h;obtain⟨u,w',rfl,ru,rw'⟩:=vals2 r;cases rw';cases (show u=Value.ref a from ru);obtain⟨_,_,⟨o,h1,h2,_⟩,_⟩:=I.tuple ht;exact Z39 PySem.W.kitx_tuple I.QB ⟨o,h1,h2⟩ (Z1Z _) (fun z=>nomatch z) fun tk=>⟨.bl true,H,I.tok tk,rfl,q⟩
def jw(K:PySem.W.Frag):Sp:=fun vs H Q _=>∃ (q:Addr) (x y:Int),vs=[.ref q]/\zX K H q [.int x,.int y]/\Q (.bl true) H
def UO(K:PySem.W.Frag):Sp:=fun vs H Q _=>∃ (n x y:Int) (q:Addr),vs=[.int n,.ref q]/\zX K H q [.int x,.int y]/\Q (.bl (decide (0<=x/\x<n/\0<=y/\y<n))) H
theorem Uz(hlen:zs.length<=xs.length)(Pv:Nat->List V->St->Hp->Prop)(h0:Pv 0 [] σ0 H0)(hl:∀ i ys σ H,Pv i ys σ H->Sq b1 K H a xs/\Sq b2 K H b zs/\H D=some (.lst ys))(hs:∀ i x z ys σ H T G,xs[i]?=some x->zs[i]?=some z->i<zs.length->Pv i ys σ H->H T=none->zC H G->G T=some (.tup [x,z])->g (.ref T) σ G fun σ3 H3=>tt σ3 H3 fun b H4=>if b=true then
  te σ3 H4 fun y H5=>H5 D=some (.lst ys)/\ys.length<sizeLine/\∃ m',m'<zs.length - i/\Wt Pv zs.length (i+1) m' (ys ++ [y]) σ3 (upd H5 D (.lst (ys ++ [y]))) else ∃ m',m'<zs.length - i/\Wt Pv zs.length (i+1) m' ys σ3 H4)(hd:∀ ys σ H,Pv zs.length ys σ H->Q (.ref D) H):XI (z1U b1 b2 K a b) D g tt te Q σ0 H0:=by
 refine⟨Wt Pv zs.length,⟨zs.length,rfl,Z18 _,h0⟩,?_⟩;rintro i m ys σ' H' ⟨rfl,hi,p⟩;obtain⟨hq,hq',hD⟩:=hl i ys σ' H' p;refine⟨hD,?_⟩;by_cases hlt:i<zs.length;have hlx:i<xs.length:=by lia
 refine .inr ⟨⟨xs,zs,xs[i],zs[i],hq,hq',by simp[hlx],by simp[hlt]⟩,fun x H2 y=>?_⟩;obtain⟨T,u,v,rfl,hT,rfl,hu,hv⟩:=y;exact hs i u v ys σ' H' T _ (hu xs hq) (hv zs hq') hlt p hT (zC.new hT) zh;have e:i=zs.length:=by lia
 subst e;exact .inl ⟨⟨xs,zs,hq,hq',Nat.min_eq_right hlen⟩,hd ys σ' H' p⟩
theorem sqf(h:zX K H t xs):Sq false K H t xs:=by unfold Sq;rw[if_neg (by decide)];exact h
theorem z3u{h:Heap}(e:h.get? a=some { cls:=.type "set",dict:=none,data:=.set es ep t,slots:=#[] }) :
 (h.update a (Obj.putSet es' t')).get? a=some { cls:=.type "set",dict:=none,data:=.set es' (ep+1) t',slots:=#[] }:=by
 have:=Heap.get?_update_self (Obj.putSet es' t') e (by rw[putSet_of es' t' rfl];rfl);rw[putSet_of es' t' rfl] at this;exact this
def Ym(w:World):Bool:=w.params.followText "set-order"
theorem z7b(a:Value)(h:Q₁ (.ref s.heap.objs.size) { s with heap:=s.heap.push (yh (!Ym w)) }):codeAny (model prog w) A (.call (.builtin "set.__new__") ⟨[.type "set",a],[]⟩) (wants Q₁ E) s:=by
 refine codeAny_of_tree ?_;show wpAny _ A.in1 (do checkBuiltinCall "set.__new__" ⟨[.type "set",a],[]⟩;(again (.builtin "set.__new__" ⟨[.type "set",a],[]⟩))) _ _ s;refine wpAny_bind (wpAny_of_eq (PySem.F.newCall_set_1 a) (wpAny_pure ⟨plainId_quiet F.plain_set_new _,codeAny_builtin F.entry_set_new (?_)⟩));rw[Z45 (F.plain_set_new) _];unfold Builtin.«set.__new__» Builtin.Frozenset.newClass;have hsub:=sub_set_self;obtain⟨hp,g,d,tk,os⟩:=s;dsimp only;wp_walk;refine wpAny_askSetting (wpAny_pure ?_);dsimp only;simp only[newObj];exact wpAny_bind (wpAny_alloc (wpAny_pure (wpAny_pure h)))
theorem JJ{α:Type}:∀ {l:List α}{i:Nat}(h:i<l.length),(l[i] :: l.eraseIdx i).Perm l
 | x :: l,0,h=>List.Perm.refl _
 | x :: l,i+1,h=>by
   have h':i<l.length:=by simpa using h
   exact (List.Perm.swap x l[i] _).trans (List.Perm.cons x (JJ h'))
theorem z2Z{α:Type}(next:Nat->Nat):∀ (fuel k:Nat) (left:List α) (out:Array α),left.length=fuel->(pickOrder.go next fuel k left out).toList.Perm (out.toList ++ left)
 | 0,k,left,out,h=>by
   rw[Z2G.mp h];show out.toList.Perm _;rw[Z43]
 | fuel+1,k,left,out,h=>by
   unfold pickOrder.go;have hl:next k % left.length<left.length:=Nat.mod_lt _ (by lia);rw[Z01 hl];dsimp only;refine (z2Z next fuel (k+1) _ _ (by rw[List.length_eraseIdx_of_lt hl];lia)).trans ?_;rw[Array.toList_push,Z22];exact List.Perm.append_left _ (JJ hl)
theorem z4O{α:Type}(next:Nat->Nat)(xs:Array α):(pickOrder next xs).toList.Perm xs.toList:=by
 have:=z2Z next xs.size 0 xs.toList #[] (Z06);simpa[pickOrder] using this
theorem z2I{A:Around}{E:Value->Shared->Prop}{s:Shared}{M:Model}{α:Type}{Q:α->Shared->Prop}(hh:A.handled=none)(h:∀ h' e o,(∀ b o,s.heap.get? b=some o->h'.get? b=some o)->h'.get? e=some o->o.cls=.type "StopIteration"->E (.ref e) { s with heap:=h' }) :
 wpAny M A (newExc (.type "StopIteration") [] >>= fun e=>(raiseNew e:Sem α)) Q E s:=by
 refine wpAny_bind ?_;simp only[newExc,newTuple];refine wpAny_bind (wpAny_newObj_type ?_ (by size_fits));refine wpAny_bind (m:=firstArgMember _ _) (wpAny_of_eq (a:=Value.none) (by first | rfl | (simp only[firstArgMember];rfl)) ?_)
 refine wpAny_newObj_type ?_ (by size_fits);simp only[raiseNew];refine wpAny_bind (wpAny_handled ?_);rw[hh];exact wpAny_bind (wpAny_pure (wpAny_throw (h _ _ _ (fun b o e=>Z00 _ (Z00 _ e)) (Z08 _ rfl) rfl)))
abbrev uI(h:Heap)(I:Addr)(first:Value)(i:Int)(S:Addr)(n ep:Nat):Prop:=h.get? I=some { cls:=.type "set_iterator",dict:=none,data:=.fields #[first,rawInt i,.ref S,rawInt n,rawInt ep],slots:=#[] }
abbrev z8Q(h:Heap)(S:Addr)(es:Array (Int×Value))(ep:Nat)(t:SetTable):Prop:=h.get? S=some { cls:=.type "set",dict:=none,data:=.set es ep t,slots:=#[] }
namespace SF
theorem slot_next:Slot "set_iterator" "__next__" "set_iterator.__next__" :=
 .of (owner:="set_iterator") (n:="__next__") (by rw[typeLookup_type,builtinLookup_eq_fast];kernel_rfl) (by decide +kernel) (by decide +kernel) (by decide +kernel) (by first | exact .inl (by decide +kernel) | exact .inr (by decide +kernel)) (by rw[isSubtype_type];kernel_rfl)
theorem UI:Slot "set_iterator" "__iter__" "set_iterator.__iter__" :=
 .of (owner:="set_iterator") (n:="__iter__") (by rw[typeLookup_type,builtinLookup_eq_fast];kernel_rfl) (by decide +kernel) (by decide +kernel) (by decide +kernel) (by first | exact .inl (by decide +kernel) | exact .inr (by decide +kernel)) (by rw[isSubtype_type];kernel_rfl)
theorem entry_next:entryFor table "set_iterator.__next__"=some Builtin.«set_iterator.__next__»:=entryFor_of_tree (by kernel_rfl)
theorem z1S:entryFor table "set_iterator.__iter__"=some Builtin.«dict_keyiterator.__iter__»:=entryFor_alias (id':="dict_keyiterator.__iter__") (by kernel_rfl) rfl (by decide +kernel) (by kernel_rfl)
theorem JY:entryFor table "set.__iter__"=some Builtin.«frozenset.__iter__»:=entryFor_alias (id':="frozenset.__iter__") (by kernel_rfl) rfl (by decide +kernel) (by kernel_rfl)
theorem args_next(a:Value):argsOk "set_iterator.__next__" ⟨[a],[]⟩:=by unfold argsOk;kernel_rfl
theorem z4T(a:Value):argsOk "set_iterator.__iter__" ⟨[a],[]⟩:=by unfold argsOk;kernel_rfl
theorem z2H(a:Value):argsOk "set.__iter__" ⟨[a],[]⟩:=by unfold argsOk;kernel_rfl
end SF
theorem uI.typeIs(h:uI s.heap I first j S n ep):s.TypeIs (.ref I) "set_iterator":=⟨_,h,rfl⟩
theorem US{i:Nat}{es:Array (Int×Value)}{t:SetTable}(hI:uI s.heap I first (i:Int) S es.size ep)(hS:z8Q s.heap S es ep t)(hf:t.fits es.size=true)(h:wpAny (model prog w) A (match first with
  | .int slot _=>do
    match ←setNext S slot.toNat ((i:Int)).toNat ((ep:Int)).toNat with
    | some (x,next) =>
      setField (.ref I) 0 (rawInt next)
      setField (.ref I) 1 (rawInt ((i:Int)+1))
      ret x
    | none=>setField (.ref I) 2 .none;raiseNew (← newExc (.type "StopIteration") [])
  | _=>do
    let some places ←seqItems? first | unsupported "internal:set_iterator"
    match places[((i:Int)).toNat]? with
    | some (.int place _) =>
      let x ←setNextDrawn S place.toNat ((ep:Int)).toNat
      setField (.ref I) 1 (rawInt ((i:Int)+1))
      ret x
    | some _=>unsupported "internal:set_iterator"
    | none=>setField (.ref I) 0 (rawInt 0);setField (.ref I) 2 .none;raiseNew (← newExc (.type "StopIteration") [])) Q E s) :
 wpAny (model prog w) A (Builtin.«set_iterator.__next__» ⟨[.ref I],[]⟩) Q E s:=by
 unfold Builtin.«set_iterator.__next__»;show wpAny _ _ (fieldsOf (.ref I) >>= _) _ _ _;unfold fieldsOf;refine wpAny_bind (wpAny_bind (wpAny_load hI (wpAny_pure ?_)));show wpAny _ _ (setEntries S >>= _) _ _ _;refine wpAny_bind (wpAny_setEntries_of hS rfl hf ?_);dsimp only;rw[if_neg (by simp)];exact h
theorem VO(hI:uI s.heap I first j S n ep)(h:wpAny (model prog w) A.in1 (Builtin.«set_iterator.__next__» ⟨[.ref I],[]⟩) (fun fin s'=>∃ v,fin=.done (.ret v)/\Q (some v) s') (fun e s'=>∃ a o,e=.ref a/\s'.heap.get? a=some o/\o.cls=.type "StopIteration"/\Q none s') s):wpAny (model prog w) A (pyNext (.ref I)) Q E s:=by
 unfold pyNext;refine wpAny_bind (wpAny_attempt (wpAny_callSpecial?_slot (name:=Str.ofString "__next__") hI.typeIs SF.slot_next (wpAny_call_entry SF.slot_next hI.typeIs SF.entry_next ?_ (SF.args_next _))));refine wpAny_mono h (fun fin s' hv=>?_) fun e s' he=>?_;obtain⟨v,rfl,q⟩:=hv;exact⟨v,rfl,wpAny_pure q⟩;obtain⟨a,o,rfl,ho,hc,q⟩:=he;exact wpAny_bind (wpAny_isInstance (T:="StopIteration") (b:=true) ⟨o,ho,hc⟩ isSubtype_stop (wpAny_pure q))
theorem z4Q(hI:uI s.heap I first j S n ep)(h:Q (.ref I) s):wpAny (model prog w) A (pyIter (.ref I)) Q E s:=by
 refine wpAny_pyIter_slot hI.typeIs SF.UI (wpAny_call_entry SF.UI hI.typeIs SF.z1S ?_ (SF.z4T _));show wpAny _ _ (ret (.ref I)) _ _ s;exact wpAny_pure ⟨_,rfl,"set_iterator",_,hI.typeIs,SF.slot_next.lookup,h⟩
theorem JZ:typeLookup (.type "set") "__len__"=pure (some (.builtin "set.__len__")):=by rw[typeLookup_type,builtinLookup_eq_fast];kernel_rfl
def Zx(c:Nat):Str:=⟨#[c]⟩
def Its(x:Str):It:=⟨fun i _=>i<x.cps.size,fun i H v H'=>H'=H/\∃ c,x.cps[i]?=some c/\v=.str (Zx c),fun i _=>x.cps.size<=i⟩
theorem z4K(x:Str)(t:Tok)(it:Addr):Turn P w K tg (Its x) [it] it (fun i h=>h.IsStrIter it "str_ascii_iterator" x t i) where
 mem:=by simp
 obj:=fun i h st b hb=>by
  have e:b=it:=by simpa using hb
  subst e;obtain⟨o,e,c,d⟩:=st;exact⟨o,e,fun v z=>by rw[d] at z;cases z⟩
 keep:=fun i h h' st k=>let ⟨o,ho,r⟩:=st;⟨o,k it (by simp) o ho,r⟩
 item:=by
  intro X hP hw hK hc i pins s σ H E I hf st hg;subst hP hw hK;have hg:i<x.cps.size:=hg;obtain⟨f0,f1,f2,f3,f4,f5⟩:=hf it (by simp);refine wpAny_pyNext_ascii_item st (c:=x.cps[i]) (by simp[hg]) fun h' st' sb=>?_;have I1:Inv X pins σ H { s with heap:=h',toks:=s.toks+1 }:=I.turned (t':=s.toks+1) (fun b o hb e=>(sb.2 b hb).trans e) f0 f1 f3 f4 f5;obtain⟨o,e,c,d⟩:=id st';exact⟨_,rfl,z0j (s:={ s with heap:=h',toks:=s.toks+1 }) e c d (by decide) ⟨.str (Zx x.cps[i]),H,I1,⟨_,rfl⟩,⟨rfl,_,by simp[hg],rfl⟩,st',fun b hb=>(hf b hb).1⟩⟩
 done:=by
  intro X hP hw hK hc i pins s σ H E I hf st hg;subst hP hw hK;have hg:x.cps.size<=i:=hg;obtain⟨f0,f1,f2,f3,f4,f5⟩:=hf it (by simp);exact wpAny_pyNext_ascii_end (I.ok.hd hc) st (Z52 hg) fun h' eb=>⟨rfl,I.turned (t':=s.toks) (fun b o hb e=>eb b o hb e) f0 f1 f3 f4 f5⟩
 self:=fun _ _ _ _ _ st h=>wpAny_pyIter_striter_ascii st h
theorem z4N(x:Str)(t:Tok)(it:Addr):Turn P w K tg (Its x) [it] it (fun i h=>h.IsStrIter it "str_iterator" x t i) where
 mem:=by simp
 obj:=fun i h st b hb=>by
  have e:b=it:=by simpa using hb
  subst e;obtain⟨o,e,c,d⟩:=st;exact⟨o,e,fun v z=>by rw[d] at z;cases z⟩
 keep:=fun i h h' st k=>let ⟨o,ho,r⟩:=st;⟨o,k it (by simp) o ho,r⟩
 item:=by
  intro X hP hw hK hc i pins s σ H E I hf st hg;subst hP hw hK;have hg:i<x.cps.size:=hg;obtain⟨f0,f1,f2,f3,f4,f5⟩:=hf it (by simp);refine wpAny_pyNext_wide_item st (c:=x.cps[i]) (by simp[hg]) fun h' st' sb=>?_;have I1:Inv X pins σ H { s with heap:=h',toks:=s.toks+1 }:=I.turned (t':=s.toks+1) (fun b o hb e=>(sb.2 b hb).trans e) f0 f1 f3 f4 f5;obtain⟨o,e,c,d⟩:=id st';exact⟨_,rfl,z0j (s:={ s with heap:=h',toks:=s.toks+1 }) e c d (by decide) ⟨.str (Zx x.cps[i]),H,I1,⟨_,rfl⟩,⟨rfl,_,by simp[hg],rfl⟩,st',fun b hb=>(hf b hb).1⟩⟩
 done:=by
  intro X hP hw hK hc i pins s σ H E I hf st hg;subst hP hw hK;have hg:x.cps.size<=i:=hg;obtain⟨f0,f1,f2,f3,f4,f5⟩:=hf it (by simp);exact wpAny_pyNext_wide_end (I.ok.hd hc) st (Z52 hg) fun h' eb=>⟨rfl,I.turned (t':=s.toks) (fun b o hb e=>eb b o hb e) f0 f1 f3 f4 f5⟩
 self:=fun _ _ _ _ _ st h=>wpAny_pyIter_striter_wide st h
def Z4J(tl:TE):TI:=fun σ H R=>tl σ H fun v H1=>∃ x,v=.str x/\R (Its x) H1
theorem Z1f(hl:PE X l tl):PI X tg l (Z4J tl):=by
 intro pins s σ H R I h;refine Zj (hl pins s σ H _ I h) fun v s1 ⟨z,H1,I1,r1,q1⟩=>?_;obtain⟨x,rfl,q⟩:=q1;obtain⟨t,rfl⟩:=r1;have fp:∀ b∈[s1.heap.objs.size],xA X pins H1 b:=fun b hb=>by
  have e:b=s1.heap.objs.size:=by simpa using hb
  subst e;exact I1.JS (Z03 _) (I1.hok.fresh (Z03 _))
 cases ha:x.cps.all (·<128) with
 | true=>exact wpAny_pyIter_ascii ha ⟨s1.heap.objs.size,[s1.heap.objs.size],_,_,H1,rfl,I1.kept (t':=s1.toks) fun b o e=>Z00 _ e,z4K x t _,⟨_,Z08 _ rfl,rfl,rfl⟩,fp,q⟩
 | false=>exact wpAny_pyIter_wide ha ⟨s1.heap.objs.size,[s1.heap.objs.size],_,_,H1,rfl,I1.kept (t':=s1.toks) fun b o e=>Z00 _ e,z4N x t _,⟨_,Z08 _ rfl,rfl,rfl⟩,fp,q⟩
theorem z5S(Pv:Nat->List V->St->Hp->Prop)(h0:Pv 0 [] σ0 H0)(hl:∀ i ys σ H,Pv i ys σ H->H D=some (.lst ys))(hs:∀ i c ys σ H,x.cps[i]?=some c->i<x.cps.size->Pv i ys σ H->g (.str (Zx c)) σ H fun σ3 H3=>tt σ3 H3 fun b H4=>if b=true then
  te σ3 H4 fun y H5=>H5 D=some (.lst ys)/\ys.length<sizeLine/\∃ m',m'<x.cps.size - i/\Wt Pv x.cps.size (i+1) m' (ys ++ [y]) σ3 (upd H5 D (.lst (ys ++ [y]))) else ∃ m',m'<x.cps.size - i/\Wt Pv x.cps.size (i+1) m' ys σ3 H4)(hd:∀ ys σ H,Pv x.cps.size ys σ H->Q (.ref D) H) :
 XI (Its x) D g tt te Q σ0 H0:=by
 refine⟨Wt Pv x.cps.size,⟨x.cps.size,rfl,Z18 _,h0⟩,?_⟩;rintro i m ys σ' H' ⟨rfl,hi,p⟩;refine⟨hl i ys σ' H' p,?_⟩;by_cases hlt:i<x.cps.size;refine .inr ⟨hlt,fun v H2 y=>?_⟩;obtain⟨e,c,hc,e2⟩:=y;subst e e2;exact hs i c ys σ' _ hc hlt p;have e:i=x.cps.size:=by lia
 subst e;exact .inl ⟨Z03 _,hd ys σ' H' p⟩
open Builtin Builtin.Str in
theorem sub_one(x:Str)(c i:Nat)(h:i<x.cps.size):subAt x (Zx c) i=decide (x.cps[i]=c):=by
 unfold subAt Zx;have e:x.cps.extract i (i+(⟨#[c]⟩:Str).length)=#[x.cps[i]]:=by
  apply Z2o.mp;show (x.cps.extract i (i+1)).toList=[x.cps[i]];rw[Array.toList_extract];simp[List.extract,List.drop_eq_getElem_cons (show i<x.cps.toList.length by simpa using h)]
 rw[e];by_cases hq:x.cps[i]=c;simp[hq];simp[hq]
theorem Z1l(x:Str)(c:Nat):(!(Builtin.Str.occurrences x (Zx c) 0 x.length 1).isEmpty)=decide (c∈x.cps.toList):=StrLaws.found_one x c
theorem z3C:∀ l:List (Str×Tok),Vals ((l.map (·.1)).map V.str) (strValues l)
 | []=>.nil
 | (_,t) :: l=>.cons ⟨t,rfl⟩ (z3C l)
theorem Je:∀ {ys:List Str}{us:List Value},Vals (ys.map V.str) us->∃ l:List (Str×Tok),us=strValues l/\l.map (·.1)=ys
 | [],_,.nil=>⟨[],rfl,rfl⟩
 | y :: ys,_,.cons ⟨t,e⟩ r=>by
   obtain⟨l,e1,e2⟩:=Je r;subst e e1;exact⟨(y,t) :: l,rfl,by rw[Z1y,e2]⟩
def Z1U:V->List V->Hp->VK->Prop:=fun x xs H Q=>∃ (z:Str) (c:Nat),x=.str z/\xs=[.str (Zx c)]/\z.cps.size<=8000/\∀ p H',zC H H'->H p=none->H' p=some (.lst ((Txt.split z (Zx c)).map V.str))->Q (.ref p) H'
theorem Yg:MtR X "str.split" Z1U:=by
 intro pins s σ H x xs v us Q I rx r h;obtain⟨z,c,rfl,rfl,few,q⟩:=h;obtain⟨t,rfl⟩:=rx;obtain⟨u,rfl,t',rfl⟩:=vals1 r;have hz:z.length<=8000:=few;have hl:=split_le z (Zx c);have hy:((Zx c).length == 0)=false:=rfl;have hsz:z.length<=sizeLine:=by rw[sizeLine_eq];lia
 have fin:∀ (l:List (Str×Tok)) (k:Nat),l.map (·.1)=Txt.split z (Zx c)->EP X pins σ Q (.ref s.heap.objs.size) { s with toks:=k,heap:=s.heap.push { cls:=.type "list",data:=.seq (strValues l).toArray } }:=fun l k e =>
  ⟨.ref s.heap.objs.size,_,I.laid (t':=k) (fun b o g=>Z00 _ g) (Z03 _) (show Zw X.prog X.w _ _ _ (.lst ((Txt.split z (Zx c)).map V.str)) from
   ⟨by rw[ZB,sizeLine_eq];lia,strValues l,_,by rw[← e];exact z3C l,Z08 _ rfl⟩),rfl,z8X q _ (I.hok.fresh (Z03 _))⟩
 cases h1:(decide (z.length<(Zx c).length) || decide (Builtin.Str.strKind z<Builtin.Str.strKind (Zx c)));cases hf:(Builtin.Str.occurrences z (Zx c) 0 z.length (z.length+1)).isEmpty;have e:Txt.split z (Zx c)=Builtin.Str.partsBetween z (Builtin.Str.occurrences z (Zx c) 0 z.length (z.length+1)) (Zx c).length:=(if_neg (ne_true_of_eq_false h1)).trans (if_neg (ne_true_of_eq_false hf));refine call_meets Z2M (typeIs_str _ _ _) PySem.F.entry_str_split (PySem.F.args_str_split_2 _ _) (meets_str_split_sep z (Zx c) t t' h1 hy hf hsz (by rw[← e,sizeLine_eq];lia)) ?_;show wants (EP X pins σ Q) X.xe _ { s with toks:=_,heap:=s.heap.push { cls:=.type "list",data:=.seq (strsFrom s.toks (Builtin.Str.partsBetween z (Builtin.Str.occurrences z (Zx c) 0 z.length (z.length+1)) (Zx c).length)).toArray } };rw[strsFrom_eq];exact fin (numbered s.toks _) _ ((numbered_texts _ _).trans e.symm);exact call_meets Z2M (typeIs_str _ _ _) PySem.F.entry_str_split (PySem.F.args_str_split_2 _ _) (meets_str_split_not_found z (Zx c) t t' h1 hy hf)
  (fin [(z,t)] s.toks ((if_neg (ne_true_of_eq_false h1)).trans (if_pos hf)).symm)
 exact call_meets Z2M (typeIs_str _ _ _) PySem.F.entry_str_split (PySem.F.args_str_split_2 _ _) (meets_str_split_cannot_occur z (Zx c) t t' h1)
  (fin [(z,t)] s.toks (if_pos h1).symm)
def z8n:V->List V->Hp->VK->Prop:=fun x xs H Q=>∃ (z:Str) (c:Nat),x=.str z/\xs=[.str (Zx c)]/\Q (.bl (decide (z.cps.toList.head?=some c))) H
theorem Uw:MtR X "str.startswith" z8n:=by
 intro pins s σ H x xs v us Q I rx r h;obtain⟨z,c,rfl,rfl,q⟩:=h;obtain⟨t,rfl⟩:=rx;obtain⟨u,rfl,t',rfl⟩:=vals1 r;refine call_gives Z49 (typeIs_str _ _ _) PySem.F.entry_str_startswith (PySem.F.args_str_startswith_2 _ _) (gives_str_startswith z (Zx c) t t') ?_;have e:(decide (0+(Zx c).length<=z.length) && Builtin.Str.subAt z (Zx c) 0)=decide (z.cps.toList.head?=some c):=by
  by_cases h0:0<z.cps.size;rw[sub_one z c 0 h0];have h1:decide (0+(Zx c).length<=z.length)=true:=decide_eq_true (show 0+1<=z.cps.size by lia);rw[h1,Bool.true_and,List.head?_eq_getElem?,Z38,Z35 h0];simp;have h1:decide (0+(Zx c).length<=z.length)=false:=decide_eq_false (show ¬ 0+1<=z.cps.size by lia);have h2:z.cps.toList=[]:=Z2G.mp (by rw[Z06];lia);rw[h1,h2];rfl
 exact⟨.bl _,H,I,(by show Value.bool _=Value.bool _;rw[← e]),q⟩
def Z4z:V->Option Int->Option Int->Hp->VK->Prop:=fun v lo hi H Q=>∃ x:Str,v=.str x/\x.cps.size<=8000/\Q (.str (Txt.slice x lo hi)) H
theorem z2K:SlR X Z4z:=by
 intro pins s σ H x v vl vu lo hi sl Q I rx hs pl pu h;obtain⟨z,rfl,few,q⟩:=h;obtain⟨t,rfl⟩:=rx;have hsz:z.length<=sizeLine:=by rw[sizeLine_eq];exact Z11 few (by decide)
 cases pl with
 | none =>
   cases pu with
   | none=>exact⟨"str",_,PySem.F.slot_str_getitem.lookup,typeIs_str _ _ _,wpAny_getItem_str_slice (l:=none) (u:=none) (st:=none) hs rfl (post_val_or_str ⟨Z11 (Txt.slice_le z _ _) hsz,fun t' k=>⟨.str (Txt.slice z none none),H,I.tok _,⟨_,rfl⟩,q⟩⟩)⟩
   | int j u=>exact⟨"str",_,PySem.F.slot_str_getitem.lookup,typeIs_str _ _ _,wpAny_getItem_str_slice (l:=none) (u:=some (j,u)) (st:=none) hs rfl (post_val_or_str ⟨Z11 (Txt.slice_le z _ _) hsz,fun t' k=>⟨.str (Txt.slice z none (some j)),H,I.tok _,⟨_,rfl⟩,q⟩⟩)⟩
 | int i u' =>
   cases pu with
   | none=>exact⟨"str",_,PySem.F.slot_str_getitem.lookup,typeIs_str _ _ _,wpAny_getItem_str_slice (l:=some (i,u')) (u:=none) (st:=none) hs rfl (post_val_or_str ⟨Z11 (Txt.slice_le z _ _) hsz,fun t' k=>⟨.str (Txt.slice z (some i) none),H,I.tok _,⟨_,rfl⟩,q⟩⟩)⟩
   | int j u=>exact⟨"str",_,PySem.F.slot_str_getitem.lookup,typeIs_str _ _ _,wpAny_getItem_str_slice (l:=some (i,u')) (u:=some (j,u)) (st:=none) hs rfl (post_val_or_str ⟨Z11 (Txt.slice_le z _ _) hsz,fun t' k=>⟨.str (Txt.slice z (some i) (some j)),H,I.tok _,⟨_,rfl⟩,q⟩⟩)⟩
def Z0h:List V->Hp->VK->Prop:=fun xs H Q=>∃ (x:Str) (n:Int),xs=[.str x]/\PySem.intText? x=some n/\x.cps.size<=640/\Q (.int n) H
theorem ZI:ZG X (.type "int") Z0h:=by
 intro pins s σ H xs us Q I r h;obtain⟨x,n,rfl,e,few,q⟩:=h;obtain⟨u,rfl,t,rfl⟩:=vals1 r;exact PySem.W.KIN.call_text e few ⟨.int n,H,I.tok _,⟨_,rfl⟩,q⟩
def rJoin(K:PySem.W.Frag):V->List V->Hp->VK->Prop:=fun x xs H Q=>∃ (sep:Str) (l:Addr) (ys:List Str),x=.str sep/\xs=[.ref l]/\zQ K H l (ys.map V.str)/\JoinOk sep ys=true/\Q (.str (Txt.join sep ys)) H
theorem z7U:MtR X "str.join" (rJoin X.K):=by
 intro pins s σ H x xs v us Q I rx r h;obtain⟨sep,l,ys,rfl,rfl,hl,ok,q⟩:=h;obtain⟨t,rfl⟩:=rx;obtain⟨u,rfl,ru⟩:=vals1 r;cases ru;obtain⟨its,rv,pl,hz⟩:=id (I.list hl);obtain⟨ps,rfl,e⟩:=Je rv;exact SC.join pl.isList e ok fun t' k=>⟨.str _,H,I.tok _,⟨_,rfl⟩,q⟩
theorem VC(e:X.K=K):MtR X "str.join" (rJoin K):=by
 subst e;exact z7U
theorem Z0f(k:Nat):∀ (ys:List Str) (n m:Nat),(∀ y∈ys,y.cps.size<=m)->ys.foldl (fun n (p:Str)=>n+p.length+k) n<=n+ys.length * (m+k)
 | [],n,m,_=>by simp
 | y :: ys,n,m,h=>by
   rw[List.foldl_cons];refine Z11 (Z0f k ys _ m fun z hz=>h z (Z07 _ hz)) ?_;have:y.length<=m:=h y (Z0y ..);rw[Z0u,Nat.add_mul];lia
theorem Jp(h:∀ y∈ys,y.cps.size<=m)(few:ys.length * (m+sep.cps.size)<=1000000):JoinOk sep ys=true:=by
 unfold JoinOk;rw[List.foldl_toArray];have:=Z0f sep.length ys 0 m h;have e:sep.length=sep.cps.size:=rfl;rw[e] at this ⊢;unfold Builtin.Str.tooLong;rw[Bool.not_eq_true',decide_eq_false_iff_not,sizeLine_eq];lia
theorem UX(sep:Array Nat):∀ (ys:List Str) (a:Array Nat) (m:Nat),(∀ y∈ys,y.cps.size<=m)->(ys.foldl (fun acc p=>acc ++ sep ++ p.cps) a).size<=a.size+ys.length * (m+sep.size)
 | [],a,m,_=>by simp
 | y :: ys,a,m,h=>by
   rw[List.foldl_cons];refine Z11 (UX sep ys _ m fun z hz=>h z (Z07 _ hz)) ?_;have:y.cps.size<=m:=h y (Z0y ..);rw[Z0u,Nat.add_mul,Array.size_append,Array.size_append];lia
theorem Xq(h:∀ y∈ys,y.cps.size<=m):(Txt.join sep ys).cps.size<=ys.length * (m+sep.cps.size):=by
 unfold Txt.join Builtin.Str.glued;cases ys with
 | nil=>exact Z18 _
 | cons y ys =>
   refine Z11 (UX sep.cps ys y.cps m fun z hz=>h z (Z07 _ hz)) ?_;have:y.cps.size<=m:=h y (Z0y ..);rw[Z0u,Nat.add_mul];lia
end L2
namespace Pw
open PySem.NumText
theorem uA(x:Str)(i:Nat)(h:i<=x.cps.size):(Txt.slice x (some (i:Int)) none).cps.toList=x.cps.toList.drop i:=by
 have e:Builtin.Str.strSliceIndices (some (i:Int)) none 1 x.length=(List.range (x.length - i)).map (i+·):=by
  have hl:x.length=x.cps.size:=rfl;have e2:max (0:Int) (min (i:Int) (x.length:Int))=((i:Nat):Int):=by lia
  simp only[Builtin.Str.strSliceIndices,show ((1:Int) > 0)=True by simp,if_true,show ¬ ((i:Int)<0) by lia,if_false,e2];exact sliceRange_one i x.length
 unfold Txt.slice;rw[e];split;rename_i hc;have h1:=(Bool.and_eq_true_iff.mp hc).2;rw[ZB,Z2I,beq_iff_eq] at h1;have hl:x.length=x.cps.size:=rfl;by_cases h0:i=0;rw[h0,List.drop_zero];have:x.cps.size=0:=by lia
 have e0:x.cps.toList=[]:=Z2G.mp (by rw[Z06];exact this);rw[e0,List.drop_nil];show (List.filterMap _ _)=_;apply List.ext_getElem?;intro k;rw[List.getElem?_drop];have key:∀ n,(List.filterMap (fun j=>x.cps[j]?) ((List.range n).map (i+·)))=(x.cps.toList.drop i).take n:=by
  intro n
  induction n with
  | zero=>simp
  | succ n ih =>
    rw[Z5p,Z15,List.filterMap_append,ih,Z31,List.getElem?_drop,Z38];simp only[Z1y,Z42];cases hx:x.cps[i+n]? with
    | none=>simp[hx]
    | some c=>simp[hx]
 rw[key];have hl:x.length=x.cps.size:=rfl;have:(x.cps.toList.drop i).take (x.length - i)=x.cps.toList.drop i:=Z0A (by rw[Z30,Z06];lia);rw[this,List.getElem?_drop]
def vB(c:Nat):Bool:=decide (48<=c/\c<=57)
theorem z6K(c:Nat):decide (c∈("0123456789":Str).cps.toList)=vB c:=by
 have e:("0123456789":Str).cps.toList=[48,49,50,51,52,53,54,55,56,57]:=by decide +kernel
 unfold vB;rw[e,decide_eq_decide];simp only[Z0z,Z3F,or_false];omega
def Fig(m:Nat)(x:Str):Prop:=1<=x.cps.size/\x.cps.size<=m/\x.cps.toList.all vB=true/\(x.cps.toList=[48]\/x.cps.toList.head?≠some 48)
instance (m:Nat) (x:Str):Decidable (Fig m x):=by unfold Fig;infer_instance
theorem Yb(h:Fig m x):AllDigits x.cps.toList:=fun c hc=>of_decide_eq_true (Z4F.mp h.2.2.1 c hc)
theorem VX(h:Fig m x):x.cps.toList≠[]:=fun e=>by
 have:=h.1;rw[← Z06,e] at this;simp at this
def num?(x:Str):Option Int:=if Fig 13 x then some ((digitsVal x.cps.toList:Nat):Int) else none
def Qs(x:Str):Str:=if x.cps.toList.head?=some 45 then Txt.slice x (some 1) none else x
def ym(x:Str):Option Int:=if Fig 13 (Qs x)/\x.cps.toList≠[45,48] then PySem.intText? x else none
theorem z3U(h:Fig 13 x):PySem.intText? x=some ((digitsVal x.cps.toList:Nat):Int) :=
 intText_digits (Yb h) (VX h) (Z11 h.2.1 (by decide))
theorem z0z(h:Fig m x):x.cps.toList.head?≠some 45:=fun e=>by
 have:=Yb h 45 (List.mem_of_mem_head? e);lia
theorem z9G{x:Str}{n:Int}(h:num? x=some n):PySem.intText? x=some n/\x.cps.size<=13:=by
 unfold num? at h;split at h;rename_i f;cases h;exact⟨z3U f,f.2.1⟩;cases h
theorem z8N{n:Int}(h:num? x=some n):ym x=some n:=by
 have hi:=z9G h;unfold num? at h;split at h;rename_i f;have e:Qs x=x:=by unfold Qs;rw[if_neg (z0z f)]
 unfold ym;rw[e,if_pos ⟨f,fun z=>z0z f (by rw[z];rfl)⟩];exact hi.1;cases h
theorem V9(h:x.cps.toList.head?=some 45):(Txt.slice x (some 1) none).cps.toList=x.cps.toList.tail:=by
 have h1:1<=x.cps.size:=by
  rw[← Z06];cases e:x.cps.toList with
  | nil=>rw[e] at h;cases h
  | cons c cs=>simp
 have:=uA x 1 h1;rw[List.drop_one] at this;exact this
theorem z6T(h:x.cps.toList.head?=some 45):ym x=(num? (Txt.slice x (some 1) none)).bind fun n=>if n=0 then none else some (-n):=by
 have ct:=V9 h;have ex:x.cps.toList=45 :: x.cps.toList.tail:=by
  cases e:x.cps.toList with
  | nil=>rw[e] at h;cases h
  | cons c cs=>rw[e] at h;cases h;rfl
 unfold ym num?;rw[show Qs x=Txt.slice x (some 1) none by unfold Qs;rw[if_pos h]];by_cases f:Fig 13 (Txt.slice x (some 1) none);rw[if_pos f,Option.bind_some];by_cases z:x.cps.toList=[45,48];have t:(Txt.slice x (some 1) none).cps.toList=[48]:=by rw[ct,z];rfl
 rw[if_neg (fun q=>q.2 z),t];rfl;have hlen:x.length<=4300:=by
  have h2:=f.2.1;rw[← Z06,ct,List.length_tail,Z06] at h2;show x.cps.size<=4300;lia
 rw[if_pos ⟨f,z⟩,intText_neg ex (ct ▸ Yb f) (ct ▸ VX f) hlen,← ct];have pos:0<digitsVal (Txt.slice x (some 1) none).cps.toList:=by
  rcases f.2.2.2 with g | g;exact absurd (by rw[ex,← ct,g]) z;cases e:(Txt.slice x (some 1) none).cps.toList with
  | nil=>exact absurd e (VX f)
  | cons c cs =>
    have hc:=Yb f c (by rw[e];exact Z0y ..);rw[e] at g;refine digitsVal_pos ?_;have:c≠48:=fun q=>g (by rw[q];rfl);lia
 rw[if_neg (by lia)];rw[if_neg f,if_neg (fun q=>f q.1)];rfl
theorem z8V(f:Fig 13 (Qs x)):∃ n,PySem.intText? x=some n/\x.cps.size<=14:=by
 by_cases h:x.cps.toList.head?=some 45;have e:Qs x=Txt.slice x (some 1) none:=by unfold Qs;rw[if_pos h]
 rw[e] at f;have ct:=V9 h;have ex:x.cps.toList=45 :: x.cps.toList.tail:=by
  cases e:x.cps.toList with
  | nil=>rw[e] at h;cases h
  | cons c cs=>rw[e] at h;cases h;rfl
 have h2:=f.2.1;rw[← Z06,ct,List.length_tail,Z06] at h2;exact⟨_,intText_neg ex (ct ▸ Yb f) (ct ▸ VX f) (by show x.cps.size<=4300;lia),by lia⟩;have e:Qs x=x:=by unfold Qs;rw[if_neg h]
 rw[e] at f;exact⟨_,z3U f,Z11 f.2.1 (by decide)⟩
def pr?(c:Nat)(w:Str):Option (Int×Int):=match Txt.split w (L2.Zx c) with
 | [u,v]=>(ym u).bind fun a=>(ym v).bind fun b=>some (a,b)
 | _=>none
theorem Z3X(e:Txt.split x (L2.Zx c)=[u,v])(hu:ym u=some a)(hv:ym v=some b):pr? c x=some (a,b):=by
 unfold pr?;rw[e];show (ym u).bind _=_;rw[hu];show (ym v).bind _=_;rw[hv];rfl
structure Z0n(x:Str)(n:Int)(ps:List (Int×Int)):Prop where
 words:∃ wp ws,Txt.split x (L2.Zx 32)=("pages":Str) :: wp :: ws/\ym wp=some n/\ws.map (pr? 62)=ps.map some
 n1:1<=n
 n12:n<=12
 few:ps.length<=60
 rng:∀ p∈ps,0<=p.1/\p.1<n/\0<=p.2/\p.2<n
 up:ps.Pairwise L2.Z2
def Z2Q(x:Str)(A:Int×Int):Prop:=pr? 47 x=some A/\1<=A.2/\Int.gcd A.1 A.2=1
end Pw
namespace L2
def z0d:Sp:=fun vs H Q _=>∃ (x:Str) (m:Nat),vs=[.str x,.int (m:Int)]/\x.cps.size<=8000/\m<=100/\∀ H',zC H H'->Q (.bl (decide (Pw.Fig m x))) H'
def jk(K:PySem.W.Frag):Sp:=fun vs H Q _=>∃ (p:Addr) (A:Int×Int),vs=[.ref p]/\xw K H p A/\Q (.bl (decide (1<=A.2/\Int.gcd A.1 A.2=1))) H
instance (p q:Int×Int):Decidable (Z2 p q):=by unfold Z2;infer_instance
def vz(K:PySem.W.Frag):Sp:=fun vs H Q _=>∃ (t:Addr) (us:List V) (ps:List (Int×Int)),vs=[.ref t]/\H t=some (.tup us)/\Zp K H ps us/\ps.length<=62/\∀ H',zC H H'->Q (.bl (decide (ps.Pairwise Z2))) H'
def jO(n:Int)(ps:List (Int×Int)):Prop:=ps.length<=60/\(∀ p∈ps,0<=p.1/\p.1<n/\0<=p.2/\p.2<n)/\ps.Pairwise Z2
instance (n:Int) (ps:List (Int×Int)):Decidable (jO n ps):=by unfold jO;infer_instance
def J8(K:PySem.W.Frag):Sp:=fun vs H Q _=>∃ (t:Addr) (n:Int) (us:List V) (ps:List (Int×Int)),vs=[.int n,.ref t]/\H t=some (.tup us)/\Zp K H ps us/\ps.length<=9000/\∀ H',zC H H'->Q (.bl (decide (jO n ps))) H'
def z0Y(K:PySem.W.Frag):Sp:=fun vs H Q _=>∃ (a:Addr) (n:Int) (ps:List (Int×Int)),vs=[.ref a]/\ZX K H a n ps/\ps.length<=9000/\∀ H',zC H H'->Q (.bl (decide (1<=n/\n<=12/\jO n ps))) H'
def Zm(H:Hp)(d:Addr)(B:Nat):Prop:=∃ a b c:Int,H d=some (.lst [.int a,.int b,.int c])/\0<=c/\c<=(B:Int)
theorem Zm.up(h:Zm H d B)(l:B<=B'):Zm H d B':=let ⟨a,b,c,e,c0,c1⟩:=h;⟨a,b,c,e,c0,by lia⟩
theorem Zm.same(h:Zm H d B)(s:zC H H'):Zm H' d B:=let ⟨a,b,c,e,r⟩:=h;⟨a,b,c,s _ _ e,r⟩
def j5:Sp:=fun vs H Q _=>∃ (x:Int) (k:Nat),vs=[.int x,.int (k:Int)]/\∀ d H',zC H H'->H d=none->Zm H' d k->Q (.ref d) H'
def Xi:Sp:=fun vs H Q _=>∃ (d:Addr) (m:Int) (B:Nat),vs=[.ref d,.int m]/\0<m/\m<2 ^ 60/\B<=100000/\Zm H d B/\∀ n H',0<=n->n<m->Zm H' d (B+1)->Kp d H H'->Q (.int n) H'
def z3V(K:PySem.W.Frag):Sp:=fun vs H Q _=>∃ (d:Addr) (m:Int) (B:Nat),vs=[.ref d,.int m]/\1<=m/\m<=12/\B<=90000/\Zm H d B/\∀ a n ps H',ZX K H' a n ps->1<=n->n<=m->ps.length<=30->(∀ p∈ps,0<=p.1/\p.1<n/\0<=p.2/\p.2<n)->ps.Pairwise Z2->Zm H' d (B+100)->Kp d H H'->Q (.ref a) H'
theorem jG(x y:Str):decide (V.str x=V.str y)=decide (x.cps.toList=y.cps.toList):=by
 rw[decide_eq_decide];constructor;intro e;rw[V.str.inj e];intro e;have:x=y:=Z5l (Z2o.mp e);rw[this]
theorem Z0k:(Str.ofString "").cps.toList=[]:=by decide +kernel
theorem t_0:(Str.ofString "0").cps.toList=[48]:=by decide +kernel
theorem Z4R:(Str.ofString "-0").cps.toList=[45,48]:=by decide +kernel
theorem c_0:Str.ofString "0"=Zx 48:=by decide +kernel
theorem c_m:Str.ofString "-"=Zx 45:=by decide +kernel
theorem z9M:Str.ofString "/"=Zx 47:=by decide +kernel
theorem Z3u:Str.ofString ">"=Zx 62:=by decide +kernel
theorem z7F:Str.ofString " "=Zx 32:=by decide +kernel
theorem vI(e:Str.ofString a=Zx c):[V.str (Str.ofString a)]=[V.str (Zx c)]:=by rw[e]
theorem z7W{x:Str}(h:x.cps.size<=8000):x.length<=sizeLine:=by rw[sizeLine_eq];exact Z11 h (by decide)
theorem z6c(x8:x.cps.size<=8000)(hD:H D=none)(k:∀ G,zC H G->G D=some (.lst ((x.cps.toList.map Pw.vB).map V.bl))->Q (.ref D) G) :
 XI (Its x) D (Zs 0) (fun x H Q=>Q true H) (tOp (fun x y H Q=>∃ i j,x=V.str i/\y=V.str j/\Q (V.bl !(Builtin.Str.occurrences j i 0 j.length 1).isEmpty) H) (z2T 0) (tC (V.str (Str.ofString "0123456789")))) Q [none] (upd H D (.lst [])):=by
 refine z5S (x:=x) (D:=D) (fun i ys σ G=>zC H G/\G D=some (.lst ys)/\ys=((x.cps.toList.take i).map Pw.vB).map V.bl/\∃ v,σ=[v]) ?_ ?_ ?_ ?_;exact⟨zC.new hD,zh,rfl,none,rfl⟩;rintro i ys σ G ⟨_,e,_⟩;exact e
 · rintro i c ys σ G hc hlt ⟨sG,eD,rfl,v,rfl⟩
   dsimp only [Zs];rw[if_pos rfl];refine⟨_,rfl,_,_,rfl,rfl,eD,?_,Wt.next hlt ⟨fun b o e=>by rw[zD (zo e hD)];exact sG _ _ e,zh,?_,_,rfl⟩⟩;rw[ZB,ZB,Z20,Z06,sizeLine_eq];lia;rw[Z1l,Pw.z6K,Z31,Z38,hc,Z15,Z15];rfl
 rintro ys σ G ⟨sG,eD,rfl,_⟩;rw[Z0A (by rw[Z06];exact Z03 _)] at eD;exact k G sG eD
theorem zC.Zr(s:zC H G)(h:G q=none):H q=none:=by
 cases e:H q with
 | none=>rfl
 | some o=>rw[s _ _ e] at h;cases h
theorem z4C(p q:Int×Int):lexLe [p.1,p.2] [q.1,q.2]=decide (Z2 p q):=by
 have h:Z2 p q↔(p.1<q.1\/(p.1=q.1/\p.2<=q.2)):=Iff.rfl;rw[jA];split;rw[jA];split;exact (decide_eq_true (h.mpr (by lia))).symm;exact decide_eq_decide.mpr (by rw[h];lia);exact decide_eq_decide.mpr (by rw[h];lia)
def adj:List (Int×Int)->List Bool
 | p :: q :: r=>lexLe [p.1,p.2] [q.1,q.2] :: adj (q :: r)
 | _=>[]
theorem z3Z:∀ ps:List (Int×Int),(adj ps).all id=decide (ps.Pairwise Z2)
 | []=>by simp[adj]
 | [p]=>by simp[adj]
 | p :: q :: r=>by
   rw[adj,List.all_cons,z3Z (q :: r),z4C];show (decide _ && decide _)=_;rw[← Bool.decide_and,decide_eq_decide];constructor;rintro⟨h1,h2⟩;refine Z4X.mpr ⟨fun z hz=>?_,h2⟩;rcases Z0z.mp hz with rfl | hz;exact h1;exact XY p q z h1 ((Z4X.mp h2).1 z hz);intro h;exact⟨(Z4X.mp h).1 q (Z0y ..),(Z4X.mp h).2⟩
theorem z3a:∀ (ps:List (Int×Int)) (i:Nat) (p q:Int×Int),ps[i]?=some p->ps[i+1]?=some q->(adj ps)[i]?=some (lexLe [p.1,p.2] [q.1,q.2])
 | [],_,_,_,h,_=>by simp at h
 | [_],i,_,_,_,h=>by simp at h
 | a :: b :: r,0,p,q,h1,h2=>by
   simp at h1 h2;subst h1 h2;rfl
 | a :: b :: r,i+1,p,q,h1,h2=>by
   rw[adj,List.getElem?_cons_succ];exact z3a (b :: r) i p q (by simpa using h1) (by simpa using h2)
theorem jK:∀ ps:List (Int×Int),(adj ps).length=ps.length - 1
 | []=>rfl
 | [_]=>rfl
 | a :: b :: r=>by rw[adj,Z0u,jK (b :: r)];simp
theorem z6n(h0:0<M)(h:M<2 ^ 40):Sz 100000 (x % M):=Zd 40 (by
 have a:=Z4t x (show M≠0 by lia);have b:=Z51 x h0;lia)
theorem z8W(l:List Nat):(l.map Pw.vB).all id=l.all Pw.vB:=by
 rw[List.all_map];rfl
theorem Zm.lst{H:Hp}{d:Addr}{B:Nat}(h:Zm H d B):∃ xs,H d=some (.lst xs):=let ⟨_,_,_,e,_⟩:=h;⟨_,e⟩
theorem Zm.kl(h:Zm H d B)(k:Kp d H H'):KL H H':=let ⟨_,e⟩:=h.lst;k.kl e
theorem Zm.ne(h:Zm H d B)(n:H l=none):l≠d:=fun z=>by
 obtain⟨_,e⟩:=h.lst;rw[z,e] at n;cases n
theorem Zm.kp(h:Zm H d B)(k:Kp l H H')(n:d≠l):Zm H' d B:=let ⟨a,b,c,e,r⟩:=h;⟨a,b,c,k _ _ e n,r⟩
theorem zO(x y:Str):(x ++ y).cps.size=x.cps.size+y.cps.size:=by
 rw[Z27,Array.size_append]
theorem Zq(x:Str):x.length=x.cps.size:=rfl
theorem z6p{xs zs:List Str}(e:H l=some (.lst (xs.map V.str)))(e':H b=some (.lst (zs.map V.str)))(few:xs.length+zs.length<=100000)(k:∀ p H',zC H H'->H p=none->H' p=some (.lst ((xs ++ zs).map V.str))->Q (.ref p) H'):Z0I (.ref l) (.ref b) H Q :=
 ⟨l,b,_,_,rfl,rfl,e,e',by rw[ZB,ZB,sizeLine_eq];lia,fun p H' s n e=>k p H' s n (by rw[Z15];exact e)⟩
theorem zZ{i:Int}(h0:0<=i)(h1:i<=99):(Str.ofString (toString i)).cps.size<=2:=by
 have key:∀ n:Nat,n<=99->(Str.ofString (toString ((n:Nat):Int))).cps.size<=2:=by decide +kernel
 obtain⟨n,rfl⟩:=Z50 h0;exact key n (by lia)
theorem z0N(hh:A.handled=none)(hit:s.heap.IsRevIter I l ((items.size:Int) - 1))(hl:s.heap.IsList l items)(hne:l≠I)(hn:items.size<=sizeLine)(q:∀ h' tk,(∀ b o,b≠I->s.heap.get? b=some o->h'.get? b=some o)->Q items.reverse.toList { s with heap:=h',toks:=tk }) :
 wpAny (model prog w) A (collect (.ref I)) Q E s:=by
 have hIl:I<s.heap.objs.size:=by obtain⟨o,z,_⟩:=hit;exact Z09 z
 have hll:l<s.heap.objs.size:=by obtain⟨o,z,_⟩:=hl;exact Z09 z
 have hSf:s.heap.objs.size∉[I,l]:=fun hm=>by
  rcases Z0z.mp hm with z | z;exact Z33 hIl z;exact Z33 hll (Z04.mp z)
 unfold collect;refine wpAny_bind (wpAny_runValue (codeAny_builtin F.entry_proto_collect ?_));rw[Z45 F.plain_proto_collect _];show wpAny _ A.in1 (newList [] >>= fun l=>(again (.builtin "list.__iadd__" ⟨[l,.ref I],[]⟩))) _ _ s;refine wpAny_bind (wpAny_newObj_type ?_);refine wpAny_pure ⟨plainId_quiet F.plain_list_iadd _,codeAny_builtin F.entry_list_iadd ?_⟩;rw[Z45 F.plain_list_iadd _];have up1:∀ b o,s.heap.get? b=some o->(s.heap.push { cls:=.type "list",data:=.seq ([]:List Value).toArray }).get? b=some o:=fun b o e=>Z00 _ e;have hS1:(s.heap.push { cls:=.type "list",data:=.seq ([]:List Value).toArray }).get? s.heap.objs.size=some { cls:=.type "list",data:=.seq ([]:List Value).toArray }:=Z08 _ rfl;generalize hh1:s.heap.push { cls:=.type "list",data:=.seq ([]:List Value).toArray }=h1 at up1 hS1;have hit1:h1.IsRevIter I l ((items.size:Int) - 1):=hit.at fun o e=>up1 _ _ e;have hl1:h1.IsList l items:=hl.at fun o e=>up1 _ _ e;have hT1:Shared.TypeIs { s with heap:=h1 } (.ref I) "list_reverseiterator":=Heap.IsRevIter.typeIs (s:={ s with heap:=h1 }) hit1;show wpAny _ A.in1 (Builtin.List.listExtendWith (.ref s.heap.objs.size) (.ref I) (.ref s.heap.objs.size)) _ _ { s with heap:=h1 };unfold Builtin.List.listExtendWith;refine wpAny_bind (wpAny_typeOf hT1 ?_);have g1:Builtin.List.listSameRef (.ref s.heap.objs.size) (.ref I)=false:=by simp[Builtin.List.listSameRef,Z33 hIl]
 rw[if_neg (by rw[g1];decide)];refine wpAny_bind (wpAny_pyIter_revIter (s:={ s with heap:=h1 }) hit1 ?_);refine wpAny_bind (wpAny_holding ?_);unfold Builtin.List.listLengthHint;refine wpAny_bind (wpAny_specialOf hT1 z5b ?_);show wpAny _ A.in1 (specialOf (Value.ref I) (Str.ofString "__length_hint__") >>= _) _ _ _;refine wpAny_bind (wpAny_specialOf hT1 z7Q ?_);generalize hid:("list_reverseiterator.__length_hint__":String)=id0
 wp_delta
 rw[show splitId id0=some ("list_reverseiterator","__length_hint__") from by subst hid;decide +kernel];subst hid;refine wpAny_bind (wpAny_isInstance (b:=true) hT1 (by rw[isSubtype_type];kernel_rfl) ?_);refine wpAny_pure ?_;rw[if_neg (by decide)];refine wpAny_pure ⟨plainId_quiet F.plain_extend_loop _,codeAny_extend_loopS (Walks.listRev (prog:=prog) (w:=w) (A:=A.in1) hh I l hne items).toS hn s.heap.objs.size hSf _ items.size 0 _ _ _ rfl (Z18 _) ⟨Z18 _,by simpa using hit1,hl1⟩ hS1 (ItemsOf.nil _) fun s' acc' c' hm hS' hacc=>?_⟩;have e:acc'=items.reverse:=by
  apply Array.ext;rw[hacc.1,Array.size_reverse];intro i h1' h2';have:=hacc.2 i acc'[i] (by simp);rw[hacc.1] at h1';rw[Array.getElem_reverse];rw[Z35 (by lia)] at this;exact (Z1X this).symm
 subst e;show wpAny _ A (load s.heap.objs.size >>= _) _ _ s';refine wpAny_bind (wpAny_load hS' ?_);refine wpAny_pure ?_;rw[Moved.eq_with hm];refine q s'.heap s'.toks fun b o hb eb=>hm.heap b o (fun hmem=>?_) (up1 b o eb);rcases Z0z.mp hmem with z | z;exact Z0T (Z09 eb) z;exact hb (Z04.mp z)
def tFS(c d:Str)(ta tb:TE):TE:=fun σ H Q=>ta σ H fun v H1=>∃ i,v=.int i/\i.natAbs.log2<1920/\(Str.ofString (toString i)).cps.size<=100/\tb σ H1 fun u H2=>∃ j,u=.int j/\j.natAbs.log2<1920/\(Str.ofString (toString j)).cps.size<=100/\Q (.str (c ++ Str.ofString (toString i) ++ d ++ Str.ofString (toString j))) H2
theorem vE(x:Str):Str.empty ++ x=x:=by
 refine Z5l (Z2o.mp ?_);rw[Z27,Z19];rfl
theorem Z3W{j1 j2}(hc:c.cps.size<=100)(hd:d.cps.size<=100)(ha:PE X a ta)(hb:PE X b tb):PE X (.JoinedStr [.Constant (.str c) j1 p1,.FormattedValue a (-1) none p2,.Constant (.str d) j2 p3,.FormattedValue b (-1) none p4] pos) (tFS c d ta tb):=by
 intro pins s σ H Q I h;refine JoinedStr_many (joinParts_cons (Calls.Constant_str ⟨by rw[vE,Zq,sizeLine_eq];lia,?_⟩));rw[vE];refine joinParts_cons (FormattedValue_plain (Zj (ha pins _ σ H _ (I.tok _) h) fun v s1 ⟨x,H1,I1,r1,q1⟩=>?_));obtain⟨i,rfl,hi,zi,q⟩:=q1;obtain⟨t,rfl⟩:=r1;refine formatField_int_small hi ⟨by rw[Zq,zO,sizeLine_eq];lia,?_⟩;refine joinParts_cons (Calls.Constant_str ⟨by rw[Zq,zO,zO,sizeLine_eq];lia,?_⟩);refine joinParts_cons (FormattedValue_plain (Zj (hb pins _ σ H1 _ ((I1.tok _).tok _) q) fun u s2 ⟨y,H2,I2,r2,q2⟩=>?_));obtain⟨j,rfl,hj,zj,q⟩:=q2;obtain⟨t2,rfl⟩:=r2;have fit:(c ++ Str.ofString (toString i) ++ d ++ Str.ofString (toString j)).length<=sizeLine:=by rw[Zq,zO,zO,zO,sizeLine_eq];lia
 refine formatField_int_small hj ⟨fit,joinParts_nil ⟨.str _,H2,(I2.tok _).tok _,⟨_,rfl⟩,q⟩ fit⟩
end L2
namespace Pw
open PySem.NumText
def jl(s:List Nat)(y:List Nat)(ys:List (List Nat)):List Nat:=y ++ ys.flatMap (s ++ ·)
theorem UE(sep:Array Nat):∀ (ys:List Str) (a:Array Nat),(ys.foldl (fun acc p=>acc ++ sep ++ p.cps) a).toList=a.toList ++ (ys.map (·.cps.toList)).flatMap (sep.toList ++ ·)
 | [],a=>by simp
 | y :: ys,a=>by
   rw[List.foldl_cons,UE sep ys];simp[Z22]
theorem join_list(sep y:Str)(ys:List Str):(Txt.join sep (y :: ys)).cps.toList=jl sep.cps.toList y.cps.toList (ys.map (·.cps.toList)):=by
 unfold Txt.join Builtin.Str.glued jl;exact UE sep.cps ys y.cps
theorem uL(sep:Str):∀ (ys:List Str) (y:Str),(Str.join sep (y :: ys)).cps.toList=jl sep.cps.toList y.cps.toList (ys.map (·.cps.toList))
 | [],y=>by simp[Str.join,jl]
 | z :: ys,y=>by
   have ih:=uL sep ys z;show (y ++ sep ++ Str.join sep (z :: ys)).cps.toList=_;rw[Z27,Z27,Z19,Z19,ih];unfold jl;simp[Z22]
theorem z6m:∀ {y z r s:List Nat},c∉y->c∉z->y ++ c :: r=z ++ c :: s->y=z/\r=s
 | [],[],_,_,_,_,e=>⟨rfl,(Z5k e).2⟩
 | [],b :: z,_,_,_,hz,e=>absurd (Z5k e).1 fun q=>hz (by rw[q];exact Z0y ..)
 | a :: y,[],_,_,hy,_,e=>absurd (Z5k e).1 fun q=>hy (by rw[← q];exact Z0y ..)
 | a :: y,b :: z,r,s,hy,hz,e=>by
   have h:=Z5k e;obtain⟨h1,h2⟩:=z6m (fun q=>hy (Z07 _ q)) (fun q=>hz (Z07 _ q)) h.2;exact⟨by rw[h.1,h1],h2⟩
theorem z6X:∀ {ys zs:List (List Nat)}{y z:List Nat},c∉y->c∉z->(∀ a∈ys,c∉a)->(∀ a∈zs,c∉a)->jl [c] y ys=jl [c] z zs->y=z/\ys=zs
 | [],[],y,z,_,_,_,_,e=>by
   simp only[jl,List.flatMap_nil,Z43] at e;exact⟨e,rfl⟩
 | [],w :: ws,y,z,hy,_,_,_,e=>by
   refine absurd ?_ hy;simp only[jl,List.flatMap_nil,Z43] at e;rw[e];simp
 | a :: as,[],y,z,_,hz,_,_,e=>by
   refine absurd ?_ hz;simp only[jl,List.flatMap_nil,Z43] at e;rw[← e];simp
 | a :: as,b :: bs,y,z,hy,hz,hys,hzs,e=>by
   have e':y ++ c :: jl [c] a as=z ++ c :: jl [c] b bs:=by
    simpa[jl,Z22] using e
   obtain⟨h1,h2⟩:=z6m hy hz e';obtain⟨h3,h4⟩:=z6X (hys a (Z0y ..)) (hzs b (Z0y ..)) (fun q hq=>hys q (Z07 _ hq)) (fun q hq=>hzs q (Z07 _ hq)) h2;exact⟨h1,by rw[h3,h4]⟩
theorem map_inj:∀ {xs ys:List Str},xs.map (·.cps.toList)=ys.map (·.cps.toList)->xs=ys
 | [],[],_=>rfl
 | [],_ :: _,e=>by simp at e
 | _ :: _,[],e=>by simp at e
 | x :: xs,y :: ys,e=>by
   rw[Z1y,Z1y] at e;have h:=Z5k e;rw[Z5l (Z2o.mp h.1),map_inj h.2]
theorem Yl(hy:c∉y.cps.toList)(hys:∀ w∈ys,c∉w.cps.toList):Txt.split (Txt.join (L2.Zx c) (y :: ys)) (L2.Zx c)=y :: ys:=by
 have hp:=PyProof.Rows.split_pos (Txt.join (L2.Zx c) (y :: ys)) (L2.Zx c);have hj:=StrLaws.join_split (Txt.join (L2.Zx c) (y :: ys)) (L2.Zx c);have hf:=StrLaws.split_free (Txt.join (L2.Zx c) (y :: ys)) c;change ∀ p∈Txt.split (Txt.join (L2.Zx c) (y :: ys)) (L2.Zx c),_ at hf;cases e:Txt.split (Txt.join (L2.Zx c) (y :: ys)) (L2.Zx c) with
 | nil=>rw[e] at hp;simp at hp
 | cons z zs =>
   rw[e] at hj hf;have h:=congrArg (fun s:Str=>s.cps.toList) hj;rw[uL,join_list] at h;have hc:(L2.Zx c).cps.toList=[c]:=rfl;rw[hc] at h;obtain⟨h1,h2⟩:=z6X (hf z (Z0y ..)) hy (fun a ha=>by
    obtain⟨w,hw,rfl⟩:=Z17.mp ha;exact hf w (Z07 _ hw)) (fun a ha=>by
    obtain⟨w,hw,rfl⟩:=Z17.mp ha;exact hys w hw) h
   rw[Z5l (Z2o.mp h1),map_inj h2]
abbrev ns(n:Int):Str:=Str.ofString (toString n)
def Vf(m:Nat):List Nat:=(Nat.toDigits 10 m).map Char.toNat
theorem VA(h:¬ m<10):Vf m=Vf (m / 10) ++ [48+m % 10]:=by
 have hm:m % 10<10:=Nat.mod_lt m (by decide);have t:Nat.toDigits 10 (m / 10) ++ Nat.toDigits 10 (m % 10)=Nat.toDigits 10 (10 * (m / 10)+m % 10):=Nat.toDigits_append_toDigits (by decide) (by lia) hm;rw[Nat.div_add_mod] at t;unfold Vf;rw[← t,Z15,Nat.toDigits_of_lt_base hm];have key:∀ d,d<10->(Nat.digitChar d).toNat=48+d:=by decide
 show _ ++ [(Nat.digitChar (m % 10)).toNat]=_;rw[key _ hm]
theorem Vx(h:m<10):Vf m=[48+m]:=by
 unfold Vf;rw[Nat.toDigits_of_lt_base h];have key:∀ d,d<10->(Nat.digitChar d).toNat=48+d:=by decide
 show [(Nat.digitChar m).toNat]=_;rw[key _ h]
theorem xq(m:Nat):AllDigits (Vf m)/\Vf m≠[]/\(m≠0->(Vf m).head?≠some 48)/\∀ k,1<=k->m<10 ^ k->(Vf m).length<=k:=by
 induction m using Nat.strongRecOn with
 | _ m ih =>
   by_cases h:m<10;rw[Vx h];refine⟨fun c hc=>?_,by simp,fun h0 e=>?_,fun k hk _=>by simpa using hk⟩;rw[Z04.mp hc];lia;have:=Z1X e;lia;obtain⟨a,b,c,d⟩:=ih (m / 10) (by lia);have hm:m % 10<10:=Nat.mod_lt m (by decide);rw[VA h];refine⟨fun x hx=>?_,by simp,fun _ e=>?_,fun k hk hlt=>?_⟩;rcases Z25.mp hx with hx | hx;exact a x hx;rw[Z04.mp hx];lia;refine c (by lia) ?_;cases hd:Vf (m / 10) with
   | nil=>exact absurd hd b
   | cons x xs=>rw[hd] at e;exact e
   rw[Z0M,Z37];have k2:2<=k:=by
    rcases Nat.lt_or_ge k 2 with hk2 | hk2;have:k=1:=(by lia);subst this;lia;exact hk2
   have:=d (k - 1) (by lia) (by
    have e:10 ^ k=10 ^ (k - 1) * 10:=(by rw[← Z56];congr 1;lia);rw[e] at hlt;exact Nat.div_lt_of_lt_mul (by rw[Nat.mul_comm];exact hlt))
   lia
theorem YE(m:Nat):(ns ((m:Nat):Int)).cps.toList=Vf m:=PySem.W.KIN.signs_num m
theorem z2O(m:Nat):(ns (Int.negSucc m)).cps.toList=45 :: Vf (m+1):=by
 unfold ns Vf;rw[PyProof.Rows.signs_ofString];show ("-" ++ Nat.repr (m+1)).toList.map Char.toNat=_;rw[String.toList_append,Z15,Nat.toList_repr];rfl
theorem z7X{n:Int}(h0:0<=n)(h1:n<10 ^ 13):num? (ns n)=some n:=by
 obtain⟨m,rfl⟩:=Z50 h0;obtain⟨a,b,c,d⟩:=xq m;have e:=YE m;have f:Fig 13 (ns ((m:Nat):Int)):=by
  refine⟨?_,?_,?_,?_⟩;rw[← Z06,e];exact Z2K.mpr b;rw[← Z06,e];exact d 13 (by decide) (by lia);rw[e];exact Z4F.mpr fun x hx=>decide_eq_true (a x hx);rw[e];by_cases h:m=0;subst h;exact .inl rfl;exact .inr (c h)
 unfold num?;rw[if_pos f,e];unfold Vf;rw[PySem.W.KIN.val_back]
theorem Vl{n:Int}(h0:-(10 ^ 13)<n)(h1:n<10 ^ 13):ym (ns n)=some n:=by
 by_cases hn:0<=n;exact z8N (z7X hn h1);cases n with
 | ofNat m=>exact absurd (Int.natCast_nonneg m) hn
 | negSucc m =>
   have e:=z2O m;have hd:(ns (Int.negSucc m)).cps.toList.head?=some 45:=by rw[e];rfl
   have ct:=V9 hd;rw[e,List.tail_cons] at ct;have en:Txt.slice (ns (Int.negSucc m)) (some 1) none=ns (((m+1:Nat):Nat):Int):=Z5l (Z2o.mp (by rw[ct,YE]));have hnum:num? (ns (((m+1:Nat):Nat):Int))=some (((m+1:Nat):Nat):Int):=z7X (by lia) (by lia);rw[z6T hd,en,hnum,Option.bind_some,if_neg (by lia)];congr 1
theorem vA{n:Int}(h:c∈(ns n).cps.toList):c=45\/(48<=c/\c<=57):=by
 cases n with
 | ofNat m =>
   have e:=YE m;change (ns (Int.ofNat m)).cps.toList=_ at e;rw[e] at h;exact .inr ((xq m).1 c h)
 | negSucc m =>
   rw[z2O m] at h;rcases Z0z.mp h with h | h;exact .inl h;exact .inr ((xq (m+1)).1 c h)
theorem z3s{n:Int}(h0:-(10 ^ 13)<n)(h1:n<10 ^ 13):(ns n).cps.size<=14:=by
 rw[← Z06];cases n with
 | ofNat m =>
   have e:=YE m;change (ns (Int.ofNat m)).cps.toList=_ at e;rw[e];exact Z11 ((xq m).2.2.2 13 (by decide) (by have:Int.ofNat m=(m:Int):=rfl;lia)) (by decide)
 | negSucc m =>
   rw[z2O m,Z0u];exact Nat.succ_le_succ ((xq (m+1)).2.2.2 13 (by decide) (by lia))
def wd(p:Int×Int):Str:=ns p.1 ++ Str.ofString ">" ++ ns p.2
def Ju(A:Int×Int):Str:=ns A.1 ++ Str.ofString "/" ++ ns A.2
def wbT(n:Int)(ps:List (Int×Int)):Str:=Txt.join (L2.Zx 32) (Str.ofString "pages" :: ns n :: ps.map wd)
theorem z6z(c:Nat)(x y:Str):Txt.join (L2.Zx c) [x,y]=x ++ L2.Zx c ++ y:=by
 refine Z5l (Z2o.mp ?_);rw[join_list,Z27,Z27,Z19,Z19];simp[jl]
theorem Z0F(hc:c≠45)(hc2:¬ (48<=c/\c<=57))(h1:-(10 ^ 13)<A.1/\A.1<10 ^ 13)(h2:-(10 ^ 13)<A.2/\A.2<10 ^ 13):pr? c (ns A.1 ++ L2.Zx c ++ ns A.2)=some A:=by
 have free:∀ n,c∉(ns n).cps.toList:=fun n h=>by
  rcases vA h with h | h;exact hc h;exact hc2 h
 rw[← z6z];exact Z3X (Yl (free _) fun w hw=>by rw[Z04.mp hw];exact free _) (Vl h1.1 h1.2) (Vl h2.1 h2.2)
theorem z8x(h1:-(10 ^ 13)<A.1/\A.1<10 ^ 13)(h2:1<=A.2/\A.2<10 ^ 13)(g:Int.gcd A.1 A.2=1):Z2Q (Ju A) A:=by
 refine⟨?_,h2.1,g⟩;unfold Ju;rw[L2.z9M];exact Z0F (by decide) (by decide) h1 ⟨by lia,h2.2⟩
theorem z6P{n:Int}{ps:List (Int×Int)}(n1:1<=n)(n12:n<=12)(few:ps.length<=60)(rng:∀ p∈ps,0<=p.1/\p.1<n/\0<=p.2/\p.2<n)(up:ps.Pairwise L2.Z2):Z0n (wbT n ps) n ps:=by
 have fr:∀ (n:Int),32∉(ns n).cps.toList:=fun n h=>by
  rcases vA h with h | h;cases h;lia
 refine⟨⟨ns n,ps.map wd,Yl (by decide +kernel) fun w hw=>?_,Vl (by lia) (by lia),?_⟩,n1,n12,few,rng,up⟩;rcases Z0z.mp hw with rfl | hw;exact fr n;obtain⟨p,_,rfl⟩:=Z17.mp hw;unfold wd;rw[Z27,Z27,Z19,Z19];intro h;rcases Z25.mp h with h | h;rcases Z25.mp h with h | h;exact fr _ h;rw[show (Str.ofString ">").cps.toList=[62] by decide +kernel] at h;simp at h;exact fr _ h;rw[Z57];refine List.map_congr_left fun p hp=>?_
 have r:=rng p hp;show pr? 62 (wd p)=some p;unfold wd;rw[L2.Z3u];exact Z0F (by decide) (by decide) ⟨by lia,by lia⟩ ⟨by lia,by lia⟩
theorem Z2e(n:Int)(ps:List (Int×Int)):Str.ofString "pages " ++ ns n ++ Txt.join (Str.ofString "") (ps.map fun p=>Str.ofString " " ++ ns p.1 ++ Str.ofString ">" ++ ns p.2)=wbT n ps:=by
 refine Z5l (Z2o.mp ?_);unfold wbT;rw[join_list,Z27,Z27,Z19,Z19];have hj:∀ l:List Str,(Txt.join (Str.ofString "") l).cps.toList=(l.map (·.cps.toList)).flatMap id:=fun l=>by
  cases l with
  | nil=>rfl
  | cons y ys =>
    rw[join_list,L2.Z0k];simp[jl]
 rw[hj];have ep:(Str.ofString "pages ").cps.toList=(Str.ofString "pages").cps.toList ++ [32]:=by decide +kernel
 have es:(Str.ofString " ").cps.toList=[32]:=by decide +kernel
 rw[ep];show _=jl [32] _ _;unfold jl;rw[Z1y,List.flatMap_cons,Z22,Z22,Z22];congr 1;show [32] ++ _=[32] ++ _;congr 2;rw[Z57,Z57,List.flatMap_map,List.flatMap_map];refine congrArg (fun f=>List.flatMap f ps) (funext fun p=>?_);show (Str.ofString " " ++ ns p.1 ++ Str.ofString ">" ++ ns p.2).cps.toList=[32] ++ (wd p).cps.toList;unfold wd;rw[Z27,Z27,Z27,Z27,Z27];simp only[Z19,es,Z22]
end Pw
namespace L2
theorem Z4h(h0:-(10 ^ 13)<i)(h1:i<10 ^ 13):i.natAbs.log2<1920:=by
 have:i.natAbs.log2<44:=by
  rcases Nat.eq_zero_or_pos i.natAbs with h | h;rw[h];decide;exact (Nat.log2_lt (by lia)).mpr (by lia)
 lia
def Z3K(n:Int):Prop:=-(10 ^ 13)<n/\n<10 ^ 13
def Y7(K:PySem.W.Frag):Sp:=fun vs H Q _=>∃ (a:Addr) (n:Int) (ps:List (Int×Int)),vs=[.ref a]/\ZX K H a n ps/\0<=n/\n<=12/\ps.length<=60/\(∀ p∈ps,0<=p.1/\p.1<n/\0<=p.2/\p.2<n)/\∀ H',zC H H'->Q (.str (Pw.wbT n ps)) H'
theorem z0c(h1:Z3K A.1)(h2:Z3K A.2):(Pw.Ju A).cps.size<=40:=by
 have z1:=Pw.z3s h1.1 h1.2;have z2:=Pw.z3s h2.1 h2.2;have zg:(Str.ofString "/").cps.size=1:=by decide +kernel
 unfold Pw.Ju;rw[zO,zO];lia
theorem z1e{n:Int}(o:OkL (n,ps)):(Pw.wbT n ps).cps.size<=1000:=by
 have few:ps.length<=60:=o.few;have n1:1<=n:=o.n1;have n12:n<=12:=o.n12;have zp:(Str.ofString "pages").cps.size=5:=by decide +kernel
 have z1:=zZ (show 0<=n by lia) (show n<=99 by lia);have m5:∀ z∈Str.ofString "pages" :: Pw.ns n :: ps.map Pw.wd,z.cps.size<=5:=fun z h=>by
  rcases Z0z.mp h with rfl | h;lia;rcases Z0z.mp h with rfl | h;exact Z11 z1 (by decide);obtain⟨p,hp,rfl⟩:=Z17.mp h;have r:0<=p.1/\p.1<n/\0<=p.2/\p.2<n:=o.rng p hp;have z1:=zZ r.1 (show p.1<=99 by lia);have z2:=zZ r.2.2.1 (show p.2<=99 by lia);have zb:(Str.ofString ">").cps.size=1:=by decide +kernel
  unfold Pw.wd;rw[zO,zO];show (Str.ofString (toString p.1)).cps.size+_+(Str.ofString (toString p.2)).cps.size<=5;lia
 have ll:(Str.ofString "pages" :: Pw.ns n :: ps.map Pw.wd).length<=62:=by
  rw[Z0u,Z0u,ZB];lia
 unfold Pw.wbT;refine Z11 (Xq m5) ?_;show _ * (5+1)<=_;exact Z11 (Z5j _ ll) (by decide)
def bOf(p:Prop):Bool:=@decide p (Classical.propDecidable p)
end L2
namespace Pw
open L2
def allR(l:List Int):List (List Int):=(List.range (l.length+1)).flatMap fun m=>Xe l m
theorem QJ:r∈allR l↔r.Sublist l:=by
 unfold allR;rw[List.mem_flatMap];constructor;rintro⟨m,_,h⟩;exact (ZS.mp h).1;intro h;exact⟨r.length,Z23.mpr (Nat.lt_succ_of_le h.length_le),ZS.mpr ⟨h,rfl⟩⟩
end Pw
namespace L2
def Qe(K:PySem.W.Frag):Sp:=fun vs H Q _=>∃ (w lp ls pl:Addr) (n x y:Nat) (ps:List (Int×Int)) (A:Int×Int) (Bs:List (Int×Int)) (us:List V) (S:Int) (l ris:List Int),vs=[.ref w,.ref lp,.ref ls,.int (x:Int),.int (y:Int),.ref pl]/\VQ K H w lp ls n ps A Bs us S/\x<n/\y<n/\ps.length+l.length<=60/\H pl=some (.lst (l.map V.int))/\l.length<=12/\(∀ r∈l,0<=r/\r<(n:Int))/\ris.Perm l/\ris.Pairwise (·<=·)/\
 (∀ H',zC H H'->(∀ m row,row∈Pw.Xe ris m->¬ Pw.vQ ps A Bs n x y row)->Q .Zr H')/\
 (∀ (b:Addr) (H':Hp) (row:List Int) (m i:Nat),zC H H'->H b=none->H' b=some (.lst (row.map V.int))->(Pw.Xe ris m)[i]?=some row->Pw.vQ ps A Bs n x y row->(∀ m' r,m'<m->r∈Pw.Xe ris m'->¬ Pw.vQ ps A Bs n x y r)->(∀ (i':Nat) r,i'<i->(Pw.Xe ris m)[i']?=some r->¬ Pw.vQ ps A Bs n x y r)->Q (.ref b) H')
theorem z6D(i:VQ K H w lp ls n ps A Bs us S)(hx:x<n)(hy:y<n)(few:ps.length+l.length<=60)(e:H pl=some (.lst (l.map V.int)))(l12:l.length<=12)(hr:∀ r∈l,0<=r/\r<(n:Int))(pm:ris.Perm l)(pw:ris.Pairwise (·<=·))(k:∀ fv G o,zC H G->Z1h G fv o->Pw.X5 (Pw.vQ ps A Bs n x y) ris o->(∀ b,fv=.ref b->H b=none)->Q fv G):Qe K [.ref w,.ref lp,.ref ls,.int (x:Int),.int (y:Int),.ref pl] H Q E :=
 ⟨w,lp,ls,pl,n,x,y,ps,A,Bs,us,S,l,ris,rfl,i,hx,hy,few,e,l12,hr,pm,pw,fun G s h=>k _ G none s (.inl ⟨rfl,rfl⟩) h nofun,fun b G row m j s nb eb ej p h1 h2=>k _ G (some row) s (.inr ⟨b,row,rfl,rfl,eb⟩) ⟨m,j,ej,p,h1,h2⟩ fun c hc=>by cases hc;exact nb⟩
theorem YY(h:∀ D',D'=D->Uc t u D' σ H):Uc t u D σ H:=h D rfl
theorem vM{D:Ends}(h:D.nx=I)(p:I σ H):D.nx σ H:=h ▸ p
theorem z5y(Pv:St->Hp->Prop)(μ:St->Hp->Nat)(h0:Pv σ H)(hs:∀ B:TS,B=tb->∀ σ H,Pv σ H->c σ H fun b H1=>if b=true then ∃ N:St->Hp->Prop,(∀ σ' H',N σ' H'->∃ m',m'<μ σ H/\m'=μ σ' H'/\Pv σ' H')/\B { D with nx:=N,ct:=N,bk:=D.nx } σ H1 else D.nx σ H1):jf c tb D σ H:=VJ Pv μ h0 (hs tb rfl)
def Z2p(X:Cx)(k:Nat)(tc:TE)(t:TA):TE:=fun σ H Q=>tc σ H fun v H1=>∃ (f:Addr) (fd:FuncData) (ps:List Str) (sp:Sp),v=.ref f/\PySem.W.keepIn X.K (.ref f)=true/\Binds X.K fd ps []/\ZK X.prog X.w X.K X.mg X.base yk k f fd ps sp/\t σ H1 fun vs H2=>sp (vs ++ []) H2 Q E0
theorem z5I{e:Expr}(hr:Zk k X.A)(hc:PE X c tc)(ha:PA X (e :: es) t)(ht:eval (.Call c (e :: es) [] pos) X.env=(do callWith pos (← eval c X.env) [] (backTo pos (starEach (e :: es) X.env)) (backToKw pos (keywordEach [] X.env))):=by rfl)(he:starEach (e :: es) X.env=(false,eval e X.env) :: starEach es X.env:=by rfl)(hpl:(backTo pos (starEach es X.env)).any (·.1)=false:=by rfl):PE X (.Call c (e :: es) [] pos) (Z2p X k tc t):=by
 intro pins s σ H Q I h;rw[ht];refine wpAny_bind (Zj (hc pins s σ H _ I h) fun u s1 ⟨v,H1,I1,r,q⟩=>?_);obtain⟨f,fd,ps,sp,rfl,hk,hb,F,q⟩:=q;cases r;refine PySem.W.callWith_K (h₀:=X.base) I1.ok.mod.kin hk (Zj (ha pos pins s1 σ H1 _ I1 q) fun us s2 ⟨vs,H2,I2,r2,q2⟩=>⟨I2.QB,?_⟩) he hpl;exact jj F hr hb .nil xE I2 r2 q2
theorem isStr_of(x:Str)(t:Tok):Value.isStrOf x (.str x t)=true:=by unfold Value.isStrOf;simp
def DcK(w:World)(K:PySem.W.Frag)(z:Addr)(f:Str->Option Value):Prop:=(z == sysModules)=false/\∃ o es ep,K.lookup z=some o/\o.ExactDict/\o.data=.dict es ep/\(∀ e∈es,∃ x:Str,(Value.isStrOf x e.key)=true/\e.hash=hashStr w x)/\∀ x,findBy Value.isStrOf es x=f x
theorem DcK.map{X:Cx}{σ:St}(d:DcK X.w X.K z f)(I:Inv X pins σ H s):s.heap.MapOf (PySem.strKind X.prog X.w) z f:=by
 obtain⟨_,o,es,ep,l,x,dt,ks,fb⟩:=d;exact⟨o,es,ep,I.QB z o l,x,dt,fun e he=>ks e he,fb⟩
def z9E(w:World)(K:PySem.W.Frag):R2:=fun x y H Q=>∃ (t:Str) (z:Addr) (f:Str->Option Value),x=.str t/\y=.ref z/\DcK w K z f/\Q (.bl (!(f t).isSome)) H
theorem z4w:Y4 X (compareOp .NotIn) (z9E X.w X.K):=by
 intro pins s σ H x y v u Q I rx ry h;obtain⟨t,z,f,rfl,rfl,d,q⟩:=h;obtain⟨tk,rfl⟩:=rx;cases ry;refine wpAny_notIn_of (knd:=PySem.strKind X.prog X.w) (k:=t) (isStr_of t tk) d.1 (d.map I) ?_;exact⟨.bl _,H,I.tok _,rfl,q⟩
def Z1P(w:World)(K:PySem.W.Frag)(td ty:TE):TE:=fun σ H Q=>td σ H fun x H1=>ty σ H1 fun y H2=>∃ (z:Addr) (t:Str) (f:Str->Option Value) (a:Addr),x=.ref z/\y=.str t/\DcK w K z f/\f t=some (.ref a)/\Q (.ref a) H2
theorem z7N(ho:PE X o td)(hi:PE X i ty)(hs:Z3U i):PE X (.Subscript o i pos) (Z1P X.w X.K td ty):=by
 intro pins s σ H Q I h;refine z8y PySem.F.slot_dict_getitem.lookup hs (Zj (ho pins s σ H _ I h) fun u s1 ⟨x,H1,I1,rx,q1⟩=>Zj (hi pins s1 σ H1 _ I1 q1) fun iv s2 ⟨y,H2,I2,ry,z,t,f,a,ex,ey,d,fa,q2⟩=>?_);subst ex ey;obtain rfl:u=Value.ref z:=rx;obtain⟨tk,rfl⟩:=ry;have m:=d.map I2;obtain⟨o',es,ep,ho',hx',_⟩:=id m;exact⟨⟨o',ho',hx'.1⟩,wpAny_getItem_of (knd:=PySem.strKind X.prog X.w) (k:=t) (isStr_of t tk) m fa ⟨.ref a,H2,I2.tok _,rfl,q2⟩⟩
end L2
namespace Pw
def pk:Nat->Nat->List Nat
 | 0,_=>[]
 | k+1,r=>pk k (r / 10) ++ [48+r % 10]
theorem z2n:∀ k r,(pk k r).length=k
 | 0,_=>rfl
 | k+1,r=>by unfold pk;rw[Z0M,z2n k];rfl
theorem z3D:∀ k,pk k 0=List.replicate k 48
 | 0=>rfl
 | k+1=>by unfold pk;rw[Nat.zero_div,z3D k,List.replicate_succ']
theorem ja(hq:0<q):∀ (k r:Nat),r<10 ^ k->Vf (q * 10 ^ k+r)=Vf q ++ pk k r
 | 0,r,h=>by
   have:r=0:=by rw[Nat.pow_zero] at h;lia
   subst this;rw[Nat.pow_zero,Nat.mul_one,Nat.add_zero];exact (Z43 _).symm
 | k+1,r,h=>by
   have e1:q * 10 ^ (k+1)+r=10 * (q * 10 ^ k)+r:=by rw[Z56];grind
   have hp:0<10 ^ k:=Nat.pow_pos (by decide);have h1:1<=q * 10 ^ k:=Nat.mul_pos hq hp;rw[e1,VA (by lia),show (10 * (q * 10 ^ k)+r) / 10=q * 10 ^ k+r / 10 by lia,show (10 * (q * 10 ^ k)+r) % 10=r % 10 by lia,
    ja hq k (r / 10) (by rw[Z56] at h;lia),Z22]
   rfl
theorem z7o:∀ (k r:Nat),r<10 ^ (k+1)->pk (k+1) r=List.replicate (k+1 - (Vf r).length) 48 ++ Vf r
 | 0,r,h=>by
   have h:r<10:=by simpa using h
   rw[Vx h];show [] ++ [48+r % 10]=List.replicate 0 48 ++ [48+r];rw[Nat.mod_eq_of_lt h];rfl
 | k+1,r,h=>by
   by_cases z:r<10;rw[Vx z];show pk (k+1) (r / 10) ++ [48+r % 10]=_;rw[show r / 10=0 by lia,z3D,Nat.mod_eq_of_lt z];rfl;rw[VA z];show pk (k+1) (r / 10) ++ [48+r % 10]=_;rw[z7o k (r / 10) (by rw[Z56] at h;lia),Z0M,Z22];congr 2;simp only[Z0u,Z5q];lia
def pkS(k r:Nat):Str:=⟨(pk k r).toArray⟩
theorem z0x(hq:0<q)(hr:r<10 ^ 60):ns (((q * 10 ^ 60+r:Nat)):Int)=ns ((q:Nat):Int) ++ pkS 60 r:=by
 have e:(ns (((q * 10 ^ 60+r:Nat)):Int)).cps.toList=(ns ((q:Nat):Int) ++ pkS 60 r).cps.toList:=by
  rw[YE,ja hq 60 r hr];show _=((ns ((q:Nat):Int)).cps ++ (pk 60 r).toArray).toList;rw[Z19,YE]
 have:=Z2o.mp e;cases h1:ns (((q * 10 ^ 60+r:Nat)):Int);cases h2:(ns ((q:Nat):Int) ++ pkS 60 r);rw[h1,h2] at this;congr
end Pw
namespace L2
def Z2a:V->List V->Hp->VK->Prop:=fun x vs H Q=>∃ m:Nat,x=.str (Pw.ns ((m:Nat):Int))/\vs=[.int 60]/\m<10 ^ 60/\Q (.str (Pw.pkS 60 m)) H
theorem z6g:MtR X "str.zfill" Z2a:=by
 intro pins s σ H x xs v us Q I rx r h;obtain⟨m,rfl,rfl,hm,q⟩:=h;obtain⟨t,rfl⟩:=rx;obtain⟨u,rfl,t',rfl⟩:=vals1 r;have hd:=Pw.xq m;have hl:=hd.2.2.2 60 (by decide) hm;have e0:=Pw.YE m;have hlen:(Pw.ns ((m:Nat):Int)).length=(Pw.Vf m).length:=by
  show (Pw.ns ((m:Nat):Int)).cps.size=_;rw[← e0,Z06]
 refine call_gives PySem.F.slot_str_zfill (typeIs_str _ _ _) PySem.F.entry_str_zfill (PySem.F.args_str_zfill_2 _ _) (gives_str_zfill _ 60 t t' (by decide) (by decide)) ?_;have ep:=Pw.z7o 59 m hm;have eS:∀ y:Str,y.cps.toList=Pw.pk 60 m->y=Pw.pkS 60 m:=fun y hy=>by
  obtain⟨cs⟩:=y;unfold Pw.pkS;rw[← hy]
 by_cases h60:(60:Int)<=((Pw.ns ((m:Nat):Int)).length:Int);rw[if_pos h60];have:Pw.ns ((m:Nat):Int)=Pw.pkS 60 m:=eS _ (by rw[e0,ep,show 59+1 - (Pw.Vf m).length=0 by lia];rfl);exact⟨.str (Pw.pkS 60 m),H,I,⟨t,by rw[this]⟩,q⟩
 · rw[if_neg h60]
   have hz:zfilled (Pw.ns ((m:Nat):Int)) (Int.toNat 60 - (Pw.ns ((m:Nat):Int)).length)=Pw.pkS 60 m:=by
    refine eS _ ?_;rw[hlen];have hne:=hd.2.1;have hall:=hd.1;obtain⟨c,l,hcl⟩:=List.exists_cons_of_ne_nil hne;have hc:=hall c (by rw[hcl];exact Z0y ..);have h0:(Pw.ns ((m:Nat):Int)).cps[0]?=some c:=(by rw[← Z38,e0,hcl];rfl);have ez:zfilled (Pw.ns ((m:Nat):Int)) (Int.toNat 60 - (Pw.Vf m).length)=Builtin.Str.padded (Pw.ns ((m:Nat):Int)) (Int.toNat 60 - (Pw.Vf m).length) 0 48:=by
     unfold zfilled;rw[h0];split
     · next e=>cases e;lia
     · next e=>cases e;lia
     rfl
    rw[ez];unfold Builtin.Str.padded;rw[Z19,Z19,e0,Array.toList_replicate,Array.toList_replicate,ep];simp
   rw[hz];exact⟨(by show (Pw.pkS 60 m).cps.size<=sizeLine;unfold Pw.pkS;rw[Z05,Pw.z2n,sizeLine_eq];decide),.str _,H,I.tok _,⟨_,rfl⟩,q⟩
theorem vV(sep:Str)(t:Tok)(ps:List (Str×Tok))(I l:Addr)(hok:JoinOk sep (ps.reverse.map (·.1))=true)(hn:ps.length<=sizeLine):Meets (Builtin.«str.join» ⟨[.str sep t,.ref I],[]⟩) (fun A R s=>A.handled=none/\s.heap.IsRevIter I l ((ps.length:Int) - 1)/\s.heap.IsList l (strValues ps).toArray/\l≠I/\
 ∀ h' tk t',(∀ b o,b≠I->s.heap.get? b=some o->h'.get? b=some o)->R (.ok (.ret (.str (Txt.join sep (ps.reverse.map (·.1))) t'))) { s with heap:=h',toks:=tk }):=by
 intro prog w A R s ⟨hh,hit,hl,hne,q⟩;have hT:=Heap.IsRevIter.typeIs (s:=s) hit;have hsz:(strValues ps).toArray.size=ps.length:=by rw[Z05];unfold strValues;rw[ZB]
 rw[join_tree_other];refine wpAny_bind (wpAny_typeOf hT ?_);rw[if_neg (by decide)];refine wpAny_bind (wpAny_tryCatch (wpAny_pyIter_revIter hit ?_));refine wpAny_bind (z0N (items:=(strValues ps).toArray) hh (by rw[hsz];exact hit) hl hne (by rw[hsz];exact hn) fun h' tk kp=>?_);have e:(strValues ps).toArray.reverse.toList=strValues ps.reverse:=by
  rw[Array.toList_reverse];unfold strValues;rw[List.map_reverse]
 rw[e];unfold JoinOk at hok;rw[Bool.not_eq_true'] at hok;have g:∀ l:List (Str×Tok),Builtin.Str.tooLong ((l.map (·.1)).toArray.foldl (·+·.length+sep.length) 0)=false->Gives (joinTail sep (strValues l)) (joinMade sep l):=fun l hk=>by
  have g0:=gives_joinTail sep l hk;cases l with
  | nil=>exact g0
  | cons p r=>cases r with
    | nil=>exact g0
    | cons q r'=>exact g0
 exact g _ hok prog w A R _ (post_join ps.reverse ⟨joinFit_length hok,fun t' k=>q h' k t' kp⟩)
def Z2h(c:Str)(ta:TA):TE:=fun σ H Q=>ta σ H fun vs H1=>∃ (l:Addr) (ys:List Str),vs=[.ref l]/\H1 l=some (.lst (ys.map V.str))/\ys.length<=1000/\JoinOk c ys.reverse=true/\Q (.str (Txt.join c ys.reverse)) H1
theorem JP{X:Cx}{c:Str}{a:Expr}{ta:TA}{j}{p cp apos cpos pos':Pos}(hc:X.calm=true)(hgE:Gl X "reversed")(hmE:X.mg "reversed"=none)(ha:PA X [a] ta)
 (hbase:attributeBase (.Constant (.str c) j cp) "join" X.env (eval (.Constant (.str c) j cp) X.env)=eval (.Constant (.str c) j cp) X.env:=by rfl)
 (hfew:((backTo cpos (starEach [.Call (.Name "reversed" p) [a] [] pos'] X.env)).all (fun x=>!x.1) && (backToKw cpos (keywordEach [] X.env)).all (fun x=>x.1.isSome)
  && decide (([.Call (.Name "reversed" p) [a] [] pos']:List Expr).length+([]:List Keyword).length+(if ([]:List Keyword).isEmpty then 0 else 1)<30))=true:=by rfl)
 (hline:(apos.endLine == cpos.line)=true:=by rfl) (hs:starEach [.Call (.Name "reversed" p) [a] [] pos'] X.env=[(false,eval (.Call (.Name "reversed" p) [a] [] pos') X.env)]:=by rfl)
 (hs2:starEach [a] X.env=[(false,eval a X.env)]:=by rfl) :
 PE X (.Call (.Attribute (.Constant (.str c) j cp) "join" apos) [.Call (.Name "reversed" p) [a] [] pos'] [] cpos) (Z2h c ta):=by
 intro pins s0 σ H Q I0 h;refine wpAny_Call_method_late hbase hfew hline rfl (Calls.Constant_str ?_);have I:Inv X pins σ H { s0 with toks:=s0.toks+1 }:=I0.tok _;generalize ({ s0 with toks:=s0.toks+1 }:Shared)=s at I;refine⟨"str","str.join",Z1G,Z55,PySem.F.type_str_join,typeIs_str _ _ _,(fun a ea=>by cases ea),?_⟩;rw[hs];refine Calls.callWith_builtin (by rfl) (Calls.evalArgs_plain ?_);show wpAny _ _ (spliced ((false,eval (.Call (.Name "reversed" p) [a] [] pos') X.env) :: backTo cpos [])) _ _ s;refine Calls.spliced_cons ?_;refine wpAny_Call_Name_kw (yn I hgE hmE boot_reversed ?_ (by decide) (by decide));refine Z2L (Zj (ha pos' pins s σ H _ I h) fun us s1 ⟨vs,H1,I1,r1,q1⟩=>?_) hs2 rfl;obtain⟨l,ys,rfl,hl,few,hok,q⟩:=q1;obtain⟨u,rfl,ru⟩:=vals1 r1;cases ru;obtain⟨its,rv,pl,hz⟩:=id (I1.list (zQ.of hl));obtain⟨ps,rfl,e⟩:=Je rv;have hll:l<s1.heap.objs.size:=by obtain⟨o,z,_⟩:=pl.isList;exact Z09 z
 have hpl:ps.length=ys.length:=by rw[← e,ZB]
 refine call_reversed_list pl.isList ?_;refine Calls.spliced_nil ?_;have hsv:(strValues ps).toArray.size=ps.length:=by rw[Z05];unfold strValues;rw[ZB]
 have er:ps.reverse.map (·.1)=ys.reverse:=by rw[List.map_reverse,e]
 refine call_meets Z55 (typeIs_str _ _ _) PySem.F.entry_str_join (PySem.F.args_str_join_2 _ _) (vV c _ ps _ l (by rw[er];exact hok) (by rw[hpl,sizeLine_eq];lia)) ⟨I1.ok.hd hc,⟨_,Z08 _ rfl,rfl,by rw[hsv];rfl⟩,pl.isList.at fun o e=>Z00 _ e,Z0T hll,fun h' tk t' hk=>?_⟩;have kp:∀ b o,s1.heap.get? b=some o->h'.get? b=some o:=fun b o e=>hk b o (Z0T (Z09 e)) (Z00 _ e);rw[er];exact⟨.str _,H1,I1.kept (t':=tk) kp,⟨_,rfl⟩,q⟩
end L2
namespace Pw
def ptT(l:List Int):Str:=Txt.join (L2.Zx 32) (l.map ns)
def uB:Option (List Int)->Str
 | none=>Str.ofString "never"
 | some []=>Str.ofString "now"
 | some (x :: l)=>ptT (x :: l)
theorem z7l(hq:0<q)(hr:r<10 ^ 60)(hm:m=q * 10 ^ 60+r)(us:List Str):Txt.join (Str.ofString "") (ns ((q:Nat):Int) :: pkS 60 r :: us)=Txt.join (Str.ofString "") (ns ((m:Nat):Int) :: us):=by
 refine Z5l (Z2o.mp ?_);have e0:(Str.ofString "").cps.toList=[]:=by decide +kernel
 subst hm;rw[z0x hq hr];generalize pkS 60 r=z;generalize ns ((q:Nat):Int)=y;rw[join_list,join_list,e0,Z27,Z19];unfold jl;simp only[Z1y,List.flatMap_cons,List.nil_append,Z22]
def swB(z y:Str):Bool:=decide (0+y.length<=z.length) && Builtin.Str.subAt z y 0
theorem z4e(y t:Str):swB (y ++ t) y=true:=by
 unfold swB Builtin.Str.subAt;rw[Z4G];refine⟨decide_eq_true ?_,?_⟩;show 0+y.cps.size<=(y.cps ++ t.cps).size;rw[Array.size_append];lia;show (((y.cps ++ t.cps).extract 0 (0+y.cps.size)) == y.cps)=true;simp
theorem J4(i:Nat)(h1:z.cps.toList[i]?=some a)(h2:y.cps.toList[i]?=some b)(ne:a≠b):swB z y=false:=by
 cases h:swB z y with
 | false=>rfl
 | true =>
   exfalso;unfold swB Builtin.Str.subAt at h;rw[Z4G] at h;have e:=eq_of_beq h.2;have hi:=(Z12.mp h2).1;rw[Z06] at hi;have:(z.cps.extract 0 (0+y.length))[i]?=z.cps[i]?:=by
    rw[Array.getElem?_extract];have h3:i<min (0+y.length) z.cps.size - 0:=by
     have h4:=of_decide_eq_true h.1;change 0+y.cps.size<=z.cps.size at h4;show i<min (0+y.cps.size) z.cps.size - 0;lia
    rw[if_pos h3,Nat.zero_add]
   rw[e] at this;rw[Z38] at h1 h2;rw[h2,h1] at this;cases this;exact ne rfl
end Pw
namespace L2
def z6t:V->List V->Hp->VK->Prop:=fun x vs H Q=>∃ z y:Str,x=.str z/\vs=[.str y]/\Q (.bl (Pw.swB z y)) H
theorem VR:MtR X "str.startswith" z6t:=by
 intro pins s σ H x xs v us Q I rx r h;obtain⟨z,y,rfl,rfl,q⟩:=h;obtain⟨t,rfl⟩:=rx;obtain⟨u,rfl,t',rfl⟩:=vals1 r;refine call_gives Z49 (typeIs_str _ _ _) PySem.F.entry_str_startswith (PySem.F.args_str_startswith_2 _ _) (gives_str_startswith z y t t') ?_;exact⟨.bl _,H,I,rfl,q⟩
theorem lgN(h:m<2 ^ 1920):m.log2<1920:=by
 by_cases z:m=0;subst z;decide;exact (Nat.log2_lt z).mpr h
theorem xM(h:n<2 ^ 1990):(Pw.ns (n:Int)).cps.size<=600:=by
 have h2:(2:Nat) ^ 1990<10 ^ 600:=by decide +kernel
 rw[← Z06,Pw.YE];exact (Pw.xq n).2.2.2 600 (by decide) (Nat.lt_trans h h2)
theorem z2h(h0:0<=z)(h1:z<100):Pw.Fig 2 (Pw.ns z)/\(Pw.ns z).cps.size<=2:=by
 obtain⟨m,rfl⟩:∃ m:Nat,z=(m:Int):=⟨z.toNat,by lia⟩;obtain⟨a,b,c,d⟩:=Pw.xq m;have e:=Pw.YE m;have l:=d 2 (by decide) (by lia);have hs:(Pw.ns (m:Int)).cps.size=(Pw.Vf m).length:=by rw[← e,Z06]
 refine⟨⟨by rw[hs];exact Z2K.mpr b,by lia,?_,?_⟩,by lia⟩;rw[e,Z4F];exact fun q hq=>decide_eq_true (a q hq);rw[e];by_cases z:m=0;subst z;exact .inl (Pw.Vx (by decide));exact .inr (c z)
theorem z1C(h0:0<=z)(h1:z<100):PySem.intText? (Pw.ns z)=some z:=by
 have:=Pw.Vl (n:=z) (by lia) (by lia);unfold Pw.ym at this;split at this;exact this;cases this
def V3:Sp:=fun vs H Q _=>∃ n:Nat,vs=[.int (n:Int)]/\n<2 ^ 1990/\∀ H',zC H H'->Q (.str (Pw.ns (n:Int))) H'
def J5:Sp:=fun vs H Q _=>∃ n:Nat,vs=[.int (n:Int)]/\n<2 ^ 1990/\∀ H',zC H H'->Q (.str (Pw.ns (n:Int))) H'
def z3G(K:PySem.W.Frag):Sp:=fun vs H Q _=>∃ (p:Addr) (A:Int×Int),vs=[.ref p]/\xw K H p A/\0<=A.1/\0<=A.2/\yc 1983 A/\∀ H',zC H H'->Q (.str (Pw.Ju A)) H'
structure LvS(K:PySem.W.Frag)(C:Addr)(H:Hp)(p pd lp:Addr)(n:Nat)(ps:List (Int×Int))(Ws:List Wb)(A:Int×Int):Prop where
 l:ZZ K C H p pd lp ((n:Int),ps) Ws
 n1:1<=n
 n12:n<=12
 few:ps.length<=60
 rng:∀ q∈ps,0<=q.1/\q.1<(n:Int)/\0<=q.2/\q.2<(n:Int)
 fA:XC K H lp A
 ca:Pw.Canon A
 a0:0<A.1
 a1:A.1<=A.2
 sA:yc 41 A
def z3j(K:PySem.W.Frag):Sp:=fun vs H Q _=>∃ (L:Addr) (l:List Int),vs=[.ref L]/\zQ K H L (l.map V.int)/\l.length<=12/\(∀ x∈l,0<=x/\x<100)/\∀ H',zC H H'->Q (.str (Pw.ptT l)) H'
def z1u(K:PySem.W.Frag)(C:Addr):Sp:=fun vs H Q _=>∃ (p pd lp:Addr) (W:Wb) (Ws:List Wb) (x:Int),vs=[.ref p,.int x]/\ZZ K C H p pd lp W Ws/\x<W.1/\∀ H',zC H H'->Q .Zr H'
def Jv:Str:=Str.ofString "ok"
def Xd(K:PySem.W.Frag)(C:Addr):Sp:=fun vs H Q _=>∃ (p pd lp L:Addr) (W:Wb) (Ws:List Wb) (x y:Int),vs=[.ref p,.ref L]/\H L=some (.lst [.int x,.int y])/\ZZ K C H p pd lp W Ws/\Ws.length<=5000/\(0<=x/\x<W.1/\0<=y/\y<W.1)/\W.2.length<60/\
 ∀ (H':Hp) (ms:List (Int×Int)),ms.Perm (W.2 ++ [(x,y)])->ms.Pairwise Z2->ZZ K C H' p pd lp (W.1,ms) (Ws ++ [W])->Kx [p,pd] H H'->Q (.str Jv) H'
def Xk(K:PySem.W.Frag)(C:Addr):Sp:=fun vs H Q _=>∃ (p pd lp L:Addr) (W W0:Wb) (Ws0:List Wb),vs=[.ref p,.ref L]/\ZZ K C H p pd lp W (Ws0 ++ [W0])/\∀ H',ZZ K C H' p pd lp W0 Ws0->Kx [p,pd] H H'->Q (.str Jv) H'
def QU(K:PySem.W.Frag)(C:Addr):Sp:=fun vs H Q _=>∃ (p pd lp L:Addr) (n:Nat) (ps:List (Int×Int)) (Ws:List Wb) (A:Int×Int),vs=[.ref p,.ref L]/\LvS K C H p pd lp n ps Ws A/\∀ H',zC H H'->Q (.str (Pw.wbT (n:Int) ps)) H'
def xr(K:PySem.W.Frag)(C:Addr):Sp:=fun vs H Q _=>∃ (p pd lp L:Addr) (n c:Nat) (ps:List (Int×Int)) (Ws:List Wb) (A:Int×Int),vs=[.ref p,.ref L]/\H L=some (.lst [.int (c:Int)])/\LvS K C H p pd lp n ps Ws A/\c<n/\
 ∀ (H':Hp) (Ss:List (Int×Int)),Pw.Zi ps A (YM n) n Ss->(∀ S∈Ss,yc 1983 S)->zC H H'->Q (.str (Pw.Ju (Ss.getD c (0,1)))) H'
def vj(K:PySem.W.Frag)(C tb:Addr)(pos:Pos):Sp:=fun vs H Q _=>∃ (p pd lp L:Addr) (n:Nat) (ps:List (Int×Int)) (Ws:List Wb) (A:Int×Int),vs=[.ref p,.ref L]/\LvS K C H p pd lp n ps Ws A/\Tab tb pos XG H/\
 ∀ (H':Hp) (Ss:List (Int×Int)) (r:List Nat),Pw.Zi ps A (YM n) n Ss->Pw.Rkd Ss n r->Kp tb H H'->Tab tb pos XG H'->Q (.str (Pw.ptT (r.map fun (k:Nat)=>(k:Int)))) H'
def vq(K:PySem.W.Frag)(C:Addr):Sp:=fun vs H Q _=>∃ (p pd lp L:Addr) (n x y:Nat) (ps:List (Int×Int)) (Ws:List Wb) (A:Int×Int),vs=[.ref p,.ref L]/\H L=some (.lst [.int (x:Int),.int (y:Int)])/\LvS K C H p pd lp n ps Ws A/\x<n/\y<n/\x≠y/\ps.length+6<=60/\
 ∀ (H':Hp) (o:Option (List Int)),Pw.X5 (Pw.vQ ps A (YM n) n x y) (oiL (List.range (min 6 n))) o->zC H H'->Q (.str (Pw.uB o)) H'
def XW(P:Program)(w:World)(K:PySem.W.Frag)(mg:Str->Option Value)(base:Heap)(kk:Nat)(fz:Str->Option Value):Sp:=fun vs H Q _=>∃ (p:Addr) (x hd:Str) (ws:List Int) (t f:Addr) (fd:FuncData) (sp:Sp),vs=[.ref p,.str x]/\x.cps.size<=8000/\Txt.split x (Zx 32)=hd :: ws.map Pw.ns/\(∀ z∈ws,0<=z/\z<100)/\ws.length<=2/\fz hd=some (.ref t)/\(∀ H,zX K H t [.int (ws.length:Int),.ref f])/\PySem.W.keepIn K (.ref f)=true/\Binds K fd ["live","pages"] []/\ZK P w K mg base yk kk f fd ["live","pages"] sp/\
 ∀ (L:Addr) (H':Hp),zC H H'->H L=none->H' L=some (.lst (ws.map V.int))->sp [.ref p,.ref L] H' Q E0
def dkF(p:Addr):List (Str×V):=Z9 "live" (.ref p) []
theorem VF(p:Addr):(dkF p).lookup ("live":Str)=some (.ref p):=by unfold dkF;rw[Zc,if_pos rfl]
theorem z3L(p q:Addr):Z9 "live" (.ref q) (dkF p)=dkF q:=by
 unfold dkF;show (if ("live":Str)="live" then [(("live":Str),V.ref q)] else _)=_;rw[if_pos rfl];rfl
structure DkT(K:PySem.W.Frag)(Cd:Addr):Prop where
 cl:Cls K Cd
 nL:YI K Cd "live"
def Js(Cd:Addr)(H:Hp)(d p:Addr):Prop:=∃ dx,H d=some (.ins Cd dx (dkF p))
def z3A(K:PySem.W.Frag):Sp:=fun vs H Q _=>∃ (A:Int×Int),vs=[.str (Pw.Ju A)]/\Pw.Canon A/\0<A.1/\A.1<=A.2/\A.2<10 ^ 13/\∀ (a:Addr) (H':Hp),zC H H'->XC K H' a A->Q (.ref a) H'
def UA(K:PySem.W.Frag):Sp:=fun vs H Q _=>∃ (p:Addr) (A:Int×Int),vs=[.ref p]/\xw K H p A/\(1<=A.2/\Int.gcd A.1 A.2=1/\0<A.1/\A.1<=A.2)/\Q (.bl true) H
def z0X(K:PySem.W.Frag)(C Cd:Addr):Sp:=fun vs H Q _=>∃ (d dx:Addr),vs=[.ref d]/\H d=some (.ins Cd dx [])/\∀ (p pd lp:Addr) (H':Hp),H p=none->H pd=none->Js Cd H' d p->ZZ K C H' p pd lp (1,[]) []->XC K H' lp (1,2)->Kp d H H'->Q .Zr H'
def ZF(P:Program)(w:World)(K:PySem.W.Frag)(mg:Str->Option Value)(base:Heap)(kk:Nat)(fz:Str->Option Value)(C Cd:Addr):Sp:=fun vs H Q E=>∃ (d p pd lp:Addr) (x:Str) (W:Wb) (Ws:List Wb) (A:Int×Int),vs=[.ref d,.str x]/\Js Cd H d p/\ZZ K C H p pd lp W Ws/\XC K H lp A/\
 ((Pw.swB x (Str.ofString "web ")=false/\Pw.swB x (Str.ofString "leap ")=false/\XW P w K mg base kk fz [.ref p,.str x] H Q E)\/
  (∃ (n:Nat) (ps:List (Int×Int)),x=Str.ofString "web " ++ Pw.wbT (n:Int) ps/\1<=n/\n<=12/\ps.length<=60/\(∀ q∈ps,0<=q.1/\q.1<(n:Int)/\0<=q.2/\q.2<(n:Int))/\ps.Pairwise Z2/\∀ (p' pd':Addr) (H':Hp),H p'=none->H pd'=none->Js Cd H' d p'->ZZ K C H' p' pd' lp ((n:Int),ps) []->Kp d H H'->Q (.str Jv) H')\/
  (∃ A':Int×Int,x=Str.ofString "leap " ++ Pw.Ju A'/\Pw.Canon A'/\0<A'.1/\A'.1<=A'.2/\A'.2<10 ^ 13/\∀ (p' pd' lp':Addr) (H':Hp),H p'=none->H pd'=none->Js Cd H' d p'->ZZ K C H' p' pd' lp' W []->XC K H' lp' A'->Kp d H H'->Q (.str Jv) H'))
theorem z4H(hg:Gl X x)(hdb:(x == ("__debug__":Str))=false)(D:MkD X.prog X.w X.K X.mg X.base CX k C x ps sp)(hr:Zk (k+1) X.A)(hx:Passes CX X E):PE X (.Call (.Name x p) [] [] pos) (z3r C sp [] E Ub):=by
 obtain⟨f,fd,a,b,c,F⟩:=D;exact z7c a F hr hg b c .nil hx hdb
theorem Q9{R:Addr->V->Hp->Prop}(hw:ZX K H wa W.1 W.2)(k:∀ (p pd:Addr) (H':Hp),H p=none->H pd=none->ZZ K C H' p pd lp W []->zC H H'->R p .Zr H') :
 ∀ x dx,H x=none->H dx=none->dx≠x->Yy C [.ref x,.ref wa,.ref lp] (upd (upd H dx (.own x)) x (.ins C dx [])) (R x) E:=fun x dx hx hdx ne=>by
 refine⟨x,dx,wa,lp,rfl,zh,fun pd H' mp lv kp=>?_⟩;have sm:zC H H':=fun b o e=>kp b o (by rw[zD (zo e hx),zD (zo e hdx)];exact e) (zo e hx);have mpd:H pd=none:=by
  by_cases z:pd=x;rw[z];exact hx;rw[zD z] at mp;by_cases z2:pd=dx;rw[z2];exact hdx;rw[zD z2] at mp;exact mp
 exact k x pd H' hx mpd ⟨wa,[],lv,hw.same sm,Wbs.nil⟩ sm
theorem Z1j(K:PySem.W.Frag):PySem.W.kitOne K (.type "str") (.type "str")=some true:=by rfl
theorem z2b{fs:List (Str×V)}(h:H d=some (.ins C dx fs)):KU H (upd H d o) :=
 ⟨fun b xs e=>by rw[zD (by rintro rfl;rw[h] at e;cases e)];exact e,fun b q u e=>by rw[zD (by rintro rfl;rw[h] at e;cases e)];exact e⟩
theorem ZZ.Z1I{fs:List (Str×V)}(l:ZZ K C H p pd lp W Ws)(h:H d=some (.ins Cd dx fs))(n1:p≠d)(n2:pd≠d):ZZ K C (upd H d o) p pd lp W Ws :=
 l.kx (S:=[d]) (fun b q e nb=>by rw[zD (by rintro rfl;exact nb (Z04.mpr rfl))];exact e) (z2b h) (fun z=>n1 (Z04.mp z)) (fun z=>n2 (Z04.mp z))
theorem jd(y t:Str)(i:Nat)(h:y.cps.size=i):Txt.slice (y ++ t) (some (i:Int)) none=t:=by
 refine Z5l (Z2o.mp ?_);rw[Pw.uA _ _ (by rw[zO];lia)];rw[Z27,Z19,← h,← Z06];exact List.drop_left ..
end L2
namespace Pw
theorem z2y(s y:Str):Txt.join s [y]=y:=by
 refine Z5l (Z2o.mp ?_);rw[join_list];unfold jl;simp
theorem Z1E(y z:Str):Txt.join (L2.Zx 32) [y,z]=y ++ L2.Zx 32 ++ z:=by
 refine Z5l (Z2o.mp ?_);rw[join_list];unfold jl;simp[Z27,Z19,Z22]
theorem J7(y z u:Str):Txt.join (L2.Zx 32) [y,z,u]=y ++ L2.Zx 32 ++ z ++ L2.Zx 32 ++ u:=by
 refine Z5l (Z2o.mp ?_);rw[join_list];unfold jl;simp[Z27,Z19,Z22]
theorem UK(i:Nat)(h1:hd.cps.toList[i]?=some a)(h2:y.cps.toList[i]?=some b)(ne:a≠b):swB (hd ++ r) y=false:=by
 refine J4 i ?_ h2 ne;rw[Z27,Z19,Z2H (Z12.mp h1).1];exact h1
theorem Z3P:32∉(ns z).cps.toList:=fun h=>by
 rcases vA h with e |⟨e,_⟩ <;> lia
theorem Z0a:Str.ofString " "=L2.Zx 32:=by decide +kernel
theorem ZR(x y z:Str):x ++ y ++ z=x ++ (y ++ z):=Z5l (Z2o.mp (by simp[Z27,Z19,Z22]))
theorem z5k{hd:Str}{ws:List Int}(h:32∉hd.cps.toList):Txt.split (Txt.join (L2.Zx 32) (hd :: ws.map ns)) (L2.Zx 32)=hd :: ws.map ns :=
 Yl h fun w hw=>by
  obtain⟨z,_,rfl⟩:=Z17.mp hw;exact Z3P
end Pw
namespace L2
def Jw(P:Program)(w:World)(K:PySem.W.Frag)(mg:Str->Option Value)(base:Heap)(fz:Str->Option Value)(hd:Str)(m:Nat)(sp:Sp):Prop:=∃ (t f:Addr) (fd:FuncData),fz hd=some (.ref t)/\(∀ H,zX K H t [.int (m:Int),.ref f])/\PySem.W.keepIn K (.ref f)=true/\Binds K fd ["live","pages"] []/\ZK P w K mg base yk 16 f fd ["live","pages"] sp
theorem Z2W{m:Nat}(D:Def P w K mg base k nm ["live","pages"] sp)(hk:k<=16)(ft:fz hd=some (.ref t))(lt:K.lookup t=some ⟨.type "tuple",od,.seq #[.int (m:Int) tk,.ref f] n,sl⟩)(mf:mg nm=some (.ref f)):Jw P w K mg base fz hd m sp:=by
 obtain⟨f',fd,a,b,c,F⟩:=D;rw[mf] at b;cases b;exact⟨t,f,fd,ft,fun H=>.inr ⟨_,_,_,lt,rfl,rfl,zl2,.cons ⟨_,rfl⟩ (.cons rfl .nil)⟩,a,c,F.mono hk⟩
structure Ds(K:PySem.W.Frag)(C Cd tb:Addr)(pos:Pos)(H:Hp)(d p pd lp:Addr)(n:Nat)(ps:List (Int×Int))(Ws:List Wb)(A:Int×Int):Prop where
 o:Js Cd H d p
 s:LvS K C H p pd lp n ps Ws A
 t:Tab tb pos XG H
theorem Ds.same(h:Ds K C Cd tb pos H d p pd lp n ps Ws A)(s:zC H H'):Ds K C Cd tb pos H' d p pd lp n ps Ws A :=
 ⟨let ⟨dx,e⟩:=h.o;⟨dx,s _ _ e⟩,{ h.s with l:=h.s.l.same s,fA:=s _ _ h.s.fA },h.t.same s⟩
theorem xX{hd:Str}{ws:List Int}(h:Ds K C Cd tb pos H d p pd lp n ps Ws A)(an:Jw P w K mg base fz hd ws.length sp)(ex:x=Txt.join (Zx 32) (hd :: ws.map Pw.ns))(h8:hd.cps.size<=8)(hsp:32∉hd.cps.toList)(wb:∀ z∈ws,0<=z/\z<100)(w2:ws.length<=2)(s1:Pw.swB x (Str.ofString "web ")=false)(s2:Pw.swB x (Str.ofString "leap ")=false)(k:∀ (L:Addr) (H':Hp),zC H H'->H L=none->H' L=some (.lst (ws.map V.int))->sp [.ref p,.ref L] H' Q E0) :
 ZF P w K mg base 16 fz C Cd [.ref d,.str x] H Q E:=by
 obtain⟨t,f,fd,a1,a2,a3,a4,a5⟩:=an;have hm:∀ y∈hd :: ws.map Pw.ns,y.cps.size<=8:=fun y hy=>by
  rcases Z0z.mp hy with e | e;rw[e];exact h8;obtain⟨z,hz,rfl⟩:=Z17.mp e;have b:=wb z hz;have:=(z2h b.1 b.2).2;lia
 have sz:=Xq (sep:=Zx 32) hm;rw[Z0u,ZB] at sz;have zc:(Zx 32).cps.size=1:=rfl;refine⟨d,p,pd,lp,x,_,Ws,A,rfl,h.o,h.s.l,h.s.fA,.inl ⟨s1,s2,p,x,hd,ws,t,f,fd,sp,rfl,?_,by rw[ex];exact Pw.z5k hsp,wb,w2,a1,a2,a3,a4,a5,k⟩⟩;rw[ex];refine Z11 sz ?_;rw[zc];have:=Z5j (8+1) (show ws.length+1<=3 by lia);lia
theorem UD(h:Ds K C Cd tb pos H d p pd lp n ps Ws A)(an:Jw P w K mg base fz (Str.ofString "share") 1 (xr K C))(hc:c<n)(k:∀ (H':Hp) (Ss:List (Int×Int)),Pw.Zi ps A (YM n) n Ss->(∀ S∈Ss,yc 1983 S)->zC H H'->Q (.str (Pw.Ju (Ss.getD c (0,1)))) H') :
 ZF P w K mg base 16 fz C Cd [.ref d,.str (Str.ofString "share " ++ Pw.ns (c:Int))] H Q E:=by
 have n12:=h.s.n12;have e:Str.ofString "share "=Str.ofString "share" ++ Zx 32:=by decide +kernel
 refine xX (ws:=[(c:Int)]) h an (by rw[e];exact (Pw.Z1E _ _).symm) (by decide +kernel) (by decide +kernel) (fun z hz=>by rw[Z04.mp hz];lia) (by show 1<=2;decide) ?_ ?_ fun L H' s m eL=>?_;exact Pw.UK 0 (a:=115) (b:=119) (by decide +kernel) (by decide +kernel) (by decide);exact Pw.UK 0 (a:=115) (b:=108) (by decide +kernel) (by decide +kernel) (by decide);exact⟨p,pd,lp,L,n,c,ps,Ws,A,rfl,eL,(h.same s).s,hc,fun H2 Ss ok sz s2=>k H2 Ss ok sz (s.trans s2)⟩
theorem z5K(h:Ds K C Cd tb pos H d p pd lp n ps Ws A)(an:Jw P w K mg base fz (Str.ofString "rank") 0 (vj K C tb pos))(k:∀ (H':Hp) (Ss:List (Int×Int)) (r:List Nat),Pw.Zi ps A (YM n) n Ss->Pw.Rkd Ss n r->Kp tb H H'->Ds K C Cd tb pos H' d p pd lp n ps Ws A->Q (.str (Pw.ptT (r.map fun (k:Nat)=>(k:Int)))) H') :
 ZF P w K mg base 16 fz C Cd [.ref d,.str (Str.ofString "rank")] H Q E:=by
 refine xX (ws:=[]) h an (Pw.z2y _ _).symm (by decide +kernel) (by decide +kernel) (fun z hz=>by cases hz) (by decide) (by decide +kernel) (by decide +kernel) fun L H' s m eL=>?_;have h':=h.same s;refine⟨p,pd,lp,L,n,ps,Ws,A,rfl,h'.s,h'.t,fun H2 Ss r ok rk kp tab=>k H2 Ss r ok rk ((zC.kpd s).trans kp) ?_⟩;obtain⟨dx,ed⟩:=h'.o;have nd:d≠tb:=h'.t.ne ed (fun _ z=>by cases z);obtain⟨now,us,lv,hw,hs⟩:=id h'.s.l;obtain⟨⟨dl,hl⟩,hpd⟩:=id lv;have np:p≠tb:=h'.t.ne hl (fun _ z=>by cases z);have npd:pd≠tb:=h'.t.ne hpd (fun _ z=>by cases z);have nlp:lp≠tb:=h'.t.ne h'.s.fA (fun _ z=>by cases z);have ku:KU H' H2:=⟨fun b xs e=>kp b _ e (h'.t.ne e (fun _ z=>by cases z)),fun b q u e=>kp b _ e (h'.t.ne e (fun _ z=>by cases z))⟩;refine⟨⟨dx,kp _ _ ed nd⟩,{ h'.s with l:=h'.s.l.kx (S:=[tb]) (fun b q e nb=>kp b q e fun z=>nb (Z04.mpr z)) ku (fun z=>np (Z04.mp z)) (fun z=>npd (Z04.mp z)),fA:=kp _ _ h'.s.fA nlp },tab⟩
theorem z6E(h:Ds K C Cd tb pos H d p pd lp n ps Ws A)(an:Jw P w K mg base fz (Str.ofString "show") 0 (QU K C))(k:∀ (H':Hp),zC H H'->Q (.str (Pw.wbT (n:Int) ps)) H') :
 ZF P w K mg base 16 fz C Cd [.ref d,.str (Str.ofString "show")] H Q E:=by
 refine xX (ws:=[]) h an (Pw.z2y _ _).symm (by decide +kernel) (by decide +kernel) (fun z hz=>by cases hz) (by decide) (by decide +kernel) (by decide +kernel) fun L H' s m eL=>?_;exact⟨p,pd,lp,L,n,ps,Ws,A,rfl,(h.same s).s,fun H2 s2=>k H2 (s.trans s2)⟩
theorem Ds.kx{n':Nat}{ps':List (Int×Int)}(h:Ds K C Cd tb pos H d p pd lp n ps Ws A)(k:Kx [p,pd] H H')(l:ZZ K C H' p pd lp ((n':Int),ps') Ws')(n1:1<=n')(n12:n'<=12)(few:ps'.length<=60)(rng:∀ q∈ps',0<=q.1/\q.1<(n':Int)/\0<=q.2/\q.2<(n':Int)):Ds K C Cd tb pos H' d p pd lp n' ps' Ws' A:=by
 obtain⟨now,us,lv,hw,hs⟩:=id h.s.l;obtain⟨⟨dl,hl⟩,hpd⟩:=id lv;obtain⟨dx,ed⟩:=h.o;have nd:d∉[p,pd]:=fun z=>by
  rcases Z0z.mp z with z | z;subst z;rw[hl] at ed;have e2:=congrArg List.length (HO.ins.inj (Z1X ed)).2.2;rw[ju] at e2;exact absurd e2 (by show ¬ (3:Nat)=1;decide);rw[Z04.mp z,hpd] at ed;cases ed
 have ku:KU H H':=lv.ku k;have nt:tb∉[p,pd]:=fun z=>by
  rcases Z0z.mp z with z | z;exact h.t.ne hl (fun _ z=>by cases z) z.symm
  exact h.t.ne hpd (fun _ z=>by cases z) (Z04.mp z).symm
 refine⟨⟨dx,k _ _ ed nd⟩,⟨l,n1,n12,few,rng,ku.tup _ _ h.s.fA,h.s.ca,h.s.a0,h.s.a1,h.s.sA⟩,?_⟩;exact Tab.kx h.t k fun b hb=>by
  rcases Z0z.mp hb with rfl | hb;exact .inr ⟨_,_,_,hl⟩;rw[Z04.mp hb];exact .inl ⟨_,hpd⟩
theorem z0f(h:Ds K C Cd tb pos H d p pd lp n ps Ws A)(an:Jw P w K mg base fz (Str.ofString "link") 2 (Xd K C))(hx:x<n)(hy:y<n)(few:ps.length<60)(hz:Ws.length<=5000)(k:∀ (H':Hp) (ms:List (Int×Int)),ms.Perm (ps ++ [((x:Int),(y:Int))])->ms.Pairwise Z2->Ds K C Cd tb pos H' d p pd lp n ms (Ws ++ [((n:Int),ps)]) A->Kx [p,pd] H H'->Q (.str Jv) H') :
 ZF P w K mg base 16 fz C Cd [.ref d,.str (Str.ofString "link " ++ Pw.ns (x:Int) ++ Str.ofString " " ++ Pw.ns (y:Int))] H Q E:=by
 have n12:=h.s.n12;have e:Str.ofString "link "=Str.ofString "link" ++ Zx 32:=by decide +kernel
 have wb:∀ z∈[(x:Int),(y:Int)],0<=z/\z<100:=fun z hz=>by
  rcases Z0z.mp hz with e | e;lia;have:=Z04.mp e;lia
 refine xX (ws:=[(x:Int),(y:Int)]) h an (by rw[e,Pw.Z0a];exact (Pw.J7 _ _ _).symm) (by decide +kernel) (by decide +kernel) wb (by show 2<=2;decide) ?_ ?_ fun L H' s m eL=>?_;rw[Pw.ZR,Pw.ZR];exact Pw.UK 0 (a:=108) (b:=119) (by decide +kernel) (by decide +kernel) (by decide);rw[Pw.ZR,Pw.ZR];exact Pw.UK 1 (a:=105) (b:=101) (by decide +kernel) (by decide +kernel) (by decide);have h':=h.same s;refine⟨p,pd,lp,L,((n:Int),ps),Ws,(x:Int),(y:Int),rfl,eL,h'.s.l,hz,⟨by lia,by show (x:Int)<(n:Int);lia,by lia,by show (y:Int)<(n:Int);lia⟩,few,fun H2 ms pm pw l2 k2=>k H2 ms pm pw (h'.kx k2 l2 h.s.n1 h.s.n12 ?_ ?_) ((zC.kx s).trans k2)⟩;rw[pm.length_eq,Z0M,Z37];exact few;intro q hq;rcases Z25.mp (pm.mem_iff.mp hq) with z | z;exact h.s.rng q z;rw[Z04.mp z];show 0<=(x:Int)/\(x:Int)<n/\0<=(y:Int)/\(y:Int)<n;lia
theorem z0l(h:Ds K C Cd tb pos H d p pd lp n ps (Ws0 ++ [((n:Int),ps0)]) A)(an:Jw P w K mg base fz (Str.ofString "undo") 0 (Xk K C))(few:ps0.length<=60)(rng:∀ q∈ps0,0<=q.1/\q.1<(n:Int)/\0<=q.2/\q.2<(n:Int))(k:∀ (H':Hp),Ds K C Cd tb pos H' d p pd lp n ps0 Ws0 A->Kx [p,pd] H H'->Q (.str Jv) H') :
 ZF P w K mg base 16 fz C Cd [.ref d,.str (Str.ofString "undo")] H Q E:=by
 refine xX (ws:=[]) h an (Pw.z2y _ _).symm (by decide +kernel) (by decide +kernel) (fun z hz=>by cases hz) (by decide) (by decide +kernel) (by decide +kernel) fun L H' s m eL=>?_;have h':=h.same s;exact⟨p,pd,lp,L,_,((n:Int),ps0),Ws0,rfl,h'.s.l,fun H2 l2 k2=>k H2 (h'.kx k2 l2 h.s.n1 h.s.n12 few rng) ((zC.kx s).trans k2)⟩
theorem z7f(h:Ds K C Cd tb pos H d p pd lp n ps Ws A)(an:Jw P w K mg base fz (Str.ofString "pass") 2 (vq K C))(hx:x<n)(hy:y<n)(hxy:x≠y)(few:ps.length+6<=60)(k:∀ (H':Hp) (o:Option (List Int)),Pw.X5 (Pw.vQ ps A (YM n) n x y) (oiL (List.range (min 6 n))) o->zC H H'->Q (.str (Pw.uB o)) H') :
 ZF P w K mg base 16 fz C Cd [.ref d,.str (Str.ofString "pass " ++ Pw.ns (x:Int) ++ Str.ofString " " ++ Pw.ns (y:Int))] H Q E:=by
 have n12:=h.s.n12;have e:Str.ofString "pass "=Str.ofString "pass" ++ Zx 32:=by decide +kernel
 have wb:∀ z∈[(x:Int),(y:Int)],0<=z/\z<100:=fun z hz=>by
  rcases Z0z.mp hz with e | e;lia;have:=Z04.mp e;lia
 refine xX (ws:=[(x:Int),(y:Int)]) h an (by rw[e,Pw.Z0a];exact (Pw.J7 _ _ _).symm) (by decide +kernel) (by decide +kernel) wb (by show 2<=2;decide) ?_ ?_ fun L H' s m eL=>?_;rw[Pw.ZR,Pw.ZR];exact Pw.UK 0 (a:=112) (b:=119) (by decide +kernel) (by decide +kernel) (by decide);rw[Pw.ZR,Pw.ZR];exact Pw.UK 0 (a:=112) (b:=108) (by decide +kernel) (by decide +kernel) (by decide);exact⟨p,pd,lp,L,n,x,y,ps,Ws,A,rfl,eL,(h.same s).s,hx,hy,hxy,few,fun H2 o lo s2=>k H2 o lo (s.trans s2)⟩
def z5C(K:PySem.W.Frag)(x y:Str):Prop:=∃ t,PySem.W.nsIn K mainGlobals x=some (some (.str y t))
theorem z5C.of(a:PySem.W.nsIn K mainGlobals x=some (some (.str y t))):z5C K x y:=⟨t,a⟩
theorem z5C.mg{K:PySem.W.Frag}{h:Heap}{mg:Str->Option Value}{x y:Str}(a:z5C K x y)(XK:K.In h)(G:h.Ns mainGlobals mg):∃ t,mg x=some (.str y t):=by
 obtain⟨t,a⟩:=a;exact⟨t,Z4n XK G a⟩
def z3B(w:World):List DictEntry->Prop
 | []=>True
 | e :: es=>(∃ x t,e.key=.str x t/\e.hash=hashStr w x)/\z3B w es
theorem z3B.all(h:z3B w es):∀ e∈es,∃ x:Str,(Value.isStrOf x e.key)=true/\e.hash=hashStr w x:=by
 induction es with
 | nil=>intro e he;cases he
 | cons a l ih =>
   intro e he;obtain⟨⟨x,t,h1,h2⟩,r⟩:=h;rcases Z0z.mp he with rfl | he;exact⟨x,by rw[h1];exact isStr_of x t,h2⟩;exact ih r e he
def z8r(w:World)(K:PySem.W.Frag)(nm:Str)(fz:Str->Option Value):Prop:=∃ z,PySem.W.nsIn K mainGlobals nm=some (some (.ref z))/\DcK w K z fz
theorem z8r.of(a:PySem.W.nsIn K mainGlobals nm=some (some (.ref z)))(l:K.lookup z=some ⟨.type "dict",none,.dict es ep,#[]⟩)(hz:(z == sysModules)=false)(ks:z3B w es.toList):z8r w K nm (fun x=>findBy Value.isStrOf es x) :=
 ⟨z,a,hz,_,es,ep,l,⟨rfl,rfl,rfl⟩,rfl,fun e he=>ks.all e (Array.mem_toList_iff.mpr he),fun _=>rfl⟩
def Xv(K:PySem.W.Frag)(fz:Str->Option Value)(hd:Str)(m:Nat)(nm:Str):Prop:=∃ (t f:Addr) (od:Option Addr) (tk:Tok) (n:Nat) (sl:Array (Option Value)),fz hd=some (.ref t)/\K.lookup t=some ⟨.type "tuple",od,.seq #[.int (m:Int) tk,.ref f] n,sl⟩/\PySem.W.nsIn K mainGlobals nm=some (some (.ref f))
theorem Xv.of{m:Nat}(a:fz hd=some (.ref t))(l:K.lookup t=some ⟨.type "tuple",od,.seq #[.int (m:Int) tk,.ref f] n,sl⟩)(b:PySem.W.nsIn K mainGlobals nm=some (some (.ref f))):Xv K fz hd m nm:=⟨t,f,od,tk,n,sl,a,l,b⟩
theorem Xv.anc(x:Xv K fz hd m nm)(XK:K.In h)(G:h.Ns mainGlobals mg)(D:Def P w K mg base k nm ["live","pages"] sp)(hk:k<=16):Jw P w K mg base fz hd m sp:=by
 obtain⟨t,f,od,tk,n,sl,a,l,b⟩:=x;exact Z2W D hk a l (Z4n XK G b)
def z3X(K:PySem.W.Frag):Sp:=fun vs H Q _=>∃ (d:Addr) (B:Nat),vs=[.ref d]/\B<=90000/\Zm H d B/\∀ p A H',xw K H' p A->Pw.Canon A->0<A.1->A.1<=A.2->A.2<=1000->Zm H' d (B+100)->Kp d H H'->Q (.ref p) H'
def z0L:Sp:=fun vs H Q _=>∃ x y:Int,vs=[.int x,.int y]/\0<y/\Sz 8000 x/\Sz 8000 y/\∀ (p:Addr) (H':Hp),zC H H'->H p=none->H' p=some (.tup [.int (Pw.mk x y).1,.int (Pw.mk x y).2])->Q (.ref p) H'
def Vw(K:PySem.W.Frag):Sp:=fun vs H Q _=>∃ (p q:Addr) (A B:Int×Int),vs=[.ref p,.ref q]/\xw K H p A/\xw K H q B/\0<A.2/\0<B.2/\yc 3900 A/\yc 3900 B/\∀ (r:Addr) (H':Hp),zC H H'->H r=none->XC K H' r (Pw.vC A B)->Q (.ref r) H'
def z7w(K:PySem.W.Frag):Sp:=fun vs H Q _=>∃ (p q:Addr) (A B:Int×Int),vs=[.ref p,.ref q]/\xw K H p A/\xw K H q B/\yc 3900 A/\yc 3900 B/\Q (.bl (decide (A.1 * B.2<B.1 * A.2))) H
def z5V(K:PySem.W.Frag)(C Cd tb:Addr)(pos:Pos):Sp:=fun vs H Q _=>∃ (d p pd lp:Addr) (n:Nat) (ps:List (Int×Int)) (Ws:List Wb) (A:Int×Int),vs=[.ref d,.int (n:Int)]/\Ds K C Cd tb pos H d p pd lp n ps Ws A/\
 ∀ (D:Addr) (H':Hp) (Ss:List (Int×Int)) (ys:List V),Pw.Zi ps A (YM n) n Ss->(∀ S∈Ss,yc 1983 S)->zC H H'->H D=none->H' D=some (.lst ys)->yp K H' Ss ys->Q (.ref D) H'
theorem Xg{m:Nat}(h:m<2 ^ 1990):PySem.intText? (Pw.ns (m:Int))=some (m:Int)/\(Pw.ns (m:Int)).cps.size<=640:=by
 refine⟨?_,Z11 (xM h) (by decide)⟩;have e:=Pw.YE m;obtain⟨a,b,_,_⟩:=Pw.xq m
 open PySem.NumText in
 rw[intText_digits (x:=Pw.ns (m:Int)) (by rw[e];exact a) (by rw[e];exact b) (Z11 (xM h) (by decide)),e];unfold Pw.Vf;rw[PySem.W.KIN.val_back]
theorem LvS.uniq(h:LvS K C H p pd lp n ps Ws A)(o1:Pw.Zi ps A (YM n) n Ss)(o2:Pw.Zi ps A (YM n) n Ts):Ss=Ts :=
 Pw.Zi.unique (fun q hq=>(h.rng q hq).2.2) h.ca (Pw.Yh h.n1) (by rw[Z4r]) (Y9 h.n1 h.n12 h.a0 h.a1) o1 o2
theorem z0P(A:Int×Int):Txt.split (Pw.Ju A) (Zx 47)=[Pw.ns A.1,Pw.ns A.2]:=by
 have no:∀ z:Int,47∉(Pw.ns z).cps.toList:=fun z h=>by
  rcases Pw.vA h with e |⟨e,_⟩ <;> lia
 have e:Pw.Ju A=Txt.join (Zx 47) [Pw.ns A.1,Pw.ns A.2]:=by
  refine Z5l (Z2o.mp ?_);rw[Pw.join_list];have es:Str.ofString "/"=Zx 47:=by decide +kernel
  unfold Pw.jl Pw.Ju;rw[es];simp[Z27,Z19,Z22]
 rw[e];exact Pw.Yl (no _) fun w hw=>by rw[Z04.mp hw];exact no _
theorem Ja(h1:0<=A.1)(h2:0<=A.2)(z:yc 1983 A):(Pw.Ju A).cps.size<=1201/\(∃ m:Nat,A.1=(m:Int)/\m<2 ^ 1990)/\∃ m:Nat,A.2=(m:Int)/\m<2 ^ 1990:=by
 obtain⟨a1,a2⟩:=A;obtain⟨m1,rfl⟩:∃ m:Nat,a1=(m:Int):=⟨a1.toNat,by simp only at h1;lia⟩;obtain⟨m2,rfl⟩:∃ m:Nat,a2=(m:Int):=⟨a2.toNat,by simp only at h2;lia⟩;have b1:m1<2 ^ 1990:=Z13 (show m1<2 ^ 1983 from z.1) (Z3a (by decide) (by decide));have b2:m2<2 ^ 1990:=Z13 (show m2<2 ^ 1983 from z.2) (Z3a (by decide) (by decide));have z1:=xM b1;have z2:=xM b2;have zg:(Str.ofString "/").cps.size=1:=by decide +kernel
 refine⟨?_,⟨m1,rfl,b1⟩,m2,rfl,b2⟩;unfold Pw.Ju;rw[zO,zO];show (Pw.ns (m1:Int)).cps.size+_+(Pw.ns (m2:Int)).cps.size<=1201;lia
theorem Js.no{Cd:Addr}(h:¬ ("live":Str)=m):(dkF p).lookup m=none:=by
 unfold dkF;rw[Zc,if_neg (fun z=>h z.symm)];rfl
end L2
namespace Pw
theorem z7r{c m:Nat}(a:Canon A)(n1:1<=n)(m1:1<=m):vC (mk A.1 (A.2 * (n:Int))) (mk ((A.2 - A.1) * (c:Int)) (A.2 * (m:Int)))=QI A (1,(n:Int)) (c:Int) (m:Int):=by
 have a2:=a.1;have hn:(n:Int)≠0:=by lia
 have hm:(m:Int)≠0:=by lia
 have d1:A.2 * (n:Int)≠0:=Z34 (by lia) hn;have d2:A.2 * (m:Int)≠0:=Z34 (by lia) hm;have cb:Canon ((1:Int),(n:Int)):=⟨by show 0<(n:Int);lia,by show Int.gcd 1 _=1;simp⟩;have c1:=Zt (a:=A.1) d1;have c2:=Zt (a:=(A.2 - A.1) * (c:Int)) d2;refine val_inj (YA (zI c1) (zI c2)) ?_ ?_;unfold QI;exact YA (zI (Zn (zI a) (zI cb))) (zI (Zn (zI (yF (by decide) (zI a))) (zI (Zt hm))));rw[ve (zI c1) (zI c2),val_mk d1,val_mk d2,xJ a cb hm];have q2:((A.2:Int):Rat)≠0:=by
  intro z;have:=Rat.intCast_inj.mp (show ((A.2:Int):Rat)=((0:Int):Rat) by simpa using z);lia
 have qn:((n:Int):Rat)≠0:=by
  intro z;have:=Rat.intCast_inj.mp (show (((n:Int)):Rat)=((0:Int):Rat) by simpa using z);lia
 have qm:((m:Int):Rat)≠0:=by
  intro z;have:=Rat.intCast_inj.mp (show (((m:Int)):Rat)=((0:Int):Rat) by simpa using z);lia
 unfold val;rw[Z0L,Z0L,Z0L,Z48];simp only;grind
end Pw
namespace L2
def Z0i(K:PySem.W.Frag):Sp:=fun vs H Q _=>∃ (la L:Addr) (A:Int×Int) (ps:List (Int×Int)) (n j t:Nat),vs=[.ref la,.ref L,.int (n:Int),.int (t:Int)]/\xw K H la A/\H L=some (.lst ((Pw.outs ps (j:Int)).map V.int))/\Pw.Canon A/\0<A.1/\A.1<=A.2/\A.2<=1000/\1<=n/\n<=12/\t<n/\ps.length<=60/\
 ∀ (r:Addr) (H':Hp),zC H H'->H r=none->XC K H' r ((Pw.Zb ps A (YM n) (j:Int)).getD t (0,1))->Q (.ref r) H'
end L2
namespace Pw
open L2
def stq(f:Nat->Nat->Rat)(n j t:Nat):List (Int×Int):=(List.range n).map fun u=>Vv (qs (if u<t then j+1 else j) (f u))
theorem Z1S(h:u<n):(stq f n j t)[u]?=some (Vv (qs (if u<t then j+1 else j) (f u))):=by
 unfold stq;rw[Z14,Z5r h];rfl
theorem z8z:(stq f n j t).set t (Vv (qs (j+1) (f t)))=stq f n j (t+1):=by
 refine Z5f (by simp[stq]) fun i h1 h2=>?_;simp only[stq,List.getElem_set,List.getElem_map,List.getElem_range];by_cases c:t=i;rw[if_pos c,if_pos (by lia),c];rw[if_neg c];by_cases d:i<t;rw[if_pos d,if_pos (by lia)];rw[if_neg d,if_neg (by lia)]
theorem z8B:stq f n j n=stq f n (j+1) 0:=by
 unfold stq;refine List.map_congr_left fun u hu=>?_;rw[if_pos (Z23.mp hu),if_neg (Z41 _)]
def wst(ps:List (Int×Int))(A:Int×Int)(Ss:List (Int×Int))(n:Nat)(t i:Nat):Rat:=val (Ss.getD i (0,1)) * val ((Zb ps A (YM n) (i:Nat)).getD t (0,1))
theorem z8R(h:Zi ps A (YM n) n Ss):stq (wst ps A Ss n) n n 0=Ss:=by
 have l:(YM n).length=n:=by simp[YM]
 have e:=h.beh l;unfold z5m z0I at e;rw[l] at e;exact e
theorem z5U:stq f n 0 0=List.replicate n (0,1):=by
 show (List.range n).map (fun _=>((0:Int),(1:Int)))=_;rw[List.map_const',Z2I]
end Pw
namespace L2
theorem yp.puA(f:XC K H p A):∀ {As:List (Int×Int)}{vs:List V}(j:Nat),yp K H As vs->yp K H (As.set j A) (vs.set j (.ref p))
 | [],_,_,h=>by
   have h:_=([]:List V):=h;subst h;exact rfl
 | B :: As,_,0,⟨q,r,e,g,h⟩=>by subst e;exact⟨p,r,rfl,f,h⟩
 | B :: As,_,j+1,⟨q,r,e,g,h⟩=>by subst e;exact⟨q,_,rfl,g,yp.puA f j h⟩
structure Z4u(K:PySem.W.Frag)(H:Hp)(wa la ro:Addr)(n:Nat)(ps:List (Int×Int))(A:Int×Int)(Ss:List (Int×Int))(ys:List V)(V':Int):Prop where
 web:ZX K H wa n ps
 leap:xw K H la A
 ca:Pw.Canon A
 a0:0<A.1
 a1:A.1<=A.2
 a3:A.2<=1000
 n1:1<=n
 n12:n<=12
 few:ps.length<=60
 rng:∀ p∈ps,0<=p.1/\p.1<(n:Int)/\0<=p.2/\p.2<(n:Int)
 row:H ro=some (.lst ys)
 frs:yp K H Ss ys
 ok:Pw.Zi ps A (YM n) n Ss
 rw:Rw Ss n V' 1
def z4h(K:PySem.W.Frag):Sp:=fun vs H Q _=>∃ (wa la ro:Addr) (n:Nat) (ps:List (Int×Int)) (A:Int×Int) (Ss:List (Int×Int)) (ys:List V) (V':Int),vs=[.ref wa,.ref la,.ref ro]/\Z4u K H wa la ro n ps A Ss ys V'/\
 ∀ (D:Addr) (H':Hp) (zs:List V),zC H H'->H D=none->H' D=some (.lst zs)->yp K H' Ss zs->Q (.ref D) H'
end L2
namespace Pw
open L2
theorem Zi.Z2Z(n1:1<=n)(n12:n<=12)(ca:Canon A)(a0:0<A.1)(a1:A.1<=A.2)(h:Zi ps A (YM n) n Ss)(ht:t<n):A.1 * (Ss.getD t (0,1)).2<=(Ss.getD t (0,1)).1 * A.2 * (n:Int):=by
 have g:=h.geA ca (Yh n1) (by simp[YM]) (Y9 n1 n12 a0 a1) ht;rw[show (YM n).getD t (0,1)=(1,(n:Int)) from uQ _ _ ht] at g;have cS:=(h.canon _ (mem_getD (Bs:=Ss) (t:=t) (by rw[h.len];exact ht))).1;have hd:0<A.2 * (n:Int):=Z4s ca.1 (by lia);refine Int.not_lt.mp fun lt=>?_;have l2:(Ss.getD t (0,1)).1 * (A.2 * (n:Int))<A.1 * (Ss.getD t (0,1)).2:=by rw[← Int.mul_assoc];exact lt
 have l3:=(Ye (A:=Ss.getD t (0,1)) (B:=(A.1,A.2 * (n:Int))) cS hd).mpr l2;have e:val (A.1,A.2 * (n:Int))=val A * val ((1:Int),(n:Int)):=by
  have q2:((A.2:Int):Rat)≠0:=Ze (by have:=ca.1;lia);have qn:((n:Int):Rat)≠0:=Ze (by lia);unfold val;rw[Z0L];simp only;grind
 rw[e] at l3;grind
end Pw
namespace L2
theorem z6C{xs zs:List V}{g:TG}{tb:TS}{DD:Ends}(hlen:zs.length<=xs.length)(Pv:Nat->St->Hp->Prop)(h0:Pv 0 σ H)(hl:∀ i σ H,Pv i σ H->Sq b1 K H a xs/\Sq b2 K H b zs)(hs:∀ i x z σ H T G,xs[i]?=some x->zs[i]?=some z->i<zs.length->Pv i σ H->H T=none->zC H G->G T=some (.tup [x,z])->g (.ref T) σ G fun σ2 H2=>tb { DD with nx:=Pv (i+1),ct:=Pv (i+1),bk:=DD.nx } σ2 H2)(hd:∀ σ H,Pv zs.length σ H->DD.nx σ H) :
 ∃ W:Nat->Nat->St->Hp->Prop,(∃ m,W 0 m σ H)/\∀ i m σ H,W i m σ H->
   ((z1U b1 b2 K a b).stop i H/\DD.nx σ H)\/((z1U b1 b2 K a b).go i H/\∃ N:St->Hp->Prop,(∀ σ' H',N σ' H'->∃ m',m'<m/\W (i+1) m' σ' H')/\∀ x H',(z1U b1 b2 K a b).yld i H x H'->g x σ H' fun σ2 H2=>tb { DD with nx:=N,ct:=N,bk:=DD.nx } σ2 H2):=by
 refine⟨fun i m σ H=>m=zs.length - i/\i<=zs.length/\Pv i σ H,⟨zs.length,by simp,Z18 _,h0⟩,?_⟩;rintro i m σ H ⟨rfl,hi,p⟩;obtain⟨hq,hq'⟩:=hl i σ H p;by_cases hlt:i<zs.length;have hx:i<xs.length:=by lia
 refine .inr ⟨⟨xs,zs,xs[i],zs[i],hq,hq',by simp[hx],by simp[hlt]⟩,Pv (i+1),fun σ' H' p'=>⟨zs.length - (i+1),by lia,rfl,hlt,p'⟩,fun x H' y=>?_⟩;obtain⟨T,u,v,rfl,hT,rfl,hu,hv⟩:=y;exact hs i u v σ H T _ (hu xs hq) (hv zs hq') hlt p hT (zC.new hT) zh;have e:i=zs.length:=by lia
 subst e;exact .inl ⟨⟨xs,zs,hq,hq',Nat.min_eq_right hlen⟩,hd σ H p⟩
def z7v(K:PySem.W.Frag)(C Cd tb:Addr)(pos:Pos):Sp:=fun vs H Q _=>∃ (d wa la p pd lp:Addr) (n:Nat) (ps:List (Int×Int)) (Ws:List Wb) (A:Int×Int),vs=[.ref d,.ref wa,.ref la]/\Ds K C Cd tb pos H d p pd lp n ps Ws A/\ZX K H wa n ps/\xw K H la A/\A.2<=1000/\
 ∀ H',Kp tb H H'->Ds K C Cd tb pos H' d p pd lp n ps Ws A->Q (.bl true) H'
end L2
namespace Pw
open L2
theorem uR(h:l≠[]):Txt.split (ptT l) (Zx 32)=l.map ns:=by
 have no:∀ z:Int,32∉(ns z).cps.toList:=fun z h=>by
  rcases vA h with e |⟨e,_⟩ <;> lia
 cases l with
 | nil=>exact absurd rfl h
 | cons a l =>
   unfold ptT;exact Yl (no a) fun w hw=>by
    obtain⟨z,_,rfl⟩:=Z17.mp hw;exact no z
theorem z4c(few:l.length<=12)(h:∀ z∈l,0<=z/\z<=99):(ptT l).cps.size<=200:=by
 have e:(Zx 32).cps.size=1:=by decide +kernel
 refine Z11 (Xq (m:=2) fun y hy=>?_) ?_;obtain⟨z,hz,rfl⟩:=Z17.mp hy;exact zZ (h z hz).1 (h z hz).2;rw[e,ZB];lia
theorem Rkd.adj(h:Rkd Ss n r)(ha:r[i]?=some a)(hb:r[i+1]?=some b):RkR Ss a b:=by
 obtain⟨h1,rfl⟩:=Z12.mp ha;obtain⟨h2,rfl⟩:=Z12.mp hb;exact List.pairwise_iff_getElem.mp h.up _ _ h1 h2 (by lia)
theorem RkR.Z3L(h:RkR Ss a b)(pa:0<(Ss.getD a (0,1)).2)(pb:0<(Ss.getD b (0,1)).2):(Ss.getD b (0,1)).1 * (Ss.getD a (0,1)).2<(Ss.getD a (0,1)).1 * (Ss.getD b (0,1)).2\/((Ss.getD a (0,1)).1 * (Ss.getD b (0,1)).2=(Ss.getD b (0,1)).1 * (Ss.getD a (0,1)).2/\a<b):=by
 rcases h with h |⟨h,l⟩;exact .inl ((Ye pb pa).mp h);refine .inr ⟨Int.le_antisymm (Int.not_lt.mp fun x=>?_) (Int.not_lt.mp fun x=>?_),l⟩
 have:=(Ye pb pa).mpr x;rw[h] at this;exact Rat.lt_irrefl this;have:=(Ye pa pb).mpr x;rw[h] at this;exact Rat.lt_irrefl this
end Pw
namespace L2
theorem z9P:ZQ xs (some 1) none=xs.drop 1:=by
 cases xs with
 | nil=>rfl
 | cons x xs =>
   unfold ZQ;have e1:HT.ZY (x :: xs).length 0 (some 1)=1:=by
    unfold HT.ZY;simp
    try lia
   have e2:HT.ZY (x :: xs).length (x :: xs).length none=(x :: xs).length:=rfl;rw[e1,e2];exact Z0A (by simp)
def z2B(K:PySem.W.Frag)(C Cd tb:Addr)(pos:Pos):Sp:=fun vs H Q _=>∃ (d p pd lp L:Addr) (n x y:Nat) (ps:List (Int×Int)) (Ws:List Wb) (A:Int×Int) (l:List Int),vs=[.ref d,.int (x:Int),.int (y:Int),.ref L]/\Ds K C Cd tb pos H d p pd lp n ps Ws A/\H L=some (.lst (l.map V.int))/\L≠pd/\x<n/\y<n/\(∀ z∈l,0<=z/\z<(n:Int))/\ps.length+l.length<=60/\Ws.length<=4000/\
 ∀ (H':Hp) (ms Ss:List (Int×Int)),ms.Perm (ps ++ l.map fun z=>(z,(x:Int)))->Pw.Zi ms A (YM n) n Ss->Ds K C Cd tb pos H' d p pd lp n ps Ws A->Kx [p,pd] H H'->Q (.bl (decide ((Ss.getD y (0,1)).1 * (Ss.getD x (0,1)).2<(Ss.getD x (0,1)).1 * (Ss.getD y (0,1)).2))) H'
theorem z5a(ns:List Int):∃ cs:List Int,ZQ (ns.map V.int) (some 3) (some 16)=cs.map V.int/\cs.length<=13:=by
 have e3:HT.ZY (ns.map V.int).length 0 (some 3)=min 3 (ns.map V.int).length:=HT.yR _ _ 3;have e16:HT.ZY (ns.map V.int).length (ns.map V.int).length (some 16)=min 16 (ns.map V.int).length:=HT.yR _ _ 16;unfold ZQ;rw[e3,e16];refine⟨(ns.drop (min 3 (ns.map V.int).length)).take (min 16 (ns.map V.int).length - min 3 (ns.map V.int).length),by rw[List.map_take,List.map_drop],?_⟩;rw[Z20];lia
theorem Ds.kd(h:Ds K C Cd tb pos H d p pd lp n ps Ws A)(k:Kp dk H H')(e:H dk=some (.lst xs))(ne:dk≠pd):Ds K C Cd tb pos H' d p pd lp n ps Ws A:=by
 have ku:KU H H':=k.ku (.inl ⟨_,e⟩);have kx:Kx [dk] H H':=k.kx (by simp);obtain⟨now,us,⟨⟨dl,hl⟩,hpd⟩,_⟩:=id h.s.l;obtain⟨dx,ed⟩:=h.o;refine⟨⟨dx,k _ _ ed (fun z=>by rw[z,e] at ed;cases ed)⟩,{ h.s with l:=h.s.l.kx kx ku (fun z=>by rw[Z04.mp z,e] at hl;cases hl) (fun z=>ne (Z04.mp z).symm),fA:=ku.tup _ _ h.s.fA },?_⟩;exact Tab.kx h.t kx fun b hb=>by
  rw[Z04.mp hb];exact .inl ⟨_,e⟩
def Z0x(K:PySem.W.Frag)(C Cd tb:Addr)(pos:Pos):Sp:=fun vs H Q _=>∃ (d sc wa la p pd lp:Addr) (n:Nat) (ps:List (Int×Int)) (Ws:List Wb) (A:Int×Int) (ns:List Int),vs=[.ref d,.ref sc,.ref wa,.ref la]/\Ds K C Cd tb pos H d p pd lp n ps Ws A/\zQ K H sc (ns.map V.int)/\ZX K H wa n ps/\ps.Pairwise Z2/\xw K H la A/\A.2<=1000/\Ws.length<=1000/\ps.length<=40/\
 ∀ (H':Hp) (ms:List (Int×Int)) (Vs:List Wb),ms.length<=ps.length+13->Vs.length<=Ws.length+13->Ds K C Cd tb pos H' d p pd lp n ms Vs A->Kx [p,pd,tb] H H'->Q (.bl true) H'
def Jr(K:PySem.W.Frag):Sp:=fun vs H Q _=>∃ (sc:Addr) (m:Nat) (ns:List Int),vs=[.ref sc,.int (m:Int)]/\zQ K H sc (ns.map V.int)/\∀ z:Int,Q (.int z) H
abbrev six:List Int:=[0,1,2,3,4,5]
def tbI(led:Bool)(l:List Int):SetTable:=⟨if l.length<5 then 7 else 31,(l.map Int.toNat).toArray,#[],0,led,if l.length<5 then 0 else 1,true⟩
def slI(l:List Int)(i:Nat):Nat:=if i=0 then 0 else (l.map Int.toNat).getD (i - 1) 0+1
def okI(led:Bool)(p:List Int):Bool:=(List.range (p.length+1)).all (fun i=>SetTable.below (tbI led p).place (slI p i) == i) && (tbI led p).fits p.length && p.all (fun z=>hashInt z == z)
def tbJ(led:Bool)(l:List Int)(z:Int):SetTable:={ tbI led l with place:=(tbI led (l ++ [z])).place }
def okS(led:Bool)(l:List Int)(z:Int):Bool :=
 (tbI led l).freeSlot z == some (z.toNat,false) && ((tbI led l).put z.toNat == (tbJ led l z,l.length) && ((tbJ led l z).fits (l.length+1) && ((tbJ led l z).tooFull == decide (l.length=4) &&
  (if l.length=4 then (tbJ led l z).relaid (l ++ [z]).toArray (SetTable.grown 5) == some (tbI led (l ++ [z]),(List.range 5).toArray) else tbJ led l z == tbI led (l ++ [z])))))
theorem z9l:∀ led:Bool,∀ p∈Pw.allR six,okI led p=true
 | true=>by decide +kernel
 | false=>by decide +kernel
theorem z9N:∀ led:Bool,∀ p∈Pw.allR six,p=[]\/okS led p.dropLast (p.getLastD 0)=true
 | true=>by decide +kernel
 | false=>by decide +kernel
theorem z9X{α:Type}(xs:Array α)(x:α):SetTable.insertAt xs xs.size x=xs.push x:=by simp[SetTable.insertAt]
theorem Z2R{α:Type}(xs:Array α)(h:xs.size=5):(List.range 5).toArray.filterMap (xs[·]?)=xs:=by
 obtain⟨l⟩:=xs;rcases l with _ |⟨a,_ |⟨b,_ |⟨c,_ |⟨d,_ |⟨e,_ |⟨f,l⟩⟩⟩⟩⟩⟩ <;> first | rfl | simp at h
def VY(led:Bool)(h:Heap)(a:Addr)(l:List Int):Prop:=∃ es ep,z8Q h a es ep (tbI led l)/\es.toList.map (·.1)=l/\∀ e∈es.toList,∃ tk,e.2=Value.int e.1 tk
theorem VY.keep(x:VY led h a l)(k:∀ o,h.get? a=some o->h'.get? a=some o):VY led h' a l:=by
 obtain⟨es,ep,e,r⟩:=x;exact⟨es,ep,k _ e,r⟩
theorem z0A(h:l ++ m∈Pw.allR six):l∈Pw.allR six:=Pw.QJ.mpr ((List.sublist_append_left _ _).trans (Pw.QJ.mp h))
theorem qh(led:Bool)(h:p∈Pw.allR six):(∀ i,i<=p.length->SetTable.below (tbI led p).place (slI p i)=i)/\(tbI led p).fits p.length=true/\(∀ z∈p,hashInt z=z)/\p.length<=6:=by
 have k:=z9l led _ h;unfold okI at k;rw[Z4G,Z4G,Z4F,Z4F] at k;exact⟨fun i hi=>eq_of_beq (k.1.1 i (Z23.mpr (by lia))),k.1.2,fun z hz=>eq_of_beq (k.2 z hz),(Pw.QJ.mp h).length_le⟩
theorem Z2S(hS:VY led s.heap a l)(hp:l ++ [z]∈Pw.allR six)(hn:z∉l)(h:∀ h' b,Heap.SameBut a s.heap h'->VY led h' a (l ++ [z])->Q b { s with heap:=h' }):wpAny (model prog w) A (setAddHashed a (.int z tk) (hashInt z)) Q E s:=by
 obtain⟨es,ep,ho,hl,hel⟩:=hS;obtain⟨_,hf,hh,l6⟩:=qh led (z0A hp);have hz:hashInt z=z:=(qh led hp).2.2.1 z (by simp);have hsz:es.size=l.length:=by rw[← hl,ZB,Z06]
 have k:=(z9N led _ hp).resolve_left (by simp);rw[List.dropLast_concat,List.getLastD_concat] at k;unfold okS at k;simp only[Z4G,beq_iff_eq] at k;obtain⟨a1,a2,a3,a4,a5⟩:=k;rw[← hsz] at hf;have hb:es.size<scanBound:=by show es.size<4096;lia
 have hK:ElemsOf (intKind prog w) es.toList:=fun e he=>by
  obtain⟨u,e2⟩:=hel e he;have:e.1∈l:=by rw[← hl];exact List.mem_map_of_mem he
  exact⟨⟨e.1,by rw[e2];exact intKind_is prog w _ u,(hh _ this).symm⟩,by rw[e2];rfl⟩
 have hfi:es.toList.findIdx? (fun e=>(intKind prog w).is z e.2)=none:=by
  rw[List.findIdx?_eq_none_iff];intro e he;obtain⟨u,e2⟩:=hel e he;have:e.1∈l:=by rw[← hl];exact List.mem_map_of_mem he
  cases q:(intKind prog w).is z e.2 with
  | false=>rfl
  | true=>exact absurd (by rw[(intKind prog w).inj _ _ _ q (by rw[e2];exact intKind_is prog w _ u)];exact this) hn
 have hL:layNew (tbI led l) es z (.int z tk)=(es.push (z,.int z tk),tbJ led l z,false,false):=by
  have f:(tbJ led l z).fits (es.push (z,Value.int z tk)).size=true:=by rw[Array.size_push,hsz];exact a3
  unfold layNew;rw[a1];dsimp only;rw[a2];dsimp only;rw[← hsz,z9X];unfold SetTable.orStandIn;rw[f,if_pos rfl];rfl
 have sz1:(es.push (z,Value.int z tk)).size=l.length+1:=by rw[Array.size_push,hsz]
 have hb1:(es.push (z,Value.int z tk)).size<=sizeLine:=by rw[sz1,sizeLine_eq];lia
 have hl1:(es.push (z,Value.int z tk)).toList.map (·.1)=l ++ [z]:=by rw[Array.toList_push,Z15,hl];rfl
 have hel1:∀ e∈(es.push (z,Value.int z tk)).toList,∃ tk,e.2=Value.int e.1 tk:=fun e he=>by
  rw[Array.toList_push] at he;rcases Z25.mp he with q | q;exact hel e q;rw[Z04.mp q];exact⟨tk,rfl⟩
 unfold setAddHashed setAddHashedIn;refine wpAny_holding (wpAny_bind (wpAny_setState_of ho rfl hf ?_));dsimp only;rw[if_pos (byScan_of rfl hb hK)];unfold setAddByScan;refine wpAny_bind (wpAny_bind (wpAny_rule (wpAny_bind (wpAny_setScan_of (k:=z) (intKind_is prog w z tk) ho rfl hf hK ?_))));rw[hfi];dsimp only;rw[hz,hL];refine wpAny_bind (wpAny_pure ?_);refine wpAny_bind (wpAny_of_eq (hashByValue_scannable 8 rfl) ?_);rw[if_pos (show plainKind (Value.int z tk)=true from rfl)];dsimp only;generalize hes:es.push (z,Value.int z tk)=es1 at *;have o1:=z3u (es':=es1) (t':=tbJ led l z) ho;have sb1:=Heap.SameBut.update s.heap a (Obj.putSet es1 (tbJ led l z));refine wpAny_bind (wpAny_storeSet_of ho rfl ?_ hb1);show wpAny _ _ (if (!false && (tbJ led l z).tooFull)=true then _ else _) _ _ _;by_cases h4:l.length=4;rw[if_pos h4,beq_iff_eq] at a5;have hR:relayAll (tbJ led l z) es1 (SetTable.grown es1.size)=(es1,tbI led (l ++ [z]),false):=by
  have e1:es1.map (·.1)=(l ++ [z]).toArray:=by rw[← hl1];exact (Z2o.mp (by simp))
  have f:(tbI led (l ++ [z])).fits es1.size=true:=by rw[sz1,show l.length+1=(l ++ [z]).length by simp];exact (qh led hp).2.1
  unfold relayAll;rw[e1,sz1,h4,a5];dsimp only;rw[Z2R es1 (by lia),f];rfl
 rw[if_pos (by rw[a4,h4];rfl),hR];refine wpAny_bind (wpAny_pure (wpAny_bind (wpAny_storeSet_of o1 rfl ?_ hb1)));exact wpAny_pure (wpAny_pure (h _ true (sb1.trans (Heap.SameBut.update _ a _)) ⟨es1,_,z3u o1,hl1,hel1⟩));rw[if_neg h4,beq_iff_eq] at a5;rw[if_neg (by rw[a4,decide_eq_false h4];decide)];rw[a5] at o1 sb1;exact wpAny_pure (wpAny_pure (h _ true (by rw[a5];exact sb1) ⟨es1,_,by rw[a5];exact o1,hl1,hel1⟩))
theorem z5O{St:Nat->Shared->Prop}(W:WalksS prog w A.in1 I fp wr G n P St)(S:Addr)(hSf:S∉fp)(led:Bool)(zs:List Int)(hn:zs.length=n)(hz:zs∈Pw.allR six)(nd:zs.Nodup)(hval:∀ i v,P i v->∃ t,v=.int (zs.getD i 0) t) :
 ∀ (k i:Nat) (s:Shared),n - i=k->i<=n->St i s->VY led s.heap S (zs.take i)->(∀ s',Moved (S :: wr) G s s'->VY led s'.heap S zs->R (.ok (.ret .none)) s')->
   codeAny (model prog w) A (.builtin "set.update.loop" ⟨[.ref S,.ref I],[]⟩) R s:=by
 have hSw:S∉wr:=fun h=>hSf (W.sub _ h);have hsub:∀ b∈wr,b∈S :: wr:=fun b hb=>Z07 _ hb;intro k
 induction k with
 | zero =>
   intro i s hk hi hst hS hR;obtain rfl:i=n:=by lia
   rw[Z0A (by lia)] at hS;refine codeAny_builtin PyProof.Rows.F.entry_set_update_loop ?_;rw[Z45 PyProof.Rows.F.plain_set_update_loop _];show wpAny _ A.in1 (pyNext (.ref I) >>= _) _ _ s;refine wpAny_bind (W.done s _ _ hst fun s' hm=>?_);show wpAny _ A.in1 (ret Value.none) _ _ s';exact wpAny_pure (hR s' (hm.mono hsub) (hS.keep fun o e=>hm.heap S o hSw e))
 | succ k ih =>
   intro i s hk hi hst hS hR;have hlt:i<n:=by lia
   have hil:i<zs.length:=by lia
   have et:zs.take (i+1)=zs.take i ++ [zs.getD i 0]:=by rw[Z4l,Z02,Z01 hil];rfl
   refine codeAny_builtin PyProof.Rows.F.entry_set_update_loop ?_;rw[Z45 PyProof.Rows.F.plain_set_update_loop _];show wpAny _ A.in1 (pyNext (.ref I) >>= _) _ _ s;refine wpAny_bind (W.item i s _ _ hlt hst fun v s' hP hst' hm=>?_);obtain⟨t,rfl⟩:=hval i v hP;have hS':=hS.keep fun o e=>hm.heap S o hSw e;show wpAny _ A.in1 (holding [Value.int (zs.getD i 0) t] (setAdd S (.int (zs.getD i 0) t)) >>= _) _ _ s';refine wpAny_bind (wpAny_holding ?_);unfold setAdd;refine wpAny_holding (wpAny_bind ((intKind prog w).pyHash (k:=zs.getD i 0) (intKind_is prog w _ t) ?_));refine Z2S (s:={ s' with toks:=s'.toks+1 }) hS' (z0A (m:=zs.drop (i+1)) (by rw[← et,List.take_append_drop];exact hz)) (fun z=>?_) fun h' b hsb hS2=>?_;rw[← List.take_append_drop (i+1) zs,et] at nd;exact (List.nodup_append.mp (List.nodup_append.mp nd).1).2.2 _ z _ (Z04.mpr rfl) rfl;rw[← et] at hS2;refine wpAny_pure ⟨plainId_quiet PyProof.Rows.F.plain_set_update_loop _,ih (i+1) _ (by lia) hlt (W.frame _ s' _ _ hst' (Z59 _ _) fun b hb o e=>?_) hS2 fun s'' hm'' hS''=>?_⟩;rw[hsb.2 b (fun h:b=S=>hSf (by rw[← h];exact hb))];exact e;refine hR s'' (Moved.trans W.gtrans ((hm.mono hsub).then_heap (Z59 _ _) fun b o hb e=>?_) hm'') hS'';rw[hsb.2 b (fun h:b=S=>hb (by rw[h];exact Z0y))];exact e
theorem z2P(led:Bool)(h:Heap):VY led (h.push (yh led)) h.objs.size []:=⟨#[],0,Z08 _ rfl,rfl,fun e he=>by cases he⟩
theorem Ui(hh:A.handled=none)(hl:s.heap.IsList l items)(hi:IntsAre items.toList zs)(hz:zs∈Pw.allR six)(nd:zs.Nodup)(h:∀ (h':Heap) (tk:Nat),VY (!Ym w) h' s.heap.objs.size zs->(∀ b o,s.heap.get? b=some o->h'.get? b=some o)->Q (.ref s.heap.objs.size) { s with heap:=h',toks:=tk }) :
 wpAny (model prog w) A (call (.type "set") [.ref l]) Q E s:=by
 obtain⟨c,tl,hmro⟩:=F.called_set.mro;have hmade:=F.called_set.made;have hsub:=F.called_set.sub;refine wpAny_call (codeAny_of_tree ?_);show wpAny _ _ (callAny (.type "set") _) _ _ _;refine wpAny_pure ⟨Code.quiet_builtin _ (by decide +kernel),codeAny_builtin F.entry_type_call ?_⟩;rw[Around.under_plain (weight_type_call_type "set" [.ref l] []) rfl];have hA1:=F.called_set.notType;have hA2:=F.called_set.canCreate;have hct:=F.typeCall_set_1 (.ref l)
 repeat (any_goals (first | assumption | wp_step))
 refine codeAny_mono (z7b (.ref l) (E:=E) (Q₁:=fun obj s₁=>obj=.ref s.heap.objs.size/\s₁={ s with heap:=s.heap.push (yh (!Ym w)) }) ⟨rfl,rfl⟩) fun r s₁ hr=>?_;cases r with
 | error e=>exact hr
 | ok fl =>
   cases fl with
   | ret obj =>
     obtain⟨rfl,rfl⟩:=hr;have hS:(s.heap.push (yh (!Ym w))).get? s.heap.objs.size=some (yh (!Ym w)):=Z08 _ rfl;have hT:Shared.TypeIs { s with heap:=s.heap.push (yh (!Ym w)) } (.ref s.heap.objs.size) "set":=⟨_,hS,rfl⟩;have hli:=F.called_set.init.lookup;have hbi:=F.called_set.init.bind (.ref s.heap.objs.size)
     repeat (any_goals (first | assumption | wp_step))
     refine codeAny_mono (codeAny_call_builtin (R:=wants (fun r s₂=>r=.none/\∃ h' tk,s₂={ s with heap:=h',toks:=tk }/\VY (!Ym w) h' s.heap.objs.size zs/\(∀ b o,s.heap.get? b=some o->h'.get? b=some o)) E) F.called_set.init.plain F.entry_set_init (check_set_init_1 hT ?_)) fun r₂ s₂ hr₂=>?_;obtain⟨ol,hol,hcl,nl,hdl⟩:=hl;obtain⟨ocls,odict,odata,oslots⟩:=ol;simp only at hcl hdl;subst hcl;subst hdl;have hol':(s.heap.push (yh (!Ym w))).get? l=some { cls:=.type "list",dict:=odict,data:=.seq items nl,slots:=oslots }:=Z00 _ hol;have hsls:=F.sub_list_set;have hslf:=F.sub_list_frozenset;have hne:(Value.type "list" == Value.type "dict")=false:=(by decide);have hl1:(s.heap.push (yh (!Ym w))).IsList l items:=⟨_,hol',rfl,nl,rfl⟩;unfold Builtin.«set.__init__» noKeywords Builtin.Frozenset.updateFrom;generalize hPI:pyIter=PI;wp_walk;subst hPI;refine wpAny_pyIter_list hl1 ?_;refine wpAny_bind (wpAny_runValue ?_);have hlS:l<s.heap.objs.size:=Z09 hol;have hszp:(s.heap.push (yh (!Ym w))).objs.size=s.heap.objs.size+1:=Z4p ..;have hh3:A.in1.in1.in1.handled=none:=(by simp[hh]);refine z5O ((Walks.list hh3 _ l (by rw[hszp];exact Z0T (Nat.lt_succ_of_lt hlS)) items).toS) s.heap.objs.size (by rw[hszp];simp only[Z0z,Z3F,or_false,not_or];exact⟨Z0T (Nat.lt_succ_self _),Z33 hlS⟩) (!Ym w) zs (by rw[← hi.length,Z06]) hz nd (fun i v hv=>IntsAre.int_at hi i v (by rw[Z38];exact hv)) (items.size - 0) 0 _ (by lia) (Z18 _) ⟨⟨_,Z08 _ rfl,rfl,rfl⟩,hl1.push _⟩ ((z2P _ _).keep fun o e=>Z00 _ e) fun s' hm hS'=>?_;obtain⟨h',g',d',tk',os'⟩:=s';have eg:g'=s.gens:=hm.gens;have ed:d'=s.drawn:=hm.drawn;have eo:os'=s.os:=hm.os;subst eg;subst ed;subst eo;show wpAny _ _ _ _ _ _;refine wpAny_pure ?_;show wpAny _ _ (ret Value.none) _ _ _;refine wpAny_pure ⟨rfl,h',tk',rfl,hS',fun b o e=>?_⟩;have hb:=Z09 e;exact hm.heap b o (by rw[hszp];simp only[Z0z,Z3F,or_false,not_or];exact⟨Z0T hb,Z0T (Nat.lt_succ_of_lt hb)⟩) (Z00 _ (Z00 _ e))
     · cases r₂ with
       | error e=>exact hr₂
       | ok fl₂ =>
         cases fl₂ with
         | ret r =>
           obtain⟨rfl,h',tk,rfl,hS',hk'⟩:=hr₂
           repeat (any_goals (first | assumption | wp_step))
           exact h _ _ hS' hk'
         | _=>exact hr₂.elim
   | _=>exact hr.elim
def Qc(w:World)(S:Addr)(ep:Nat)(es:Array (Int×Value)):Array (Int×Value):=if Ym w=true then pickOrder (w.params.setOrder S ep) es else es
theorem QO(S:Addr)(ep:Nat)(es:Array (Int×Value)):(Qc w S ep es).toList.Perm es.toList:=by
 unfold Qc;split;exact z4O _ _;exact .refl _
theorem z6U(hz:zs∈Pw.allR six)(hl:es.size=zs.length)(hS:z8Q s.heap S es ep (tbI (!Ym w) zs))(hi:i<=es.size)(hsl:Ym w=false->sl=slI zs i)(h1:∀ e nx,(Qc w S ep es)[i]?=some e->(Ym w=false->nx=slI zs (i+1))->Q (some (e.2,nx)) s)(h0:i=es.size->Q none s):wpAny (model prog w) A (setNext S sl i ep) Q E s:=by
 obtain⟨ok,hf,_,_⟩:=qh (!Ym w) hz;rw[← hl] at hf;have hsz:(Qc w S ep es).size=es.size:=by rw[← Z06,(QO _ _ _).length_eq,Z06]
 unfold setNext setsByText;refine wpAny_bind (wpAny_setState_of hS rfl hf ?_);dsimp only;refine wpAny_bind (wpAny_bind (wpAny_askSetting (wpAny_pure ?_)));cases hB:Ym w with
 | true =>
   have eo:Qc w S ep es=pickOrder (w.params.setOrder S ep) es:=by unfold Qc;rw[if_pos hB]
   rw[if_pos (show ({ program:=(model prog w).prog,params:=(model prog w).w.params }:Setting).params.followText "set-order"=true from hB),if_neg (by simp)];unfold setWalk setsByText;refine wpAny_bind (wpAny_bind (wpAny_setState_of hS rfl hf ?_));dsimp only;refine wpAny_bind (wpAny_bind (wpAny_askSetting (wpAny_pure ?_)));rw[if_pos (show ({ program:=(model prog w).prog,params:=(model prog w).w.params }:Setting).params.followText "set-order"=true from hB)];refine wpAny_bind (wpAny_askSetting (wpAny_pure (wpAny_pure ?_)));show Q (((pickOrder (w.params.setOrder S ep) es)[i]?).map fun e=>(e.2,sl)) s;rw[← eo];by_cases q:i<es.size;rw[Z35 (by lia)];exact h1 _ _ (Z35 (by lia)) fun z=>by rw[hB] at z;cases z
   rw[Z52 (by lia)];exact h0 (by lia)
 | false =>
   have eo:Qc w S ep es=es:=by unfold Qc;rw[if_neg (by rw[hB];decide)]
   rw[if_neg (show ¬ ({ program:=(model prog w).prog,params:=(model prog w).w.params }:Setting).params.followText "set-order"=true from fun z=>absurd (hB.symm.trans (show Ym w=true from z)) (by decide))];rw[if_neg (fun z=>by
    have z':(!true && decide (es.size > 1))=true:=z;simp at z')]
   refine wpAny_bind ?_;show wpAny _ _ (if (!(!false) && !es.isEmpty)=true then unsupported "set:maker-not-led" else pure ()) _ _ _;rw[if_neg (by simp)];refine wpAny_pure (wpAny_pure ?_);rw[hB] at ok;rw[hsl hB,ok i (by lia)];by_cases q:i<es.size;have e1:es[i]?=some es[i]:=Z35 q;have e2:(tbI (!false) zs).place[i]?=some ((zs.map Int.toNat).getD i 0):=by
    show (zs.map Int.toNat).toArray[i]?=_;rw[List.getElem?_toArray,Z02,Z01 (by rw[ZB];lia)];rfl
   rw[e1,e2];exact h1 es[i] _ (by rw[eo];exact e1) fun _=>by unfold slI;rw[if_neg (by lia),Nat.add_sub_cancel]
   rw[Z52 (by lia)];exact h0 (by lia)
theorem z8w(hz:zs∈Pw.allR six)(hl:es.size=zs.length)(hh:A.handled=none)(h1:I≠S) :
 Walks prog w A I [I,S] [I] es.size (fun i v=>∃ e,(Qc w S ep es)[i]?=some e/\v=e.2) (fun i h=>(∃ sl:Nat,(Ym w=false->sl=slI zs i)/\uI h I (rawInt sl) (i:Int) S es.size ep)/\z8Q h S es ep (tbI (!Ym w) zs)):=by
 have hf:=(qh (!Ym w) hz).2.1;rw[← hl] at hf;exact {
 sub:=fun b hb=>by simp at hb;simp[hb]
 frame:=fun _ _ _ st hk=>⟨let ⟨sl,a,b⟩:=st.1;⟨sl,a,hk I (by simp) _ b⟩,hk S (by simp) _ st.2⟩
 item:=fun i s Q E hi st hQ=>by
  obtain⟨⟨sl,hs,hI⟩,hS⟩:=st;refine VO hI (US hI hS hf ?_);show wpAny _ _ (setNext S ((sl:Nat):Int).toNat ((i:Nat):Int).toNat ((ep:Nat):Int).toNat >>= _) _ _ _;refine wpAny_bind (z6U hz hl hS (Nat.le_of_lt hi) hs (fun e nx he hnx=>?_) fun z=>absurd z (by lia));refine wpAny_bind (wpAny_setField_rec hI (by simp) fun h₂ he₂ hs₂=>?_);refine wpAny_bind (wpAny_setField_rec he₂ (by simp) fun h₃ he₃ hs₃=>wpAny_pure ⟨_,rfl,?_⟩);refine hQ _ h₃ s.toks ⟨e,he,rfl⟩ ⟨⟨nx,hnx,he₃⟩,hs₃.extBut _ _ h1.symm (hs₂.extBut _ _ h1.symm hS)⟩ fun b o hb e=>?_;have hbI:b≠I:=fun h=>hb (by simp[h]);exact hs₃.extBut b o hbI (hs₂.extBut b o hbI e)
 done:=fun s Q E st hQ=>by
  obtain⟨⟨sl,hs,hI⟩,hS⟩:=st;have hsz:(Qc w S ep es).size=es.size:=by rw[← Z06,(QO _ _ _).length_eq,Z06]
  refine VO hI (US hI hS hf ?_);show wpAny _ _ (setNext S ((sl:Nat):Int).toNat ((es.size:Nat):Int).toNat ((ep:Nat):Int).toNat >>= _) _ _ _;refine wpAny_bind (z6U hz hl hS (Z03 _) hs (fun e nx he _=>?_) fun _=>?_);have he:(Qc w S ep es)[es.size]?=some e:=he;rw[Z52 (by lia)] at he;cases he;refine wpAny_bind (wpAny_setField_rec hI (by simp) fun h₂ he₂ hs₂=>?_);refine z2I (show A.in1.handled=none from hh) fun h' e o kp ho hc=>⟨e,o,rfl,ho,hc,hQ h' s.toks fun b o hb e=>kp b o (hs₂.extBut b o (fun h=>hb (by simp[h])) e)⟩
 self:=fun _ _ _ _ st hQ=>let ⟨_,_,b⟩:=st.1;z4Q b hQ }
theorem JT:∀ {l:List (Int×Value)},(∀ e∈l,∃ tk,e.2=Value.int e.1 tk)->Vals ((l.map (·.1)).map V.int) (l.map (·.2))
 | [],_=>.nil
 | e :: l,h=>.cons (h e Z0y) (JT fun e' he=>h e' (Z07 _ he))
theorem z5h(hh:A.handled=none)(hS:VY (!Ym w) s.heap S zs)(hz:zs∈Pw.allR six)(h:∀ h' tk vs (ys:List Int),ys.Perm zs->Vals (ys.map V.int) vs->(∀ b o,s.heap.get? b=some o->h'.get? b=some o)->Q vs { s with heap:=h',toks:=tk }):wpAny (model prog w) A (collect (.ref S)) Q E s:=by
 obtain⟨es,ep,ho,hl,hel⟩:=hS;obtain⟨_,hf,_,l6⟩:=qh (!Ym w) hz;have hsz:es.size=zs.length:=by rw[← hl,ZB,Z06]
 have hSl:S<s.heap.objs.size:=Z09 ho;rw[← hsz] at hf;unfold collect;refine wpAny_bind (wpAny_runValue (codeAny_builtin F.entry_proto_collect ?_));rw[Z45 F.plain_proto_collect _];show wpAny _ A.in1 (newList [] >>= fun l=>(again (.builtin "list.__iadd__" ⟨[l,.ref S],[]⟩))) _ _ s;refine wpAny_bind (wpAny_newObj_type ?_);refine wpAny_pure ⟨plainId_quiet F.plain_list_iadd _,codeAny_builtin F.entry_list_iadd ?_⟩;rw[Z45 F.plain_list_iadd _];have k1:∀ b o,s.heap.get? b=some o->(s.heap.push (seqObj "list" #[] 0)).get? b=some o:=fun b o e=>Z00 _ e;have oL:(s.heap.push (seqObj "list" #[] 0)).get? s.heap.objs.size=some (seqObj "list" #[] 0):=Z08 _ rfl;have ho1:=k1 _ _ ho;generalize hL:s.heap.objs.size=L at *;generalize hg:s.heap.push (seqObj "list" #[] 0)=g at *;have hSL:S≠L:=Z0T hSl;have hLg:L<g.objs.size:=Z09 oL;have hT1:Shared.TypeIs { s with heap:=g } (.ref S) "set":=⟨_,ho1,rfl⟩;show wpAny _ A.in1 (Builtin.List.listExtendWith (.ref L) (.ref S) (.ref L)) _ _ { s with heap:=g };unfold Builtin.List.listExtendWith;refine wpAny_bind (wpAny_typeOf hT1 ?_);have n1:Builtin.List.listSameRef (.ref L) (.ref S)=false:=by simp[Builtin.List.listSameRef,hSL.symm]
 rw[if_neg (by rw[n1];decide)];have hIt:uI (g.push { cls:=.type "set_iterator",data:=.fields #[rawInt 0,rawInt 0,.ref S,rawInt (es.size:Int),rawInt (ep:Int)] }) g.objs.size (rawInt 0) 0 S es.size ep:=Z08 _ rfl;refine wpAny_bind (wpAny_pyIter_slot hT1 PySem.F.slot_set_iter (wpAny_call_entry PySem.F.slot_set_iter hT1 SF.JY ?_ (SF.z2H _)));unfold Builtin.«frozenset.__iter__»;show wpAny _ _ (Builtin.Frozenset.sizeOf S >>= _) _ _ _;unfold Builtin.Frozenset.sizeOf;refine wpAny_bind (wpAny_bind (wpAny_setEntries_of ho1 rfl hf (wpAny_pure ?_)));unfold setDrawn setsByText;refine wpAny_bind (wpAny_bind (wpAny_setState_of ho1 rfl hf ?_));dsimp only;refine wpAny_bind (wpAny_bind (wpAny_askSetting (wpAny_pure (wpAny_pure ?_))));rw[if_neg (fun z=>by
  have z':(!true && decide (es.size > 1))=true:=(Bool.and_eq_true_iff.mp z).2;simp at z')]
 refine wpAny_bind (wpAny_pure ?_);refine wpAny_bind (wpAny_setEpoch_of (s:={ s with heap:=g }) ho1 rfl hf ?_);refine wpAny_bind ?_;unfold newFields;refine wpAny_newObj_type ?_ (by size_fits);refine wpAny_pure ⟨_,rfl,"set_iterator",_,⟨_,hIt,rfl⟩,SF.slot_next.lookup,?_⟩;have k2:∀ b o,g.get? b=some o->(g.push { cls:=.type "set_iterator",data:=.fields #[rawInt 0,rawInt 0,.ref S,rawInt (es.size:Int),rawInt (ep:Int)] }).get? b=some o:=fun b o e=>Z00 _ e;have hIS:g.objs.size≠S:=(Z0T (Z09 ho1)).symm;have hIL:g.objs.size≠L:=(Z0T hLg).symm;show wpAny _ _ _ _ _ { s with heap:=g.push { cls:=.type "set_iterator",data:=.fields #[rawInt 0,rawInt 0,.ref S,rawInt (es.size:Int),rawInt (ep:Int)] } };generalize hg2:g.push { cls:=.type "set_iterator",data:=.fields #[rawInt 0,rawInt 0,.ref S,rawInt (es.size:Int),rawInt (ep:Int)] }=g2 at *;have nI:g.get? g.objs.size=none:=Heap.get?_none_of_le (Z03 _);generalize g.objs.size=I at *;have ho2:=k2 _ _ ho1;have oL2:=k2 _ _ oL;have hT2:Shared.TypeIs { s with heap:=g2 } (.ref S) "set":=⟨_,ho2,rfl⟩;refine wpAny_bind (wpAny_holding ?_);unfold Builtin.List.listLengthHint;refine wpAny_bind (wpAny_specialOf hT2 JZ ?_);dsimp only;rw[show splitId "set.__len__"=some ("set","__len__") by decide +kernel];dsimp only;refine wpAny_bind (wpAny_isInstance (b:=true) hT2 (by rw[isSubtype_type];kernel_rfl) ?_);rw[if_neg (by decide)];rw[if_pos (by decide +kernel)];refine wpAny_bind (wpAny_typeOf hT2 (wpAny_pure ?_));rw[if_pos (by decide +kernel)];refine wpAny_bind (wpAny_rule (wpAny_bind ?_));show wpAny _ A.in1 (updateSeq L (·.push .none) >>= fun _=>(updateSeq L (·.pop))) _ _ _
 refine wpAny_bind (wpAny_updateSeq oL2 rfl ?_);have oL3:=Heap.get?_update_self (Obj.mapSeq (·.push Value.none)) oL2 rfl
 refine wpAny_updateSeq oL3 rfl ?_;have oL4:=Heap.get?_update_self (Obj.mapSeq (·.pop)) oL3 rfl
 have oth:∀ b o,b≠L->g2.get? b=some o->((g2.update L (Obj.mapSeq (·.push Value.none))).update L (Obj.mapSeq (·.pop))).get? b=some o:=fun b o hb e=>(Z4L _ _ (Z4q hb)).trans ((Z4L _ _ (Z4q hb)).trans e)
 have hA1:A.in1.handled=none:=by simp[hh]
 refine wpAny_pure ⟨plainId_quiet F.plain_extend_loop _,codeAny_extend_loopS ((z8w (prog:=prog) (w:=w) (ep:=ep) hz hsz hA1 hIS).toS) (by rw[hsz,sizeLine_eq];lia) _ (by simp only[Z0z,Z3F,or_false,not_or];exact⟨hIL.symm,hSL.symm⟩) _ es.size 0 _ _ _ rfl (Z18 _) ⟨⟨0,fun _=>rfl,oth _ _ hIL hIt⟩,oth _ _ hSL ho2⟩ oL4 (ItemsOf.nil _) fun s' acc' c' hm hS' hacc=>?_⟩;show wpAny _ A (load L >>= _) _ _ s';obtain⟨h3,g3,d3,t3,o3⟩:=s';have eg:g3=s.gens:=hm.gens;have ed:d3=s.drawn:=hm.drawn;have eo:o3=s.os:=hm.os;subst eg;subst ed;subst eo;refine wpAny_bind (wpAny_load hS' (wpAny_pure ?_));have pm:=QO (w:=w) S ep es;have ea:acc'.toList=(Qc w S ep es).toList.map (·.2):=by
  have hs2:(Qc w S ep es).size=es.size:=by rw[← Z06,pm.length_eq,Z06]
  refine Z5f (by rw[ZB,Z06,Z06,hs2];exact hacc.1) fun i h1 h2=>?_;rw[Z06] at h1;obtain⟨e,he,hv⟩:=hacc.2 i acc'[i] (Z35 h1);rw[Array.getElem_toList,hv,List.getElem_map,Array.getElem_toList];obtain⟨_,q⟩:=Array.getElem?_eq_some_iff.mp he;rw[q]
 refine h h3 t3 _ ((Qc w S ep es).toList.map (·.1)) (hl ▸ pm.map (·.1)) ?_ fun b o e=>hm.heap b o (fun z=>?_) (oth b o (fun z=>?_) (k2 b o (k1 b o e)))
 show Vals _ acc'.toList;rw[ea];exact JT fun e he=>hel e (pm.mem_iff.mp he);rcases Z0z.mp z with z | z;exact absurd z (by rw[← hL];exact Z0T (Z09 e));rw[Z04.mp z] at e;rw[k1 _ _ e] at nI;cases nI;exact absurd z (by rw[← hL];exact Z0T (Z09 e))
theorem z5s{ns:List Int}{vs:List Value}{U:Shared->Prop}(rv:Vals (ns.map V.int) vs)(h2:2<=vs.length):∃ κ:SortKind,(∀ (R:SortKind->Shared->Prop),R κ s'->wpAny (model P w) A (keyKind' vs.toArray) R (fun _ _=>False) s')/\
 ∀ (i j:Nat) (C:Bool->Shared->Prop) (s2:Shared),i<vs.length->j<vs.length->U s2->C (ltI ns i j) s2->kas_ask P w A κ vs i j C s2:=by
 have ia:=intsAre_of rv;refine⟨oneType',fun R hR=>?_,fun i j C s2 hi hj _ hc=>?_⟩;rw[ksk_kind (keys:=vs.toArray) (kz:=ns) (by simpa using ia) (by simpa using h2)];exact wpAny_pure hR;unfold kas_ask;have hn:vs.length=ns.length:=by rw[← rv.length,ZB]
 have gi:∀ {i:Nat},i<vs.length->∃ t,vs.getD i Value.none=.int (ns.getD i 0) t:=fun {i} hi=>by
  have rr:=Xj rv hi;have hi':i<ns.length:=by lia
  have e:(ns.map V.int).getD i .Zr=.int (ns.getD i 0):=by simp[hi']
  rw[e] at rr;exact rr
 obtain⟨t,e1⟩:=gi hi;obtain⟨t',e2⟩:=gi hj;rw[e1,e2];exact kat_lt_int hc
def z4M(K:PySem.W.Frag)(ta:TA):TE:=fun σ H Q=>ta σ H fun vs H1=>∃ (p:Addr) (zs:List Int),vs=[.ref p]/\zQ K H1 p (zs.map V.int)/\zs∈Pw.allR six/\zs.Pairwise (·<·)/\∀ (D:Addr) (H':Hp),zC H1 H'->H1 D=none->H' D=some (.lst (zs.map V.int))->Q (.ref D) H'
theorem z0F{X:Cx}{a:Expr}{ta:TA}{p p' pos pos':Pos}(hc:X.calm=true)(hgL:Gl X "sorted")(hmL:X.mg "sorted"=none)(hgE:Gl X "set")(hmE:X.mg "set"=none)(ha:PA X [a] ta)
 (hs:starEach [.Call (.Name "set" p') [a] [] pos'] X.env=[(false,eval (.Call (.Name "set" p') [a] [] pos') X.env)]:=by rfl) (hs2:starEach [a] X.env=[(false,eval a X.env)]:=by rfl) :
 PE X (.Call (.Name "sorted" p) [.Call (.Name "set" p') [a] [] pos'] [] pos) (z4M X.K ta):=by
 intro pins s σ H Q I h;refine wpAny_Call_Name_kw (yn I hgL hmL boot_sorted ?_ (by decide) (by decide));refine PyProof.Rows.callWith_builtin1 ?_ hs rfl;rw[hs];show wpAny _ _ (spliced ((false,eval (.Call (.Name "set" p') [a] [] pos') X.env) :: backTo pos [])) _ _ s;refine Calls.spliced_cons ?_;refine wpAny_Call_Name_kw (yn I hgE hmE boot_set ?_ (by decide) (by decide));refine Z2L (Zj (ha pos' pins s σ H _ I h) fun us s1 ⟨vs,H1,I1,r1,q1⟩=>?_) hs2 rfl;obtain⟨l,zs,rfl,hl,hz,up,q⟩:=q1;obtain⟨u,rfl,ru⟩:=vals1 r1;cases ru;have hh:=I1.ok.hd hc;obtain⟨its,r,pl,_⟩:=I1.list hl;refine Ui hh pl.isList (by simpa using intsAre_of r) hz (up.imp fun h e=>absurd e (Int.ne_of_lt h)) fun h1 tk1 hS kp1=>Calls.spliced_nil ?_;have I2:Inv X pins σ H1 { s1 with heap:=h1,toks:=tk1 }:=I1.kept (t':=tk1) (h':=h1) kp1;refine Calls.call_function_entry kind_sorted plain_sorted entry_sorted (args_sorted1 _) ?_;unfold Builtin.«sorted»;refine wpAny_bind (m:=checkCount "sorted" 1 1 _) (wpAny_pure ?_);refine wpAny_bind (z5h (s:={ s1 with heap:=h1,toks:=tk1 }) (show X.A.in1.handled=none by simp[hh]) hS hz fun h2 tk2 vs ys py rv kp2=>?_);have I3:Inv X pins σ H1 { s1 with heap:=h2,toks:=tk2 }:=I2.kept (t':=tk2) (h':=h2) kp2;have l6:=(qh true hz).2.2.2;have hyl:ys.length<=6:=by rw[py.length_eq];exact l6
 have few:vs.length<=sizeLine:=by rw[← rv.length,ZB,sizeLine_eq];lia
 refine wpAny_bind (wpAny_newList ?_ few);have hoL:(h2.push (seqObj "list" vs.toArray 0)).get? h2.objs.size=some (seqObj "list" vs.toArray 0):=Z08 _ rfl;refine wpAny_bind (wpAny_holding (wpAny_call_entry slot_list_sort ⟨_,hoL,rfl⟩ entry_list_sort ?body (args_list_sort _)))
 case body =>
  refine wpAny_mono (z0S (E:=fun _ _=>False) (Q:=Q) I3 (fun b o e=>Z00 _ e) (fun b o e=>Z0T (Z09 e)) hoL rv (by rw[ZB];lia) (ltI ys) (z3H ys) (fun ws s' rw' w2 kp=>z5s rw' w2) fun pp pm up' hD=>?_) (fun fin s' hf=>?_) fun _ _ e=>e.elim;rw[ZB] at pm up';have hb:∀ i∈pp,i<ys.length:=fun i hi=>Z23.mp (pm.mem_iff.mp hi);rw[map_getD (d:=0) hb];have e:=QM ((Xp pm).trans py) (Yw (R:=fun a b:Int=>a<=b) (l:=ys) (d:=0) (fun a b c=>Int.le_trans) pm up' fun i j h=>by simp only[ltI,decide_eq_false_iff_not] at h;show ys.getD i 0<=ys.getD j 0;lia) (up.imp Z44);rw[e];exact q _ _ (zC.new hD) hD zh;obtain⟨rfl,hq⟩:=hf;exact⟨_,rfl,wpAny_pure ⟨_,rfl,hq⟩⟩
end L2
namespace Pw
open L2
theorem Z0N(hl:l≠[])(e:Txt.split y (Zx 32)=[y])(hy:110∈y.cps.toList):ptT l≠y:=fun h=>by
 have q:=uR hl;rw[h,e] at q;cases l with
 | nil=>exact hl rfl
 | cons a t =>
   rw[(Z5k q).1] at hy;rcases vA hy with e |⟨_,e⟩ <;> lia
theorem z9o:(oiL (List.range (min 6 n))).Sublist six:=by
 have h:(oiL (List.range (min 6 n))).Sublist (oiL (List.range 6)):=(List.range_sublist.mpr (Nat.min_le_left 6 n)).map _;exact h
end Pw
namespace L2
theorem z3F{l:List Int}{k:Nat}(h:k<l.length):ZQ (l.map V.int) none (some (k:Int)) ++ ZQ (l.map V.int) (some ((k:Int)+1)) none=(l.eraseIdx k).map V.int:=by
 have hl:(l.map V.int).length=l.length:=ZB _;have e1:HT.ZY (l.map V.int).length (l.map V.int).length (some (k:Int))=min k (l.map V.int).length:=HT.yR _ _ k;have e2:HT.ZY (l.map V.int).length 0 (some ((k:Int)+1))=min (k+1) (l.map V.int).length:=HT.yR _ _ (k+1);unfold ZQ;rw[e1,e2];have e3:HT.ZY (l.map V.int).length 0 none=0:=rfl;have e4:HT.ZY (l.map V.int).length (l.map V.int).length none=(l.map V.int).length:=rfl;rw[e3,e4,hl,Z5o (by lia),Z5o (by lia),List.eraseIdx_eq_take_drop_succ,Z15,List.map_take,List.map_drop];rw[List.drop_zero,Nat.sub_zero,Z0A (l:=(l.map V.int).drop (k+1)) (by rw[Z30,hl];lia)]
theorem Ds.past(h:Ds K C Cd tb pos H d p pd lp n ps Ws A)(hx:x<n)(hz:∀ z∈l,0<=z/\z<(n:Int))(pm:ms.Perm (ps ++ l.map fun z=>(z,(x:Int))))(ok:Pw.Zi ms A (YM n) n Ss):Pw.vQ ps A (YM n) n x y l↔Pw.jE Ss x y=true :=
 Pw.z0D h.s.ca (Pw.Yh h.s.n1) (by simp[YM]) (Y9 h.s.n1 h.s.n12 h.s.a0 h.s.a1) (fun q hq=>by
  rcases Z25.mp (pm.mem_iff.mp hq) with e | e;exact (h.s.rng q e).2.2;obtain⟨z,_,rfl⟩:=Z17.mp e;show 0<=(x:Int)/\(x:Int)<n;lia) pm ok
def Z0w(K:PySem.W.Frag)(C Cd tb:Addr)(pos:Pos):Sp:=fun vs H Q _=>∃ (d p pd lp:Addr) (n x y:Nat) (ps:List (Int×Int)) (Ws:List Wb) (A:Int×Int),vs=[.ref d,.int (x:Int),.int (y:Int),.int (n:Int)]/\Ds K C Cd tb pos H d p pd lp n ps Ws A/\x<n/\y<n/\x≠y/\ps.length+6<=60/\Ws.length<=4000/\∀ H':Hp,Q (.bl true) H'
theorem Ds.new{n':Nat}{ps':List (Int×Int)}(h:Ds K C Cd tb pos H d p pd lp n ps Ws A)(k:Kp d H H')(o:Js Cd H' d p')(l:ZZ K C H' p' pd' lp' ((n':Int),ps') [])(n1:1<=n')(n12:n'<=12)(few:ps'.length<=60)(rng:∀ q∈ps',0<=q.1/\q.1<(n':Int)/\0<=q.2/\q.2<(n':Int))(f:XC K H' lp' A')(ca:Pw.Canon A')(a0:0<A'.1)(a1:A'.1<=A'.2)(sA:yc 41 A'):Ds K C Cd tb pos H' d p' pd' lp' n' ps' [] A'/\KU H H':=by
 obtain⟨dx,ed⟩:=h.o;exact⟨⟨o,⟨l,n1,n12,few,rng,f,ca,a0,a1,sA⟩,Tab.kx h.t (k.kx (S:=[d]) (by simp)) fun b hb=>by rw[Z04.mp hb];exact .inr ⟨_,_,_,ed⟩⟩,fun b xs e=>k _ _ e (by rintro rfl;rw[ed] at e;cases e),fun b u q e=>k _ _ e (by rintro rfl;rw[ed] at e;cases e)⟩
theorem Ds.ku(h:Ds K C Cd tb pos H d p pd lp n ps Ws A)(k:Kx [p,pd,tb] H H'):KU H H':=by
 obtain⟨now,us,⟨⟨dl,hp⟩,hpd⟩,_⟩:=id h.s.l;obtain⟨q,ht⟩:=h.t.vp;constructor <;> intros <;> refine k _ _ (by assumption) fun z=>?_ <;> rename_i e <;> simp only[Z0z,Z3F,or_false] at z <;> rcases z with z | z | z <;> first | (rw[z,hp] at e;cases e) | (rw[z,hpd] at e;cases e) | (rw[z,ht] at e;cases e)
theorem Tab.out(t:Tab tb pos XG G)(k:Kx [tb] H G)(e:G b=none):H b=none:=by
 cases z:H b with
 | none=>rfl
 | some o =>
   have:=k b o z (fun q=>t.free e (Z04.mp q));rw[e] at this;cases this
def jm:Sp:=fun vs H Q _=>∃ (x:Str) (n:Int),vs=[.str x]/\x.cps.size<=8000/\Pw.ym x=some n/\∀ H',zC H H'->Q (.int n) H'
def ur:Sp:=fun vs H Q _=>∃ (x:Str) (c:Nat) (A:Int×Int),vs=[.str x,.str (Zx c)]/\x.cps.size<=8000/\Pw.pr? c x=some A/\∀ p H',zC H H'->H p=none->H' p=some (.tup [.int A.1,.int A.2])->Q (.ref p) H'
def JL(K:PySem.W.Frag):Sp:=fun vs H Q _=>∃ (x:Str) (A:Int×Int),vs=[.str x]/\x.cps.size<=8000/\Pw.Z2Q x A/\∀ p H',zC H H'->XC K H' p A->Q (.ref p) H'
def z3Q(K:PySem.W.Frag):Sp:=fun vs H Q _=>∃ (x:Str) (n:Int) (ps:List (Int×Int)),vs=[.str x]/\x.cps.size<=8000/\Pw.Z0n x n ps/\∀ a H',zC H H'->ZX K H' a n ps->Q (.ref a) H'
structure Qq(p:Prop):Prop where
 h:p
theorem qz{X:Cx}{rest:List Stmt}{t:TS}(a:Qq (QW X rest t)):QW X rest t:=a.h
theorem qc{st:Stmt}(a:Qq (PS X st t))(b:Qq (QW X rest u)):Qq (QW X (st :: rest) (Uc t u)):=⟨Yk a.h b.h⟩
theorem q1{st:Stmt}(a:Qq (PS X st t)):Qq (QW X [st] t):=⟨ye a.h⟩
theorem q0:Qq (QW X [] z6e):=⟨j9⟩
theorem qr{e:Expr}(a:Qq (PE X e te)):Qq (PS X (.Return (some e) pos) (Z1D te)):=⟨VE a.h⟩
theorem qf{e:Expr}(c:Qq (PT X e tc))(p:Qq (QW X a t))(q:Qq (QW X b u)):Qq (PS X (.If e a b pos) (Z1J tc t u)):=⟨z7k c.h p.h q.h⟩
theorem qs{X:Cx}{e:Expr}{pos:Pos}(i:Nat)(q:Qq (PE X e te))(hs:swapsWith e (some (.Name x pos')) pos.line X.env=pure false:=by rfl)(hf:X.fn x=true\/X.env.scope.names.lookup x=some .local:=by first | exact Or.inl rfl | exact Or.inr rfl)(hN:X.N.Nodup:=by assumption)(hi:X.N[i]?=some x:=by rfl)(hx:Loc X.env.scope x:=by first | exact Or.inl rfl | exact Or.inr rfl):Qq (PS X (.Assign [.Name x pos'] e pos) (z1r te (Zs i))):=⟨jx hs hf hN hi hx q.h⟩
theorem qa{e:Expr}(p:Qq (PE X e te))(q:Qq (PA X es ta))(hs:starEach (e :: es) X.env=(false,eval e X.env) :: starEach es X.env:=by rfl):Qq (PA X (e :: es) (UB te ta)):=⟨zB hs p.h q.h⟩
theorem qn:Qq (PA X [] Ub):=⟨zJ⟩
theorem qv{X:Cx}{pos:Pos}{x:Str}(i:Nat)(hN:X.N[i]?=some x:=by rfl)(hv:Vis X.env.scope x:=by first | exact Or.inl rfl | exact Or.inr (Or.inl rfl) | exact Or.inr (Or.inr rfl))(hd:(x == ("__debug__":Str))=false:=by decide)(hcd:(x == ("__classdict__":Str))=false:=by decide):Qq (PE X (.Name x pos) (z2T i)):=⟨pv i hN hv hd hcd⟩
theorem qi{j}:Qq (PE X (.Constant (.int i) j pos) (tC (.int i))):=⟨zP⟩
theorem qw{j}:Qq (PE X (.Constant (.str x) j pos) (tC (.str x))):=⟨z1t⟩
theorem qb{j}:Qq (PE X (.Constant (.bool c) j pos) (tC (.bl c))):=⟨Z3z⟩
theorem qx{e:Expr}(r':IxR X r)(p:Qq (PE X e te))(q:Qq (PE X f tf))(hs:z3e f:=by exact fun _ _=>rfl):Qq (PE X (.Subscript e f pos) (tOp r te tf)):=⟨ZD r' p.h q.h hs⟩
theorem qo{e:Expr}(r':Y4 X (binaryOp op) r)(p:Qq (PE X e te))(q:Qq (PE X f tf)):Qq (PE X (.BinOp e op f pos) (tOp r te tf)):=⟨ZV r' p.h q.h⟩
theorem qd{X:Cx}{e:Expr}{es:List Expr}{ta:TA}{pos pos':Pos}{nm:Str}{k:Nat}{sp:Sp}{ps:List Str}(D:Def X.prog X.w X.K X.mg X.base k nm ps sp)(q:Qq (PA X (e :: es) ta))(hg:Gl X nm:=by rfl)(he:starEach (e :: es) X.env=(false,eval e X.env) :: starEach es X.env:=by rfl)(hpl:(backTo pos (starEach es X.env)).any (·.1)=false:=by rfl)(hdb:(nm == ("__debug__":Str))=false:=by decide)(hr:Zk k X.A:=by first | assumption | exact Zk.mono (by assumption) (by decide)):Qq (PE X (.Call (.Name nm pos') (e :: es) [] pos) (z3l sp [] E0 ta)):=⟨ZP hg he hpl hdb D hr q.h⟩
theorem qk{e:Expr}(r':Y4 X (compareOp op) r)(p:Qq (PE X e te))(q:Qq (PE X f tf))(hm:behindInMarks op f=false:=by first | exact Yj _ | rfl):Qq (PT X (.Compare e [op] [f] pos) (z6y (tOp r te tf))):=⟨yz r' p.h q.h hm⟩
theorem qe{e:Expr}(r':Y4 X (compareOp op) r)(p:Qq (PE X e te))(q:Qq (PE X f tf))(hm:behindInMarks op f=false:=by first | exact Yj _ | rfl):Qq (PE X (.Compare e [op] [f] pos) (tOp r te tf)):=⟨z8Z r' p.h q.h hm⟩
theorem qt{j}(q:Qq (PA X es ta)):Qq (PE X (.Tuple es j pos) (Z0G ta)):=⟨Xu q.h⟩
theorem ql(q:Qq (PA X es ta)):Qq (PE X (.List es pos) (Z0q ta)):=⟨z3J q.h⟩
theorem qp{e:Expr}(q:Qq (PE X e te))(he:∀ whole,isTrue e X.env whole=(do let v ←whole;standAt e.pos;holding [v] (truthy v)):=by intro _;rfl):Qq (PT X e (tB te)):=⟨Z2g q.h he⟩
theorem qT{e:Expr}(q:Qq (PT X e tc)):Qq (PT X (.UnaryOp .Not e pos) (Z1W tc)):=⟨Z1B q.h⟩
theorem qW{e:Expr}(q:Qq (PW X e tc)):Qq (PT X e tc):=⟨PW.pt q.h⟩
theorem qO{e:Expr}(p:Qq (PT X e tc))(q:Qq (PW X (.BoolOp .Or (f :: es) pos) tu)):Qq (PW X (.BoolOp .Or (e :: f :: es) pos) (tOr tc tu)):=⟨Z3J p.h q.h⟩
theorem qP{e:Expr}(p:Qq (PT X e tc)):Qq (PW X (.BoolOp .Or [e] pos) tc):=⟨Z1v p.h⟩
theorem qA{e:Expr}(p:Qq (PT X e tc))(q:Qq (PW X (.BoolOp .And (f :: es) pos) tu)):Qq (PW X (.BoolOp .And (e :: f :: es) pos) (Z3q tc tu)):=⟨z7m p.h q.h⟩
theorem qB{e:Expr}(p:Qq (PT X e tc)):Qq (PW X (.BoolOp .And [e] pos) tc):=⟨z4j p.h⟩
theorem qF{X:Cx}{pos:Pos}{wi:TI}{g:TG}{tg iter:Expr}{body:List Stmt}{tb:TS}(i:Qq (PI X tg iter wi))(j:Qq (PG X tg g))(q:Qq (QW X body tb))(hs:∀ x:Value,foldedSetIterable iter X.env x=pure x:=by exact fun _=>rfl)(h1:PassesOwn (model X.prog X.w) X.A X.env X.xe:=by exact PassesOwn.never)(h2:X.calm=true:=by rfl):Qq (PS X (.For tg iter body [] pos) (Z2t wi g tb)):=⟨z8J hs h1 h2 i.h j.h q.h⟩
theorem qg{X:Cx}{pos:Pos}{x:Str}(i:Nat)(hN:X.N.Nodup:=by assumption)(hi:X.N[i]?=some x:=by rfl)(hx:Loc X.env.scope x:=by first | exact Or.inl rfl | exact Or.inr rfl)(hf:X.fn x=true\/X.env.scope.names.lookup x=some .local:=by first | exact .inl rfl | exact .inr rfl | assumption):Qq (PG X (.Name x pos) (Zs i)):=⟨Zo hN hi hx hf⟩
theorem qL{e:Expr}(q:Qq (PE X e te)):Qq (PI X f e (Z0d X.K te)):=⟨Vg q.h⟩
theorem qU{e:Expr}(q:Qq (PE X e te)):Qq (PI X f e (Z3Y X.K te)):=⟨z5Y q.h⟩
theorem qX{e:Expr}(q:Qq (PE X e te))(hs:swapsWith e none pos.line X.env=pure false:=by rfl):Qq (PS X (.Expr e pos) (Z0H te)):=⟨z3R q.h hs⟩
theorem qD{e:Expr}(q:Qq (PE X e te))(hb:attributeBase e x X.env (eval e X.env)=eval e X.env:=by rfl):Qq (PE X (.Attribute e x pos) (Z3d X.K te x)):=⟨QT q.h hb⟩
theorem qy{X:Cx}{e:Expr}{es:List Expr}{ta:TA}{pos pos':Pos}{x:Str}{id:String}{rc:List V->Hp->VK->Prop}(c:ZG X (.builtin id) rc)(hm:X.mg x=none)(hv:bootBuiltins x=some (.builtin id))(q:Qq (PA X (e :: es) ta))(hg:Gl X x:=by rfl)(hn:x≠"__name__":=by decide)(hdb:(x == ("__debug__":Str))=false:=by decide)(he:starEach (e :: es) X.env=(false,eval e X.env) :: starEach es X.env:=by rfl)(hpl:(backTo pos (starEach es X.env)).any (·.1)=false:=by rfl):Qq (PE X (.Call (.Name x pos') (e :: es) [] pos) (tCB rc ta)):=⟨yI c hg hm hv q.h hn hdb he hpl⟩
theorem qY{X:Cx}{e:Expr}{es:List Expr}{ta:TA}{pos pos':Pos}{x:Str}{T:String}{rc:List V->Hp->VK->Prop}(c:ZG X (.type T) rc)(hm:X.mg x=none)(hv:bootBuiltins x=some (.type T))(q:Qq (PA X (e :: es) ta))(hg:Gl X x:=by rfl)(hn:x≠"__name__":=by decide)(hdb:(x == ("__debug__":Str))=false:=by decide)(he:starEach (e :: es) X.env=(false,eval e X.env) :: starEach es X.env:=by rfl)(hpl:(backTo pos (starEach es X.env)).any (·.1)=false:=by rfl):Qq (PE X (.Call (.Name x pos') (e :: es) [] pos) (tCB rc ta)):=⟨YV c hg hm hv q.h hn hdb he hpl⟩
theorem qm{X:Cx}{e:Expr}{cpos apos:Pos}{name id:String}(pa:PlainAttrs T)(slot:Slot T name id)(hty:typeOf (.builtin id)=pure (.type "method_descriptor"))(hm:MtR X id rm)(p:Qq (PE X o te))(q:Qq (PA X (e :: es) ta))(hbase:attributeBase o name X.env (eval o X.env)=eval o X.env:=by rfl)(hfew:((backTo cpos (starEach (e :: es) X.env)).all (fun x=>!x.1) && (backToKw cpos (keywordEach [] X.env)).all (fun x=>x.1.isSome)
  && decide ((e :: es).length+([]:List Keyword).length+(if ([]:List Keyword).isEmpty then 0 else 1)<30))=true:=by rfl)(hline:(apos.endLine == cpos.line)=true:=by rfl)(hs:starEach (e :: es) X.env=(false,eval e X.env) :: starEach es X.env:=by rfl)(hplain:(backTo cpos (starEach es X.env)).any (·.1)=false:=by rfl) :
 Qq (PE X (.Call (.Attribute o name apos) (e :: es) [] cpos) (tBM X.K T rm te ta)):=⟨z2U pa slot hty hm p.h q.h hbase hfew hline hs hplain⟩
theorem qM{X:Cx}{e o:Expr}{te:TE}{es:List Expr}{ta:TA}{pos apos:Pos}{k:Nat}{sp:Sp}{ps:List Str}{C:Addr}{m:Str}{pl:Sem Bool}(p:Qq (PE X o te))(c:Cls X.K C)(D:Z1 X.prog X.w X.K X.mg X.base yk k C m ps sp)(q:Qq (PA X (e :: es) ta))(hst:starEach (e :: es) X.env=(false,eval e X.env) :: starEach es X.env:=by rfl)(hpl:(backTo pos (starEach es X.env)).any (·.1)=false:=by rfl)
 (ht:eval (.Call (.Attribute o m apos) (e :: es) [] pos) X.env=(do
  let ov ←eval o X.env
  standAt apos.atName
  let (f,first) ←holding [ov] (getMethod ov m pl)
  callWith pos f first (backTo pos (starEach (e :: es) X.env)) (backToKw pos (keywordEach [] X.env))):=by rfl)
 (hr:Zk k X.A:=by first | assumption | exact Zk.mono (by assumption) (by decide)):Qq (PE X (.Call (.Attribute o m apos) (e :: es) [] pos) (UN C m sp [] E0 te ta)):=⟨z3k hst hpl ht p.h c D hr xE q.h⟩
theorem q2(p:Qq (PE X o te))(c:Cls X.K C)(D:Z1 X.prog X.w X.K X.mg X.base yk k C m ps sp)(ht:eval (.Call (.Attribute o m apos) [] [] pos) X.env=(do
  let ov ←eval o X.env
  standAt apos.atName
  let (f,first) ←holding [ov] (getMethod ov m pl)
  callWith pos f first (backTo pos (starEach [] X.env)) (backToKw pos (keywordEach [] X.env))):=by rfl)(hr:Zk k X.A:=by first | assumption | exact Zk.mono (by assumption) (by decide)):Qq (PE X (.Call (.Attribute o m apos) [] [] pos) (UN C m sp [] E0 te Ub)):=⟨JX ht p.h c D hr xE⟩
theorem q3{e:Expr}(p:Qq (PE X o te))(q:Qq (PE X e tf))(hs:swapsWith e (some (.Attribute o f' pos')) pos.line X.env=pure false:=by rfl):Qq (PS X (.Assign [.Attribute o f' pos'] e pos) (Z3C X.K te tf f')):=⟨Z0O p.h q.h hs⟩
theorem q4{e:Expr}(p:Qq (PE X e te))(q:Qq (PE X (.BoolOp .And (f :: es) pos) tf)):Qq (PE X (.BoolOp .And (e :: f :: es) pos) (Z0r te tf)):=⟨Z0X p.h q.h⟩
theorem q5{e:Expr}(p:Qq (PE X e te))(q:Qq (PE X (.BoolOp .Or (f :: es) pos) tf)):Qq (PE X (.BoolOp .Or (e :: f :: es) pos) (Z3w te tf)):=⟨Z4g p.h q.h⟩
theorem q6{e:Expr}{op}(p:Qq (PE X e te)):Qq (PE X (.BoolOp op [e] pos) te):=⟨Z1w p.h⟩
theorem q7{e:Expr}(p:Qq (PE X e te)):Qq (PE X (.UnaryOp .Not e pos) (Z0J te)):=⟨Z0W p.h⟩
theorem q8{e:Expr}(c:Qq (PT X o tc))(p:Qq (PE X e te))(q:Qq (PE X f tf)):Qq (PE X (.IfExp o e f pos) (tIf tc te tf)):=⟨z0T c.h p.h q.h⟩
theorem q9{e:Expr}{lo:Option Expr}(r':SlR X rs)(q:Qq (PE X e te))(l:Qq (PO X lo tl))(h:Qq (PO X hi th)):Qq (PE X (.Subscript e (.Slice lo hi none p2) pos) (tSl rs te tl th)):=⟨YZ r' q.h l.h h.h⟩
theorem qQ{e:Expr}(q:Qq (PE X e te)):Qq (PO X (some e) (Z0p te)):=⟨Xl q.h⟩
theorem qK:Qq (PO X none z3f):=⟨Xb⟩
theorem qR{X:Cx}{e f:Expr}{ta:TA}{pos pos':Pos}(hm:X.mg "range"=none)(q:Qq (PA X [e] ta))(hg:Gl X "range":=by rfl)(hs:starEach [e] X.env=[(false,eval e X.env)]:=by rfl):Qq (PI X f (.Call (.Name "range" pos') [e] [] pos) (Z0j ta)):=⟨U0 hg hm q.h hs⟩
theorem qH{e:Expr}(p:Qq (PG X e g))(q:Qq (PGs X es ug))(hs:(assignEach (e :: es) X.env).map (·.2)=assign e X.env :: (assignEach es X.env).map (·.2):=by rfl):Qq (PGs X (e :: es) (Z0v g ug)):=⟨Zz p.h q.h hs⟩
theorem qN:Qq (PGs X [] Z4c):=⟨Y5⟩
theorem qJ{X:Cx}{es:List Expr}{pos:Pos}{gs:TGs}{j:Nat}{n:Nat}(q:Qq (PGs X es gs))(hc:X.calm=true:=by rfl)(hn:(assignEach es X.env).length=n:=by rfl)(hst:(assignEach es X.env).findIdx? (·.1)=none:=by rfl):Qq (PG X (.Tuple es j pos) (z9q X.K n gs)):=⟨z2k hc q.h hn hst⟩
theorem qG{X:Cx}{te:TE}{pos:Pos}{wi:TI}{g:TG}{tg iter elt:Expr}{ifs:List Expr}{scope:Scope}{tt:TT}(sc:Scope)(N':List Str)(ks:List (Option Nat))(i:Qq (PI X tg iter wi))(hcap:U9 X (relabel scope X.env) N' ks)(j:∀ cl C s H fp,N'.Nodup->Qq (PG (Zh X N' scope cl C s H fp) tg g))(l:∀ cl C s H fp,Qq (PTs (Zh X N' scope cl C s H fp) ifs tt))(m:∀ cl C s H fp,Qq (PE (Zh X N' scope cl C s H fp) elt te))
 (hsc:X.env.scope=sc:=by rfl) (hfree:∀ y∈scope.names,y.2=.free->sc.names.lookup y.1=some .cell:=by decide +kernel) (hcell:∀ y∈scope.names,y.2≠.cell:=by decide) (hkind:scope.kind=.function:=by rfl) (hnames:∀ y∈scope.names,y.2=.local->scope.names.lookup y.1=some .local:=by decide +kernel) (hN:N'.Nodup:=by decide +kernel) (hcalm:X.calm=true:=by rfl) (hs:∀ x,foldedSetIterable iter X.env x=pure x:=by intro _;rfl):Qq (PE X (.ListComp elt [⟨tg,iter,ifs,0⟩] scope pos) (uN wi ks g tt te)) :=
 ⟨Z5 N' ks hcalm i.h (by rw[hsc];exact hfree) hcell hkind hnames hcap (fun cl C s H fp=>(j cl C s H fp hN).h) (fun cl C s H fp=>(l cl C s H fp).h) (fun cl C s H fp=>(m cl C s H fp).h) hs⟩
theorem qI{X:Cx}{scope:Scope}{pos2:Pos}(i':Nat)(sc:Scope)(N':List Str)(ks:List (Option Nat))(i:Qq (PI X tg iter wi))(hcap:U9 X (relabel scope X.env) N' ks)(j:∀ cl C s H fp,N'.Nodup->Qq (PG (Zh X N' scope cl C s H fp) tg g))(l:∀ cl C s H fp,Qq (PTs (Zh X N' scope cl C s H fp) ifs tt))(m:∀ cl C s H fp,Qq (PE (Zh X N' scope cl C s H fp) elt te))(hsw:swapsWith (.ListComp elt [⟨tg,iter,ifs,0⟩] scope pos) (some (.Name x pos')) pos2.line X.env=pure true:=by rfl)(hn:X.N.Nodup:=by assumption)(hxi:X.N[i']?=some x:=by rfl)(hxl:X.env.scope.names.lookup x=some .local:=by rfl)(hsc:X.env.scope=sc:=by rfl)(hfree:∀ y∈scope.names,y.2=.free->sc.names.lookup y.1=some .cell:=by decide +kernel)(hcell:∀ y∈scope.names,y.2≠.cell:=by decide)(hkind:scope.kind=.function:=by rfl)(hnames:∀ y∈scope.names,y.2=.local->scope.names.lookup y.1=some .local:=by decide +kernel)(hN:N'.Nodup:=by decide +kernel)(hcalm:X.calm=true:=by rfl)(hs:∀ x,foldedSetIterable iter X.env x=pure x:=by intro _;rfl):Qq (PS X (.Assign [.Name x pos'] (.ListComp elt [⟨tg,iter,ifs,0⟩] scope pos) pos2) (z1r (uN wi ks g tt te) (Zs i'))) :=
 ⟨z3w i' N' ks hsw hn hxi hxl hcalm i.h (by rw[hsc];exact hfree) hcell hkind hnames hcap (fun cl C s H fp=>(j cl C s H fp hN).h) (fun cl C s H fp=>(l cl C s H fp).h) (fun cl C s H fp=>(m cl C s H fp).h) hs⟩
theorem qj{X:Cx}{es:List Expr}{pos:Pos}{gs:TGs}(K:PySem.W.Frag)(n:Nat){j:Nat}(q:Qq (PGs X es gs))(e':X.K=K:=by rfl)(hc:X.calm=true:=by rfl)(hn:(assignEach es X.env).length=n:=by rfl)(hst:(assignEach es X.env).findIdx? (·.1)=none:=by rfl):Qq (PG X (.Tuple es j pos) (z9q K n gs)):=⟨Xm n e' hc q.h hn hst⟩
theorem qV:Qq (PTs X [] (fun _ H Q=>Q true H)):=⟨yE⟩
theorem qZ{e:Expr}(p:Qq (PT X e tc)):Qq (PTs X [e] tc):=⟨z2Y p.h⟩
theorem fs{N ps:List Str}{sc:Scope}(a:sc.kind=.function:=by rfl)(b:sc.isCoroutine=false:=by rfl)(c:sc.isGenerator=false:=by rfl)(d:N.Nodup:=by decide +kernel)(e:N.take ps.length=ps:=by rfl)(f:∀ x∈ps,sc.names.lookup x=some .local\/sc.names.lookup x=some .cell:=by decide +kernel)(g:∀ y∈sc.names,y.2≠.free:=by decide +kernel):zE N ps sc:=⟨a,b,c,d,e,f,g⟩
theorem Vb.ZM{st:Stmt}(F:Vb K x qual st f fd)(S:zE N ps (ze st))(hbody:N.Nodup->∀ (cdv:Value) (A:Around) (outer:List Env) (s:Shared) (H:Hp) (vs:List V) (Q:VK) (E:XK),Zk k (A.deeper (envOfC qual (ze st) s.heap.objs.size f cdv))->sp vs H Q E->
  ∃ t,Qq (QW (Jx yk P w K mg base N qual (ze st) f cdv A outer s H E).nox (Zy st) t)/\t { nx:=fun _ H'=>Q .Zr H',rt:=Q } (start N vs) H)(len:∀ vs H Q E,sp vs H Q E->vs.length=ps.length:=by (intro vs H Q E h;repeat first | (obtain⟨rfl,_⟩:=h;rfl) | obtain⟨_,h⟩:=h)):ZK P w K mg base yk (k+1) f fd ps sp :=
 F.ok S len fun cdv A outer s H vs Q E hr h=>let ⟨t,a,b⟩:=hbody S.nd cdv A outer s H vs Q E hr h;⟨t,a.h,b⟩
theorem FnAt.g{h:Heap}{n:Str}{st:Stmt}{ps:List Str}(x:FnAt K n st)(XK:K.In h)(G:h.Ns mainGlobals mg)(b:∀ (kV doc pm:Value) (an:Option Addr) (cdv ct:Value) (us:List Value),us.length=ps.length->bindArgs (PySem.W.fnOf n n (ZT st) (Zy st) (ze st) .none kV doc pm an cdv ct) ⟨us,[]⟩=pure (ps.zip us):=by (intro _ _ _ _ _ _ us hl;repeat first | (simp at hl;done) | (rcases us with _ |⟨_,us⟩;· first | (simp at hl;done) | rfl))):ZJ K mg n st ps:=x.fnd ps XK G b
theorem Jt.g{st:Stmt}(x:Jt K C m q st)(b:∀ (kV doc pm:Value) (an:Option Addr) (cdv ct:Value) (us:List Value),us.length=ps.length->bindArgs (PySem.W.fnOf m q (ZT st) (Zy st) (ze st) .none kV doc pm an cdv ct) ⟨us,[]⟩=pure (ps.zip us):=by (intro _ _ _ _ _ _ us hl;repeat first | (simp at hl;done) | (rcases us with _ |⟨_,us⟩;· first | (simp at hl;done) | rfl))):vZ K C m q st ps:=x.fnd ps b
end L2
namespace Lw
open L2
def top(i:Nat):Stmt:=PySem.Challenge.pw_pagewalks_k57_whole_by_the_desk.main.body.getD i (.Pass ⟨0,0,0,0⟩)
abbrev z2C:Stmt:=top 6
abbrev xY:Stmt:=top 7
abbrev z7t:Stmt:=top 8
abbrev Z2j:Stmt:=top 9
abbrev z3d:Stmt:=top 10
abbrev vh:Stmt:=top 11
abbrev z2Q:Stmt:=top 12
abbrev Vp:Stmt:=top 13
abbrev Qg:Stmt:=top 15
abbrev QK:Stmt:=top 16
abbrev QV:Stmt:=top 20
abbrev yQ:Stmt:=top 21
abbrev Yz:Stmt:=top 22
abbrev uE:Stmt:=top 23
abbrev uJ:Stmt:=top 24
abbrev z8e:Stmt:=top 25
abbrev z6d:Stmt:=top 26
abbrev z2S:Stmt:=top 28
abbrev jg:Stmt:=top 29
abbrev Xf:Stmt:=top 30
abbrev Qy:Stmt:=top 31
abbrev Vj:Stmt:=top 32
abbrev jZ:Stmt:=top 34
abbrev z5T:Stmt:=top 37
abbrev y9:Stmt:=top 43
abbrev YC:Stmt:=top 44
abbrev yP:Stmt:=top 45
abbrev xj:Stmt:=top 46
abbrev yD:Stmt:=top 47
abbrev YJ:Stmt:=top 48
abbrev xR:Stmt:=top 49
abbrev yO:Stmt:=top 50
abbrev xn:Stmt:=top 51
abbrev YN:Stmt:=top 53
abbrev VB:Stmt:=top 54
abbrev X4:Stmt:=top 55
abbrev YL:Stmt:=top 56
abbrev Qd:Stmt:=top 60
abbrev xg:Stmt:=top 61
abbrev qq:Stmt:=top 62
abbrev X6:Stmt:=top 65
abbrev XO:Stmt:=top 66
abbrev xO:Stmt:=top 67
abbrev qC:Stmt:=top 68
abbrev X8:Stmt:=top 69
abbrev xK:Stmt:=top 71
abbrev Yd:Stmt:=top 72
abbrev YG:Stmt:=top 75
abbrev XR:Stmt:=top 76
abbrev XS:Stmt:=top 77
abbrev z9U:Stmt:=top 78
abbrev z2t:Stmt:=top 79
abbrev Z8:Stmt:=top 80
abbrev vc:Stmt:=top 81
abbrev z1l:Stmt:=top 82
abbrev Y8:Stmt:=top 83
abbrev xF:Stmt:=top 84
abbrev Yi:Stmt:=top 85
abbrev ZE:Stmt:=top 86
abbrev YF:Stmt:=top 87
abbrev yi:Stmt:=top 88
abbrev yS:Stmt:=top 89
abbrev ZU:Stmt:=top 90
abbrev jH:Stmt:=top 91
abbrev V0:Stmt:=inClass (top 40) 0
abbrev VH:Stmt:=inClass (top 40) 1
abbrev QN:Stmt:=inClass (top 40) 2
abbrev uK:Stmt:=inClass (top 40) 3
abbrev ue:Stmt:=inClass (top 40) 6
abbrev jY:Stmt:=inClass (top 40) 7
abbrev X0:Stmt:=inClass (top 40) 8
abbrev XQ:Stmt:=inClass (top 40) 9
abbrev X7:Stmt:=inClass (top 73) 0
abbrev Q8:Stmt:=inClass (top 73) 1
theorem QF:zE ["one","other","rest"] ["one","other"] (ze xY):=fs
theorem U5(F:Vb K "common" "common" xY f fd):ZK P w K mg base yk 1 f fd ["one","other"] YU:=by
 refine F.ok QF (fun vs H Q E h=>?_) (fun cdv A outer s H vs Q E hr h=>?_);obtain⟨x,y,rfl,_⟩:=h;rfl;obtain⟨x,y,rfl,hx,hy,k⟩:=h;refine⟨_,@qz _ _ _ ⟨Yk (QA PassesOwn.never (yz vL (pv 1) zP (Yj _)) (Yk (QY (i:=2) QF.nd rfl (Or.inl rfl) (ZV YD (pv 0) (pv 1))) (Yk (QY (i:=0) QF.nd rfl (Or.inl rfl) (pv 1)) (ye (QY (i:=1) QF.nd rfl (Or.inl rfl) (pv 2)))))) (ye (VE (pv 0)))⟩,?_⟩;refine z6S (fun σ H'=>∃ (a b:Int) (r:Option V),σ=[some (.int a),some (.int b),r]/\0<=a/\0<=b/\Int.gcd a b=Int.gcd x y/\H'=H)
  (fun σ _=>match σ with | [_,some (.int b),_]=>b.toNat | _=>0) ⟨x,y,none,rfl,hx,hy,rfl,rfl⟩ ?_ ?_
 rintro σ H' ⟨a,b,r,rfl,ha,hb,hg,rfl⟩;refine⟨_,rfl,rfl,_,rfl,?_⟩;by_cases h0:b=0;refine ZN (veq h0) ?_;subst h0;refine⟨_,rfl,?_⟩;have e:(a:Int)=(Int.gcd x y:Int):=by rw[← hg,Int.gcd_zero_right];lia
 show Q (.int a) _;rw[e];exact k;refine yL (vne h0) ?_;have hb0:0<b:=by lia
 refine⟨_,rfl,_,rfl,_,_,rfl,rfl,hb0,?_⟩;refine⟨_,rfl,?_⟩;refine⟨_,rfl,?_⟩;refine⟨⟨b,a % b,_,rfl,hb,Z4t _ (by lia),?_,rfl⟩,?_⟩;rw[Pw.uC ha hb0,hg];show (a % b).toNat<b.toNat;have h1:=Z4t a (show b≠0 by lia);have h2:=Z51 a hb0;lia;rintro σ H' q q' hq ⟨v,e,hs,kk,ek,z⟩;exact⟨v,e,hs,kk,ek,hq _ _ z⟩
theorem z1q(x:Int):0<=(if x<0 then -x else x):=by split <;> lia
theorem z3p(x y:Int):Int.gcd (if x<0 then -x else x) (if y<0 then -y else y)=Int.gcd x y:=by
 split <;> split <;> simp[Int.neg_gcd,Int.gcd_neg]
theorem z8f(h:Sz n y)(hy:y≠0):Sz n (Int.gcd x y:Int):=by
 show (Int.gcd x y:Int).natAbs<2 ^ n;have:Int.gcd x y<=y.natAbs:=Nat.le_of_dvd (by lia) (Int.gcd_dvd_natAbs_right ..);have h':y.natAbs<2 ^ n:=h;lia
theorem z1I:zE ["above","below","divisor"] ["above","below"] (ze z3d):=fs
theorem z8F(F:Vb K "made" "made" z3d f fd)(zabs:mg "abs"=none)(FC:Vb K "common" "common" xY fC fdC)(mC:mg "common"=some (.ref fC))(bC:Binds K fdC ["one","other"] []) :
 ZK P w K mg base yk 2 f fd ["above","below"] Z1x:=by
 have GC:ZK P w K mg base yk 1 fC fdC ["one","other"] YU:=U5 FC;refine F.ok z1I (fun vs H Q E h=>?_) (fun cdv A outer s H vs Q E hr h=>?_);obtain⟨x,y,rfl,_⟩:=h;rfl;obtain⟨x,y,rfl,hy,sx,sy,k⟩:=h;refine⟨_,@qz _ _ _ ⟨Yk (QY (i:=2) z1I.nd rfl (Or.inl rfl) (z3c GC hr rfl mC FC.kp bC .nil xE (xh (yI Qp (by rfl) zabs boot_abs (xh (pv 0) zJ)) (xh (yI Qp (by rfl) zabs boot_abs (xh (pv 1) zJ)) zJ)))) (Yk (z7k (yz Ys (pv 1) zP (Yj _)) (ye (QY (i:=2) z1I.nd rfl (Or.inl rfl) (z3b jQ (pv 2)))) j9) (ye (VE (Z2l (xh (ZV ZO (pv 0) (pv 2)) (xh (ZV ZO (pv 1) (pv 2)) zJ))))))⟩,?_⟩;refine⟨_,rfl,x,rfl,_,rfl,y,rfl,_,_,rfl,z1q x,z1q y,?_⟩;rw[z3p];have hg:=Pw.z9v (a:=x) hy;have sg:=(z8f (x:=x) sy hy).mono (show 8000<=9000 by decide);refine⟨_,rfl,_,_,rfl,rfl,_,rfl,?_⟩;refine if2 (fun h=>?_) (fun h=>?_);have h:y<0:=of_decide_eq_true h;refine⟨_,rfl,_,rfl,?_⟩;refine⟨_,rfl,_,rfl,_,_,rfl,rfl,⟨by lia,sg.neg⟩,_,rfl,_,rfl,_,_,rfl,rfl,⟨by lia,sg.neg⟩,zl2,fun p hp=>?_⟩;have:=k p hp;unfold Pw.mk at this;rw[if_pos h] at this;exact this;have h:¬ y<0:=of_decide_eq_false h;refine⟨_,rfl,_,rfl,_,_,rfl,rfl,⟨by lia,sg⟩,_,rfl,_,rfl,_,_,rfl,rfl,⟨by lia,sg⟩,zl2,fun p hp=>?_⟩;have:=k p hp;unfold Pw.mk at this;rw[if_neg h] at this;exact this
theorem ndL:(["here","there","page"]:List Str).Nodup:=by decide +kernel
theorem z9D:zE ["web","page"] ["web","page"] (ze uJ):=fs
theorem z6f(F:Vb K "leads" "leads" uJ f fd):ZK P w K mg base yk 1 f fd ["web","page"] (Vt K Pw.outs):=by
 refine F.ok z9D (fun vs H Q E h=>?_) (fun cdv A outer s H vs Q E hr h=>?_);obtain⟨x,y,z,ps,rfl,_⟩:=h;rfl
 · obtain⟨wa,pages,page,ps,rfl,⟨ws,us,hw,hws,hp⟩,few,k⟩:=h
   refine⟨_,@qz _ _ _ ⟨ye (VE (Z5 ["here","there","page"] [none,none,some 1] rfl (z5Y (ZD zF (pv 0) zP (fun _ _=>rfl))) (by show ∀ y:Str×NameKind,y∈_->y.2=NameKind.free->(ze uJ).names.lookup y.1=some .cell;decide +kernel) (by decide) rfl (by decide +kernel) ⟨⟨rfl,rfl,.inl rfl⟩,trivial⟩ (fun cl C s H fp=>Xm (K:=K) 2 rfl rfl (Zz (Zo (i:=0) ndL rfl (Or.inl rfl) (.inr rfl)) (Zz (Zo (i:=1) ndL rfl (Or.inl rfl) (.inr rfl)) Y5))) (fun cl C s H fp=>z2Y (yz ya (pv 0) (pv 2) (Yj _))) (fun cl C s H fp=>pv 1)))⟩,?_⟩;refine⟨_,rfl,wa,_,_,_,rfl,rfl,zX.of hw,rfl,ws,rfl,⟨_,zX.of hws⟩,fun D hD=>?_⟩;have hl:=hp.len;refine Yn (K:=K) (a:=ws) (D:=D) (xs:=us) (fun i ys σ H'=>zC H H'/\H' ws=some (.tup us)/\H' D=some (.lst ys)/\ys=(Pw.outs (ps.take i) page).map V.int/\∃ x y,σ=[x,y,some (.int page)]) ?_ ?_ ?_ ?_;exact⟨zC.new hD,zC.new hD _ _ hws,zh,rfl,none,none,rfl⟩;rintro i ys σ H' ⟨s1,hw1,hD1,_,_⟩;exact⟨zX.of hw1,hD1⟩
   · rintro i v ys σ H' hi hlt ⟨s1,hw1,hD1,rfl,x,y,rfl⟩
     obtain⟨a,p,e1,rfl,e2⟩:=hp.get hi;have et:ps.take (i+1)=ps.take i ++ [p]:=(by rw[Z4l,e1];rfl);refine⟨a,_,rfl,s1.YT e2,rfl,_,_,rfl,_,_,rfl,rfl,?_⟩;refine⟨_,rfl,_,rfl,rfl,_,rfl,?_⟩;have hlen:((Pw.outs (ps.take i) page).map V.int).length<sizeLine:=by
      rw[ZB];have h1:=Pw.Z4 (ps.take i) page;have h2:(ps.take i).length<=ps.length:=(by rw[Z20];lia);have:(sizeLine:Nat)=16777216:=sizeLine_eq;lia
     by_cases c:p.1=page
     · refine yL (by rw[c];simp) ?_
       refine⟨_,rfl,hD1,hlen,Wt.next hlt ⟨fun b o e=>?_,?_,zh,?_,_,_,rfl⟩⟩;rw[zD (zo e hD)];exact s1 b o e;rw[zD (zo hws hD)];exact hw1;rw[et,Pw.yY,if_pos c,Z15];rfl
     · refine ZN (by simpa using c) ?_
       exact Wt.next hlt ⟨s1,hw1,hD1,by rw[et,Pw.yY,if_neg c,Z43],_,_,rfl⟩
   rintro ys σ H' ⟨s1,hw1,hD1,rfl,_⟩;rw[hl,Z0A (Z03 _)] at hD1;exact k D H' s1 hD hD1
theorem Z1M(S:ZJ K mg "made" z3d ["above","below"])(C:ZJ K mg "common" xY ["one","other"])(T:Txt mg):Def P w K mg base 2 "made" ["above","below"] Ve:=by
 obtain⟨fC,fdC,FC,mC,bC⟩:=C;exact S.def fun f fd F=>(z8F F T.abs FC mC bC).imp fun vs H Q E ⟨x,y,e,h1,h2,h3,h4⟩=>⟨x,y,e,h1,h2,h3,fun p hp=>h4 p _ (zC.new hp) zh⟩
theorem z9L(S:ZJ K mg "leads" uJ ["web","page"]):Def P w K mg base 1 "leads" ["web","page"] (Vt K Pw.outs):=S.def fun f fd F=>z6f F
open L2
theorem z5X(S:ZJ K mg "common" xY ["one","other"]):Def P w K mg base 1 "common" ["one","other"] YU:=S.def fun f fd F=>U5 F
theorem z9k:zE ["some","whole","each"] ["some"] (ze z2Q):=fs
theorem z9a(S:ZJ K mg "shared_below" z2Q ["some"])(C:Def P w K mg base 1 "common" ["one","other"] YU):Def P w K mg base 2 "shared_below" ["some"] (Jc K):=S.def fun f fd F=>by
 refine F.ZM z9k fun nd cdv A' outer s H vs Q E hr h=>?_;obtain⟨b,a,us,As,M,rfl,hq,fl,pos,hM,zM,dv,k⟩:=h;refine⟨_,(qc (qs 1 qi) (qc (qF ⟨z7L (pv 0)⟩ (qg 2) (q1 (qs 1 (qo z7 (qo ZO (qv 1) (qd C (qa (qv 1) (qa (qx zF (qv 2) qi) qn)))) (qx zF (qv 2) qi))))) (q1 (qr (qv 1))))),?_⟩;refine⟨_,rfl,b,a,rfl,⟨us,hq⟩,?_⟩;have hl:=fl.len;refine z9s (b:=b) (K:=K) (a:=a) (xs:=us) (fun i σ G=>G=H/\∃ (L:Int) (v:Option V),Pw.YB (As.take i) L/\σ=[some (.ref a),some (.int L),v]) ⟨rfl,1,none,Pw.YB.nil,rfl⟩ (fun i σ G _ h=>h.1 ▸ hq) ?_ ?_;rintro i x σ G hi ⟨rfl,L,v,hL,rfl⟩;have hlt:i<us.length:=(Z12.mp hi).1;have hA:As[i]?=some As[i]:=by simp
 obtain⟨p,ep,fp⟩:=fl.at hA;rw[hi] at ep;cases ep;have mA:=Z21 hA;have pA:=pos _ mA;have zL:Sz 8000 L:=YB.Z0l hL hM (fun A hA=>dv A (List.mem_of_mem_take hA)) zM;have zA:Sz 8000 As[i].2:=z6o (by lia) (Int.le_of_dvd hM (dv _ mA)) zM;obtain⟨g1,g2⟩:=Z2z (x:=L) pA;have hLp:=hL.pos;refine⟨_,rfl,_,rfl,_,rfl,p,_,_,_,rfl,rfl,zX.of fp,rfl,L,As[i].2,rfl,by lia,by lia,_,_,rfl,rfl,⟨by lia,(z6o (by lia) g2 zA).mono (by decide)⟩,_,rfl,p,_,_,_,rfl,rfl,zX.of fp,rfl,_,_,rfl,rfl,⟨(z3P hLp g1 zL).mono (by decide),zA.mono (by decide)⟩,rfl,_,_,?_,rfl⟩;rw[Z4l,hA];exact hL.snoc pA;rintro σ G ⟨rfl,L,v,hL,rfl⟩;rw[hl,Z0A (Z03 _)] at hL;exact⟨_,rfl,k L hL⟩
theorem Z4Q:(["each","below"]:List Str).Nodup:=by decide +kernel
theorem z5W:zE ["some","below"] ["some","below"] (ze Vp):=fs
theorem z8b(S:ZJ K mg "aboves" Vp ["some","below"]):Def P w K mg base 1 "aboves" ["some","below"] (Qj K):=S.def fun f fd F=>by
 refine F.ok z5W (fun vs H Q E h=>?_) (fun cdv A' outer s H vs Q E hr h=>?_);obtain⟨_,_,_,_,_,rfl,_⟩:=h;rfl
 · obtain⟨b,a,us,As,L,rfl,hq,fl,few,pos,hL,zL,k⟩:=h
   refine⟨_,@qz _ _ _ (q1 (qr ⟨Z5 ["each","below"] [none,some 1] rfl (z7L (pv 0)) (by show ∀ y:Str×NameKind,y∈_->y.2=NameKind.free->(ze Vp).names.lookup y.1=some .cell;decide +kernel) (by decide) rfl (by decide +kernel) ⟨⟨rfl,rfl,.inl rfl⟩,trivial⟩ (fun cl C s H fp=>Zo (i:=0) Z4Q rfl (Or.inl rfl) (.inr rfl)) (fun cl C s H fp=>yE) (fun cl C s H fp=>ZV z7 (ZD (z4m (K:=K) rfl) (pv 0) zP (fun _ _=>rfl)) (ZV ZO (pv 1) (ZD (z4m (K:=K) rfl) (pv 0) zP (fun _ _=>rfl))))⟩)),?_⟩;refine⟨_,rfl,b,a,rfl,⟨us,hq⟩,fun D hD=>?_⟩;have hl:=fl.len;refine z6W (b:=b) (K:=K) (a:=a) (D:=D) (xs:=us) (fun i ys σ H'=>zC H H'/\H' D=some (.lst ys)/\ys=(Pw.yq (As.take i) L).map V.int/\∃ x,σ=[x,some (.int L)]) ?_ ?_ ?_ ?_;exact⟨zC.new hD,zh,rfl,none,rfl⟩;rintro i ys σ H' ⟨s1,e1,_⟩;exact⟨hq.same s1,e1⟩
   · rintro i x ys σ H' hi hlt ⟨s1,e1,rfl,x',rfl⟩
     have hA:As[i]?=some As[i]:=(by simp);obtain⟨p,ep,fp⟩:=fl.at hA;rw[hi] at ep;cases ep;have mA:=Z21 hA;obtain⟨pA,zA⟩:=pos _ mA;have fp':=s1 _ _ fp;dsimp only [Zs];rw[if_pos rfl];refine⟨_,rfl,p,_,_,_,rfl,rfl,zX.of fp',rfl,_,rfl,_,rfl,p,_,_,_,rfl,rfl,zX.of fp',rfl,_,_,rfl,rfl,⟨by lia,zA.2.mono (by decide)⟩,_,_,rfl,rfl,⟨zA.1.mono (by decide),(z3P hL pA zL).mono (by decide)⟩,e1,?_,Wt.next hlt ⟨fun b o e=>?_,zh,?_,_,rfl⟩⟩;unfold Pw.yq;rw[ZB,ZB,Z20];exact Zf (by lia);rw[zD (zo e hD)];exact s1 _ _ e;unfold Pw.yq;rw[Z4l,hA,Z15,Z15];rfl
   rintro ys σ H' ⟨s1,e1,rfl,_⟩;rw[hl,Z0A (Z03 _)] at e1;exact k D H' s1 hD e1
theorem z8t:zE ["web","page"] ["web","page"] (ze z2S):=fs
theorem z9h(S:ZJ K mg "parts" z2S ["web","page"])(T:Txt mg)(Ld:Def P w K mg base 1 "leads" ["web","page"] (Vt K Pw.outs)):Def P w K mg base 2 "parts" ["web","page"] (j7 K):=S.def fun f fd F=>by
 refine F.ok z8t (fun vs H Q E h=>?_) (fun cdv A' outer s H vs Q E hr h=>?_);obtain⟨_,_,_,_,rfl,_⟩:=h;rfl;obtain⟨wa,pages,j,ps,rfl,hw,few,k⟩:=h;refine⟨_,@qz _ _ _ (q1 (qr (qy (z4R rfl) T.max boot_max (qa qi (qa (qy z0 T.len Z2O (qa (qd Ld (qa (qv 0) (qa (qv 1) qn))) qn)) qn))))),?_⟩;refine⟨_,rfl,_,rfl,wa,pages,j,ps,rfl,hw,few,fun l H1 s1 n1 e1=>?_⟩;refine⟨l,_,rfl,.inl (zQ.of e1),_,_,rfl,?_⟩;have:=k H1 s1;unfold Pw.mp at this;rw[ZB];have e:(if (((Pw.outs ps (j:Int)).length:Nat):Int) > 1 then (((Pw.outs ps (j:Int)).length:Nat):Int) else 1)=((max 1 (Pw.outs ps (j:Int)).length:Nat):Int):=by split <;> lia
 rw[e];exact this
theorem z5P:zE ["web","leap","here","there","along"] ["web","leap","here","there"] (ze jg):=fs
theorem z6k(S:ZJ K mg "factor" jg ["web","leap","here","there"])(T:Txt mg)(Pa:Def P w K mg base 2 "parts" ["web","page"] (j7 K)):Def P w K mg base 3 "factor" ["web","leap","here","there"] (JD K):=S.def fun f fd F=>by
 refine F.ZM z5P fun nd cdv A' outer s H vs Q E hr h=>?_;obtain⟨wa,lp,pages,j,i,ps,A,rfl,hw,few,hA,sa,k⟩:=h;refine⟨_,(qc (qs 4 (qo z7 (qo XZ (qx zF (qv 1) qi) (qx zF (qv 1) qi)) ⟨Z1r (by rfl) (by rfl) (by rfl) (by rfl) (by rfl) PySem.F.plainAttrs_tuple PySem.F.slot_tuple_count PySem.F.type_tuple_count (z4o hr) (ZD zF (pv 0) zP (fun _ _=>rfl)) (@zB _ _ _ _ _ (by rfl) (@Xu _ _ _ _ _ (@zB _ _ _ _ _ (by rfl) (pv 2) (@zB _ _ _ _ _ (by rfl) (pv 3) zJ))) zJ)⟩)) (qc (qf (qk ya (qv 2) (qv 3)) (q1 (qr (qo XZ (qo z7 (qx zF (qv 1) qi) (qd Pa (qa (qv 0) (qa (qv 2) qn)))) (qv 4)))) q0) (q1 (qr ⟨z3b jQ (pv 4)⟩)))),?_⟩;obtain⟨ws,uw,hwa,hws,hpw⟩:=id hw;have hol:=Pw.Z4 ps (j:Int);have hcc:=List.count_le_length (a:=(i:Int)) (l:=Pw.outs ps (j:Int));refine⟨_,rfl,lp,_,_,_,rfl,rfl,zX.of hA,rfl,_,rfl,lp,_,_,_,rfl,rfl,zX.of hA,rfl,_,_,rfl,rfl,?_⟩;refine⟨_,rfl,wa,_,_,_,rfl,rfl,zX.of hwa,rfl,⟨ws,uw,rfl,hws⟩,_,rfl,_,rfl,zl2,fun q H1 s1 n1 e1=>?_⟩;refine⟨ws,q,uw,ps,((j:Int),(i:Int)),rfl,rfl,s1 _ _ hws,hpw.kl s1.kl,zX.of e1,?_⟩;rw[Pw.YR];have zc:Sz 10 (Pw.cn ps j i):=Zd 10 (by unfold Pw.cn;lia);refine⟨_,_,rfl,rfl,⟨(sa.2.sub sa.1).mono (by decide),zc.mono (by decide)⟩,?_⟩;refine⟨_,rfl,_,rfl,rfl,_,rfl,?_⟩;unfold Pw.fac at k;by_cases e:j=i;refine yL (by subst e;simp) ?_;rw[if_pos e] at k;refine⟨_,rfl,lp,_,_,_,rfl,rfl,zX.of (s1 _ _ hA),rfl,_,rfl,_,rfl,wa,pages,j,ps,rfl,hw.same s1,few,fun H2 s2=>?_⟩;have zm:Sz 10 (Pw.mp ps j):=Zd 10 (by unfold Pw.mp;lia);exact⟨_,_,rfl,rfl,⟨sa.2.mono (by decide),zm.mono (by decide)⟩,_,rfl,_,_,rfl,rfl,k H2 (s1.trans s2)⟩;refine ZN (by simp;lia) ?_;rw[if_neg e] at k;exact⟨_,rfl,_,rfl,k H1 s1⟩
theorem Z4V:(["here","web","leap","page"]:List Str).Nodup:=by decide +kernel
theorem z1X:zE ["web","leap","page","start"] ["web","leap","page","start"] (ze Xf):=fs
theorem z1y(S:ZJ K mg "equation" Xf ["web","leap","page","start"])(T:Txt mg)(Fa:Def P w K mg base 3 "factor" ["web","leap","here","there"] (JD K)):Def P w K mg base 4 "equation" ["web","leap","page","start"] (VI K):=S.def fun f fd F=>by
 refine F.ok z1X (fun vs H Q E h=>?_) (fun cdv A' outer s H vs Q E hr h=>?_);obtain⟨_,_,_,_,_,_,_,rfl,_⟩:=h;rfl
 · obtain⟨wa,lp,pages,i,st,ps,A,rfl,hw,plo,phi,few,hA,sa,k⟩:=h
   refine⟨_,@qz _ _ _ (q1 (qr (qo xZ ⟨Z5 ["here","web","leap","page"] [none,some 0,some 1,some 2] rfl (U0 rfl T.range (@zB _ _ _ _ _ (by rfl) (ZD zF (pv 0) zP (fun _ _=>rfl)) zJ)) (by show ∀ y:Str×NameKind,y∈_->y.2=NameKind.free->(ze Xf).names.lookup y.1=some .cell;decide +kernel) (by decide) rfl (by decide +kernel) ⟨⟨rfl,rfl,.inl rfl⟩,⟨rfl,rfl,.inl rfl⟩,⟨rfl,rfl,.inl rfl⟩,trivial⟩ (fun cl C s H fp=>Zo (i:=0) Z4V rfl (Or.inl rfl) (.inr rfl)) (fun cl C s H fp=>yE) (fun cl C s H fp=>ZP (by rfl) (by rfl) (by rfl) (by decide) Fa hr (@zB _ _ _ _ _ (by rfl) (pv 1) (@zB _ _ _ _ _ (by rfl) (pv 2) (@zB _ _ _ _ _ (by rfl) (pv 0) (@zB _ _ _ _ _ (by rfl) (pv 3) zJ)))))⟩ (ql (qa (qv 3) qn))))),?_⟩;obtain⟨ws,uw,hwa,hws,hpw⟩:=id hw;refine⟨_,rfl,wa,_,_,_,rfl,rfl,zX.of hwa,rfl,pages,rfl,by lia,by lia,fun D hD=>?_⟩;refine ua (lo:=0) (n:=pages.toNat) (D:=D) (fun j ys σ H'=>zC H H'/\H' D=some (.lst ys)/\ys=ZL (fun j=>Pw.fac ps A j i) j/\∃ x,σ=[x,some (.ref wa),some (.ref lp),some (.int i)]) ?_ ?_ ?_ ?_;exact⟨zC.new hD,zh,rfl,none,rfl⟩;rintro j ys σ H' ⟨_,e,_⟩;exact e
   · rintro j ys σ H' hj ⟨s1,e1,rfl,x,rfl⟩
     rw[Z58];dsimp only [Zs];rw[if_pos rfl];refine⟨_,rfl,_,rfl,_,rfl,_,rfl,wa,lp,pages,j,i,ps,A,rfl,hw.same s1,few,s1 _ _ hA,sa,fun H2 s2=>?_⟩;refine⟨s2 _ _ e1,by rw[Zl];exact Zf (by lia),Wt.next hj ⟨fun b o e=>?_,zh,(yX _ _).symm,_,rfl⟩⟩;rw[zD (zo e hD)];exact s2 _ _ (s1 _ _ e)
   rintro ys σ H1 ⟨s1,e1,rfl,_⟩;refine⟨_,rfl,zl1,fun l H2 s2 n2 e2=>?_⟩;refine⟨D,l,_,_,rfl,rfl,s2 _ _ e1,e2,by rw[Zl];exact Nat.le_of_lt (Zf (by show pages.toNat+1<=1000;lia)),fun p H3 s3 n3 e3=>?_⟩;have n:H p=none:=(s1.trans s2).free n3;exact k p H3 (s1.trans (s2.trans s3)) n e3
theorem Z3p:(["one","two","chosen","place","equation","before"]:List Str).Nodup:=by decide +kernel
theorem z4W:zE ["equation","chosen","place","before"] ["equation","chosen","place","before"] (ze Qg):=fs
theorem z4F(S:ZJ K mg "cleared" Qg ["equation","chosen","place","before"])(T:Txt mg):Def P w K mg base 1 "cleared" ["equation","chosen","place","before"] (vy K):=S.def fun f fd F=>by
 refine F.ok z4W (fun vs H Q E h=>?_) (fun cdv A' outer s H vs Q E hr h=>?_);obtain⟨_,_,_,_,_,_,_,rfl,_⟩:=h;rfl
 · obtain⟨e,c,kk,m,d,f1,g1,rfl,he,hc,hk,hm,hd,zd,zz,k⟩:=h
   refine⟨_,@qz _ _ _ (q1 (qr ⟨Z5 ["one","two","chosen","place","equation","before"] [none,none,some 1,some 2,some 0,some 3] rfl (uy (by rfl) (by rfl) (by rfl) rfl T.zip (@zB _ _ _ _ _ (by rfl) (pv 0) (@zB _ _ _ _ _ (by rfl) (pv 1) zJ))) (by show ∀ y:Str×NameKind,y∈_->y.2=NameKind.free->(ze Qg).names.lookup y.1=some .cell;decide +kernel) (by decide) rfl (by decide +kernel) ⟨⟨rfl,rfl,.inl rfl⟩,⟨rfl,rfl,.inl rfl⟩,⟨rfl,rfl,.inl rfl⟩,⟨rfl,rfl,.inl rfl⟩,trivial⟩ (fun cl C s H fp=>Xm (K:=K) 2 rfl rfl (Zz (Zo (i:=0) Z3p rfl (Or.inl rfl) (.inr rfl)) (Zz (Zo (i:=1) Z3p rfl (Or.inl rfl) (.inr rfl)) Y5))) (fun cl C s H fp=>yE) (fun cl C s H fp=>ZV ZO (ZV XZ (ZV z7 (ZD (V5 (K:=K) rfl) (pv 2) (pv 3) (fun _ _=>rfl)) (pv 0)) (ZV z7 (ZD (V5 (K:=K) rfl) (pv 4) (pv 3) (fun _ _=>rfl)) (pv 1))) (pv 5))⟩)),?_⟩;refine⟨_,rfl,_,rfl,true,true,e,c,_,_,rfl,zQ.of he,zQ.of hc,fun D hD=>?_⟩;refine z5A (b1:=true) (b2:=true) (K:=K) (a:=e) (b:=c) (D:=D) (xs:=ZL f1 m) (zs:=ZL g1 m) (by rw[Zl,Zl]) (fun i ys σ H'=>zC H H'/\H' D=some (.lst ys)/\ys=ZL (fun j=>(g1 kk * f1 j - f1 kk * g1 j).fdiv d) i/\∃ x y,σ=[x,y,some (.ref c),some (.int kk),some (.ref e),some (.int d)]) ?_ ?_ ?_ ?_;exact⟨zC.new hD,zh,rfl,none,none,rfl⟩;rintro i ys σ H' ⟨s2,e2,_⟩;exact⟨zQ.of (s2 _ _ he),zQ.of (s2 _ _ hc),e2⟩
   · rintro i x z ys σ H' TT G hi hz hlt ⟨s2,e2,rfl,x',y',rfl⟩ hTT sG eT
     rw[Zl] at hlt;rw[YQ hlt] at hi hz;cases hi;cases hz;obtain⟨z1,z2⟩:=zz i hlt;obtain⟨z3,z4⟩:=zz kk hk;refine⟨TT,_,rfl,zX.of eT,rfl,_,_,rfl,_,_,rfl,rfl,?_⟩;dsimp only [Zs];rw[if_pos rfl];refine⟨_,rfl,_,rfl,c,_,(kk:Nat),.int (g1 kk),rfl,rfl,zQ.of (sG _ _ (s2 _ _ hc)),z8 (YQ hk),_,rfl,_,_,rfl,rfl,⟨z4.mono (by decide),z1.mono (by decide)⟩,?_⟩;refine⟨_,rfl,_,rfl,e,_,(kk:Nat),.int (f1 kk),rfl,rfl,zQ.of (sG _ _ (s2 _ _ he)),z8 (YQ hk),_,rfl,_,_,rfl,rfl,⟨z3.mono (by decide),z2.mono (by decide)⟩,_,_,rfl,rfl,_,rfl,_,_,rfl,rfl,⟨hd,zd.mono (by decide)⟩,?_⟩;refine⟨sG _ _ e2,by rw[Zl];exact Zf (by lia),Wt.next (by rw[Zl];exact hlt) ⟨fun b o eb=>?_,zh,(yX _ _).symm,_,_,rfl⟩⟩;rw[zD (zo eb hD)];exact sG _ _ (s2 _ _ eb)
   rintro ys σ H' ⟨s2,e2,rfl,_⟩;rw[Zl] at e2;exact k D H' s2 hD e2
theorem Z3v:(["turn","each","place","chosen","before"]:List Str).Nodup:=by decide +kernel
theorem z7D:zE ["equations","before","place","chosen"] ["equations"] (ze QK):=fs
theorem z6a(S:ZJ K mg "solved" QK ["equations"])(T:Txt mg)(Cl:Def P w K mg base 1 "cleared" ["equation","chosen","place","before"] (vy K)):Def P w K mg base 2 "solved" ["equations"] (z0a K):=S.def fun f fd F=>by
 refine F.ZM z7D fun nd cdv A' outer s H vs Q E hr h=>?_;obtain⟨e0,us0,n,z,f0,rfl,he0,mt0,sg,n1,n12,hz,hb,k⟩:=h;refine⟨_,(qc (qs 1 qi) (qc (qF (qR T.range (qa (qy z0 T.len Z2O (qa (qv 0) qn)) qn)) (qg 2) (qc (qs 3 (qx zK (qv 0) (qv 2))) (qc ⟨z3w 0 ["turn","each","place","chosen","before"] [none,none,some 2,some 3,some 1] (by rfl) nd rfl rfl rfl (Vh (by rfl) (by rfl) rfl T.enu (@zB _ _ _ _ _ (by rfl) (pv 0) zJ)) (by show ∀ y:Str×NameKind,y∈_->y.2=NameKind.free->(ze QK).names.lookup y.1=some .cell;decide +kernel) (by decide) rfl (by decide +kernel) ⟨⟨rfl,rfl,.inl rfl⟩,⟨rfl,rfl,.inl rfl⟩,⟨rfl,rfl,.inl rfl⟩,trivial⟩ (fun cl C s H fp=>Xm (K:=K) 2 rfl rfl (Zz (Zo (i:=0) Z3v rfl (Or.inl rfl) (.inr rfl)) (Zz (Zo (i:=1) Z3v rfl (Or.inl rfl) (.inr rfl)) Y5))) (fun cl C s H fp=>yE) (fun cl C s H fp=>z0T (yz ya (pv 0) (pv 2) (Yj _)) (pv 3) (ZP (by rfl) (by rfl) (by rfl) (by decide) Cl hr (@zB _ _ _ _ _ (by rfl) (pv 1) (@zB _ _ _ _ _ (by rfl) (pv 3) (@zB _ _ _ _ _ (by rfl) (pv 2) (@zB _ _ _ _ _ (by rfl) (pv 4) zJ))))))⟩ (q1 (qs 1 (qx zK (qv 3) (qv 2))))))) (q1 (qr (qt (qa ⟨Z5 ["each"] [none] rfl (@Vg _ _ _ _ (pv 0)) (by show ∀ y:Str×NameKind,y∈_->y.2=NameKind.free->(ze QK).names.lookup y.1=some .cell;decide +kernel) (by decide) rfl (by decide +kernel) trivial (fun cl C s H fp=>Zo (i:=0) (show (["each"]:List Str).Nodup by decide +kernel) rfl (Or.inl rfl) (.inr rfl)) (fun cl C s H fp=>yE) (fun cl C s H fp=>ZD (V5 (K:=K) rfl) (pv 0) z8C (fun _ _=>rfl))⟩ (qa (qv 1) qn))))))),?_⟩;have hlu:=mt0.1;refine⟨_,rfl,e0,us0,rfl,.inl (zQ.of he0),(us0.length:Int),rfl,by lia,by lia,?_⟩;rw[hlu];refine yU (lo:=0) (n:=(n:Int).toNat) (fun j σ G=>zC H G/\∃ (eq:Addr) (us:List V) (v2 v3:Option V),G eq=some (.lst us)/\Xy G n (n+1) (Pw.fF f0 j).1 us/\σ=[some (.ref eq),some (.int (Pw.fF f0 j).2),v2,v3]) ?_ ?_ ?_;exact⟨zC.refl _,e0,us0,none,none,he0,mt0,rfl⟩
 · rintro j σ G hj ⟨sG,eq,us,v2,v3,eE,mt,rfl⟩
   rw[Z58];have hjn:j<n:=by lia
   obtain⟨st,sgn,dp,dl⟩:=Pw.UJ sg j (by lia);obtain⟨zf,zd⟩:=z6r sg n12 hb (k:=j) (by lia);obtain⟨q,eq1,hq⟩:=mt.2 j hjn;have hlm:=mt.1;refine⟨_,rfl,_,rfl,eq,us,(j:Nat),.ref q,rfl,rfl,zQ.of eE,z8 eq1,?_⟩;refine⟨_,rfl,eq,us,rfl,zQ.of eE,fun D hD=>?_⟩;refine V8 (K:=K) (a:=eq) (D:=D) (xs:=us) (fun i ys σ H'=>zC G H'/\H' D=some (.lst ys)/\(∀ i:Nat,ys[i]?≠some (V.ref D))/\Xy H' i (n+1) (Pw.yd (Pw.fF f0 j).1 j (Pw.fF f0 j).2) ys/\∃ x y,σ=[x,y,some (.int j),some (.ref q),some (.int (Pw.fF f0 j).2)]) ?_ ?_ ?_ ?_;exact⟨zC.new hD,zh,fun i=>by simp,⟨rfl,fun i hi=>by lia⟩,none,none,rfl⟩;rintro i ys σ H' ⟨s1,e1,_⟩;exact⟨zQ.of (s1 _ _ eE),e1⟩
   · rintro i x ys σ H' TT G1 hi hlt ⟨s1,e1,nD,mt1,x',y',rfl⟩ hTT s2 eT
     obtain⟨q2,eq2,hq2⟩:=mt.2 i (by lia);rw[hi] at eq2;cases eq2;have s12:=s1.trans s2;refine⟨TT,_,rfl,zX.of eT,rfl,_,_,rfl,_,_,rfl,rfl,?_⟩;dsimp only [Zs];rw[if_pos rfl];have e1':=s2 _ _ e1;have fin:∀ (r:Addr) (G2:Hp),zC G1 G2->r≠D->G2 r=some (.lst (ZL (Pw.yd (Pw.fF f0 j).1 j (Pw.fF f0 j).2 i) (n+1)))->G2 D=some (.lst ys)/\ys.length<sizeLine/\∃ m',m'<us.length - i/\Wt (fun i ys σ H'=>zC G H'/\H' D=some (.lst ys)/\(∀ i:Nat,ys[i]?≠some (V.ref D))/\Xy H' i (n+1) (Pw.yd (Pw.fF f0 j).1 j (Pw.fF f0 j).2) ys/\∃ x y,σ=[x,y,some (.int j),some (.ref q),some (.int (Pw.fF f0 j).2)]) us.length (i+1) m' (ys ++ [.ref r]) [some (.int i),some (.ref q2),some (.int j),some (.ref q),some (.int (Pw.fF f0 j).2)] (upd G2 D (.lst (ys ++ [.ref r]))):=fun r G2 s3 hrD hr2=>by
      have nD':∀ i:Nat,(ys ++ [V.ref r])[i]?≠some (V.ref D):=fun i' z=>by
       by_cases hi':i'<ys.length;rw[Z2H hi'] at z;exact nD i' z;rw[Z3H (by lia)] at z;cases hz':i' - ys.length with
       | zero=>rw[hz'] at z;simp at z;exact hrD z
       | succ m=>rw[hz'] at z;simp at z
      refine⟨s3 _ _ e1',by rw[mt1.1];exact Zf (by lia),Wt.next hlt ⟨fun b o eb=>?_,zh,nD',?_,_,_,rfl⟩⟩;rw[zD (zo eb hD)];exact s3 _ _ (s12 _ _ eb);exact Xy.put (xs:=[]) ((mt1.same (s2.trans s3)).snoc hr2) fun i' _=>nD' i'
     refine⟨_,rfl,_,rfl,rfl,_,rfl,?_⟩;by_cases hij:i=j;refine yL (by subst hij;simp) ?_;refine⟨_,rfl,fin q G1 (zC.refl _) (zo hq hD) ?_⟩;have e:ZL (Pw.yd (Pw.fF f0 j).1 j (Pw.fF f0 j).2 i) (n+1)=ZL ((Pw.fF f0 j).1 j) (n+1):=XN fun t ht=>(by unfold Pw.yd;rw[if_pos hij]);rw[e];exact s12 _ _ hq;refine ZN (by simp;lia) ?_;refine⟨_,rfl,_,rfl,_,rfl,_,rfl,q2,q,j,n+1,_,(Pw.fF f0 j).1 i,(Pw.fF f0 j).1 j,rfl,s12 _ _ hq2,s12 _ _ hq,by lia,by lia,by lia,zd.mono (by lia),fun t ht=>⟨(zf i t (by lia) (by lia)).mono (by lia),(zf j t (by lia) (by lia)).mono (by lia)⟩,fun r G2 s3 n3 e3=>?_⟩;refine fin r G2 s3 (fun z=>?_) ?_;rw[z,e1'] at n3;cases n3;have e:ZL (Pw.yd (Pw.fF f0 j).1 j (Pw.fF f0 j).2 i) (n+1)=ZL (fun t=>((Pw.fF f0 j).1 j j * (Pw.fF f0 j).1 i t - (Pw.fF f0 j).1 i j * (Pw.fF f0 j).1 j t).fdiv (Pw.fF f0 j).2) (n+1):=XN fun t ht=>(by unfold Pw.yd;rw[if_neg hij]);rw[e];exact e3
   rintro ys σ G1 ⟨s1,e1,_,mt1,_⟩;rw[hlm] at mt1;refine⟨_,rfl,_,rfl,q,_,(j:Nat),.int ((Pw.fF f0 j).1 j j),rfl,rfl,zQ.of (s1 _ _ hq),z8 (YQ (by lia)),?_⟩;exact⟨sG.trans s1,D,ys,_,_,e1,mt1,rfl⟩
 · rintro σ G ⟨sG,eq,us,v2,v3,eE,mt,rfl⟩
   have hnn:(n:Int).toNat=n:=by lia
   rw[hnn] at mt;rw[hnn];refine⟨_,rfl,eq,rfl,⟨_,zQ.of eE⟩,fun D hD=>?_⟩;have hlm:=mt.1;refine Z0 (K:=K) (a:=eq) (D:=D) (xs:=us) (fun i ys σ H'=>zC G H'/\H' D=some (.lst ys)/\ys=ZL (fun i=>(Pw.fF f0 n).1 i n) i/\∃ x,σ=[x]) ?_ ?_ ?_ ?_;exact⟨zC.new hD,zh,rfl,none,rfl⟩;rintro i ys σ H' ⟨s1,e1,_⟩;exact⟨zQ.of (s1 _ _ eE),e1⟩
   · rintro i x ys σ H' hi hlt ⟨s1,e1,rfl,x',rfl⟩
     obtain⟨q2,eq2,hq2⟩:=mt.2 i (by lia);rw[hi] at eq2;cases eq2;dsimp only [Zs];rw[if_pos rfl];have hat:atI (ZL ((Pw.fF f0 n).1 i) (n+1)) (-1)=some (.int ((Pw.fF f0 n).1 i n)):=(by rw[yX];exact z6v _ _);refine⟨_,rfl,q2,_,(-1:Int),_,rfl,rfl,zQ.of (s1 _ _ hq2),hat,e1,by rw[Zl];exact Zf (by lia),Wt.next hlt ⟨fun b o eb=>?_,zh,(yX _ _).symm,_,rfl⟩⟩;rw[zD (zo eb hD)];exact s1 _ _ eb
   rintro ys σ G1 ⟨s1,e1,rfl,_⟩;rw[hlm] at e1;refine⟨_,rfl,zl2,fun t G2 s2 n2 e2=>?_⟩;exact k t D G2 (sG.trans (s1.trans s2)) e2 (s2 _ _ e1)
theorem Z4e:(["page","start","web","leap"]:List Str).Nodup:=by decide +kernel
theorem Z3h:(["page","number","web"]:List Str).Nodup:=by decide +kernel
theorem z7P:zE ["web","leap","leaps","starts","found"] ["web","leap","leaps"] (ze Qy):=fs
theorem z8c(S:ZJ K mg "visits" Qy ["web","leap","leaps"])(T:Txt mg)(Ab:Def P w K mg base 1 "aboves" ["some","below"] (Qj K))(Be:Def P w K mg base 2 "shared_below" ["some"] (Jc K))(So:Def P w K mg base 2 "solved" ["equations"] (z0a K))(Eq:Def P w K mg base 4 "equation" ["web","leap","page","start"] (VI K))(Pa:Def P w K mg base 2 "parts" ["web","page"] (j7 K)):Def P w K mg base 5 "visits" ["web","leap","leaps"] (z0B K):=S.def fun f fd F=>by
 refine F.ZM z7P fun nd cdv A' outer s H vs Q E hr h=>?_;obtain⟨wa,lp,ls,pages,ps,A,Bs,us,SS,z,rfl,g,pr,p12,hz,sz,sS,k⟩:=h;have hr1:=hr.mono (show 1<=4 by decide);have hr2:=hr.mono (show 2<=4 by decide);refine⟨_,(qc (qs 3 ⟨ZP (by rfl) (by rfl) (by rfl) (by decide) Ab hr1 (@zB _ _ _ _ _ (by rfl) (pv 2) (@zB _ _ _ _ _ (by rfl) (ZP (by rfl) (by rfl) (by rfl) (by decide) Be hr2 (@zB _ _ _ _ _ (by rfl) (pv 2) zJ)) zJ))⟩) (qc (qs 4 ⟨ZP (by rfl) (by rfl) (by rfl) (by decide) So hr2 (@zB _ _ _ _ _ (by rfl) (Z5 ["page","start","web","leap"] [none,none,some 0,some 1] rfl (Vh (by rfl) (by rfl) rfl T.enu (@zB _ _ _ _ _ (by rfl) (pv 3) zJ)) (by show ∀ y:Str×NameKind,y∈_->y.2=NameKind.free->(ze Qy).names.lookup y.1=some .cell;decide +kernel) (by decide) rfl (by decide +kernel) ⟨⟨rfl,rfl,.inl rfl⟩,⟨rfl,rfl,.inl rfl⟩,trivial⟩ (fun cl C s H fp=>Xm (K:=K) 2 rfl rfl (Zz (Zo (i:=0) Z4e rfl (Or.inl rfl) (.inr rfl)) (Zz (Zo (i:=1) Z4e rfl (Or.inl rfl) (.inr rfl)) Y5))) (fun cl C s H fp=>yE) (fun cl C s H fp=>ZP (by rfl) (by rfl) (by rfl) (by decide) Eq hr (@zB _ _ _ _ _ (by rfl) (pv 2) (@zB _ _ _ _ _ (by rfl) (pv 3) (@zB _ _ _ _ _ (by rfl) (pv 0) (@zB _ _ _ _ _ (by rfl) (pv 1) zJ)))))) zJ)⟩) (q1 (qr ⟨Z5 ["page","number","web"] [none,none,some 0] rfl (Vh (by rfl) (by rfl) rfl T.enu (@zB _ _ _ _ _ (by rfl) (ZD zF (pv 4) zP (fun _ _=>rfl)) zJ)) (by show ∀ y:Str×NameKind,y∈_->y.2=NameKind.free->(ze Qy).names.lookup y.1=some .cell;decide +kernel) (by decide) rfl (by decide +kernel) ⟨⟨rfl,rfl,.inl rfl⟩,trivial⟩ (fun cl C s H fp=>Xm (K:=K) 2 rfl rfl (Zz (Zo (i:=0) Z3h rfl (Or.inl rfl) (.inr rfl)) (Zz (Zo (i:=1) Z3h rfl (Or.inl rfl) (.inr rfl)) Y5))) (fun cl C s H fp=>yE) (fun cl C s H fp=>ZV z7 (ZP (by rfl) (by rfl) (by rfl) (by decide) Pa hr2 (@zB _ _ _ _ _ (by rfl) (pv 2) (@zB _ _ _ _ _ (by rfl) (pv 0) zJ))) (pv 1))⟩)))),?_⟩;have plo:=g.plo;have hlen:=g.len;have hlB:=g.row.len;have few:=g.few;have hBn:Bs.length=pages.toNat:=by lia
 refine⟨_,rfl,_,rfl,false,ls,us,Bs,SS,rfl,zX.of g.leaps,g.row,z9.pos g.cb,pr.spos,pr.ssz.mono (by decide),pr.sdvd,fun L hL=>?_⟩;have hLp:=hL.pos;have hLS:=hL.le pr.spos pr.sdvd;have zL:Sz 700 L:=YB.Z0l hL pr.spos pr.sdvd pr.ssz;refine⟨false,ls,us,Bs,L,rfl,zX.of g.leaps,g.row,by lia,fun B hB=>⟨(g.cb B hB).1,(g.sb B hB).mono (by decide)⟩,hLp,zL.mono (by decide),fun sa H1 s1 n1 e1=>?_⟩;have hss:(Pw.yq Bs L).length=pages.toNat:=by unfold Pw.yq;rw[ZB];exact hBn
 have hB:∀ t,t<pages.toNat->((Pw.yq Bs L).getD t 0:Rat)=Pw.val (Bs.getD t (0,1)) * (L:Rat):=fun t ht=>by
  have hi':t<Bs.length:=by lia
  have hR:Bs[t]?=some Bs[t]:=by simp
  have e1:(Pw.yq Bs L).getD t 0=Bs[t].1 * (L.fdiv Bs[t].2):=by
   unfold Pw.yq;rw[Z02,Z14,hR];rfl
  have e2:Bs.getD t (0,1)=Bs[t]:=by rw[Z02,hR];rfl
  have mR:=Z26 hi';rw[e1,e2,Pw.j6 (g.cb _ mR).1 hLp (hL.dvd _ mR)]
 have one:=pr.one;rw[hBn] at one;have snn:∀ s∈Pw.yq Bs L,0<=s:=fun s hs=>by
  obtain⟨B,hB',rfl⟩:=Z17.mp hs;have c:=(g.cb B hB').1;exact Z4m (pr.nn B hB') (by rw[Z32 _ (by lia)];exact Int.ediv_nonneg (by lia) (by lia))
 have ssum:(Pw.yq Bs L).sum=L:=by
  have h3:=Pw.Vn (Pw.yq Bs L);rw[hss,Pw.zN (g:=fun t=>(L:Rat) * Pw.val (Bs.getD t (0,1))) fun t ht=>by rw[hB t ht];grind,Pw.zY,one] at h3;have:(L:Rat)=((Pw.yq Bs L).sum:Rat):=by rw[← h3];grind
  exact_mod_cast this.symm
 have lk:∀ p∈ps,0<=p.2/\p.2<((pages.toNat:Nat):Int):=fun p hp=>by
  have:=g.lk p hp;lia
 have eo:Pw.YK ps A (Pw.yq Bs L) pages.toNat:=⟨lk,pr.a0,pr.a1,hss,snn,by rw[ssum];exact hLp⟩;have sle:∀ s∈Pw.yq Bs L,s<=2 ^ z:=fun s hs=>by
  have h1:s<=(Pw.yq Bs L).sum:=z1H snn hs;have h2:SS.natAbs<2 ^ z:=sS;have:((2:Int) ^ z)=((2 ^ z:Nat):Int):=by push_cast;rfl
  rw[this];lia
 have ez:=z7Y few eo sz.2 sle;have g1:=g.same s1;refine⟨_,rfl,sa,_,rfl,zQ.of e1,fun D hD=>?_⟩;refine V8 (K:=K) (a:=sa) (D:=D) (xs:=(Pw.yq Bs L).map V.int) (fun i ys σ H'=>zC H1 H'/\H' D=some (.lst ys)/\(∀ i:Nat,ys[i]?≠some (V.ref D))/\Xy H' i (pages.toNat+1) (Pw.VU ps A (Pw.yq Bs L) pages.toNat) ys/\∃ x y,σ=[x,y,some (.ref wa),some (.ref lp)]) ?_ ?_ ?_ ?_;exact⟨zC.new hD,zh,fun i=>by simp,⟨rfl,fun i hi=>by lia⟩,none,none,rfl⟩;rintro i ys σ H' ⟨s2,e2,_⟩;exact⟨zQ.of (s2 _ _ e1),e2⟩
 · rintro i x ys σ H' TT G hi hlt ⟨s2,e2,nD,mt,x',y',rfl⟩ hTT sG eT
   rw[ZB] at hlt;have ex:x=.int ((Pw.yq Bs L).getD i 0):=by
    rw[Z14,Xo (by lia)] at hi;cases hi;rfl
   subst ex;have s2G:=s2.trans sG;refine⟨TT,_,rfl,zX.of eT,rfl,_,_,rfl,_,_,rfl,rfl,?_⟩;dsimp only [Zs];rw[if_pos rfl];refine⟨_,rfl,_,rfl,_,rfl,_,rfl,wa,lp,pages,i,_,ps,A,rfl,(g1.same s2G).web,plo,by lia,few,(g1.same s2G).leap,g.sa.mono (by decide),fun r G2 s3 n3 e3=>?_⟩;have eD:=sG _ _ e2;have hrD:r≠D:=fun zz=>by rw[zz,eD] at n3;cases n3
   have nD':∀ i:Nat,(ys ++ [V.ref r])[i]?≠some (V.ref D):=fun i' zz=>by
    by_cases hi':i'<ys.length;rw[Z2H hi'] at zz;exact nD i' zz;rw[Z3H (by lia)] at zz;cases hz':i' - ys.length with
    | zero=>rw[hz'] at zz;simp at zz;exact hrD zz
    | succ m=>rw[hz'] at zz;simp at zz
   refine⟨s3 _ _ eD,by rw[mt.1];exact Zf (by lia),Wt.next (by rw[ZB];exact hlt) ⟨fun b o eb=>?_,zh,nD',?_,_,_,rfl⟩⟩;rw[zD (zo eb hD)];exact s3 _ _ (s2G _ _ eb);refine Xy.put (xs:=[]) ((mt.same (sG.trans s3)).snoc ?_) fun i' _=>nD' i';have e:ZL (Pw.VU ps A (Pw.yq Bs L) pages.toNat i) (pages.toNat+1)=ZL (fun j=>Pw.fac ps A j i) pages.toNat ++ [.int ((Pw.yq Bs L).getD i 0)]:=by
    rw[yX];have a1:ZL (Pw.VU ps A (Pw.yq Bs L) pages.toNat i) pages.toNat=ZL (fun j=>Pw.fac ps A j i) pages.toNat:=XN fun t ht=>(by unfold Pw.VU;rw[if_pos (by lia),if_pos ht]);have a2:Pw.VU ps A (Pw.yq Bs L) pages.toNat i pages.toNat=(Pw.yq Bs L).getD i 0:=(by unfold Pw.VU;rw[if_pos (by lia),if_neg (by lia),if_pos rfl]);rw[a1,a2]
   rw[e];exact e3
 rintro ys σ H2 ⟨s2,e2,_,mt,_⟩;rw[ZB,hss] at mt;refine⟨D,ys,pages.toNat,z+7,Pw.VU ps A (Pw.yq Bs L) pages.toNat,rfl,e2,mt,eo.sgn,by lia,by lia,by lia,ez,fun t l H3 s3 e3 e4=>?_⟩;obtain⟨zf,zd⟩:=z6r eo.sgn (by lia) ez (k:=pages.toNat) (Z03 _);have s13:=s1.trans (s2.trans s3);have g3:=g.same s13;refine⟨_,rfl,t,_,_,_,rfl,rfl,zX.of e3,rfl,l,_,rfl,zQ.of e4,fun D2 hD2=>?_⟩;refine V8 (K:=K) (a:=l) (D:=D2) (xs:=ZL (fun i=>(Pw.fF (Pw.VU ps A (Pw.yq Bs L) pages.toNat) pages.toNat).1 i pages.toNat) pages.toNat) (fun i ys σ H'=>zC H3 H'/\H' D2=some (.lst ys)/\ys=ZL (Pw.vS ps A (Pw.yq Bs L) pages.toNat) i/\∃ x y,σ=[x,y,some (.ref wa)]) ?_ ?_ ?_ ?_;exact⟨zC.new hD2,zh,rfl,none,none,rfl⟩;rintro i ys σ H' ⟨s5,e5,_⟩;exact⟨zQ.of (s5 _ _ e4),e5⟩
 · rintro i x ys σ H' TT G hi hlt ⟨s5,e5,rfl,x',y',rfl⟩ hTT sG eT
   rw[Zl] at hlt;rw[YQ hlt] at hi;cases hi;refine⟨TT,_,rfl,zX.of eT,rfl,_,_,rfl,_,_,rfl,rfl,?_⟩;dsimp only [Zs];rw[if_pos rfl];have hol:=Pw.Z4 ps (i:Int);have zm:Sz 7 (Pw.mp ps i):=Zd 7 (by unfold Pw.mp;lia);refine⟨_,rfl,_,rfl,wa,pages,i,ps,rfl,(g3.same (s5.trans sG)).web,few,fun G2 s6=>?_⟩;refine⟨_,rfl,_,_,rfl,rfl,⟨zm.mono (by decide),(zf i _ hlt (Z03 _)).mono (by lia)⟩,s6 _ _ (sG _ _ e5),by rw[Zl];exact Zf (by lia),Wt.next (by rw[Zl];exact hlt) ⟨fun b o eb=>?_,zh,(yX _ _).symm,_,_,rfl⟩⟩;rw[zD (zo eb hD2)];exact s6 _ _ (sG _ _ (s5 _ _ eb))
 rintro ys σ H4 ⟨s5,e5,rfl,_⟩;rw[Zl] at e5;refine k D2 H4 (Pw.yq Bs L) L eo hLp hB (fun j hj=>?_) (s13.trans s5) e5;have hol:=Pw.Z4 ps (j:Int);have zm:Sz 7 (Pw.mp ps j):=Zd 7 (by unfold Pw.mp;lia);exact (zm.mul (zf j _ hj (Z03 _))).mono (by lia)
theorem Z4A:(["each","numbers"]:List Str).Nodup:=by decide +kernel
theorem z7M:zE ["web","leap","leaps","numbers"] ["web","leap","leaps"] (ze Vj):=fs
theorem z6N(S:ZJ K mg "shares" Vj ["web","leap","leaps"])(T:Txt mg)(Vi:Def P w K mg base 5 "visits" ["web","leap","leaps"] (z0B K))(M:Def P w K mg base 2 "made" ["above","below"] Ve):Def P w K mg base 6 "shares" ["web","leap","leaps"] (VP K):=S.def fun f fd F=>by
 refine F.ZM z7M fun nd cdv A' outer s H vs Q E hr h=>?_;obtain⟨wa,lp,ls,pages,ps,A,Bs,us,SS,z,rfl,g,pr,p12,hz,sz,sS,k⟩:=h;have hr2:=hr.mono (show 2<=5 by decide);refine⟨_,(qc (qs 3 (qd Vi (qa (qv 0) (qa (qv 1) (qa (qv 2) qn))) (hr:=hr))) (q1 (qr (qY yZ T.tup boot_tuple (qa ⟨Z5 ["each","numbers"] [none,some 3] rfl (@Vg _ _ _ _ (pv 3)) (by show ∀ y:Str×NameKind,y∈_->y.2=NameKind.free->(ze Vj).names.lookup y.1=some .cell;decide +kernel) (by decide) rfl (by decide +kernel) ⟨⟨rfl,rfl,.inl rfl⟩,trivial⟩ (fun cl C s H fp=>Zo (i:=0) Z4A rfl (Or.inl rfl) (.inr rfl)) (fun cl C s H fp=>yE) (fun cl C s H fp=>ZP (by rfl) (by rfl) (by rfl) (by decide) M hr2 (@zB _ _ _ _ _ (by rfl) (pv 0) (@zB _ _ _ _ _ (by rfl) (yI (z4E (K:=K) rfl rfl) (by rfl) T.sum boot_sum (@zB _ _ _ _ _ (by rfl) (pv 1) zJ)) zJ)))⟩ qn))))),?_⟩;have plo:=g.plo;have hlen:=g.len;refine⟨_,rfl,_,rfl,_,rfl,wa,lp,ls,pages,ps,A,Bs,us,SS,z,rfl,g,pr,p12,hz,sz,sS,fun nu H1 ss L eo hLp hB zv s1 e1=>?_⟩;have hV:=eo.z3O;have zV:Sz ((z+11) * 13+20) (Pw.VS ps A ss pages.toNat):=by
  refine (z1J (k:=(z+11) * 13+8) fun n hn=>?_).mono (by rw[ZB,Z2I];lia);obtain⟨t,ht,rfl⟩:=Z17.mp hn;exact zv t (Z23.mp ht)
 refine⟨_,rfl,nu,rfl,⟨_,zQ.of e1⟩,fun D hD=>?_⟩;refine Z0 (K:=K) (a:=nu) (D:=D) (xs:=ZL (Pw.vS ps A ss pages.toNat) pages.toNat) (fun i ys σ H'=>zC H1 H'/\H' D=some (.lst ys)/\yp K H' ((List.range i).map fun j=>Pw.mk (Pw.vS ps A ss pages.toNat j) (Pw.VS ps A ss pages.toNat)) ys/\∃ x,σ=[x,some (.ref nu)]) ?_ ?_ ?_ ?_;exact⟨zC.new hD,zh,rfl,none,rfl⟩;rintro i ys σ H' ⟨s2,e2,_⟩;exact⟨zQ.of (s2 _ _ e1),e2⟩
 · rintro i x ys σ H' hi hlt ⟨s2,e2,fl,x',rfl⟩
   rw[Zl] at hlt;rw[YQ hlt] at hi;cases hi;dsimp only [Zs];rw[if_pos rfl];refine⟨_,rfl,_,rfl,nu,(List.range pages.toNat).map (Pw.vS ps A ss pages.toNat),rfl,zQ.of (s2 _ _ e1),_,_,rfl,(by show Pw.VS ps A ss pages.toNat≠0;lia),(zv i hlt).mono (by lia),zV.mono (by lia),fun r G2 s3 f3=>?_⟩;have e3:=s3 _ _ e2;refine⟨e3,by rw[fl.len,ZB,Z2I];exact Zf (by lia),Wt.next (by rw[Zl];exact hlt) ⟨fun b o eb=>?_,zh,?_,_,rfl⟩⟩;rw[zD (zo eb hD)];exact s3 _ _ (s2 _ _ eb);rw[Z5p,Z15];exact ((fl.same s3).snoc (A:=Pw.mk (Pw.vS ps A ss pages.toNat i) (Pw.VS ps A ss pages.toNat)) f3).kp (KL.set e3)
 rintro ys σ H2 ⟨s2,e2,fl,_⟩;rw[Zl] at fl;refine⟨D,ys,rfl,zQ.of e2,fun t H3 s3 n3 e3=>?_⟩;have hBn:Bs.length=pages.toNat:=by lia
 have one:=pr.one;rw[hBn] at one;refine k t H3 (Pw.shL ps A ss pages.toNat) (Pw.VS ps A ss pages.toNat) ys (Pw.z5Q eo g.ca g.cb hBn hLp hB one) hV zV (fun S hS=>?_) (s1.trans (s2.trans s3)) e3 (fl.same s3);obtain⟨t,_,rfl⟩:=Z17.mp hS;exact Pw.z1Y (Pw.Fr.made (by lia))
abbrev posR:Pos:=⟨90,37,90,64⟩
theorem JF:zE ["web","leap","leaps","row","numbers"] ["web","leap","leaps"] (ze jZ):=fs
theorem z7E(S:ZJ K mg "ranked" jZ ["web","leap","leaps"])(T:Txt mg)(B:Bm base mg)(KB:K.In base)(CO:xD K "ranked" c)(XK:K.In h)(G:h.Ns mainGlobals mg)(hC:PySem.W.codeHdIn K c tb=true)(Sh:Def P w K mg base 6 "shares_shares" ["web","leap","leaps"] (VP K))(Ab:Def P w K mg base 1 "aboves" ["some","below"] (Qj K))(Be:Def P w K mg base 2 "shared_below" ["some"] (Jc K)):Def P w K mg base 7 "ranked" ["web","leap","leaps"] (JM K tb posR):=ZJ.Z5g S CO XK G fun f fd F hcd=>by
 have nd:=JF.nd;refine Vb.okC F JF (fun vs H Q E h=>?_) (fun cdv A' outer s H vs Q E hcv hr h=>?_);obtain⟨_,_,_,_,_,_,_,_,_,_,rfl,_⟩:=h;rfl;obtain⟨wa,lp,ls,pages,ps,A,Bs,us,SS,z,rfl,g,pr,p12,hz,sz,sS,tab,k⟩:=h;have ecd:cdv=.ref c:=hcv.symm.trans hcd;refine⟨_,@qz _ _ _ (qc (qs 3 (qd Sh (qa (qv 0) (qa (qv 1) (qa (qv 2) qn))))) (qc (qs 4 (qd Ab (qa (qv 3) (qa (qd Be (qa (qv 3) qn)) qn)))) (q1 (qr ⟨z1w (i:=4) (P:=tb) (c:=c) (qual:=XG) (hr.mono (by decide)) rfl B (PySem.W.codeHd_of_K KB hC) ecd rfl rfl T.srt rfl T.range rfl rfl (@zB _ _ _ _ _ (by rfl) (ZD zF (pv 0) zP (fun _ _=>rfl)) zJ)⟩)))),?_⟩;refine⟨_,rfl,_,rfl,_,rfl,wa,lp,ls,pages,ps,A,Bs,us,SS,z,rfl,g,pr,p12,hz,sz,sS,fun t H1 Ss V' ys ok v0 zV dv s1 et fl=>?_⟩;have zV':Sz ((140+11) * 13+20) V':=zV.mono (by lia);have ssz:=Z0D ok v0 zV' dv;have spos:∀ S∈Ss,0<S.2:=fun S hS=>(ok.canon S hS).1;have hl:=ok.len;have sqf:Sq false K H1 t ys:=by
  unfold Sq;rw[if_neg (by decide)];exact zX.of et
 refine⟨_,rfl,_,rfl,false,t,ys,Ss,V',rfl,sqf,fl,spos,v0,zV'.mono (by decide),dv,fun L hL=>?_⟩;have zL:Sz 8000 L:=by
  have h1:L<=V':=Int.le_of_dvd v0 (hL.least V' v0 dv);have h2:=hL.pos;have h3:Sz 8000 V':=zV'.mono (by decide);unfold Sz at *;lia
 refine⟨false,t,ys,Ss,L,rfl,sqf,fl,by lia,fun S hS=>⟨spos S hS,(ssz S hS).mono (by decide)⟩,hL.pos,zL,fun nl H2 s2 hn2 en2=>?_⟩;obtain⟨lk,uw,hw,_,_⟩:=g.web.same (s1.trans s2);refine⟨_,rfl,wa,_,_,_,rfl,rfl,zX.of hw,rfl,pages.toNat,nl,Pw.yq Ss L,?_,by lia,rfl,zQ.of en2,by unfold Pw.yq;rw[ZB,hl];exact Z03 _,?_,fun p D H' pm st kp hD eD tab'=>?_⟩;rw[Int.toNat_of_nonneg (by have:=g.plo;lia)];rcases tab with tab |⟨c',h1,h2⟩;exact .inl ((s1.trans s2) _ _ tab);exact .inr ⟨c',(s1.trans s2) _ _ h1,(s1.trans s2) _ _ h2⟩;refine k D H' Ss p ok (Pw.Z3n hl spos hL.pos hL.dvd pm st) (fun b o e n=>kp b o n ((s1.trans s2) _ _ e)) ((s1.trans s2).free hD) eD tab'
open L2
theorem z9e:zE ["thing"] ["thing"] (ze z2C):=fs
theorem z2j(S:ZJ K mg "is_whole" z2C ["thing"])(T:Txt mg) :Def P w K mg base 1 "is_whole" ["thing"] QH:=S.def fun f fd F=>by
 refine F.ZM z9e fun nd cdv A' outer s H vs Q E hr h=>?_;obtain⟨i,rfl,k⟩:=h;refine⟨_,(q1 (qr (q4 (qy uo T.isi boot_isinstance (qa (qv 0) (qa ⟨Xr (v:=.ty "int") (by rfl) T.int boot_int rfl⟩ qn))) (q6 (q7 (qy uo T.isi boot_isinstance (qa (qv 0) (qa ⟨Xr (v:=.ty "bool") (by rfl) T.bool boot_bool rfl⟩ qn)))))))),?_⟩;exact⟨_,rfl,_,_,_,true,rfl,.int i,Z2E _,_,rfl,yL rfl ⟨_,rfl,_,_,_,false,rfl,.int i,Z1R _,_,rfl,k⟩⟩
theorem Z0Q:zE ["thing"] ["thing"] (ze z7t):=fs
theorem Xz(S:ZJ K mg "is_pair_of_wholes" z7t ["thing"])(T:Txt mg)(Wh:Def P w K mg base 1 "is_whole" ["thing"] QH):Def P w K mg base 2 "is_pair_of_wholes" ["thing"] (jw K):=S.def fun f fd F=>by
 refine F.ZM Z0Q fun nd cdv A' outer s H vs Q E hr h=>?_;obtain⟨q,x,y,rfl,hq,k⟩:=h;refine⟨_,(q1 (qr (q4 (qy vm T.isi boot_isinstance (qa (qv 0) (qa ⟨Xr (v:=.ty "tuple") (by rfl) T.tup boot_tuple rfl⟩ qn))) (q4 (qe ya (qy z0 T.len Z2O (qa (qv 0) qn)) qi) (q4 (qd Wh (qa (qx zF (qv 0) qi) qn)) (q6 (qd Wh (qa (qx zF (qv 0) qi) qn)))))))),?_⟩;refine⟨_,rfl,q,_,rfl,hq,_,rfl,yL rfl ?_⟩;refine⟨_,rfl,q,_,rfl,.inr hq,rfl,_,rfl,yL rfl ?_⟩;refine⟨_,rfl,q,_,_,_,rfl,rfl,hq,rfl,_,rfl,_,rfl,yL rfl ?_⟩;exact⟨_,rfl,q,_,_,_,rfl,rfl,hq,rfl,_,rfl,k⟩
theorem z1M:zE ["pages","thing"] ["pages","thing"] (ze QV):=fs
theorem z5z(S:ZJ K mg "is_link" QV ["pages","thing"])(T:Txt mg)(Pw2:Def P w K mg base 2 "is_pair_of_wholes" ["thing"] (jw K)):Def P w K mg base 3 "is_link" ["pages","thing"] (UO K):=S.def fun f fd F=>by
 refine F.ZM z1M fun nd cdv A' outer s H vs Q E hr h=>?_;obtain⟨n,x,y,q,rfl,hq,k⟩:=h;refine⟨_,(q1 (qr (q4 (qd Pw2 (qa (qv 1) qn)) (q4 ⟨Qm z0K Ys zP (ZD zF (pv 1) zP (fun _ _=>rfl)) (pv 0) (by with_unfolding_all rfl)⟩ (q6 ⟨Qm z0K Ys zP (ZD zF (pv 1) zP (fun _ _=>rfl)) (pv 0) (by with_unfolding_all rfl)⟩))))),?_⟩;refine⟨_,rfl,q,x,y,rfl,hq,_,rfl,yL rfl ?_⟩;refine⟨_,rfl,q,_,_,_,rfl,rfl,hq,rfl,_,_,rfl,rfl,_,rfl,?_⟩;rcases (Decidable.em (0<=x)).symm with h1 | h1;rw[decide_eq_false (fun z=>h1 z.1)] at k
 rw[decide_eq_false h1];exact ZN rfl ⟨_,rfl,ZN rfl k⟩;rw[decide_eq_true h1];refine yL rfl ⟨_,rfl,_,_,rfl,rfl,_,rfl,?_⟩;rcases (Decidable.em (x<n)).symm with h2 | h2;rw[decide_eq_false (fun z=>h2 z.2.1)] at k
 rw[decide_eq_false h2];exact ZN rfl k;rw[decide_eq_true h2];refine yL rfl ?_;refine⟨_,rfl,q,_,_,_,rfl,rfl,hq,rfl,_,_,rfl,rfl,_,rfl,?_⟩;rcases (Decidable.em (0<=y)).symm with h3 | h3;rw[decide_eq_false (fun z=>h3 z.2.2.1)] at k
 rw[decide_eq_false h3];exact ZN rfl k;rw[decide_eq_true h3];refine yL rfl ⟨_,rfl,_,_,rfl,rfl,?_⟩;rw[decide_eq_decide.mpr (show (0<=x/\x<n/\0<=y/\y<n)↔y<n from ⟨fun z=>z.2.2.2,fun z=>⟨h1,h2,h3,z⟩⟩)] at k;exact k
theorem uU:zE ["links"] ["links"] (ze yQ):=fs
theorem Jl(S:ZJ K mg "are_rising" yQ ["links"])(T:Txt mg)(zall:mg "all"=none):Def P w K mg base 1 "are_rising" ["links"] (vz K):=S.def fun f fd F=>by
 refine F.ZM uU fun nd cdv A' outer s H vs Q E hr h=>?_;obtain⟨t,us,ps,rfl,et,hp,few,k⟩:=h;refine⟨_,(q1 (qr (qy (Qk rfl) zall boot_all (qa (qG (ze yQ) ["one","other"] [none,none] ⟨uy (by rfl) (by rfl) (by rfl) rfl T.zip (@zB _ _ _ _ _ (by rfl) (pv 0) (@zB _ _ _ _ _ (by rfl) (YZ z8P (pv 0) (Xl zP) Xb) zJ))⟩ trivial (fun _ _ _ _ _ _=>(qj K 2 (qH (qg 0) (qH (qg 1) qN)))) (fun _ _ _ _ _=>qV) (fun _ _ _ _ _=>(qe (z9B (K:=K) rfl hr.Z2C) (qv 0) (qv 1)))) qn)))),?_⟩;have hl:=hp.len;refine⟨_,rfl,_,rfl,_,rfl,?_⟩;cases us with
 | nil =>
   refine .inl ⟨t,rfl,zX.of et,false,false,t,t,[],[],rfl,sqf (zX.of et),sqf (zX.of et),fun D hD=>?_⟩;refine Uz (K:=K) (b1:=false) (b2:=false) (a:=t) (b:=t) (D:=D) (xs:=[]) (zs:=[]) (Z03 _) (fun i ys σ G=>zC H G/\G D=some (.lst ys)/\ys=[]) ⟨zC.new hD,zh,rfl⟩ ?_ ?_ ?_;rintro i ys σ G ⟨s,e,_⟩;exact⟨sqf (zX.of (s _ _ et)),sqf (zX.of (s _ _ et)),e⟩;rintro i x z ys σ G T G' h1 _ hlt;exact absurd hlt (Z41 _);rintro ys σ G ⟨s,e,rfl⟩;refine⟨D,[],rfl,zQ.of e,?_⟩;have:=k G s;rw[decide_eq_true (by rw[Z2G.mp hl.symm];exact List.Pairwise.nil)] at this;exact this
 | cons u us =>
   refine .inr ⟨t,_,rfl,zX.of et,?_,fun q G1 s1 m1 e1=>?_⟩;rw[show (some (1:Int))=some ((1:Nat):Int) from rfl,HT.yR,HT.xH,Z0u];lia;have ec:ZQ (u :: us) (some 1) none=us:=by
    unfold ZQ;rw[show (some (1:Int))=some ((1:Nat):Int) from rfl,HT.yR,HT.xH,Z0u,Z5o (by lia)];show (us.take _)=us;exact Z0A (by lia)
   rw[ec] at e1;rw[Z0u] at hl;have hp1:=hp.kl s1.kl;refine⟨false,false,t,q,u :: us,us,rfl,sqf (zX.of (s1 _ _ et)),sqf (zX.of e1),fun D hD=>?_⟩;refine Uz (K:=K) (b1:=false) (b2:=false) (a:=t) (b:=q) (D:=D) (xs:=u :: us) (zs:=us) (by rw[Z0u];lia) (fun i ys σ G=>zC G1 G/\G D=some (.lst ys)/\ys=((adj ps).take i).map V.bl/\∃ v w,σ=[v,w]) ⟨zC.new hD,zh,rfl,none,none,rfl⟩ ?_ ?_ ?_;rintro i ys σ G ⟨s,e,_⟩;exact⟨sqf (zX.of (s _ _ (s1 _ _ et))),sqf (zX.of (s _ _ e1)),e⟩
   · rintro i x z ys σ G T G' hx hz hlt ⟨sG,eD,rfl,v,w,rfl⟩ hT sT eT
     have hpG:=hp1.kl (sG.trans sT).kl;obtain⟨ax,px,ex,rfl,hqx⟩:=hpG.get hx;obtain⟨az,pz,ez,rfl,hqz⟩:=hpG.get (i:=i+1) (by simpa using hz);have lr:=z3a ps i px pz ex ez;refine⟨T,_,rfl,zX.of eT,rfl,_,_,rfl,_,_,rfl,rfl,?_⟩;refine yL rfl ?_;refine⟨_,rfl,_,rfl,ax,az,[px.1,px.2],[pz.1,pz.2],rfl,rfl,hqx,hqz,sT _ _ eD,(by rw[ZB,Z20,jK,sizeLine_eq];lia),Wt.next hlt ⟨fun b o e=>by rw[zD (zo e hD)];exact sT _ _ (sG _ _ e),zh,?_,_,_,rfl⟩⟩;rw[Z31,lr,Z15];rfl
   rintro ys σ G ⟨s,e,rfl,_⟩;refine⟨D,_,rfl,zQ.of e,?_⟩;rw[Z0A (by rw[jK];lia),z3Z];exact k G (s1.trans s)
theorem jy:zE ["pages","thing"] ["pages","thing"] (ze Yz):=fs
theorem z0Q(S:ZJ K mg "are_links" Yz ["pages","thing"])(T:Txt mg)(mP:mg "MOST_PAGES"=some (.int 12 tP))(mL:mg "MOST_LINKS"=some (.int 60 tL))(zall:mg "all"=none)(Il:Def P w K mg base 3 "is_link" ["pages","thing"] (UO K))(Ri:Def P w K mg base 1 "are_rising" ["links"] (vz K)):Def P w K mg base 4 "are_links" ["pages","thing"] (J8 K):=S.def fun f fd F=>by
 refine F.ZM jy fun nd cdv A' outer s H vs Q E hr h=>?_;obtain⟨t,n,us,ps,rfl,et,hp,few,k⟩:=h;refine⟨_,(qc (qf (qW (qO (qT (qp (qy vm T.isi boot_isinstance (qa (qv 1) (qa ⟨Xr (v:=.ty "tuple") (by rfl) T.tup boot_tuple rfl⟩ qn))))) (qP (qk z0i (qy z0 T.len Z2O (qa (qv 1) qn)) ⟨yf (v:=.int 60) (by rfl) mL ⟨_,rfl⟩⟩)))) (q1 (qr qb)) q0) (q1 (qr (q4 (qy (Qk rfl) zall boot_all (qa (qG (ze Yz) ["each","pages"] [none,some 0] (qU (qv 1)) ⟨⟨rfl,rfl,.inl rfl⟩,trivial⟩ (fun _ _ _ _ _ _=>(qg 0)) (fun _ _ _ _ _=>qV) (fun _ _ _ _ _=>(qd Il (qa (qv 1) (qa (qv 0) qn))))) qn)) (q6 (qd Ri (qa (qv 1) qn))))))),?_⟩;have hl:=hp.len;refine⟨_,rfl,t,_,rfl,zX.of et,_,rfl,ZN rfl ?_⟩;have no:∀ H',zC H H'->¬ jO n ps->Q (.bl false) H':=fun H' s h=>by
  have:=k H' s;rwa [decide_eq_false h] at this
 refine⟨_,rfl,t,_,rfl,.inr (zX.of et),_,_,rfl,rfl,_,rfl,?_⟩;by_cases h60:us.length<=60
 case neg=>exact yL (decide_eq_true (show (60:Int)<((us.length:Nat):Int) by lia)) (no H (zC.refl H) fun f=>h60 (by rw[hl];exact f.1))
 refine ZN (decide_eq_false (show ¬ (60:Int)<((us.length:Nat):Int) by lia)) ?_;refine⟨_,rfl,t,rfl,⟨_,zX.of et⟩,fun D hD=>?_⟩;refine Yn (K:=K) (a:=t) (D:=D) (xs:=us) (fun i ys σ G=>zC H G/\G D=some (.lst ys)/\ys=((ps.take i).map fun p=>decide (0<=p.1/\p.1<n/\0<=p.2/\p.2<n)).map V.bl/\∃ v,σ=[v,some (.int n)]) ⟨zC.new hD,zh,rfl,none,rfl⟩ ?_ ?_ ?_;rintro i ys σ G ⟨s,e,_⟩;exact⟨zX.of (s _ _ et),e⟩
 · rintro i x ys σ G hx hlt ⟨sG,eD,rfl,v,rfl⟩
   obtain⟨ax,px,ex,rfl,hqx⟩:=(hp.kl sG.kl).get hx;dsimp only [Zs];rw[if_pos rfl];refine⟨_,rfl,_,rfl,n,px.1,px.2,ax,rfl,hqx,eD,(by rw[ZB,ZB,Z20,sizeLine_eq];lia),Wt.next hlt ⟨fun b o e=>by rw[zD (zo e hD)];exact sG _ _ e,zh,?_,_,rfl⟩⟩;rw[Z31,ex,Z15,Z15];rfl
 · rintro ys σ G ⟨s,e,rfl,_⟩
   refine⟨D,_,rfl,zQ.of e,?_⟩;rw[Z0A (by lia),List.all_map];by_cases rng:∀ p∈ps,0<=p.1/\p.1<n/\0<=p.2/\p.2<n
   case neg =>
    have:(ps.all (id ∘ fun p=>decide (0<=p.1/\p.1<n/\0<=p.2/\p.2<n)))=false:=by
     rw[Bool.eq_false_iff];intro z;exact rng fun p hp=>of_decide_eq_true (Z4F.mp z p hp)
    rw[this];exact⟨_,rfl,ZN rfl (no G s fun f=>rng f.2.1)⟩
   have:(ps.all (id ∘ fun p=>decide (0<=p.1/\p.1<n/\0<=p.2/\p.2<n)))=true:=Z4F.mpr fun p hp=>decide_eq_true (rng p hp);rw[this];refine⟨_,rfl,yL rfl ⟨_,rfl,t,us,ps,rfl,s _ _ et,hp.kl s.kl,by lia,fun G' s'=>?_⟩⟩;have:=k G' (s.trans s');rwa [decide_eq_decide.mpr (show jO n ps↔ps.Pairwise Z2 from ⟨fun f=>f.2.2,fun u=>⟨by lia,rng,u⟩⟩)] at this
theorem z4y:zE ["thing","pages"] ["thing"] (ze uE):=fs
theorem z6w(S:ZJ K mg "is_web" uE ["thing"])(T:Txt mg)(mP:mg "MOST_PAGES"=some (.int 12 tP))(mL:mg "MOST_LINKS"=some (.int 60 tL))(Wh:Def P w K mg base 1 "is_whole" ["thing"] QH)(Al:Def P w K mg base 4 "are_links" ["pages","thing"] (J8 K)):Def P w K mg base 5 "is_web" ["thing"] (z0Y K):=S.def fun f fd F=>by
 refine F.ZM z4y fun nd cdv A' outer s H vs Q E hr h=>?_;obtain⟨a,n,ps,rfl,hw,few,k⟩:=h;refine⟨_,(qc (qf (qW (qO (qT (qp (qy vm T.isi boot_isinstance (qa (qv 0) (qa ⟨Xr (v:=.ty "tuple") (by rfl) T.tup boot_tuple rfl⟩ qn))))) (qP (qk vL (qy z0 T.len Z2O (qa (qv 0) qn)) qi)))) (q1 (qr qb)) q0) (qc (qs 1 (qx zF (qv 0) qi)) (q1 (qr (q4 (qd Wh (qa (qv 1) qn)) (q4 ⟨Qm z0K z0K zP (pv 1) (yf (v:=.int 12) (by rfl) mP ⟨_,rfl⟩) (by with_unfolding_all rfl)⟩ (q6 (qd Al (qa (qv 1) (qa (qx zF (qv 0) qi) qn)))))))))),?_⟩;obtain⟨t,us,ea,et,hp⟩:=hw;have no:∀ H',zC H H'->¬ (1<=n/\n<=12/\jO n ps)->Q (.bl false) H':=fun H' s h=>by
  have:=k H' s;rwa [decide_eq_false h] at this
 refine⟨_,rfl,a,_,rfl,zX.of ea,_,rfl,ZN rfl ?_⟩;refine⟨_,rfl,a,_,rfl,.inr (zX.of ea),rfl,_,rfl,ZN rfl ?_⟩;refine⟨_,rfl,a,_,_,_,rfl,rfl,zX.of ea,rfl,?_⟩;refine⟨_,rfl,n,rfl,_,rfl,yL rfl ?_⟩;refine⟨_,rfl,_,_,rfl,rfl,_,rfl,?_⟩;by_cases h1:1<=n
 case neg =>
  rw[decide_eq_false h1];exact ZN rfl ⟨_,rfl,ZN rfl (no H (zC.refl H) fun f=>h1 f.1)⟩
 rw[decide_eq_true h1];refine yL rfl ⟨_,_,rfl,rfl,_,rfl,?_⟩;by_cases h2:n<=12
 case neg =>
  rw[decide_eq_false h2];exact ZN rfl (no H (zC.refl H) fun f=>h2 f.2.1)
 rw[decide_eq_true h2];refine yL rfl ?_;refine⟨_,rfl,_,rfl,a,_,_,_,rfl,rfl,zX.of ea,rfl,t,n,us,ps,rfl,et,hp,few,fun G s=>?_⟩;have:=k G s;rwa [decide_eq_decide.mpr (show (1<=n/\n<=12/\jO n ps)↔jO n ps from ⟨fun f=>f.2.2,fun f=>⟨h1,h2,f⟩⟩)] at this
theorem VL:zE ["text","most"] ["text","most"] (ze yD):=fs
theorem u4(S:ZJ K mg "are_figures" yD ["text","most"])(T:Txt mg)(zall:mg "all"=none):Def P w K mg base 1 "are_figures" ["text","most"] z0d:=S.def fun f fd F=>by
 refine F.ZM VL fun nd cdv A' outer s H vs Q E hr h=>?_;obtain⟨x,m,rfl,x8,m1,k⟩:=h;refine⟨_,(qc (qf (qW (qO (qk ya (qv 0) qw) (qO (qk z0i (qy Jg T.len Z2O (qa (qv 0) qn)) (qv 1)) (qP (qT (qp (qy (Qk rfl) zall boot_all (qa (qG (ze yD) ["sign"] [none] ⟨Z1f (pv 0)⟩ trivial (fun _ _ _ _ _ _=>(qg 0)) (fun _ _ _ _ _=>qV) (fun _ _ _ _ _=>(qe z4s (qv 0) qw))) qn)))))))) (q1 (qr qb)) q0) (q1 (qr (q5 (qe ya (qv 0) qw) (q6 (q7 (qm Z1G Z49 Z5n Uw (qv 0) (qa qw qn)))))))),?_⟩;have hs:=z7W x8;have no:∀ H',zC H H'->¬ Pw.Fig m x->Q (.bl false) H':=fun H' s h=>by
  have:=k H' s;rwa [decide_eq_false h] at this
 refine⟨_,rfl,rfl,_,rfl,?_⟩;rw[jG,Z0k];by_cases h0:x.cps.toList=[];rw[decide_eq_true h0];exact yL rfl (yL rfl (no H (zC.refl H) fun f=>Pw.VX f h0));rw[decide_eq_false h0];refine ZN rfl ?_;refine⟨_,rfl,x,rfl,hs,_,rfl,_,_,rfl,rfl,_,rfl,?_⟩;by_cases h1:x.cps.size<=m
 case neg =>
  exact yL (decide_eq_true (show ((m:Nat):Int)<((x.cps.size:Nat):Int) by lia)) (yL rfl (no H (zC.refl H) fun f=>h1 f.2.1))
 refine ZN (decide_eq_false (show ¬ ((m:Nat):Int)<((x.cps.size:Nat):Int) by lia)) ?_;refine⟨_,rfl,x,rfl,fun D hD=>z6c x8 hD fun G s e=>?_⟩;refine⟨D,_,rfl,zQ.of e,?_⟩;rw[z8W];by_cases h2:x.cps.toList.all Pw.vB=true
 case neg =>
  rw[Bool.not_eq_true] at h2;rw[h2];exact⟨_,rfl,yL rfl (no G s fun f=>by rw[f.2.2.1] at h2;cases h2)⟩
 rw[h2];refine⟨_,rfl,ZN rfl ?_⟩;refine⟨_,rfl,rfl,_,rfl,?_⟩;rw[jG,t_0];by_cases h3:x.cps.toList=[48];rw[decide_eq_true h3];have f:Pw.Fig m x:=⟨Nat.pos_of_ne_zero fun z=>h0 (Z2G.mp (by rw[Z06];exact z)),h1,h2,.inl h3⟩;have:=k G s;rw[decide_eq_true f] at this;exact yL rfl this;rw[decide_eq_false h3];refine ZN rfl ⟨_,rfl,rfl,x,48,rfl,vI c_0,?_⟩;have key:(!decide (x.cps.toList.head?=some 48))=decide (Pw.Fig m x):=by
  rw[← decide_not,decide_eq_decide];exact⟨fun h=>⟨Nat.pos_of_ne_zero fun z=>h0 (Z2G.mp (by rw[Z06];exact z)),h1,h2,.inr h⟩,fun f=>f.2.2.2.resolve_left h3⟩
 have:=k G s;rw[← key] at this;exact⟨_,rfl,this⟩
theorem VT:zE ["text","figures"] ["text"] (ze YJ):=fs
theorem uW(S:ZJ K mg "read_number" YJ ["text"])(T:Txt mg)(mF:mg "MOST_FIGURES"=some (.int 13 tF))(Fi:Def P w K mg base 1 "are_figures" ["text","most"] z0d):Def P w K mg base 2 "read_number" ["text"] jm:=S.def fun f fd F=>by
 refine F.ZM VT fun nd cdv A' outer s H vs Q E hr h=>?_;obtain⟨x,n,rfl,x8,hn,k⟩:=h;refine⟨_,(qc (qs 1 (q8 (qp (qm Z1G Z49 Z5n Uw (qv 0) (qa qw qn))) (q9 z2K (qv 0) (qQ qi) qK) (qv 0))) (qc (qf (qW (qO (qT (qp (qd Fi (qa (qv 1) (qa ⟨yf (v:=.int 13) (by rfl) mF ⟨_,rfl⟩⟩ qn))))) (qP (qk ya (qv 0) qw)))) (q1 ⟨ZA⟩) q0) (q1 (qr (qY ZI T.int boot_int (qa (qv 0) qn)))))),?_⟩;refine⟨_,rfl,rfl,x,45,rfl,vI c_m,?_⟩;have f2:Pw.Fig 13 (Pw.Qs x)/\x.cps.toList≠[45,48]:=by
  unfold Pw.ym at hn;split at hn;assumption;cases hn
 have sn:PySem.intText? x=some n:=by unfold Pw.ym at hn;rwa [if_pos f2] at hn
 obtain⟨n',hn',x13⟩:=Pw.z8V f2.1
 suffices go:∀ y:Str,y=Pw.Qs x->y.cps.size<=8000->(Uc (Z1J (tOr (Z1W (tB (z3l z0d [] E0 (UB (z2T 1) (UB (tC (V.int 13)) Ub))))) (z6y (tOp rEq (z2T 0) (tC (V.str (Str.ofString "-0")))))) z6Q z6e) (Z1D (tCB Z0h (UB (z2T 0) Ub)))) { nx:=fun x H'=>Q V.Zr H',rt:=Q } [some (.str x),some (.str y)] H by
  by_cases hd:x.cps.toList.head?=some 45;rw[decide_eq_true hd];refine⟨_,rfl,yL rfl ⟨_,rfl,_,rfl,x,rfl,x8,?_⟩⟩;exact go _ (by unfold Pw.Qs;rw[if_pos hd]) (Z11 (Txt.slice_le x _ _) x8);rw[decide_eq_false hd];refine⟨_,rfl,ZN rfl ⟨_,rfl,?_⟩⟩;exact go _ (by unfold Pw.Qs;rw[if_neg hd]) x8
 intro y ey y8;refine⟨_,rfl,y,13,rfl,y8,by decide,fun G s=>?_⟩;rw[ey,decide_eq_true f2.1];refine⟨_,rfl,ZN rfl ⟨_,rfl,rfl,_,rfl,?_⟩⟩;rw[jG,Z4R,decide_eq_false f2.2];exact ZN rfl ⟨_,rfl,x,n,rfl,sn,by lia,k G s⟩
theorem jX:zE ["text","between","ends"] ["text","between"] (ze xR):=fs
theorem z0R(S:ZJ K mg "read_pair" xR ["text","between"])(T:Txt mg)(Rn:Def P w K mg base 2 "read_number" ["text"] jm):Def P w K mg base 3 "read_pair" ["text","between"] ur:=S.def fun f fd F=>by
 refine F.ZM jX fun nd cdv A' outer s H vs Q E hr h=>?_;obtain⟨x,c,A,rfl,x8,hA,k⟩:=h;refine⟨_,(qc (qs 2 (qm Z1G Z2M Z4i Yg (qv 0) (qa (qv 1) qn))) (qc (qf (qk vL (qy z0 T.len Z2O (qa (qv 2) qn)) qi) (q1 ⟨ZA⟩) q0) (q1 (qr (qt (qa (qd Rn (qa (qx zK (qv 2) qi) qn)) (qa (qd Rn (qa (qx zK (qv 2) qi) qn)) qn))))))),?_⟩;refine⟨_,rfl,rfl,_,rfl,x,c,rfl,rfl,x8,fun p G s hp e=>?_⟩;obtain⟨u,v,e2,hu,hv⟩:∃ u v,Txt.split x (Zx c)=[u,v]/\Pw.ym u=some A.1/\Pw.ym v=some A.2:=by
  unfold Pw.pr? at hA;split at hA;rename_i u v e2;obtain⟨a,ha,hA⟩:=Option.bind_eq_some_iff.mp hA;obtain⟨b,hb,hA⟩:=Option.bind_eq_some_iff.mp hA;cases hA;exact⟨u,v,e2,ha,hb⟩;cases hA
 have zu:u.cps.size<=8000:=Z11 (part_short (x:=x) (y:=Zx c) (by rw[e2];simp)) x8;have zv:v.cps.size<=8000:=Z11 (part_short (x:=x) (y:=Zx c) (by rw[e2];simp)) x8;rw[e2] at e;refine⟨_,rfl,p,_,rfl,.inl (zQ.of e),rfl,_,rfl,ZN rfl ?_⟩;refine⟨_,rfl,p,_,_,_,rfl,rfl,zQ.of e,rfl,u,_,rfl,zu,hu,fun G1 s1=>?_⟩;refine⟨_,rfl,p,_,_,_,rfl,rfl,zQ.of (s1 _ _ e),rfl,v,_,rfl,zv,hv,fun G2 s2=>?_⟩;refine⟨zl2,fun q G3 s3 hq e3=>?_⟩;exact k q G3 (s.trans (s1.trans (s2.trans s3))) ((s.trans (s1.trans s2)).Zr hq) e3
theorem Z3i:zE ["thing"] ["thing"] (ze Z2j):=fs
theorem uY(S:ZJ K mg "is_fraction" Z2j ["thing"])(T:Txt mg)(Pw2:Def P w K mg base 2 "is_pair_of_wholes" ["thing"] (jw K))(Co:Def P w K mg base 1 "common" ["one","other"] YU):Def P w K mg base 3 "is_fraction" ["thing"] (jk K):=S.def fun f fd F=>by
 refine F.ZM Z3i fun nd cdv A' outer s H vs Q E hr h=>?_;obtain⟨p,A,rfl,hA,k⟩:=h;refine⟨_,(q1 (qr (q4 (qd Pw2 (qa (qv 0) qn)) (q4 (qe Jz (qx zF (qv 0) qi) qi) (q6 (qe ya (qd Co (qa (qy Qp T.abs boot_abs (qa (qx zF (qv 0) qi) qn)) (qa (qx zF (qv 0) qi) qn))) qi)))))),?_⟩;refine⟨_,rfl,p,A.1,A.2,rfl,hA,_,rfl,yL rfl ?_⟩;refine⟨_,rfl,p,_,_,_,rfl,rfl,hA,rfl,_,_,rfl,rfl,_,rfl,?_⟩;by_cases h1:1<=A.2
 case neg =>
  rw[decide_eq_false h1];rw[decide_eq_false (fun z=>h1 z.1)] at k;exact ZN rfl k
 rw[decide_eq_true h1];refine yL rfl ?_;refine⟨_,rfl,p,_,_,_,rfl,rfl,hA,rfl,_,rfl,_,rfl,p,_,_,_,rfl,rfl,hA,rfl,_,_,rfl,by split <;> lia,by lia,rfl,?_⟩;have e:Int.gcd (if A.1<0 then -A.1 else A.1) A.2=Int.gcd A.1 A.2:=by
  split;rw[Int.neg_gcd];rfl
 rw[e];have e2:decide (V.int ((Int.gcd A.1 A.2:Nat):Int)=V.int 1)=decide (1<=A.2/\Int.gcd A.1 A.2=1):=by
  rw[decide_eq_decide];constructor;intro z;have:=V.int.inj z;exact⟨h1,by lia⟩;rintro⟨_,z⟩;rw[z];rfl
 rw[e2];exact k
theorem Q7:zE ["text","fraction"] ["text"] (ze yO):=fs
theorem vU(S:ZJ K mg "read_fraction" yO ["text"])(T:Txt mg)(Rp:Def P w K mg base 3 "read_pair" ["text","between"] ur)(If:Def P w K mg base 3 "is_fraction" ["thing"] (jk K)):Def P w K mg base 4 "read_fraction" ["text"] (JL K):=S.def fun f fd F=>by
 refine F.ZM Q7 fun nd cdv A' outer s H vs Q E hr h=>?_;obtain⟨x,A,rfl,x8,fx,k⟩:=h;refine⟨_,(qc (qs 1 (qd Rp (qa (qv 0) (qa qw qn)))) (qc (qf (qT (qp (qd If (qa (qv 1) qn)))) (q1 ⟨ZA⟩) q0) (q1 (qr (qv 1))))),?_⟩;obtain⟨e1,e2,e3⟩:=id fx;refine⟨_,rfl,x,47,A,by rw[z9M];rfl,x8,e1,fun p G s hp ep=>?_⟩;refine⟨_,rfl,p,A,rfl,zX.of ep,?_⟩;refine⟨_,rfl,?_⟩;rw[decide_eq_true ⟨e2,e3⟩];exact ZN rfl ⟨_,rfl,k p G s ep⟩
theorem z0p:zE ["text","words","web"] ["text"] (ze xn):=fs
theorem z2w(S:ZJ K mg "read_web" xn ["text"])(T:Txt mg)(Rn:Def P w K mg base 2 "read_number" ["text"] jm)(Rp:Def P w K mg base 3 "read_pair" ["text","between"] ur)(Iw:Def P w K mg base 5 "is_web" ["thing"] (z0Y K)):Def P w K mg base 6 "read_web" ["text"] (z3Q K):=S.def fun f fd F=>by
 refine F.ZM z0p fun nd cdv A' outer s H vs Q E hr h=>?_;obtain⟨x,n,ps,rfl,x8,wx,k⟩:=h;refine⟨_,(qc (qs 1 (qm Z1G Z2M Z4i Yg (qv 0) (qa qw qn))) (qc (qf (qW (qO (qk vL (qx zK (qv 1) qi) qw) (qP (qk Ys (qy z0 T.len Z2O (qa (qv 1) qn)) qi)))) (q1 ⟨ZA⟩) q0) (qc (qs 2 (qt (qa (qd Rn (qa (qx zK (qv 1) qi) qn)) (qa (qY yZ T.tup boot_tuple (qa (qG (ze xn) ["word"] [none] (qL (q9 Yx (qv 1) (qQ qi) qK)) trivial (fun _ _ _ _ _ _=>(qg 0)) (fun _ _ _ _ _=>qV) (fun _ _ _ _ _=>(qd Rp (qa (qv 0) (qa qw qn))))) qn)) qn)))) (qc (qf (qT (qp (qd Iw (qa (qv 2) qn)))) (q1 ⟨ZA⟩) q0) (q1 (qr (qv 2))))))),?_⟩;obtain⟨wp,ws,e2,hn,hps⟩:=id wx.words;refine⟨_,rfl,rfl,x,32,rfl,vI z7F,x8,fun p G s hp e=>?_⟩;have hle:=split_le x (Zx 32);have hxl:x.length<=8000:=x8;have sh:∀ y∈Txt.split x (Zx 32),y.cps.size<=8000:=fun y hy=>Z11 (part_short hy) x8;rw[e2] at e sh hle;rw[Z0u,Z0u] at hle;have lps:ps.length=ws.length:=by
  have:=congrArg List.length hps;rw[ZB,ZB] at this;lia
 refine⟨_,rfl,p,_,_,_,rfl,rfl,zQ.of e,z8 (j:=0) rfl,rfl,_,rfl,?_⟩;rw[jG];refine ZN rfl ⟨_,rfl,p,_,rfl,.inl (zQ.of e),_,_,rfl,rfl,_,rfl,?_⟩;refine ZN (decide_eq_false (by rw[ZB,Z0u,Z0u];show ¬ (((ws.length+1+1:Nat):Nat):Int)<2;lia)) ?_;refine⟨_,rfl,p,_,_,.str wp,rfl,rfl,zQ.of e,z8 (j:=1) rfl,wp,n,rfl,sh wp (by simp),hn,fun G1 s1=>?_⟩;refine⟨_,rfl,_,rfl,p,_,rfl,zQ.of (s1 _ _ e),fun q hq=>?_⟩;have ec:ZQ (List.map V.str (Str.ofString "pages" :: wp :: ws)) (some 2) none=ws.map V.str:=by
  unfold ZQ;rw[show (some (2:Int))=some ((2:Nat):Int) from rfl,HT.yR,HT.xH,ZB,Z0u,Z0u,Z5o (by lia)];show ((ws.map V.str).take _)=ws.map V.str;exact Z0A (by rw[ZB];lia)
 rw[ec];have s2:zC G1 (upd G1 q (.lst (ws.map V.str))):=zC.new hq;have eq:(upd G1 q (.lst (ws.map V.str))) q=some (.lst (ws.map V.str)):=zh;generalize upd G1 q (.lst (ws.map V.str))=G2 at s2 eq ⊢;refine⟨q,rfl,⟨_,zQ.of eq⟩,fun D hD=>?_⟩;have s02:zC H G2:=s.trans (s1.trans s2);refine Z0 (K:=K) (a:=q) (D:=D) (xs:=ws.map V.str) (fun i ys σ G'=>zC G2 G'/\G' D=some (.lst ys)/\Zp K G' (ps.take i) ys/\∃ v,σ=[v]) ⟨zC.new hD,zh,rfl,none,rfl⟩ ?_ ?_ ?_;rintro i ys σ G' ⟨s',e',_⟩;exact⟨zQ.of (s' _ _ eq),e'⟩
 · rintro i v ys σ G' hv hlt ⟨s',eD,hP,v0,rfl⟩
   rw[ZB] at hlt;have hlp:i<ps.length:=by lia
   have ev:v=.str ws[i]:=by
    rw[Z14,Z01 hlt] at hv;exact (Z1X hv).symm
   subst ev;have hA:Pw.pr? 62 ws[i]=some ps[i]:=by
    have:=congrArg (·[i]?) hps
    simpa[hlt,hlp] using this
   have lys:=hP.len;rw[Z20] at lys;dsimp only [Zs];rw[if_pos rfl];refine⟨_,rfl,ws[i],62,ps[i],by rw[Z3u];rfl,sh _ (by simp),hA,fun t G3 s3 ht et=>?_⟩;refine⟨s3 _ _ eD,by rw[lys,sizeLine_eq];lia,Wt.next (by rw[ZB];exact hlt) ⟨fun b o e=>by rw[zD (zo e hD)];exact s3 _ _ (s' _ _ e),zh,?_,_,rfl⟩⟩;have k1:KL G3 (upd G3 D (.lst (ys ++ [.ref t]))):=KL.set (s3 _ _ eD);rw[Z31,Z01 hlp];exact Zp.snoc (zX.of (k1.tup et)) (Zp.kl k1 (Zp.kl s3.kl hP))
 rintro ys σ G' ⟨s',eD,hP,_⟩;rw[ZB,← lps,List.take_length] at hP;refine⟨D,ys,rfl,zQ.of eD,fun t G3 s3 m3 e3=>?_⟩;refine⟨zl2,fun a G4 s4 m4 e4=>?_⟩;have hw:ZX K G4 a n ps:=⟨t,ys,e4,s4 _ _ e3,hP.kl (s3.trans s4).kl⟩;refine⟨_,rfl,a,n,ps,rfl,hw,by lia,fun G5 s5=>?_⟩;have sF:zC H G5:=s02.trans (s'.trans (s3.trans (s4.trans s5)));refine⟨_,rfl,?_⟩;rw[decide_eq_true ⟨wx.n1,wx.n12,wx.few,wx.rng,wx.up⟩];exact ZN rfl ⟨_,rfl,k a G5 sF (hw.same s5)⟩
theorem Z0P:zE ["web","one","other"] ["web","one","other"] (ze z5T):=fs
theorem z0y(S:ZJ K mg "with_link" z5T ["web","one","other"])(T:Txt mg) :Def P w K mg base 1 "with_link" ["web","one","other"] (Jo K):=S.def fun f fd F=>by
 refine F.ZM Z0P fun nd cdv A' outer s H vs Q E hr h=>?_;obtain⟨a,n,x,y,ps,rfl,hw,few,k⟩:=h;refine⟨_,(q1 (qr (qt (qa (qx zF (qv 0) qi) (qa (qY yZ T.tup boot_tuple (qa (qy XJ T.srt boot_sorted (qa (qo z1g (qx zF (qv 0) qi) (qt (qa (qt (qa (qv 1) (qa (qv 2) qn))) qn))) qn)) qn)) qn))))),?_⟩;obtain⟨t,us,ea,et,hp⟩:=hw;have hl:=hp.len;refine⟨_,rfl,a,_,_,_,rfl,rfl,zX.of ea,rfl,?_⟩;refine⟨_,rfl,a,_,_,_,rfl,rfl,zX.of ea,rfl,_,rfl,_,rfl,zl2,fun q G1 s1 m1 e1=>⟨zl1,fun q1 G2 s2 m2 e2=>?_⟩⟩;have s12:=s1.trans s2;refine⟨t,q1,us,[.ref q],rfl,rfl,s12 _ _ et,e2,?_,fun p G3 s3 e3=>?_⟩;rw[sizeLine_eq];simp only[Z0u,Z5q];lia;have s13:=s12.trans s3;have hp3:Zp K G3 (ps ++ [(x,y)]) (us ++ [.ref q]):=Zp.snoc (p:=(x,y)) (zX.of (s3 _ _ (s2 _ _ e1))) (hp.kl s13.kl);refine⟨p,_,_,rfl,zX.of e3,hp3,?_,fun ws ms D2 G4 pm pw hp4 s4 m4 e4=>?_⟩;rw[Z0M,Z37];lia;refine⟨D2,ws,rfl,zQ.of e4,fun t2 G5 s5 m5 e5=>⟨zl2,fun b G6 s6 m6 e6=>?_⟩⟩;have s16:=s13.trans (s4.trans (s5.trans s6));exact k b G6 ms s16 ((s13.trans (s4.trans s5)).free m6) ⟨t2,ws,e6,s6 _ _ e5,hp4.kl (s5.trans s6).kl⟩ pm pw
theorem Z1s:zE ["web"] ["web"] (ze z6d):=fs
theorem Z2w(S:ZJ K mg "even" z6d ["web"])(T:Txt mg)(M:Def P w K mg base 2 "made" ["above","below"] Ve):Def P w K mg base 3 "even" ["web"] (Vm K):=S.def fun f fd F=>by
 refine F.ZM Z1s fun nd cdv A' outer s H vs Q E hr h=>?_;obtain⟨wa,n,r,rfl,e,n1,n12,k⟩:=h;refine⟨_,(q1 (qr (qo z9t (qt (qa (qd M (qa qi (qa (qx zF (qv 0) qi) qn))) qn)) (qx zF (qv 0) qi)))),?_⟩;refine⟨_,rfl,wa,_,_,_,rfl,rfl,zX.of e,z8 (j:=0) rfl,1,(n:Int),rfl,by lia,Zd 1 (by decide),Zd (m:=8000) 4 (by lia),fun p G1 s1 e1=>⟨zl1,fun q G2 s2 m2 e2=>?_⟩⟩;have hm:Pw.mk 1 (n:Int)=(1,(n:Int)):=Pw.Z5a (by lia);rw[hm] at e1;refine⟨_,rfl,wa,_,_,_,rfl,rfl,zX.of ((s1.trans s2) _ _ e),z8 (j:=0) rfl,q,(n:Int),_,rfl,rfl,e2,by simp,by lia,by lia,?_,fun t G3 s3 e3=>k t G3 _ (s1.trans (s2.trans s3)) e3 ?_⟩;rw[sizeLine_eq,Z2J];show 1 * n<=_;lia;rw[Z2J];exact yp.rep (p:=p) (A:=(1,(n:Int))) (s3 _ _ (s2 _ _ e1)) n
theorem z0k:zE ["web"] ["web"] (ze xj):=fs
theorem z2c(S:ZJ K mg "show_web" xj ["web"])(T:Txt mg)(zstr:mg "str"=none):Def P w K mg base 1 "show_web" ["web"] (Y7 K):=S.def fun f fd F=>by
 refine F.ZM z0k fun nd cdv A' outer s H vs Q E hr h=>?_;obtain⟨a,n,ps,rfl,hw,n0,n12,few,rng,k⟩:=h;refine⟨_,(q1 (qr (qo zT (qo zT qw (qY zU zstr boot_str (qa (qx zF (qv 0) qi) qn))) (qm Z1G Z55 PySem.F.type_str_join (VC (K:=K) rfl) qw (qa (qG (ze xj) ["here","there"] [none,none] (qU (qx zF (qv 0) qi)) trivial (fun _ _ _ _ _ _=>(qj K 2 (qH (qg 0) (qH (qg 1) qN)))) (fun _ _ _ _ _=>qV) (fun _ _ _ _ _=>⟨Z3W (by decide +kernel) (by decide +kernel) (pv 0) (pv 1)⟩)) qn))))),?_⟩;obtain⟨t,us,ea,et,hp⟩:=hw;have hl:=hp.len;have lg:∀ i:Int,0<=i->i<=99->i.natAbs.log2<1920:=fun i h0 h1=>Z4h (by lia) (by lia);have zp:(Str.ofString "pages ").cps.size=6:=by decide +kernel
 have z1:=zZ n0 (show n<=99 by lia);refine⟨_,rfl,a,_,_,_,rfl,rfl,zX.of ea,rfl,n,rfl,lg n n0 (by lia),_,_,rfl,rfl,(by rw[Zq,Zq,sizeLine_eq];lia),rfl,?_⟩;refine⟨_,rfl,a,_,_,_,rfl,rfl,zX.of ea,rfl,t,rfl,⟨_,zX.of et⟩,fun D hD=>?_⟩;refine Yn (K:=K) (a:=t) (D:=D) (xs:=us) (fun i ys σ G=>zC H G/\G D=some (.lst ys)/\ys=((ps.take i).map fun p=>Str.ofString " " ++ Pw.ns p.1 ++ Str.ofString ">" ++ Pw.ns p.2).map V.str/\∃ v w,σ=[v,w]) ⟨zC.new hD,zh,rfl,none,none,rfl⟩ ?_ ?_ ?_;rintro i ys σ G ⟨s,e,_⟩;exact⟨zX.of (s _ _ et),e⟩
 · rintro i x ys σ G hx hlt ⟨sG,eD,rfl,v,w',rfl⟩
   obtain⟨ax,px,ex,rfl,hqx⟩:=(hp.kl sG.kl).get hx;have r:=rng px (Z21 ex);have z1:=zZ r.1 (show px.1<=99 by lia);have z2:=zZ r.2.2.1 (show px.2<=99 by lia);refine⟨ax,_,rfl,hqx,rfl,_,_,rfl,_,_,rfl,rfl,?_⟩;refine yL rfl ?_;refine⟨_,rfl,px.1,rfl,lg _ r.1 (by lia),by lia,_,rfl,px.2,rfl,lg _ r.2.2.1 (by lia),by lia,eD,(by rw[ZB,ZB,Z20,sizeLine_eq];lia),Wt.next hlt ⟨fun b o e=>by rw[zD (zo e hD)];exact sG _ _ e,zh,?_,_,_,rfl⟩⟩;rw[Z31,ex,Z15,Z15];rfl
 rintro ys σ G ⟨sG,eD,rfl,_⟩;rw[Z0A (by lia)] at eD;have m5:∀ z∈ps.map (fun p=>Str.ofString " " ++ Pw.ns p.1 ++ Str.ofString ">" ++ Pw.ns p.2),z.cps.size<=6:=fun z h=>by
  obtain⟨p,hp,rfl⟩:=Z17.mp h;have r:=rng p hp;have z1:=zZ r.1 (show p.1<=99 by lia);have z2:=zZ r.2.2.1 (show p.2<=99 by lia);have za:(Str.ofString " ").cps.size=1:=by decide +kernel
  have zb:(Str.ofString ">").cps.size=1:=by decide +kernel
  rw[zO,zO,zO];show _+(Str.ofString (toString p.1)).cps.size+_+(Str.ofString (toString p.2)).cps.size<=6;lia
 have zn:(Str.ofString "").cps.size=0:=by decide +kernel
 have sj:=Xq (sep:=Str.ofString "") m5;rw[ZB,zn] at sj;refine⟨_,D,_,rfl,rfl,zQ.of eD,Jp m5 ?_,_,_,rfl,rfl,?_,?_⟩;rw[ZB,zn];lia;rw[Zq,Zq,zO,sizeLine_eq];lia;rw[Pw.Z2e];exact k G sG
open L2
theorem z5o:zE ["self","web","leap"] ["self","web","leap"] (ze V0):=fs
theorem Z1t(S:MkF K mg C "Live" "Live.__init__" V0 ["self","web","leap"])(T:Txt mg)(LT:LvT K C) :MkD P w K mg base yk 1 C "Live" ["self","web","leap"] (Yy C):=S.def fun f fd F=>by
 refine F.ZM z5o fun nd cdv A' outer s H vs Q E hr h=>?_;obtain⟨p,dx,wa,lp,rfl,hp,k⟩:=h;refine⟨_,(qc (q3 (qv 0) (qv 1)) (qc (q3 (qv 0) (qv 2)) (q1 (q3 (qv 0) (ql qn))))),?_⟩;refine⟨_,rfl,_,rfl,p,C,dx,_,rfl,hp,LT.cl,LT.nN,(by show 0<1000;decide),?_⟩;refine⟨_,rfl,_,rfl,p,C,dx,_,rfl,zh,LT.cl,LT.nL,(by show 1<1000;decide),?_⟩;refine⟨zl0,fun pd G1 s1 m1 e1=>?_⟩;have ne:p≠pd:=zo zh m1;rw[zD ne.symm,zD ne.symm] at m1;refine⟨_,rfl,p,C,dx,_,rfl,s1 _ _ zh,LT.cl,LT.nP,(by rw[show Z9 "leap" (V.ref lp) (Z9 "now" (V.ref wa) [])=([("now",V.ref wa),("leap",V.ref lp)]:List (Str×V)) from (by show (if ("now":Str)="leap" then [(("now":Str),V.ref lp)] else (("now":Str),V.ref wa) :: Z9 "leap" (V.ref lp) [])=_;rw[if_neg kNL];rfl)];show 2<1000;decide),?_⟩;refine k pd _ m1 ⟨⟨dx,zh⟩,by rw[zD ne.symm];exact e1⟩ fun b o e hb=>?_;rw[zD hb];exact s1 _ _ (by rw[zD hb,zD hb];exact e)
theorem z5g:zE ["self","web"] ["self","web"] (ze VH):=fs
theorem Z2y(S:vZ K C "turn" "Live.turn" VH ["self","web"])(T:Txt mg)(LT:LvT K C) :Z1 P w K mg base yk 1 C "turn" ["self","web"] (Jj C):=S.def fun f fd F=>by
 refine F.ZM z5g fun nd cdv A' outer s H vs Q E hr h=>?_;obtain⟨p,b,now,lp,pd,us,rfl,l,hz,k⟩:=h;refine⟨_,(qc (qX (qm Z47 PySem.F.slot_list_append PySem.F.type_list_append yW (qD (qv 0)) (qa (qD (qv 0)) qn))) (q1 (q3 (qv 0) (qv 1)))),?_⟩;obtain⟨⟨dx,h1⟩,h2⟩:=l;have ne:p≠pd:=Z0o h1 h2 (by intro z;cases z);refine⟨_,rfl,p,C,dx,_,_,rfl,h1,LT.cl,LT.nP,V2 _ _ _,.inl ⟨rfl,_,zQ.of h2⟩,_,rfl,p,C,dx,_,_,rfl,h1,LT.cl,LT.nN,yT _ _ _,pd,_,_,rfl,rfl,h2,(by rw[sizeLine_eq];lia),?_⟩;refine⟨_,rfl,_,rfl,p,C,dx,_,rfl,(by rw[zD ne];exact h1),LT.cl,LT.nN,z3z _ _ _,?_⟩;refine k _ ⟨⟨dx,Eq.trans zh (congrArg (fun l=>some (HO.ins C dx l)) (z3E _ _ _ _))⟩,by rw[zD ne.symm];exact zh⟩ fun c o e hc=>?_;rw[zD (fun z=>hc (by rw[z];simp)),zD (fun z=>hc (by rw[z];simp))];exact e
theorem z1N:zE ["self","one","other"] ["self","one","other"] (ze QN):=fs
theorem z9x(S:vZ K C "check" "Live.check" QN ["self","one","other"])(T:Txt mg)(LT:LvT K C)(Il:Def P w K mg base 3 "is_link" ["pages","thing"] (JQ K)):Z1 P w K mg base yk 4 C "check" ["self","one","other"] (JR K C):=S.def fun f fd F=>by
 refine F.ZM z1N fun nd cdv A' outer s H vs Q E hr h=>?_;obtain⟨p,pd,lp,W,Ws,x,y,rfl,l,hb,k⟩:=h;refine⟨_,(q1 (qf (qT (qp (qd Il (qa (qx zF (qD (qv 0)) qi) (qa (qt (qa (qv 1) (qa (qv 2) qn))) qn))))) (q1 ⟨ZA⟩) q0)),?_⟩;obtain⟨now,us,lv,hw,hs⟩:=l;obtain⟨⟨dx,h1⟩,h2⟩:=lv;obtain⟨t,ws,ea,et,hp⟩:=hw;refine⟨_,rfl,p,C,dx,_,_,rfl,h1,LT.cl,LT.nN,yT _ _ _,now,_,_,_,rfl,rfl,zX.of ea,rfl,_,rfl,_,rfl,zl2,fun q G1 s1 m1 e1=>?_⟩;refine⟨W.1,x,y,q,rfl,e1,_,rfl,?_⟩;rw[decide_eq_true hb];exact ZN rfl (k G1 s1)
theorem z7A:zE ["self"] ["self"] (ze jY):=fs
theorem Z3k(S:vZ K C "web" "Live.web" jY ["self"])(T:Txt mg)(LT:LvT K C) :Z1 P w K mg base yk 1 C "web" ["self"] (QS K C):=S.def fun f fd F=>by
 refine F.ZM z7A fun nd cdv A' outer s H vs Q E hr h=>?_;obtain⟨p,pd,lp,W,Ws,rfl,l,k⟩:=h;refine⟨_,(q1 (qr (qD (qv 0)))),?_⟩;obtain⟨now,us,lv,hw,hs⟩:=id l;obtain⟨⟨dx,h1⟩,h2⟩:=id lv;exact⟨_,rfl,p,C,dx,_,_,rfl,h1,LT.cl,LT.nN,yT _ _ _,k now hw⟩
theorem z4A:zE ["self","one","other"] ["self","one","other"] (ze uK):=fs
theorem Z2m(S:vZ K C "link" "Live.link" uK ["self","one","other"])(T:Txt mg)(LT:LvT K C)(mP:mg "MOST_PAGES"=some (.int 12 tP))(mL:mg "MOST_LINKS"=some (.int 60 tL))(Ch:Z1 P w K mg base yk 4 C "check" ["self","one","other"] (JR K C))(Tu:Z1 P w K mg base yk 1 C "turn" ["self","web"] (Jj C))(Wi:Def P w K mg base 1 "with_link" ["web","one","other"] (Jo K)):Z1 P w K mg base yk 5 C "link" ["self","one","other"] (z4l K C):=S.def fun f fd F=>by
 refine F.ZM z4A fun nd cdv A' outer s H vs Q E hr h=>?_;obtain⟨p,pd,lp,W,Ws,x,y,rfl,l,hz,hb,few,k⟩:=h;refine⟨_,(qc (qX (qM (qv 0) LT.cl Ch (qa (qv 1) (qa (qv 2) qn)))) (qc (qf (qk Jz (qy z0 T.len Z2O (qa (qx zF (qD (qv 0)) qi) qn)) ⟨yf (v:=.int 60) (by rfl) mL ⟨_,rfl⟩⟩) (q1 ⟨ZA⟩) q0) (q1 (qX (qM (qv 0) LT.cl Tu (qa (qd Wi (qa (qD (qv 0)) (qa (qv 1) (qa (qv 2) qn)))) qn)))))),?_⟩;obtain⟨now,us,lv,hw,hs⟩:=id l;obtain⟨⟨dx,h1⟩,h2⟩:=id lv;obtain⟨t,ws,ea,et,hp⟩:=id hw;have hl:=hp.len;have hsl:=hs.len;refine⟨_,rfl,p,dx,_,rfl,h1,YH _ _ _ (by decide +kernel) (by decide +kernel) (by decide +kernel),_,rfl,_,rfl,p,pd,lp,W,Ws,x,y,rfl,l,hb,fun G1 s1=>?_⟩;refine⟨_,rfl,p,C,dx,_,_,rfl,s1 _ _ h1,LT.cl,LT.nN,yT _ _ _,now,_,_,_,rfl,rfl,zX.of (s1 _ _ ea),rfl,t,_,rfl,.inr (zX.of (s1 _ _ et)),_,_,rfl,rfl,_,rfl,?_⟩;rw[decide_eq_false (by rw[hl];lia)];refine ZN rfl ?_;refine⟨_,rfl,p,dx,_,rfl,s1 _ _ h1,YH _ _ _ (by decide +kernel) (by decide +kernel) (by decide +kernel),_,rfl,p,C,dx,_,_,rfl,s1 _ _ h1,LT.cl,LT.nN,yT _ _ _,_,rfl,_,rfl,now,W.1,x,y,W.2,rfl,hw.same s1,by lia,fun b G2 ms s2 mb hb2 pm pw=>?_⟩;have s12:=s1.trans s2;refine⟨p,b,now,lp,pd,us,rfl,lv.same s12,by lia,fun G3 l3 k3=>?_⟩;have u3:=(lv.same s12).ku k3;exact k G3 ms pm pw ⟨b,_,l3,hb2.ku u3,((hs.ku s12.ku).ku u3).snoc ((hw.same s12).ku u3)⟩ ((zC.kx s12).trans k3)
theorem z4V:zE ["self"] ["self"] (ze ue):=fs
theorem Z2k(S:vZ K C "undo" "Live.undo" ue ["self"])(T:Txt mg)(LT:LvT K C) :Z1 P w K mg base yk 1 C "undo" ["self"] (jU K C):=S.def fun f fd F=>by
 refine F.ZM z4V fun nd cdv A' outer s H vs Q E hr h=>?_;obtain⟨p,pd,lp,W,Ws,rfl,l,k0,k1⟩:=h;refine⟨_,(qc (qf (qT ⟨UG (fun _=>rfl) (QT (pv 0) rfl)⟩) (q1 (qr qb)) q0) (qc (q3 (qv 0) ⟨Z2D Z47 PySem.F.slot_list_pop PySem.F.type_list_pop Z2d (QT (pv 0) rfl)⟩) (q1 (qr qb)))),?_⟩;obtain⟨now,us,lv,hw,hs⟩:=id l;obtain⟨⟨dx,h1⟩,h2⟩:=id lv;have ne:p≠pd:=Z0o h1 h2 (by intro z;cases z);have hsl:=hs.len;refine⟨_,rfl,p,C,dx,_,_,rfl,h1,LT.cl,LT.nP,V2 _ _ _,_,.inl ⟨us,zQ.of h2,rfl⟩,?_⟩;rcases List.eq_nil_or_concat Ws with rfl |⟨Ws0,W0,rfl⟩;cases us with
 | nil=>exact yL rfl (k0 rfl H (zC.refl H))
 | cons u us=>cases hsl
 rw[List.concat_eq_append] at hs hsl l k1;obtain⟨vs,a,rfl,hs0,hwa⟩:=hs.z7d;rw[show (vs ++ [V.ref a]).isEmpty=false by cases vs <;> rfl];refine ZN rfl ?_;refine⟨_,rfl,p,C,dx,_,_,rfl,h1,LT.cl,LT.nP,V2 _ _ _,.inl ⟨rfl,_,zQ.of h2⟩,pd,_,.ref a,rfl,rfl,h2,(by simp),?_⟩;refine⟨_,rfl,p,C,dx,_,rfl,(by rw[zD ne];exact h1),LT.cl,LT.nN,z3z _ _ _,?_⟩;have l3:Lv C (upd (upd H pd (.lst (vs ++ [V.ref a]).dropLast)) p (.ins C dx (Z9 "now" (.ref a) (lvF now lp pd)))) p a lp pd vs:=⟨⟨dx,Eq.trans zh (congrArg (fun l=>some (HO.ins C dx l)) (z3E _ _ _ _))⟩,by rw[zD ne.symm,zh,List.dropLast_concat]⟩;have k3:Kx [p,pd] H (upd (upd H pd (.lst (vs ++ [V.ref a]).dropLast)) p (.ins C dx (Z9 "now" (.ref a) (lvF now lp pd)))):=fun c o e hc=>by
  rw[zD (fun z=>hc (by rw[z];simp)),zD (fun z=>hc (by rw[z];simp))];exact e
 have u3:=lv.ku k3;exact k1 W0 Ws0 rfl _ ⟨a,vs,l3,hwa.ku u3,hs0.ku u3⟩ k3
theorem z0v:zE ["self"] ["self"] (ze X0):=fs
theorem z7K(S:vZ K C "shares" "Live.shares" X0 ["self"])(T:Txt mg)(LT:LvT K C)(Sh:Def P w K mg base 6 "shares_shares" ["web","leap","leaps"] (Z2v K))(Ev:Def P w K mg base 3 "even" ["web"] (Vm K)):Z1 P w K mg base yk 7 C "shares" ["self"] (UP K C):=S.def fun f fd F=>by
 refine F.ZM z0v fun nd cdv A' outer s H vs Q E hr h=>?_;obtain⟨p,pd,lp,n,ps,Ws,A,rfl,l,n1,n12,few,lk,fA,ca,a0,a1,sA,k⟩:=h;refine⟨_,(q1 (qr (qd Sh (qa (qD (qv 0)) (qa (qD (qv 0)) (qa (qd Ev (qa (qD (qv 0)) qn)) qn)))))),?_⟩;obtain⟨now,us,lv,hw,hs⟩:=id l;obtain⟨⟨dx,h1⟩,h2⟩:=id lv;obtain⟨t,ws,ea,et,hp⟩:=id hw;refine⟨_,rfl,p,C,dx,_,_,rfl,h1,LT.cl,LT.nN,yT _ _ _,_,rfl,p,C,dx,_,_,rfl,h1,LT.cl,LT.nL,Qh _ _ _,_,rfl,p,C,dx,_,_,rfl,h1,LT.cl,LT.nN,yT _ _ _,now,n,_,rfl,ea,n1,n12,fun ev G1 vs s1 e1 f1=>?_⟩;exact⟨now,lp,ev,n,ps,A,YM n,vs,(n:Int),rfl,vg (hw.same s1) (by lia) lk (s1 _ _ fA) ca a0 a1 sA n1 n12 e1 f1,fun t' G2 Ss ys ok sz s2 e2 f2=>k t' G2 Ss ys ok sz (s1.trans s2) e2 f2⟩
theorem z0b:zE ["self"] ["self"] (ze XQ):=fs
theorem z7e(S:vZ K C "ranked" "Live.ranked" XQ ["self"])(T:Txt mg)(LT:LvT K C)(Rk:Def P w K mg base 7 "ranked_shares" ["web","leap","leaps"] (JM K tb posR))(Ev:Def P w K mg base 3 "even" ["web"] (Vm K)):Z1 P w K mg base yk 8 C "ranked" ["self"] (UR K C tb posR):=S.def fun f fd F=>by
 refine F.ZM z0b fun nd cdv A' outer s H vs Q E hr h=>?_;obtain⟨p,pd,lp,n,ps,Ws,A,rfl,l,n1,n12,few,lk,fA,ca,a0,a1,sA,tab,k⟩:=h;refine⟨_,(q1 (qr (qd Rk (qa (qD (qv 0)) (qa (qD (qv 0)) (qa (qd Ev (qa (qD (qv 0)) qn)) qn)))))),?_⟩;obtain⟨now,us,lv,hw,hs⟩:=id l;obtain⟨⟨dx,h1⟩,h2⟩:=id lv;obtain⟨t,ws,ea,et,hp⟩:=id hw;refine⟨_,rfl,p,C,dx,_,_,rfl,h1,LT.cl,LT.nN,yT _ _ _,_,rfl,p,C,dx,_,_,rfl,h1,LT.cl,LT.nL,Qh _ _ _,_,rfl,p,C,dx,_,_,rfl,h1,LT.cl,LT.nN,yT _ _ _,now,n,_,rfl,ea,n1,n12,fun ev G1 vs s1 e1 f1=>?_⟩;have i:=vg (hw.same s1) (show ps.length<=100 by lia) lk (s1 _ _ fA) ca a0 a1 sA n1 n12 e1 f1;refine⟨now,lp,ev,(n:Int),ps,A,YM n,vs,(n:Int),140,rfl,i.g,i.pr,by have:=i.n12;lia,by decide,i.sA,i.sS,tab.same s1,fun D G2 Ss r ok rk k2 m2 e2 t2=>?_⟩;rw[Z2J] at ok rk;exact k D G2 Ss r ok rk (fun b o e n=>k2 b o (s1 _ _ e) n) (s1.free m2) e2 t2
open L2
theorem z2o:zE ["places","many","found","turn","place"] ["places","many"] (ze YN):=fs
theorem UZ(S:ZJ K mg "choices" YN ["places","many"])(T:Txt mg)(Ch:Def P w K mg base k "choices" ["places","many"] (Z3g K M)):Def P w K mg base (k+1) "choices" ["places","many"] (jB K M):=S.def fun f fd F=>by
 refine F.ZM z2o fun nd cdv A' outer s H vs Q E hr h=>?_;obtain⟨m,hM,p,l,rfl,ep,l12,kk⟩:=h;refine⟨_,(qc (qf (qk ya (qv 1) qi) (q1 (qr (ql (qa (ql qn) qn)))) q0) (qc (qs 2 (ql qn)) (qc (qF ⟨Vh (by rfl) (by rfl) rfl T.enu (@zB _ _ _ _ _ (by rfl) (pv 0) zJ)⟩ (qJ (qH (qg 3) (qH (qg 4) qN))) (q1 (qX (qm Z47 PySem.F.slot_list_extend PySem.F.type_list_extend z5j (qv 2) (qa (qG (ze YN) ["rest","place"] [none,some 4] (qL (qd Ch (qa (q9 Yx (qv 0) (qQ (qo yu (qv 3) qi)) qK) (qa (qo XZ (qv 1) qi) qn)))) ⟨⟨rfl,rfl,.inl rfl⟩,trivial⟩ (fun _ _ _ _ _ _=>(qg 0)) (fun _ _ _ _ _=>qV) (fun _ _ _ _ _=>(qo xZ (ql (qa (qv 1) qn)) (qv 0)))) qn))))) (q1 (qr (qv 2)))))),?_⟩;refine⟨_,rfl,rfl,_,rfl,?_⟩;cases m with
 | zero =>
   refine yL (decide_eq_true rfl) ?_;exact⟨zl0,fun q G1 s1 m1 e1=>⟨zl1,fun D G2 s2 m2 e2=>kk D G2 (s1.trans s2) (s1.free m2) (by
    rw[Pw.Qv];exact (Z3.one (row:=[]) (X:=D) (zo e1 m2) (s2 _ _ e1)).Z3x e2 (XA.one m1))⟩⟩
 | succ m =>
   refine ZN (decide_eq_false (by simp;lia)) ?_;refine⟨zl0,fun D G1 s1 m1 e1=>?_⟩;refine⟨_,rfl,p,_,rfl,zQ.of (s1 _ _ ep),?_⟩;refine z8A (K:=K) (a:=p) (xs:=l.map V.int) (fun j σ G=>zC H G/\∃ (us:List V) (v3 v4:Option V),G D=some (.lst us)/\Z3 G (Pw.xQ l m j) us D/\XA H us/\σ=[some (.ref p),some (.int ((m+1:Nat):Int)),some (.ref D),v3,v4]) ?_ ?_ ?_ ?_;exact⟨s1,[],none,none,e1,Z3.nil _ _,XA.nil _,rfl⟩;rintro j σ G ⟨sG,_⟩;exact zQ.of (sG _ _ ep)
   · rintro j u σ G T' G' hu hj ⟨sG,us,v3,v4,eD,rD,nU,rfl⟩ mT sT eT
     rw[ZB] at hj;have hju:u=.int (l.getD j 0):=by
      rw[Z14,Xo hj] at hu;cases hu;rfl
     subst hju;have eD':=sT _ _ eD;have sG':zC H G':=sG.trans sT;have rD':=rD.keep (H':=G') fun b o e _=>sT _ _ e;refine⟨T',_,rfl,zX.of eT,rfl,_,_,rfl,_,_,rfl,rfl,?_⟩;refine⟨_,rfl,.inl ⟨rfl,_,zQ.of eD'⟩,_,rfl,_,rfl,_,_,rfl,rfl,_,rfl,p,_,rfl,zQ.of (sG' _ _ ep),fun q hq=>?_⟩;have s2:zC G' (upd G' q (.lst (ZQ (l.map V.int) (some (((j:Nat):Int)+1)) none))):=zC.new hq;have e2:(upd G' q (.lst (ZQ (l.map V.int) (some (((j:Nat):Int)+1)) none))) q=some (.lst ((l.drop (j+1)).map V.int)):=by
      rw[zh,Z3j (by rw[ZB];exact hj),List.map_drop]
     generalize upd G' q (.lst (ZQ (l.map V.int) (some (((j:Nat):Int)+1)) none))=G2 at s2 e2;refine⟨_,rfl,_,_,rfl,rfl,m,by lia,q,l.drop (j+1),?_,e2,by rw[Z30];lia,fun C G3 s3 m3 hM=>?_⟩;show [V.ref q,V.int (((m+1:Nat):Int) - 1)]=[V.ref q,V.int ((m:Nat):Int)];rw[show ((m+1:Nat):Int) - 1=((m:Nat):Int) by lia];obtain⟨cs,eC,lC,rC,_⟩:=hM;refine⟨C,rfl,⟨cs,zQ.of eC⟩,fun E hE=>?_⟩;have eD3:=s3 _ _ (s2 _ _ eD');have hED:D≠E:=zo eD3 hE;have few2:=Pw.Vq (l.drop (j+1)) m;have few3:2 ^ (l.drop (j+1)).length<=2 ^ 12:=Z3a (by decide) (by rw[Z30];lia);refine Z0 (K:=K) (a:=C) (D:=E) (xs:=cs) (fun i ys σ G=>zC G3 G/\G E=some (.lst ys)/\(∃ ws:List V,ys=ws/\Z3 G (((Pw.Xe (l.drop (j+1)) m).map (l.getD j 0 :: ·)).take i) ws D/\(∀ w∈ws,w≠.ref E)/\XA H ws)/\∃ r,σ=[r,some (.int (l.getD j 0))]) ?_ ?_ ?_ ?_
     exact⟨zC.new hE,zh,⟨[],rfl,Z3.nil _ _,fun w hw=>by simp at hw,XA.nil _⟩,none,rfl⟩;rintro i ys σ G ⟨sg,eg,_⟩;exact⟨zQ.of (sg _ _ eC),eg⟩
     · rintro i u ys σ G hu hi ⟨sg,eg,⟨ws,rfl,rg,ng,nW⟩,r0,rfl⟩
       have hiF:i<(Pw.Xe (l.drop (j+1)) m).length:=(by lia);obtain⟨r,er,fr⟩:=rC i _ (Z01 hiF);rw[hu] at er;cases er;dsimp only [Zs];rw[if_pos rfl];refine⟨_,rfl,zl1,fun q1 G4 s4 m4 e4=>⟨_,rfl,q1,r,_,_,rfl,rfl,e4,s4 _ _ (sg _ _ fr),?_,fun q2 G5 s5 m5 e5=>?_⟩⟩;have:=Pw.j4 (Z26 hiF);rw[sizeLine_eq,ZB,this];have h3:=(Pw.ZS.mp (Z26 hiF)).1.length_le;rw[Z30] at h3;simp only[Z0u,Z5q];lia;have sg5:=s4.trans s5;have eE5:=sg5 _ _ eg;have nE:q2≠E:=(by rintro rfl;rw[s4 _ _ eg] at m5;cases m5);have nD:q2≠D:=(by rintro rfl;rw[s4 _ _ (sg _ _ eD3)] at m5;cases m5);refine⟨eE5,?_,Wt.next hi ⟨fun b o e=>?_,zh,⟨_,rfl,?_,?_,nW.append (XA.one (sG'.free (s2.free (s3.free (sg.free (s4.free m5))))))⟩,_,rfl⟩⟩;have:=rg.1;rw[Z20,ZB] at this;rw[sizeLine_eq];lia;rw[zD (zo e hE)];exact sg5 _ _ (sg _ _ e);rw[Z31,Z14,Z01 hiF];have keepU:∀ {G':Hp}{o:HO}{Fs:List (List Int)}{vs:List V},Z3 G' Fs vs D->(∀ v∈vs,v≠.ref E)->Z3 (upd G' E o) Fs vs D:=fun {G' o Fs vs} h hn=>⟨h.1,fun i row e=>by
        obtain⟨r,a,n,b⟩:=h.2 i row e;exact⟨r,a,n,by rw[zD (fun z=>hn _ (Z21 a) (by rw[z]))];exact b⟩⟩
       refine keepU ((rg.keep fun b o e _=>sg5 _ _ e).append (Z3.one nD e5)) fun v hv=>?_;rcases Z25.mp hv with hv | hv;exact ng v hv;rw[Z04.mp hv];intro z;cases z;exact nE rfl;intro v hv;rcases Z25.mp hv with hv | hv;exact ng v hv;rw[Z04.mp hv];intro z;cases z;exact nE rfl
     rintro ys σ G4 ⟨s4,e4,⟨ws,rfl,r4,n4,nW⟩,_⟩;rw[lC,Z0A (by rw[ZB];exact Z03 _)] at r4;have s24:=s2.trans (s3.trans s4);have eD4:=s24 _ _ eD';have l1:=rD.1;have l2:=r4.1;have l3:=Pw.z2x l m j;rw[ZB] at l2;have l4:j * 2 ^ l.length<=12 * 2 ^ 12:=Nat.mul_le_mul (by lia) (Z3a (by decide) l12);refine⟨D,E,us,ys,rfl,rfl,eD4,e4,?_,?_⟩;rw[sizeLine_eq];lia;refine⟨fun b o e=>?_,us ++ ys,_,_,zh,?_,nU.append nW,rfl⟩;rw[zD (zo e m1)];exact s24 _ _ (sG' _ _ e);rw[Pw.vG];exact ((rD'.keep fun b o e _=>s24 _ _ e).append r4).keep fun b o e nb=>by rw[zD nb];exact e
   rintro σ G ⟨sG,us,v3,v4,eD,rD,nU,rfl⟩;rw[ZB,Pw.um] at rD;exact⟨_,rfl,kk D G sG m1 (rD.Z3x eD nU)⟩
theorem XF(S:ZJ K mg "choices" YN ["places","many"])(T:Txt mg):∀ M:Nat,Def P w K mg base (M+1) "choices" ["places","many"] (jB K M)
 | 0=>UZ S T (S.bot (fun vs H Q E h=>by obtain⟨m',e,_⟩:=h;lia) 0)
 | M+1=>UZ S T ((XF S T M).imp fun vs H Q E h=>by
     obtain⟨m',e,h⟩:=h;exact⟨m',by lia,h⟩)
theorem z1O:zE ["one","other"] ["one","other"] (ze vh):=fs
theorem z4p(S:ZJ K mg "is_less" vh ["one","other"])(T:Txt mg) :Def P w K mg base 1 "is_less" ["one","other"] (z1L K):=S.def fun f fd F=>by
 refine F.ZM z1O fun nd cdv A' outer s H vs Q E hr h=>?_;obtain⟨p,q,A,B,rfl,fA,fB,sa,sb,k⟩:=h;refine⟨_,(q1 (qr (qe Ys (qo z7 (qx zF (qv 0) qi) (qx zF (qv 1) qi)) (qo z7 (qx zF (qv 1) qi) (qx zF (qv 0) qi))))),?_⟩;exact⟨_,rfl,p,_,_,_,rfl,rfl,xw.of fA,rfl,_,rfl,q,_,_,_,rfl,rfl,xw.of fB,rfl,_,_,rfl,rfl,⟨sa.1.mono (by decide),sb.2.mono (by decide)⟩,_,rfl,q,_,_,_,rfl,rfl,xw.of fB,rfl,_,rfl,p,_,_,_,rfl,rfl,xw.of fA,rfl,_,_,rfl,rfl,⟨sb.1.mono (by decide),sa.2.mono (by decide)⟩,_,_,rfl,rfl,k⟩
theorem z4U:zE ["web","chosen","page","place"] ["web","chosen","page"] (ze VB):=fs
theorem z6x(S:ZJ K mg "linked" VB ["web","chosen","page"])(T:Txt mg)(Wi:Def P w K mg base 1 "with_link" ["web","one","other"] (Jo K)):Def P w K mg base 2 "linked" ["web","chosen","page"] (JW K):=S.def fun f fd F=>by
 refine F.ZM z4U fun nd cdv A' outer s H vs Q E hr h=>?_;obtain⟨wa,C,n,x,ps,row,rfl,hW,eC,few,k⟩:=h;refine⟨_,(qc (qF (qL (qv 1)) (qg 3) (q1 (qs 0 (qd Wi (qa (qv 0) (qa (qv 3) (qa (qv 2) qn))))))) (q1 (qr (qv 0)))),?_⟩;refine⟨_,rfl,C,rfl,⟨_,zQ.of eC⟩,?_⟩;refine Yo (K:=K) (a:=C) (xs:=row.map V.int) (fun j σ G=>zC H G/\∃ (tv:Addr) (ms:List (Int×Int)) (v:Option V),ZX K G tv n ms/\ms.Perm (ps ++ Pw.toL x (row.take j))/\σ=[some (.ref tv),some (.ref C),some (.int (x:Int)),v]) ?_ ?_ ?_ ?_;exact⟨zC.refl _,wa,ps,none,hW,by unfold Pw.toL;simp,rfl⟩;rintro j σ G _ h;exact zQ.of (h.1 _ _ eC);rintro j u σ G hu ⟨sG,tv,ms,v,hT,pT,rfl⟩;have hj:j<row.length:=by have:=(Z12.mp hu).1;rw[ZB] at this;exact this
 rw[Z14,Z01 hj] at hu;cases hu;have lT:ms.length<=60:=by
  have:=pT.length_eq;unfold Pw.toL at this;rw[Z0M,ZB,Z20] at this;lia
 refine⟨_,rfl,_,rfl,_,rfl,tv,n,row[j],(x:Int),ms,rfl,hT,by lia,fun b G8 ms' s8 m8 hW8 pm8 pw8=>⟨sG.trans s8,b,ms',_,hW8,?_,rfl⟩⟩;refine pm8.trans ((pT.append_right _).trans ?_);rw[Z22,Z31,Z01 hj];unfold Pw.toL;rw[show (Option.toList (some row[j]))=[row[j]] from rfl,Z15];exact List.Perm.refl _;rintro σ G ⟨sG,tv,ms,v,hT,pT,rfl⟩;rw[ZB,Z0A (Z03 _)] at pT;exact⟨_,rfl,k tv G ms sG hT pT⟩
theorem z0U:zE ["web","leap","leaps","one","other","row"] ["web","leap","leaps","one","other"] (ze X4):=fs
theorem z2R(S:ZJ K mg "is_ahead" X4 ["web","leap","leaps","one","other"])(T:Txt mg)(Sh:Def P w K mg base 6 "shares_shares" ["web","leap","leaps"] (Z2v K))(Il:Def P w K mg base 1 "is_less" ["one","other"] (z1L K)):Def P w K mg base 7 "is_ahead" ["web","leap","leaps","one","other"] (z4g K):=S.def fun f fd F=>by
 refine F.ZM z0U fun nd cdv A' outer s H vs Q E hr h=>?_;obtain⟨wa,lp,ls,n,x,y,ps,A,Bs,us,S,rfl,i,hx,hy,k⟩:=h;refine⟨_,(qc (qs 5 (qd Sh (qa (qv 0) (qa (qv 1) (qa (qv 2) qn))))) (q1 (qr (qd Il (qa (qx zF (qv 5) (qv 4)) (qa (qx zF (qv 5) (qv 3)) qn)))))),?_⟩;refine⟨_,rfl,_,rfl,_,rfl,wa,lp,ls,n,ps,A,Bs,us,S,rfl,i,fun t G1 Ss ys ok sz s1 e1 f1=>?_⟩;have hl:=ok.len;obtain⟨p,ep,fp⟩:=f1.at (j:=y) (A:=Ss.getD y (0,1)) (by rw[Z02,Z01 (by lia)];rfl);obtain⟨q,eq,fq⟩:=f1.at (j:=x) (A:=Ss.getD x (0,1)) (by rw[Z02,Z01 (by lia)];rfl);have mp:=mem_getD (Bs:=Ss) (t:=y) (by lia);have mq:=mem_getD (Bs:=Ss) (t:=x) (by lia);exact⟨_,rfl,_,rfl,t,_,_,_,rfl,rfl,zX.of e1,z8 ep,_,rfl,_,rfl,t,_,_,_,rfl,rfl,zX.of e1,z8 eq,p,q,_,_,rfl,fp,fq,(sz _ mp).mono (by decide),(sz _ mq).mono (by decide),k G1 Ss ok s1⟩
theorem uG:zE ["web","leap","leaps","one","other","places","rising","many","chosen"] ["web","leap","leaps","one","other","places"] (ze YL):=fs
theorem u7(S:ZJ K mg "least_links" YL ["web","leap","leaps","one","other","places"])(T:Txt mg)(Ch:Def P w K mg base 13 "choices" ["places","many"] (jB K 12))(Lk:Def P w K mg base 2 "linked" ["web","chosen","page"] (JW K))(Ah:Def P w K mg base 7 "is_ahead" ["web","leap","leaps","one","other"] (z4g K)):Def P w K mg base 14 "least_links" ["web","leap","leaps","one","other","places"] (Qe K):=S.def fun f fd F=>by
 refine F.ZM uG fun nd cdv A' outer s H vs Q E hr h=>?_;obtain⟨wa,lp,ls,pl,n,x,y,ps,A,Bs,us,S,l,ris,rfl,i,hx,hy,few,el,l12,hr0,pmr,pwr,kN,kS⟩:=h;refine⟨_,(qc (qs 6 (qy XE T.srt boot_sorted (qa (qv 5) qn))) (qc (qF (qR T.range (qa (qo yu (qy z0 T.len Z2O (qa (qv 6) qn)) qi) qn)) (qg 7) (q1 (qF (qL (qd Ch (qa (qv 6) (qa (qv 7) qn)))) (qg 8) (q1 (qf (qp (qd Ah (qa (qd Lk (qa (qv 0) (qa (qv 8) (qa (qv 3) qn)))) (qa (qv 1) (qa (qv 2) (qa (qv 3) (qa (qv 4) qn))))))) (q1 (qr (qv 8))) q0))))) (q1 (qr ⟨z6M⟩)))),?_⟩;have ca:=i.g.ca;have cb:=i.g.cb;have hb:Bs.length=n:=by have:=i.g.len;lia
 have pr:=i.pr;refine⟨_,rfl,pl,l,rfl,zQ.of el,by lia,fun rs R G1 pm1 pw1 s1 m1 e1=>?_⟩;have ers:rs=ris:=QM (pm1.trans pmr.symm) pw1 pwr;subst ers;have lr:rs.length=l.length:=pm1.length_eq;have hrr:∀ r∈rs,0<=r/\r<(n:Int):=fun r hr=>hr0 r (pm1.mem_iff.mp hr);have hml:(rs.map V.int).length=rs.length:=ZB ..;refine⟨_,rfl,R,_,rfl,.inl (zQ.of e1),_,_,rfl,rfl,_,rfl,by lia,by lia,?_⟩;rw[hml];have hN:(((rs.length:Nat):Int)+1).toNat=rs.length+1:=by lia
 rw[hN];refine yU (lo:=0) (n:=rs.length+1) (fun m σ G=>zC H G/\G R=some (.lst (rs.map V.int))/\(∀ m' r,m'<m->r∈Pw.Xe rs m'->¬ Pw.vQ ps A Bs n x y r)/\∃ (v7 v8:Option V),σ=[some (.ref wa),some (.ref lp),some (.ref ls),some (.int (x:Int)),some (.int (y:Int)),some (.ref pl),some (.ref R),v7,v8]) ?_ ?_ ?_;exact⟨s1,e1,fun m' r h=>absurd h (Z41 _),none,none,rfl⟩;rintro m σ G hm ⟨sG,eR,hno,v7,v8,rfl⟩;rw[Z58];refine⟨_,rfl,_,rfl,m,by lia,R,rs,rfl,eR,by lia,fun C G2 s2 m2 hM=>?_⟩;obtain⟨cs,eC,lC,rC,nC⟩:=hM;refine⟨C,rfl,⟨cs,zQ.of eC⟩,?_⟩;refine Yo (K:=K) (a:=C) (xs:=cs) (fun j σ G'=>zC G2 G'/\(∀ i' r,i'<j->(Pw.Xe rs m)[i']?=some r->¬ Pw.vQ ps A Bs n x y r)/\∃ v8:Option V,σ=[some (.ref wa),some (.ref lp),some (.ref ls),some (.int (x:Int)),some (.int (y:Int)),some (.ref pl),some (.ref R),some (.int ((m:Nat):Int)),v8]) ?_ ?_ ?_ ?_;exact⟨zC.refl _,fun i' r h=>absurd h (Z41 _),v8,rfl⟩;rintro j σ G' _ h;exact zQ.of (h.1 _ _ eC);rintro j u σ G' hu ⟨sG',hn',v8,rfl⟩;have hj:j<cs.length:=(Z12.mp hu).1;have hjF:j<(Pw.Xe rs m).length:=by lia
 obtain⟨r,er,fr⟩:=rC j _ (Z01 hjF);rw[hu] at er;cases er;have sub:=(Pw.ZS.mp (Z26 hjF)).1;have hrow:∀ q∈(Pw.Xe rs m)[j],0<=q/\q<(n:Int):=fun q hq=>hrr q (sub.subset hq);have lrow:=sub.length_le;have s2':=s2.trans sG';have sH:=sG.trans s2';have i2:=i.same sH;refine⟨_,rfl,_,rfl,_,rfl,wa,r,(n:Int),x,ps,(Pw.Xe rs m)[j],rfl,i2.g.web,sG' _ _ fr,by lia,fun b G3 ms s3 hW3 pm3=>?_⟩;have i3:=(i2.same s3).links (row:=(Pw.Xe rs m)[j]) (by lia) hx hrow hW3 pm3;refine⟨_,rfl,_,rfl,_,rfl,_,rfl,b,lp,ls,n,x,y,ms,A,Bs,us,S,rfl,i3,hx,hy,fun G4 Ss ok4 s4=>⟨_,rfl,?_⟩⟩;have iff:=Pw.z0D (y:=y) ca cb hb pr (fun p hp=>(i3.g.lk p hp).2.2) pm3 ok4;refine if2 (fun h=>?_) (fun h=>?_);refine⟨_,rfl,kS r G4 _ m j (sH.trans (s3.trans s4)) (sG.free (nC r (Z21 hu))) (s4 _ _ (s3 _ _ (sG' _ _ fr))) (Z01 hjF) (iff.mpr h) hno hn'⟩;refine⟨sG'.trans (s3.trans s4),fun i' r' hi' hr'=>?_,_,rfl⟩;by_cases e:i'<j;exact hn' i' r' e hr';have:i'=j:=by lia
 subst this;rw[Z01 hjF] at hr';cases hr';intro z;rw[iff.mp z] at h;cases h;rintro σ G' ⟨sG',hn',v8,rfl⟩;refine⟨sG.trans (s2.trans sG'),sG' _ _ (s2 _ _ eR),fun m' r hm' hr'=>?_,_,_,rfl⟩;by_cases e:m'<m;exact hno m' r e hr';have:m'=m:=by lia
 subst this;obtain⟨i',hi',e'⟩:=List.getElem_of_mem hr';exact hn' i' r (by lia) (by rw[Z01 hi',e']);rintro σ G ⟨sG,eR,hno,v7,v8,rfl⟩;refine kN G sG fun m row hrow=>?_;have:=Pw.ZS.mp hrow;have h2:=this.1.length_le;exact hno m row (by lia) hrow
open L2
theorem Vd:zE ["number","pieces"] ["number"] (ze y9):=fs
theorem uM(S:ZJ K mg "show_figures" y9 ["number"])(T:Txt mg)(zstr:mg "str"=none)(zrev:mg "reversed"=none):Def P w K mg base 1 "show_figures" ["number"] V3:=S.def fun f fd F=>by
 refine F.ZM Vd fun nd cdv A' outer s H vs Q E hr h=>?_;obtain⟨n,rfl,hn,k⟩:=h;refine⟨_,(qc (qs 1 (ql qn)) (qc ⟨QA PassesOwn.never (yz Jz (pv 0) (ZV uT zP zP) (Yj _)) (@Yk _ _ _ _ _ (z3R (z2U Z47 PySem.F.slot_list_append PySem.F.type_list_append yW (pv 1) (@zB _ _ _ _ _ (by rfl) (z2U Z1G PySem.F.slot_str_zfill PySem.F.type_str_zfill z6g (YV zU (by rfl) zstr boot_str (@zB _ _ _ _ _ (by rfl) (ZV YD (pv 0) (ZV uT zP zP)) zJ)) (@zB _ _ _ _ _ (by rfl) zP zJ)) zJ))) (@ye _ _ _ (@jx _ _ 0 _ _ _ _ (by rfl) (Or.inl rfl) nd rfl (Or.inl rfl) (ZV ZO (pv 0) (ZV uT zP zP)))))⟩ (qc (qX (qm Z47 PySem.F.slot_list_append PySem.F.type_list_append yW (qv 1) (qa (qY zU zstr boot_str (qa (qv 0) qn)) qn))) (q1 (qr ⟨JP rfl (by rfl) zrev (@zB _ _ _ _ _ (by rfl) (pv 1) zJ)⟩))))),?_⟩;refine zG fun RR hRR=>?_;refine⟨zl0,fun b G1 s1 m1 e1=>?_⟩;show RR [_,_] _;subst hRR;refine zG fun RR hRR=>?_;have e60:((10:Int) ^ (Int.toNat 60))=((10 ^ 60:Nat):Int):=rfl;have p60:0<10 ^ 60:=Nat.pow_pos (by decide);have zk:∀ u:Nat,(Pw.pkS 60 u).cps.size=60:=fun u=>by unfold Pw.pkS;rw[Z05,Pw.z2n]
 refine z5y (fun σ G=>zC H G/\∃ (m:Nat) (us:List Str),G b=some (.lst (us.map V.str))/\m<2 ^ 1990/\(∀ u∈us,u.cps.size<=60)/\us.length * 60+(Pw.ns (m:Int)).cps.size<=600/\Txt.join (Str.ofString "") (Pw.ns (m:Int) :: us.reverse)=Pw.ns (n:Int)/\σ=[some (.int (m:Int)),some (.ref b)]) (fun σ _=>match σ with | some (.int m) :: _=>m.toNat | _=>0) ?_ ?_
 exact⟨s1,n,[],e1,hn,fun u h=>by simp at h,by have:=xM hn;simp only[Z5q];lia,rfl,rfl⟩;rintro B hB σ G ⟨sG,m,us,eb,hm,hu,hsz,hj,rfl⟩;refine⟨_,rfl,_,_,rfl,rfl,⟨by decide,by decide,by decide⟩,_,_,rfl,rfl,_,rfl,if2 (fun h=>?_) (fun h=>?_)⟩;have h:((10:Int) ^ (Int.toNat 60))<=(m:Int):=of_decide_eq_true h;rw[e60] at h;have h:10 ^ 60<=m:=by lia
 have hd:=Nat.div_add_mod m (10 ^ 60);have hr:=Nat.mod_lt m p60;have hq:0<m / 10 ^ 60:=Nat.div_pos h p60;have hlt:m / 10 ^ 60<m:=Nat.div_lt_self (by lia) (by decide);have ens:=Pw.z0x hq hr;rw[show m / 10 ^ 60 * 10 ^ 60+m % 10 ^ 60=m by rw[Nat.mul_comm];exact hd] at ens;have zns:(Pw.ns (m:Int)).cps.size=(Pw.ns ((m / 10 ^ 60:Nat):Int)).cps.size+60:=by rw[ens,zO,zk]
 have hz:(Pw.ns ((m / 10 ^ 60:Nat):Int)).cps.size ≥ 0:=Z18 _;have ltr:(((m % 10 ^ 60:Nat)):Int).natAbs.log2<1920:=by
  rw[Int.natAbs_natCast];refine lgN ?_;exact Nat.lt_trans hr (by decide +kernel)
 have emod:(m:Int) % ((10:Int) ^ (Int.toNat 60))=((m % 10 ^ 60:Nat):Int):=by rw[e60];exact (Int.natCast_emod ..).symm
 have ediv:(m:Int).fdiv ((10:Int) ^ (Int.toNat 60))=((m / 10 ^ 60:Nat):Int):=by
  rw[e60,Z32 _ (by lia)];exact (Int.natCast_ediv ..).symm
 have ejn:=Pw.z7l hq hr (show m=m / 10 ^ 60 * 10 ^ 60+m % 10 ^ 60 by rw[Nat.mul_comm];exact hd.symm) us.reverse;rw[hj] at ejn;have hqm:m / 10 ^ 60<2 ^ 1990:=Nat.lt_trans hlt hm;generalize hQ:m / 10 ^ 60=q at *;generalize hRm:m % 10 ^ 60=r at *;refine⟨_,wN,?_⟩;subst hB;refine zG fun R2 hR2=>?_;refine⟨_,rfl,.inl ⟨rfl,_,zQ.of eb⟩,_,rfl,_,_,rfl,rfl,⟨by decide,by decide,by decide⟩,_,_,rfl,rfl,(by rw[e60];lia),(r:Int),congrArg (fun z=>[V.int z]) emod,ltr,rfl,r,rfl,rfl,hr,b,_,_,rfl,rfl,eb,?_,?_⟩;rw[ZB,sizeLine_eq];lia;show R2 [_,_] _;subst hR2;refine⟨_,rfl,_,_,rfl,rfl,⟨by decide,by decide,by decide⟩,_,_,rfl,rfl,?_,?_⟩;exact⟨by rw[e60];lia,by rw[e60];show (10 ^ 60:Nat)<2 ^ _;decide +kernel⟩;refine⟨⟨fun c o e=>by rw[zD (zo e m1)];exact sG _ _ e,q,us ++ [Pw.pkS 60 r],?_,hqm,?_,?_,?_,congrArg (fun z=>[some (V.int z),some (V.ref b)]) ediv⟩,?_⟩;rw[zh,Z15];rfl;intro u hu';rcases Z25.mp hu' with z | z;exact hu u z;rw[Z04.mp z,zk];exact Z03 _;rw[Z0M,Z37];lia;rw[List.reverse_append];exact ejn;show ((m:Int).fdiv ((10:Int) ^ (Int.toNat 60))).toNat<(m:Int).toNat;rw[ediv,Z2J,Z2J];exact hlt;show RR [_,_] _;subst hRR;have h:¬ ((10:Int) ^ (Int.toNat 60))<=(m:Int):=of_decide_eq_false h;rw[e60] at h;have h:m<10 ^ 60:=by lia
 have ltm:((m:Nat):Int).natAbs.log2<1920:=by
  rw[Int.natAbs_natCast];refine lgN ?_;exact Nat.lt_trans h (by decide +kernel)
 refine⟨_,rfl,.inl ⟨rfl,_,zQ.of eb⟩,_,rfl,(m:Int),rfl,ltm,b,_,_,rfl,rfl,eb,?_,?_⟩;rw[ZB,sizeLine_eq];lia;have m5:∀ z∈(us ++ [Pw.ns (m:Int)]).reverse,z.cps.size<=600:=fun z hz=>by
  rcases Z25.mp (List.mem_reverse.mp hz) with z' | z';exact Z11 (hu z z') (by decide);rw[Z04.mp z'];lia
 have zn:(Str.ofString "").cps.size=0:=by decide +kernel
 refine⟨_,rfl,b,us ++ [Pw.ns (m:Int)],rfl,?_,?_,Jp m5 ?_,?_⟩;rw[zh,Z15];rfl;rw[Z0M,Z37];lia;rw[List.length_reverse,Z0M,Z37,zn];have:us.length<=10:=by lia
 have:=Z5j (600+0) (show us.length+1<=11 by lia);lia;rw[List.reverse_append];show Q (.str (Txt.join (Str.ofString "") (Pw.ns (m:Int) :: us.reverse))) _;rw[hj];exact k _ fun c o e=>by rw[zD (zo e m1)];exact sG _ _ e
theorem Vy:zE ["number"] ["number"] (ze YC):=fs
theorem Uo(S:ZJ K mg "show_number" YC ["number"])(T:Txt mg)(Sf:Def P w K mg base 1 "show_figures" ["number"] V3):Def P w K mg base 2 "show_number" ["number"] J5:=S.def fun f fd F=>by
 refine F.ZM Vy fun nd cdv A' outer s H vs Q E hr h=>?_;obtain⟨n,rfl,hn,k⟩:=h;refine⟨_,(qc (qf (qk Ys (qv 0) qi) (q1 (qr (qo zT qw (qd Sf (qa ⟨z3b jQ (pv 0)⟩ qn))))) q0) (q1 (qr (qd Sf (qa (qv 0) qn))))),?_⟩;refine⟨_,rfl,_,_,rfl,rfl,_,rfl,ZN (decide_eq_false (by lia)) ?_⟩;exact⟨_,rfl,n,rfl,hn,k⟩
theorem vf:zE ["fraction"] ["fraction"] (ze yP):=fs
theorem vX(S:ZJ K mg "show_fraction" yP ["fraction"])(T:Txt mg)(Sn:Def P w K mg base 2 "show_number" ["number"] J5):Def P w K mg base 3 "show_fraction" ["fraction"] (z3G K):=S.def fun f fd F=>by
 refine F.ZM vf fun nd cdv A' outer s H vs Q E hr h=>?_;obtain⟨p,A,rfl,hA,h1,h2,zA,k⟩:=h;refine⟨_,(q1 (qr (qo zT (qo zT (qd Sn (qa (qx zF (qv 0) qi) qn)) qw) (qd Sn (qa (qx zF (qv 0) qi) qn))))),?_⟩;obtain⟨a1,a2⟩:=A;obtain⟨m1,rfl⟩:∃ m:Nat,a1=(m:Int):=⟨a1.toNat,by simp only at h1;lia⟩;obtain⟨m2,rfl⟩:∃ m:Nat,a2=(m:Int):=⟨a2.toNat,by simp only at h2;lia⟩;have b1:m1<2 ^ 1990:=Z13 (show m1<2 ^ 1983 from zA.1) (Z3a (by decide) (by decide));have b2:m2<2 ^ 1990:=Z13 (show m2<2 ^ 1983 from zA.2) (Z3a (by decide) (by decide));have z1:=xM b1;have z2:=xM b2;have zg:(Str.ofString "/").cps.size=1:=by decide +kernel
 refine⟨_,rfl,p,_,_,_,rfl,rfl,hA,rfl,m1,rfl,b1,fun G s=>⟨_,_,rfl,rfl,(by rw[Zq,Zq,sizeLine_eq];lia),?_⟩⟩;refine⟨_,rfl,p,_,_,_,rfl,rfl,xw.same hA s,rfl,m2,rfl,b2,fun G2 s2=>⟨_,_,rfl,rfl,(by rw[Zq,Zq,zO,sizeLine_eq];lia),k G2 (s.trans s2)⟩⟩
theorem z5p:zE ["pages"] ["pages"] (ze Qd):=fs
theorem z6h(S:ZJ K mg "parted" Qd ["pages"])(T:Txt mg)(zstr:mg "str"=none):Def P w K mg base 1 "parted" ["pages"] (z3j K):=S.def fun f fd F=>by
 refine F.ZM z5p fun nd cdv A' outer s H vs Q E hr h=>?_;obtain⟨L,l,rfl,hL,l12,hx,k⟩:=h;refine⟨_,(q1 (qr (qm Z1G Z55 PySem.F.type_str_join (VC (K:=K) rfl) qw (qa (qG (ze Qd) ["page"] [none] (qL (qv 0)) trivial (fun _ _ _ _ _ _=>(qg 0)) (fun _ _ _ _ _=>qV) (fun _ _ _ _ _=>(qY zU zstr boot_str (qa (qv 0) qn)))) qn)))),?_⟩;have lg:∀ i:Int,0<=i->i<100->i.natAbs.log2<1920:=fun i h0 h1=>Z29 (Z46 _) (by lia);refine⟨rfl,_,rfl,L,rfl,⟨_,hL⟩,fun D hD=>?_⟩;refine Z0 (K:=K) (a:=L) (D:=D) (xs:=l.map V.int) (fun i ys σ G=>zC H G/\G D=some (.lst ys)/\ys=((l.take i).map Pw.ns).map V.str/\∃ v,σ=[v]) ?_ ?_ ?_ ?_;exact⟨zC.new hD,zh,rfl,none,rfl⟩;rintro i ys σ G ⟨sG,e,_⟩;exact⟨sG.seq hL,e⟩
 · rintro i u ys σ G hu hi ⟨sG,eD,rfl,v,rfl⟩
   rw[ZB] at hi;rw[Z14,Z01 hi] at hu;cases hu;have b:=hx _ (Z26 hi);dsimp only [Zs];refine yL rfl ?_;refine⟨_,rfl,l[i],rfl,lg _ b.1 b.2,eD,(by rw[ZB,ZB,Z20,sizeLine_eq];lia),Wt.next (by rw[ZB];exact hi) ⟨fun b o e=>by rw[zD (zo e hD)];exact sG _ _ e,zh,?_,_,rfl⟩⟩;rw[Z31,Z01 hi,Z15,Z15];rfl
 rintro ys σ G ⟨sG,eD,rfl,_⟩;rw[ZB,Z0A (Z03 _)] at eD;have m5:∀ z∈l.map Pw.ns,z.cps.size<=6:=fun z h=>by
  obtain⟨p,hp,rfl⟩:=Z17.mp h;have r:=hx p hp;have z1:=zZ r.1 (show p<=99 by lia);show (Str.ofString (toString p)).cps.size<=6;lia
 have zn:(Str.ofString " ").cps.size=1:=by decide +kernel
 refine⟨_,D,_,rfl,rfl,zQ.of eD,Jp m5 ?_,?_⟩;rw[ZB,zn];lia;exact k G sG
theorem Ul:zE ["live","page"] ["live","page"] (ze xg):=fs
theorem je(S:ZJ K mg "check_page" xg ["live","page"])(T:Txt mg)(LT:LvT K C)(Wl:Z1 P w K mg base yk 1 C "web" ["self"] (QS K C)):Def P w K mg base 2 "check_page" ["live","page"] (z1u K C):=S.def fun f fd F=>by
 refine F.ZM Ul fun nd cdv A' outer s H vs Q E hr h=>?_;obtain⟨p,pd,lp,W,Ws,x,rfl,l,hx,k⟩:=h;refine⟨_,(q1 (qf (qk Jz (qv 1) (qx zF (q2 (qv 0) LT.cl Wl) qi)) (q1 ⟨ZA⟩) q0)),?_⟩;obtain⟨now,us,lv,hw,hs⟩:=id l;obtain⟨⟨dx,h1⟩,h2⟩:=id lv;refine⟨_,rfl,_,rfl,p,dx,_,rfl,h1,YH _ _ _ (by decide +kernel) (by decide +kernel) (by decide +kernel),p,pd,lp,W,Ws,rfl,l,fun a ha=>?_⟩;obtain⟨t,ws,ea,et,hp⟩:=id ha;refine⟨a,_,_,_,rfl,rfl,zX.of ea,rfl,_,_,rfl,rfl,_,rfl,ZN (decide_eq_false (by lia)) ?_⟩;exact k H (zC.refl _)
theorem z1b:zE ["live","pages"] ["live","pages"] (ze qq):=fs
theorem z2q(S:ZJ K mg "say_link" qq ["live","pages"])(T:Txt mg)(LT:LvT K C)(mD:mg "DONE"=some (.str Jv tD))(Li:Z1 P w K mg base yk 5 C "link" ["self","one","other"] (z4l K C)):Def P w K mg base 6 "say_link" ["live","pages"] (Xd K C):=S.def fun f fd F=>by
 refine F.ZM z1b fun nd cdv A' outer s H vs Q E hr h=>?_;obtain⟨p,pd,lp,L,W,Ws,x,y,rfl,eL,l,hz,hb,few,k⟩:=h;refine⟨_,(qc (qX (qM (qv 0) LT.cl Li (qa (qx zK (qv 1) qi) (qa (qx zK (qv 1) qi) qn)))) (q1 (qr ⟨yf (v:=.str Jv) (by rfl) mD ⟨_,rfl⟩⟩))),?_⟩;obtain⟨now,us,lv,hw,hs⟩:=id l;obtain⟨⟨dx,h1⟩,h2⟩:=id lv;refine⟨_,rfl,p,dx,_,rfl,h1,YH _ _ _ (by decide +kernel) (by decide +kernel) (by decide +kernel),_,rfl,L,_,_,_,rfl,rfl,zQ.of eL,rfl,_,rfl,L,_,_,_,rfl,rfl,zQ.of eL,rfl,p,pd,lp,W,Ws,x,y,rfl,l,hz,hb,few,fun G ms pm pw l2 k2=>?_⟩;exact k G ms pm pw l2 k2
theorem z0n:zE ["live","pages"] ["live","pages"] (ze X6):=fs
theorem z1R(S:ZJ K mg "say_undo" X6 ["live","pages"])(T:Txt mg)(LT:LvT K C)(mD:mg "DONE"=some (.str Jv tD))(Ud:Z1 P w K mg base yk 1 C "undo" ["self"] (jU K C)):Def P w K mg base 2 "say_undo" ["live","pages"] (Xk K C):=S.def fun f fd F=>by
 refine F.ZM z0n fun nd cdv A' outer s H vs Q E hr h=>?_;obtain⟨p,pd,lp,L,W,W0,Ws0,rfl,l,k⟩:=h;refine⟨_,(q1 (qr (q8 (qp (q2 (qv 0) LT.cl Ud)) ⟨yf (v:=.str Jv) (by rfl) mD ⟨_,rfl⟩⟩ qw))),?_⟩;obtain⟨now,us,lv,hw,hs⟩:=id l;obtain⟨⟨dx,h1⟩,h2⟩:=id lv;refine⟨_,rfl,p,dx,_,rfl,h1,YH _ _ _ (by decide +kernel) (by decide +kernel) (by decide +kernel),p,pd,lp,W,_,rfl,l,fun z=>?_,fun W' Ws' z G l2 k2=>?_⟩;exact absurd z (by simp);obtain⟨rfl,rfl⟩:Ws'=Ws0/\W'=W0:=by
  have:=List.append_inj' z rfl;exact⟨this.1.symm,(Z5k this.2).1.symm⟩
 refine⟨_,rfl,yL rfl ?_⟩;exact k G l2 k2
theorem z0G:zE ["live","pages"] ["live","pages"] (ze XO):=fs
theorem z2z(S:ZJ K mg "say_show" XO ["live","pages"])(T:Txt mg)(LT:LvT K C)(Wl:Z1 P w K mg base yk 1 C "web" ["self"] (QS K C))(Sw:Def P w K mg base 1 "show_web" ["web"] (Y7 K)):Def P w K mg base 2 "say_show" ["live","pages"] (QU K C):=S.def fun f fd F=>by
 refine F.ZM z0G fun nd cdv A' outer s H vs Q E hr h=>?_;obtain⟨p,pd,lp,L,n,ps,Ws,A,rfl,lv,k⟩:=h;refine⟨_,(q1 (qr (qd Sw (qa (q2 (qv 0) LT.cl Wl) qn)))),?_⟩;obtain⟨now,us,lv',hw,hs⟩:=id lv.l;obtain⟨⟨dx,h1⟩,h2⟩:=id lv';have n12:=lv.n12;refine⟨_,rfl,p,dx,_,rfl,h1,YH _ _ _ (by decide +kernel) (by decide +kernel) (by decide +kernel),p,pd,lp,_,Ws,rfl,lv.l,fun a ha=>?_⟩;exact⟨a,(n:Int),ps,rfl,ha,by lia,by lia,lv.few,lv.rng,k⟩
open L2
theorem jM:zE ["live","pages"] ["live","pages"] (ze xO):=fs
theorem JG(S:ZJ K mg "say_share" xO ["live","pages"])(T:Txt mg)(LT:LvT K C)(Cp:Def P w K mg base 2 "check_page" ["live","page"] (z1u K C))(Sh:Z1 P w K mg base yk 7 C "shares" ["self"] (UP K C))(Sr:Def P w K mg base 3 "show_fraction" ["fraction"] (z3G K)):Def P w K mg base 8 "say_share" ["live","pages"] (xr K C):=S.def fun f fd F=>by
 refine F.ZM jM fun nd cdv A' outer s H vs Q E hr h=>?_;obtain⟨p,pd,lp,L,n,c,ps,Ws,A,rfl,eL,lv,hc,k⟩:=h;refine⟨_,(qc (qX (qd Cp (qa (qv 0) (qa (qx zK (qv 1) qi) qn)))) (q1 (qr (qd Sr (qa (qx zF (q2 (qv 0) LT.cl Sh) (qx zK (qv 1) qi)) qn))))),?_⟩;obtain⟨now,us,lv',hw,hs⟩:=id lv.l;obtain⟨⟨dx,h1⟩,h2⟩:=id lv';have n12:=lv.n12;have few:=lv.few;refine⟨_,rfl,_,rfl,L,_,_,_,rfl,rfl,zQ.of eL,rfl,p,pd,lp,_,Ws,(c:Int),rfl,lv.l,by show (c:Int)<(n:Int);lia,fun G1 s1=>?_⟩;refine⟨_,rfl,p,dx,_,rfl,s1 _ _ h1,YH _ _ _ (by decide +kernel) (by decide +kernel) (by decide +kernel),p,pd,lp,n,ps,Ws,A,rfl,lv.l.same s1,lv.n1,n12,by lia,lv.rng,s1 _ _ lv.fA,lv.ca,lv.a0,lv.a1,lv.sA,fun t G2 Ss ys ok sz s2 e2 f2=>?_⟩;have l8:=ok.len;have mS:=mem_getD (Bs:=Ss) (t:=c) (by lia);obtain⟨px,ex,fx⟩:=f2.at (j:=c) (A:=Ss.getD c (0,1)) (by rw[Z02,Z01 (by lia)];rfl);have cS:=(ok.canon _ mS).1;have nS:=ok.nn _ mS;refine⟨_,rfl,L,_,_,_,rfl,rfl,zQ.of (s2 _ _ (s1 _ _ eL)),rfl,t,_,_,_,rfl,rfl,zX.of e2,z8 ex,px,Ss.getD c (0,1),rfl,xw.of fx,nS,by lia,sz _ mS,fun G3 s3=>k G3 Ss ok sz (s1.trans (s2.trans s3))⟩
theorem Jy:zE ["live","pages"] ["live","pages"] (ze qC):=fs
theorem z2l(S:ZJ K mg "say_rank" qC ["live","pages"])(T:Txt mg)(LT:LvT K C)(Rk:Z1 P w K mg base yk 8 C "ranked" ["self"] (UR K C tb posR))(Pt:Def P w K mg base 1 "parted" ["pages"] (z3j K)):Def P w K mg base 9 "say_rank" ["live","pages"] (vj K C tb posR):=S.def fun f fd F=>by
 refine F.ZM Jy fun nd cdv A' outer s H vs Q E hr h=>?_;obtain⟨p,pd,lp,L,n,ps,Ws,A,rfl,lv,tab,k⟩:=h;refine⟨_,(q1 (qr (qd Pt (qa (q2 (qv 0) LT.cl Rk) qn)))),?_⟩;obtain⟨now,us,lv',hw,hs⟩:=id lv.l;obtain⟨⟨dx,h1⟩,h2⟩:=id lv';have few:=lv.few;have n12:=lv.n12;refine⟨_,rfl,p,dx,_,rfl,h1,YH _ _ _ (by decide +kernel) (by decide +kernel) (by decide +kernel),p,pd,lp,n,ps,Ws,A,rfl,lv.l,lv.n1,n12,by lia,lv.rng,lv.fA,lv.ca,lv.a0,lv.a1,lv.sA,tab,fun D G1 Ss r ok rk kp mD eD tab1=>?_⟩;have hr2:z8O r=(r.map fun (k:Nat)=>(k:Int)).map V.int:=by unfold z8O;rw[Z57];rfl
 have lr:r.length=n:=by rw[rk.pm.length_eq,Z2I]
 refine⟨D,_,rfl,zQ.of (by rw[eD,hr2]),by rw[ZB];lia,fun x hx=>?_,fun G2 s2=>k G2 Ss r ok rk (kp.trans (zC.kpd s2)) (tab1.same s2)⟩;obtain⟨m,hm,rfl⟩:=Z17.mp hx;have:=Z23.mp (rk.pm.mem_iff.mp hm);lia
theorem z0J:zE ["live","pages","web","places","chosen"] ["live","pages"] (ze X8):=fs
theorem z1x(S:ZJ K mg "say_pass" X8 ["live","pages"])(T:Txt mg)(LT:LvT K C)(mM:mg "MOST_PLACES"=some (.int 6 tM))(zmin:mg "min"=none)(Cp:Def P w K mg base 2 "check_page" ["live","page"] (z1u K C))(Wl:Z1 P w K mg base yk 1 C "web" ["self"] (QS K C))(Ev:Def P w K mg base 3 "even" ["web"] (Vm K))(Ll:Def P w K mg base 14 "least_links" ["web","leap","leaps","one","other","places"] (Qe K))(Pt:Def P w K mg base 1 "parted" ["pages"] (z3j K)):Def P w K mg base 15 "say_pass" ["live","pages"] (vq K C):=S.def fun f fd F=>by
 refine F.ZM z0J fun nd cdv A' outer s H vs Q E hr h=>?_;obtain⟨p,pd,lp,L,n,x,y,ps,Ws,A,rfl,eL,lv,hx,hy,hxy,few,k⟩:=h;refine⟨_,(qc (qX (qd Cp (qa (qv 0) (qa (qy (z4Z rfl) T.max boot_max (qa (qv 1) qn)) qn)))) (qc (qf (qk ya (qx zK (qv 1) qi) (qx zK (qv 1) qi)) (q1 ⟨ZA⟩) q0) (qc (qs 2 (q2 (qv 0) LT.cl Wl)) (qc (qs 3 ⟨j3 rfl rfl T.lst rfl T.range (@zB _ _ _ _ _ (by rfl) (yI (U6 rfl) (by rfl) zmin boot_min (@zB _ _ _ _ _ (by rfl) (yf (v:=.int 6) (by rfl) mM ⟨_,rfl⟩) (@zB _ _ _ _ _ (by rfl) (ZD zF (pv 2) zP (fun _ _=>rfl)) zJ))) zJ)⟩) (qc (qs 4 (qd Ll (qa (qv 2) (qa (qD (qv 0)) (qa (qd Ev (qa (qv 2) qn)) (qa (qx zK (qv 1) qi) (qa (qx zK (qv 1) qi) (qa (qv 3) qn)))))))) (qc (qf (qk Z1e (qv 4) ⟨z6M⟩) (q1 (qr qw)) q0) (q1 (qr (q8 ⟨UG (fun _=>rfl) (pv 4)⟩ (qd Pt (qa (qv 4) qn)) qw))))))))),?_⟩;refine zG fun RR hRR=>?_;obtain⟨now,us,lv',hw,hs⟩:=id lv.l;obtain⟨⟨dx,h1⟩,h2⟩:=id lv';have n12:=lv.n12;have hL2:H L=some (.lst ([(x:Int),(y:Int)].map V.int)):=eL;refine⟨_,rfl,_,rfl,L,_,rfl,hL2,(by simp),fun m hm hm2=>?_⟩;have hmx:m<(n:Int):=by
  rcases Z0z.mp hm with z | z;lia;have:=Z04.mp z;lia
 refine⟨p,pd,lp,_,Ws,m,rfl,lv.l,hmx,fun G1 s1=>?_⟩;show RR [_,_,_,_,_] _;subst hRR;refine zG fun RR hRR=>?_;refine⟨_,rfl,L,_,_,_,rfl,rfl,zQ.of (s1 _ _ eL),rfl,_,rfl,L,_,_,_,rfl,rfl,zQ.of (s1 _ _ eL),rfl,rfl,_,rfl,ZN (decide_eq_false (fun z=>by injection z with z;lia)) ?_⟩;show RR [_,_,_,_,_] _;subst hRR;refine zG fun RR hRR=>?_;refine⟨_,rfl,p,dx,_,rfl,s1 _ _ h1,YH _ _ _ (by decide +kernel) (by decide +kernel) (by decide +kernel),p,pd,lp,_,Ws,rfl,lv.l.same s1,fun wa hwa=>?_⟩;show RR [_,_,_,_,_] _;have hwa:ZX K G1 wa (n:Int) ps:=hwa;obtain⟨t,ws,ea,et,hp⟩:=id hwa;subst hRR;refine zG fun RR hRR=>?_;have emin:(if (n:Int)<6 then (n:Int) else 6)=((min 6 n:Nat):Int):=by split <;> lia
 refine⟨_,rfl,wa,_,_,_,rfl,rfl,zX.of ea,rfl,6,(n:Int),rfl,min 6 n,congrArg (fun z=>[V.int z]) emin,by lia,fun pl G2 s2 m2 e2=>?_⟩;show RR [_,_,_,_,_] _;subst hRR;refine zG fun RR hRR=>?_;have s12:=s1.trans s2;have e2':G2 pl=some (.lst ((oiL (List.range (min 6 n))).map V.int)):=by rw[e2];unfold oiL;rw[Z57];rfl
 refine⟨_,rfl,_,rfl,p,C,dx,_,_,rfl,s12 _ _ h1,LT.cl,LT.nL,Qh _ _ _,_,rfl,wa,n,_,rfl,s2 _ _ ea,lv.n1,n12,fun ev G3 vs s3 e3 f3=>?_⟩;have s13:=s12.trans s3;refine⟨_,rfl,L,_,_,_,rfl,rfl,zQ.of (s13 _ _ eL),rfl,_,rfl,L,_,_,_,rfl,rfl,zQ.of (s13 _ _ eL),rfl,_,rfl,?_⟩;refine yj ?_;show Qe K [.ref wa,.ref lp,.ref ev,.int (x:Int),.int (y:Int),.ref pl] G3 _ _;have lo:(oiL (List.range (min 6 n))).length=min 6 n:=by unfold oiL;rw[ZB,Z2I]
 have pwo:(oiL (List.range (min 6 n))).Pairwise (·<=·):=by
  unfold oiL;rw[List.pairwise_map];exact List.pairwise_lt_range.imp fun {a b} h=>by lia
 refine z6D (vg (hwa.same (s2.trans s3)) (by have:=lv.few;lia) lv.rng (s13 _ _ lv.fA) lv.ca lv.a0 lv.a1 lv.sA lv.n1 n12 e3 f3) hx hy (by rw[lo];lia) (s3 _ _ e2') (by rw[lo];lia) (fun r hr=>?_) (List.Perm.refl _) pwo fun fv G4 o s4 hF hLs nf=>?_;obtain⟨m,hm,rfl⟩:=Z17.mp hr;have:=Z23.mp hm;lia;show RR [_,_,_,_,_] _;subst hRR;refine zG fun RR hRR=>?_;have sall:=s13.trans s4;rcases hF with⟨rfl,rfl⟩|⟨b,row,rfl,rfl,eb⟩;exact⟨_,rfl,rfl,_,rfl,yL rfl (k G4 none hLs sall)⟩;refine⟨_,rfl,rfl,_,rfl,ZN rfl ?_⟩;show RR [_,_,_,_,_] _;subst hRR;have sub:=hLs.sub.1;have lrow:=sub.length_le;rw[lo] at lrow;refine⟨_,rfl,_,.inl ⟨_,zQ.of eb,rfl⟩,?_⟩;cases row with
 | nil=>exact ZN rfl (k G4 _ hLs sall)
 | cons r0 row =>
   refine yL rfl ⟨_,rfl,b,r0 :: row,rfl,zQ.of eb,by lia,fun q hq=>?_,fun G5 s5=>k G5 _ hLs (sall.trans s5)⟩;obtain⟨m,hm,rfl⟩:=Z17.mp (sub.subset hq);have:=Z23.mp hm;lia
open L2
theorem Z1C:zE ["thing"] ["thing"] (ze z8e):=fs
theorem z4S(S:ZJ K mg "is_leap" z8e ["thing"])(T:Txt mg)(If:Def P w K mg base 3 "is_fraction" ["thing"] (jk K)):Def P w K mg base 4 "is_leap" ["thing"] (UA K):=S.def fun f fd F=>by
 refine F.ZM Z1C fun nd cdv A' outer s H vs Q E hr h=>?_;obtain⟨p,A,rfl,hA,hA2,k⟩:=h;refine⟨_,(q1 (qr (q4 (qd If (qa (qv 0) qn)) (q6 ⟨Qm Ys z0K zP (ZD zF (pv 0) zP (fun _ _=>rfl)) (ZD zF (pv 0) zP (fun _ _=>rfl)) (by with_unfolding_all rfl)⟩)))),?_⟩;obtain⟨c1,c2,c3,c4⟩:=hA2;refine⟨_,rfl,p,A,rfl,hA,_,rfl,?_⟩;rw[decide_eq_true ⟨c1,c2⟩];refine yL rfl ?_;refine⟨_,rfl,p,_,_,_,rfl,rfl,hA,rfl,_,_,rfl,rfl,_,rfl,?_⟩;rw[decide_eq_true c3];refine yL rfl ⟨_,rfl,p,_,_,_,rfl,rfl,hA,rfl,_,_,rfl,rfl,?_⟩;show Q (.bl (decide (A.1<=A.2))) H;rw[decide_eq_true c4];exact k
theorem jJ:zE ["text","leap"] ["text"] (ze xK):=fs
theorem z0E(S:ZJ K mg "read_leap" xK ["text"])(T:Txt mg)(Rf:Def P w K mg base 4 "read_fraction" ["text"] (JL K))(Ip:Def P w K mg base 4 "is_leap" ["thing"] (UA K)):Def P w K mg base 5 "read_leap" ["text"] (z3A K):=S.def fun f fd F=>by
 refine F.ZM jJ fun nd cdv A' outer s H vs Q E hr h=>?_;obtain⟨A,rfl,ca,a0,a1,a13,k⟩:=h;refine⟨_,(qc (qs 1 (qd Rf (qa (qv 0) qn))) (qc (qf (qT (qp (qd Ip (qa (qv 1) qn)))) (q1 ⟨ZA⟩) q0) (q1 (qr (qv 1))))),?_⟩;have cg:=ca.2;have fx:=Pw.z8x (A:=A) ⟨by lia,by lia⟩ ⟨by lia,a13⟩ cg;have zx:=z0c (A:=A) ⟨by lia,by lia⟩ ⟨by lia,by lia⟩;refine⟨_,rfl,Pw.Ju A,A,rfl,by lia,fx,fun p2 G1 s1 f1=>?_⟩;refine⟨_,rfl,p2,A,rfl,xw.of f1,⟨by lia,cg,a0,a1⟩,_,rfl,ZN rfl ?_⟩;exact⟨_,rfl,k p2 G1 s1 f1⟩
theorem z0W:zE ["live","words","some","pages","answer"] ["live","words"] (ze Yd):=fs
theorem z2N(S:ZJ K mg "answered" Yd ["live","words"])(T:Txt mg)(zall:mg "all"=none)(mA:mg "ANSWERS"=some (.ref zA))(dc:DcK w K zA fz)(Fi:Def P w K mg base 1 "are_figures" ["text","most"] z0d):Def P w K mg base 17 "answered" ["live","words"] (XW P w K mg base 16 fz):=S.def fun f fd F=>by
 refine F.ZM z0W fun nd cdv A' outer s H vs Q E hr h=>?_;obtain⟨p,x,hd,ws,t,f',fd',sp,rfl,x8,spl,wb,w2,ft,ht,hk,hb,F',k⟩:=h;refine⟨_,(qc (qs 2 (qm Z1G Z2M Z4i Yg (qv 1) (qa qw qn))) (qc (qs 3 (q9 Yx (qv 2) (qQ qi) qK)) (qc (qf (qW (qO (qk z4w (qx zK (qv 2) qi) ⟨yf (v:=.ref zA) (by rfl) mA rfl⟩) (qP (qT (qp (qy (Qk rfl) zall boot_all (qa (qG (ze Yd) ["each"] [none] (qL (qv 3)) trivial (fun _ _ _ _ _ _=>(qg 0)) (fun _ _ _ _ _=>qV) (fun _ _ _ _ _=>(qd Fi (qa (qv 0) (qa qi qn))))) qn))))))) (q1 ⟨ZA⟩) q0) (qc (qs 4 ⟨z7N (yf (v:=.ref zA) (by rfl) mA rfl) (ZD zK (pv 2) zP (fun _ _=>rfl)) (fun _ _=>rfl)⟩) (qc (qf (qk vL (qy z0 T.len Z2O (qa (qv 3) qn)) (qx zF (qv 4) qi)) (q1 ⟨ZA⟩) q0) (q1 (qr ⟨z5I hr (ZD zF (pv 4) zP (fun _ _=>rfl)) (@zB _ _ _ _ _ (by rfl) (pv 0) (@zB _ _ _ _ _ (by rfl) (Z5 ["each"] [none] rfl (@Vg _ _ _ _ (pv 3)) (by show ∀ y:Str×NameKind,y∈_->y.2=NameKind.free->(ze Yd).names.lookup y.1=some .cell;decide +kernel) (by decide) rfl (by decide +kernel) trivial (fun cl C s H fp=>(Zo (i:=0) (show (["each"]:List Str).Nodup by decide +kernel) rfl (Or.inl rfl) (.inr rfl))) (fun cl C s H fp=>yE) (fun cl C s H fp=>(YV ZI (by rfl) T.int boot_int (@zB _ _ _ _ _ (by rfl) (pv 0) zJ)))) zJ))⟩))))))),?_⟩;refine zG fun RR hRR=>?_;refine⟨_,rfl,rfl,x,32,rfl,vI z7F,x8,fun so G1 s1 m1 e1=>?_⟩;rw[spl] at e1;show RR [_,_,_,_,_] _;subst hRR;refine zG fun RR hRR=>?_;refine⟨_,rfl,1,rfl,so,_,rfl,zQ.of e1,fun pg hpg=>?_⟩;have s2:zC G1 (upd G1 pg (.lst (ZQ (List.map V.str (hd :: ws.map Pw.ns)) (some 1) none))):=zC.new hpg;have e2:(upd G1 pg (.lst (ZQ (List.map V.str (hd :: ws.map Pw.ns)) (some 1) none))) pg=some (.lst ((ws.map Pw.ns).map V.str)):=by
  rw[zh];have:=Z3j (xs:=List.map V.str (hd :: ws.map Pw.ns)) (i:=0) (by simp);rw[show (((0:Nat):Int)+1)=1 from rfl] at this;rw[this];rfl
 generalize upd G1 pg (.lst (ZQ (List.map V.str (hd :: ws.map Pw.ns)) (some 1) none))=G2 at s2 e2;show RR [_,_,_,_,_] _;subst hRR;refine zG fun RR hRR=>?_;have e1':=s2 _ _ e1;have lw:((ws.map Pw.ns).map V.str).length=ws.length:=by rw[ZB,ZB]
 refine⟨_,rfl,so,_,_,.str hd,rfl,rfl,zQ.of e1',z8 (j:=0) rfl,hd,zA,fz,rfl,rfl,dc,_,rfl,?_⟩;rw[ft];refine ZN rfl ?_;refine⟨_,rfl,pg,rfl,⟨_,zQ.of e2⟩,fun D hD=>?_⟩;refine Z0 (K:=K) (a:=pg) (D:=D) (xs:=(ws.map Pw.ns).map V.str) (fun i ys σ G=>zC G2 G/\G D=some (.lst ys)/\ys=List.replicate i (V.bl true)/\∃ v,σ=[v]) ?_ ?_ ?_ ?_;exact⟨zC.new hD,zh,rfl,none,rfl⟩;rintro i ys σ G ⟨sG,e,_⟩;exact⟨zQ.of (sG _ _ e2),e⟩
 · rintro i u ys σ G hu hi ⟨sG,eD,rfl,v,rfl⟩
   rw[lw] at hi;rw[Z14,Z14,Z01 hi] at hu;cases hu;have b:=wb _ (Z26 hi);obtain⟨fg,sz⟩:=z2h b.1 b.2;dsimp only [Zs];refine yL rfl ?_;refine⟨_,rfl,Pw.ns ws[i],2,rfl,by lia,by decide,fun G' s'=>?_⟩;rw[decide_eq_true fg];have eD':=s' _ _ eD;refine⟨eD',(by rw[Z4r,sizeLine_eq];lia),Wt.next (by rw[lw];exact hi) ⟨fun b o e=>by rw[zD (zo e hD)];exact s' _ _ (sG _ _ e),zh,?_,_,rfl⟩⟩;rw[List.replicate_succ']
 rintro ys σ G3 ⟨s3,e3,rfl,_⟩;rw[lw] at e3;have ha:(List.replicate ws.length true).all id=true:=by simp
 refine⟨D,List.replicate ws.length true,rfl,zQ.of (by rw[e3,List.map_replicate]),_,rfl,?_⟩;rw[ha];refine ZN rfl ?_;show RR [_,_,_,_,_] _;subst hRR;refine zG fun RR hRR=>?_;have e2':=s3 _ _ e2;refine⟨_,rfl,so,_,_,.str hd,rfl,rfl,zQ.of (s3 _ _ e1'),z8 (j:=0) rfl,zA,hd,fz,t,rfl,rfl,dc,ft,?_⟩;show RR [_,_,_,_,_] _;subst hRR;refine zG fun RR hRR=>?_;refine⟨_,rfl,pg,_,rfl,.inl (zQ.of e2'),_,rfl,t,_,_,_,rfl,rfl,ht _,rfl,rfl,_,rfl,ZN (by rw[lw];simp) ?_⟩;show RR [_,_,_,_,_] _;subst hRR;refine⟨_,rfl,t,_,_,_,rfl,rfl,ht _,rfl,f',fd',_,sp,rfl,hk,hb,F',_,rfl,_,rfl,pg,rfl,⟨_,zQ.of e2'⟩,fun D2 hD2=>?_⟩;have sH:=s1.trans (s2.trans s3);refine Z0 (K:=K) (a:=pg) (D:=D2) (xs:=(ws.map Pw.ns).map V.str) (fun i ys σ G=>zC G3 G/\G D2=some (.lst ys)/\ys=(ws.take i).map V.int/\∃ v,σ=[v]) ?_ ?_ ?_ ?_;exact⟨zC.new hD2,zh,rfl,none,rfl⟩;rintro i ys σ G ⟨sG,e,_⟩;exact⟨zQ.of (sG _ _ e2'),e⟩
 · rintro i u ys σ G hu hi ⟨sG,eD,rfl,v,rfl⟩
   rw[lw] at hi;rw[Z14,Z14,Z01 hi] at hu;cases hu;have b:=wb _ (Z26 hi);obtain⟨fg,sz⟩:=z2h b.1 b.2;dsimp only [Zs];refine yL rfl ?_;refine⟨_,rfl,Pw.ns ws[i],ws[i],rfl,z1C b.1 b.2,by lia,eD,(by rw[ZB,Z20,sizeLine_eq];lia),Wt.next (by rw[lw];exact hi) ⟨fun b o e=>by rw[zD (zo e hD2)];exact sG _ _ e,zh,?_,_,rfl⟩⟩;rw[Z31,Z01 hi,Z15];rfl
 rintro ys σ G4 ⟨s4,e4,rfl,_⟩;rw[lw,Z0A (Z03 _)] at e4;exact k D2 G4 (sH.trans s4) (sH.free hD2) e4
open L2
theorem J9:zE ["self"] ["self"] (ze X7):=fs
theorem z9m(S:MkF K mg Cd "Desk" "Desk.__init__" X7 ["self"])(T:Txt mg)(DT:DkT K Cd)(Mk:MkD P w K mg base yk 1 C "Live" ["self","web","leap"] (Yy C)):MkD P w K mg base yk 3 Cd "Desk" ["self"] (z0X K C Cd):=S.def fun f fd F=>by
 refine F.ZM J9 fun nd cdv A' outer s H vs Q E hr h=>?_;obtain⟨d,dx,rfl,hd,k⟩:=h;refine⟨_,(q1 (q3 (qv 0) ⟨uu (by rfl) (by rfl) (by rfl) (by decide) Mk (hr.mono (by decide)) xE (@zB _ _ _ _ _ (by rfl) (@Xu _ _ _ _ _ (@zB _ _ _ _ _ (by rfl) zP (@zB _ _ _ _ _ (by rfl) (@Xu _ _ _ _ _ zJ) zJ))) (@zB _ _ _ _ _ (by rfl) (@Xu _ _ _ _ _ (@zB _ _ _ _ _ (by rfl) zP (@zB _ _ _ _ _ (by rfl) zP zJ))) zJ))⟩)),?_⟩;refine⟨zl0,fun t0 G1 s1 m1 e1=>⟨zl2,fun wa G2 s2 m2 e2=>⟨zl2,fun lp G3 s3 m3 e3=>?_⟩⟩⟩;have s13:=s1.trans (s2.trans s3);have hw:ZX K G3 wa 1 []:=⟨t0,[],s3 _ _ e2,s3 _ _ (s2 _ _ e1),Xa⟩;refine yj ?_;show ∀ x dx,G3 x=none->G3 dx=none->dx≠x->Yy C [.ref x,.ref wa,.ref lp] _ _ _;refine Q9 (W:=(1,[])) hw fun p pd G4 mp mpd l4 s4=>?_;have hd4:=s4 _ _ (s13 _ _ hd);have np:p≠d:=Z4q (zo (s13 _ _ hd) mp);have npd:pd≠d:=Z4q (zo (s13 _ _ hd) mpd);refine⟨rfl,_,rfl,d,Cd,dx,_,rfl,hd4,DT.cl,DT.nL,(by show 0<1000;decide),?_⟩;refine k p pd lp _ (s13.free mp) (s13.free mpd) ⟨dx,zh⟩ (l4.Z1I hd4 np npd) ((z2b hd4).tup _ _ (s4 _ _ e3)) fun b o e nb=>?_;rw[zD nb];exact s4 _ _ (s13 _ _ e)
theorem z2s:zE ["self","words"] ["self","words"] (ze Q8):=fs
theorem Z3m(S:vZ K Cd "say" "Desk.say" Q8 ["self","words"])(T:Txt mg)(LT:LvT K C)(DT:DkT K Cd)(zstr:mg "str"=none)(mD:mg "DONE"=some (.str Jv tD))(Mk:MkD P w K mg base yk 1 C "Live" ["self","web","leap"] (Yy C))(Wl:Z1 P w K mg base yk 1 C "web" ["self"] (QS K C))(Rw:Def P w K mg base 6 "read_web" ["text"] (z3Q K))(Rl:Def P w K mg base 5 "read_leap" ["text"] (z3A K))(An:Def P w K mg base 17 "answered" ["live","words"] (XW P w K mg base 16 fz)):Z1 P w K mg base yk 18 Cd "say" ["self","words"] (ZF P w K mg base 16 fz C Cd):=S.def fun f fd F=>by
 refine F.ZM z2s fun nd cdv A' outer s H vs Q E hr h=>?_;obtain⟨d,p,pd,lp,x,W,Ws,A,rfl,⟨dx,hd⟩,l,fA,k⟩:=h;refine⟨_,(qc (qf (qT (qp (qy uo T.isi boot_isinstance (qa (qv 1) (qa ⟨Xr (v:=.ty "str") (by rfl) zstr boot_str rfl⟩ qn))))) (q1 ⟨ZA⟩) q0) (qc (qf (qp (qm Z1G Z49 Z5n VR (qv 1) (qa qw qn))) (qc (q3 (qv 0) ⟨uu (by rfl) (by rfl) (by rfl) (by decide) Mk (hr.mono (by decide)) xE (@zB _ _ _ _ _ (by rfl) (ZP (by rfl) (by rfl) (by rfl) (by decide) Rw (hr.mono (by decide)) (@zB _ _ _ _ _ (by rfl) (YZ z2K (pv 1) (Xl zP) Xb) zJ)) (@zB _ _ _ _ _ (by rfl) (QT (QT (pv 0) rfl) rfl) zJ))⟩) (q1 (qr ⟨yf (v:=.str Jv) (by rfl) mD ⟨_,rfl⟩⟩))) q0) (qc (qf (qp (qm Z1G Z49 Z5n VR (qv 1) (qa qw qn))) (qc (q3 (qv 0) ⟨uu (by rfl) (by rfl) (by rfl) (by decide) Mk (hr.mono (by decide)) xE (@zB _ _ _ _ _ (by rfl) (JX (by rfl) (QT (pv 0) rfl) LT.cl Wl (hr.mono (by decide)) xE) (@zB _ _ _ _ _ (by rfl) (ZP (by rfl) (by rfl) (by rfl) (by decide) Rl (hr.mono (by decide)) (@zB _ _ _ _ _ (by rfl) (YZ z2K (pv 1) (Xl zP) Xb) zJ)) zJ))⟩) (q1 (qr ⟨yf (v:=.str Jv) (by rfl) mD ⟨_,rfl⟩⟩))) q0) (q1 (qr (qd An (qa (qD (qv 0)) (qa (qv 1) qn)))))))),?_⟩;obtain⟨now,us,lv',hw,hs⟩:=id l;obtain⟨⟨dl,hl⟩,_⟩:=id lv';have z4:(Str.ofString "web ").cps.size=4:=by decide +kernel
 have z5:(Str.ofString "leap ").cps.size=5:=by decide +kernel
 refine zG fun RR hRR=>?_;refine⟨_,rfl,_,_,_,true,rfl,.str x,Z1j _,_,rfl,ZN rfl ?_⟩;show RR [_,_] _;rcases k with⟨h1,h2,k⟩|⟨n,ps,rfl,n1,n12,few,rng,up,k⟩|⟨A',rfl,ca,a0,a1,a13,k⟩;subst hRR;refine zG fun RR hRR=>?_
 refine⟨_,rfl,rfl,x,_,rfl,rfl,_,rfl,?_⟩;rw[h1];refine ZN rfl ?_;show RR [_,_] _;subst hRR;refine zG fun RR hRR=>?_;refine⟨_,rfl,rfl,x,_,rfl,rfl,_,rfl,?_⟩;rw[h2];refine ZN rfl ?_;show RR [_,_] _;subst hRR;exact⟨_,rfl,d,Cd,dx,_,_,rfl,hd,DT.cl,DT.nL,VF _,_,rfl,k⟩;subst hRR;refine zG fun RR hRR=>?_;clear hRR;refine⟨_,rfl,rfl,_,_,rfl,rfl,_,rfl,?_⟩;rw[Pw.z4e];refine yL rfl ?_;refine zG fun R2 hR2=>?_;have wt:=Pw.z6P (n:=(n:Int)) (by lia) (by lia) few rng up;have zw:=z1e (n:=(n:Int)) (ps:=ps) ⟨by show 1<=(n:Int);lia,by show (n:Int)<=12;lia,few,up,rng⟩;refine⟨_,rfl,4,rfl,_,rfl,by rw[zO];lia,?_⟩;have es:=jd (Str.ofString "web ") (Pw.wbT (n:Int) ps) 4 z4;refine⟨Pw.wbT (n:Int) ps,_,_,congrArg (fun z=>[V.str z]) es,by lia,wt,fun wa G1 s1 hwa=>?_⟩;refine⟨_,rfl,d,Cd,dx,_,_,rfl,s1 _ _ hd,DT.cl,DT.nL,VF _,p,C,dl,_,_,rfl,s1 _ _ hl,LT.cl,LT.nL,Qh _ _ _,?_⟩;refine yj ?_;show ∀ x dx,G1 x=none->G1 dx=none->dx≠x->Yy C [.ref x,.ref wa,.ref lp] _ _ _;refine Q9 (W:=((n:Int),ps)) hwa fun p' pd' G2 mp mpd l2 s2=>?_;have hd2:=s2 _ _ (s1 _ _ hd);have np:p'≠d:=Z4q (zo (s1 _ _ hd) mp);have npd:pd'≠d:=Z4q (zo (s1 _ _ hd) mpd);refine⟨rfl,_,rfl,d,Cd,dx,_,rfl,hd2,DT.cl,DT.nL,(by show 1<1000;decide),?_⟩;show R2 [_,_] _;subst hR2;rw[z3L];refine k p' pd' _ (s1.free mp) (s1.free mpd) ⟨dx,zh⟩ (l2.Z1I hd2 np npd) fun b o e nb=>?_;rw[zD nb];exact s2 _ _ (s1 _ _ e);subst hRR;refine zG fun RR hRR=>?_;refine⟨_,rfl,rfl,_,_,rfl,rfl,_,rfl,?_⟩;rw[Pw.J4 0 (a:=108) (b:=119) (by rw[Z27,Z19,Z2H (by rw[Z06,z5];decide)];decide +kernel) (by decide +kernel) (by decide)];refine ZN rfl ?_;show RR [_,_] _;subst hRR;refine zG fun RR hRR=>?_;clear hRR;refine⟨_,rfl,rfl,_,_,rfl,rfl,_,rfl,?_⟩;rw[Pw.z4e];refine yL rfl ?_;refine zG fun R2 hR2=>?_;have zw:=z0c (A:=A') ⟨by lia,by lia⟩ ⟨by lia,by lia⟩;refine⟨_,rfl,d,Cd,dx,_,_,rfl,hd,DT.cl,DT.nL,VF _,p,dl,_,rfl,hl,YH _ _ _ (by decide +kernel) (by decide +kernel) (by decide +kernel),p,pd,lp,W,Ws,rfl,l,fun wa hwa=>?_⟩;refine⟨_,rfl,5,rfl,_,rfl,by rw[zO];lia,?_⟩;have es:=jd (Str.ofString "leap ") (Pw.Ju A') 5 z5;refine⟨A',congrArg (fun z=>[V.str z]) es,ca,a0,a1,a13,fun la G1 s1 fl=>?_⟩;refine yj ?_;show ∀ x dx,G1 x=none->G1 dx=none->dx≠x->Yy C [.ref x,.ref wa,.ref la] _ _ _;refine Q9 (W:=W) (hwa.same s1) fun p' pd' G2 mp mpd l2 s2=>?_;have hd2:=s2 _ _ (s1 _ _ hd);have np:p'≠d:=Z4q (zo (s1 _ _ hd) mp);have npd:pd'≠d:=Z4q (zo (s1 _ _ hd) mpd);refine⟨rfl,_,rfl,d,Cd,dx,_,rfl,hd2,DT.cl,DT.nL,(by show 1<1000;decide),?_⟩;show R2 [_,_] _;subst hR2;rw[z3L];refine k p' pd' la _ (s1.free mp) (s1.free mpd) ⟨dx,zh⟩ (l2.Z1I hd2 np npd) ((z2b hd2).tup _ _ (s2 _ _ fl)) fun b o e nb=>?_;rw[zD nb];exact s2 _ _ (s1 _ _ e)
open L2
theorem JC:zE ["cell","k"] ["cell","k"] (ze XS):=fs
theorem z1z(S:ZJ K mg "_law_deck" XS ["cell","k"])(T:Txt mg) :Def P w K mg base 1 "_law_deck" ["cell","k"] j5:=S.def fun f fd F=>by
 refine F.ZM JC fun nd cdv A' outer s H vs Q E hr h=>?_;obtain⟨x,n,rfl,k⟩:=h;refine⟨_,(qc (qf (qk Jz (qv 0) (qo uT qi qi)) (q1 (qr (ql (qa (qo XZ (qv 0) (qo uT qi qi)) (qa qi (qa (qv 1) qn)))))) q0) (q1 (qr (ql (qa (qv 0) (qa qi (qa (qv 1) qn))))))),?_⟩;refine⟨_,rfl,_,_,rfl,rfl,⟨by decide,by decide,by decide⟩,_,_,rfl,rfl,_,rfl,?_⟩;refine if2 (fun h=>?_) (fun h=>?_);exact⟨_,rfl,_,_,rfl,rfl,⟨by decide,by decide,by decide⟩,_,_,rfl,rfl,_,rfl,(by show 3<=sizeLine;decide),fun d G s m e=>k d G s m ⟨_,_,_,e,by lia,Int.le_refl _⟩⟩;exact⟨_,rfl,_,rfl,(by show 3<=sizeLine;decide),fun d G s m e=>k d G s m ⟨_,_,_,e,by lia,Int.le_refl _⟩⟩
theorem J6:zE ["deck","many","come","number"] ["deck","many"] (ze XR):=fs
theorem z1A(S:ZJ K mg "_law_take" XR ["deck","many"])(T:Txt mg) :Def P w K mg base 1 "_law_take" ["deck","many"] Xi:=S.def fun f fd F=>by
 refine F.ZM J6 fun nd cdv A' outer s H vs Q E hr h=>?_;obtain⟨d,m,B,rfl,m0,m6,hB,hd,k⟩:=h;refine⟨_,(qc (qf (qk ya (qx zK (qv 0) qi) qi) (qc (qs 2 (qo YD (qx zK (qv 0) qi) (qv 1))) (qc ⟨Jh (ZV ZO (ZD zK (pv 0) zP (fun _ _=>rfl)) (pv 1)) (z1n (pv 0) zP set_list)⟩ (q1 (qr (qv 2))))) q0) (qc ⟨Jh (ZV yu (ZD zK (pv 0) zP (fun _ _=>rfl)) zP) (z1n (pv 0) zP set_list)⟩ (qc (qs 3 (qo z7 (qo YD (qx zK (qv 0) qi) qi) (qo yu (qo z7 (qx zK (qv 0) qi) (qx zK (qv 0) qi)) qi))) (qc (qs 3 (qo YD (qo yu (qo yu (qv 3) (qx zK (qv 0) qi)) qi) qi)) (qc (qs 3 (qo YD (qo z7 (qv 3) (qv 3)) qi)) (q1 (qr (qo YD (qo z8I (qo YD (qo z7x (qv 3) qi) qi) qi) (qv 1))))))))),?_⟩;obtain⟨a,b,c,e,c0,c1⟩:=hd;refine⟨_,rfl,d,_,_,_,rfl,rfl,zQ.of e,rfl,rfl,_,rfl,?_⟩;refine if2 (fun h=>?_) (fun h=>?_);have sl:Sz 9000 m:=Zd 60 (by lia);refine⟨_,rfl,d,_,_,_,rfl,rfl,zQ.of e,rfl,_,rfl,_,_,rfl,rfl,m0,?_⟩;refine⟨_,rfl,d,_,_,_,rfl,rfl,zQ.of e,rfl,_,rfl,_,_,rfl,rfl,⟨by lia,sl⟩,_,rfl,d,_,_,0,rfl,rfl,e,rfl,?_⟩;refine⟨_,rfl,?_⟩;exact k _ _ (Z4t _ (by lia)) (Z51 _ m0) ⟨_,b,c,zh,c0,by lia⟩ Kp.set;refine⟨_,rfl,d,_,_,_,rfl,rfl,zQ.of e,rfl,_,_,rfl,rfl,_,rfl,d,_,_,2,rfl,rfl,e,rfl,?_⟩;have e1:(upd H d (.lst [.int a,.int b,.int (c+1)])) d=some (.lst [.int a,.int b,.int (c+1)]):=zh;have k1:Kp d H (upd H d (.lst [.int a,.int b,.int (c+1)])):=Kp.set;change Uc _ _ _ _ (upd H d (.lst [.int a,.int b,.int (c+1)]));generalize upd H d (.lst [.int a,.int b,.int (c+1)])=G at e1 k1 ⊢;have sc:Sz 1000 (c+1):=Zd 40 (by lia);refine⟨_,rfl,d,_,_,_,rfl,rfl,zQ.of e1,rfl,_,_,rfl,rfl,(by show (0:Int)<2147483647;decide),_,rfl,d,_,_,_,rfl,rfl,zQ.of e1,rfl,_,rfl,d,_,_,_,rfl,rfl,zQ.of e1,rfl,_,_,rfl,rfl,?_,?_⟩;exact⟨sc.mono (by decide),sc.mono (by decide)⟩;have q:Sz 100000 ((c+1) * (c+1)+48271):=Sz.mono (Sz.add (n:=2000) (sc.mul sc) (Zd 16 (by decide))) (by decide);refine⟨_,_,rfl,rfl,_,_,rfl,rfl,⟨z6n (by decide) (by decide),q⟩,?_⟩;refine⟨_,rfl,_,rfl,d,_,_,_,rfl,rfl,zQ.of e1,rfl,_,_,rfl,rfl,_,_,rfl,rfl,_,_,rfl,rfl,(by show (0:Int)<2147483629;decide),?_⟩;refine⟨_,rfl,_,rfl,_,_,rfl,rfl,⟨z6n (by decide) (by decide),z6n (by decide) (by decide)⟩,_,_,rfl,rfl,(by show (0:Int)<2147483587;decide),?_⟩;refine⟨_,rfl,_,_,rfl,rfl,.inr ⟨by decide,by decide⟩,_,_,rfl,rfl,(by show (0:Int)<2147483563;decide),_,_,rfl,rfl,⟨by decide,by decide⟩,_,rfl,_,_,rfl,rfl,m0,?_⟩;exact k _ G (Z4t _ (by lia)) (Z51 _ m0) ⟨a,b,c+1,e1,by lia,by lia⟩ k1
theorem Z3c:zE ["deck","most","pages","many","links"] ["deck","most"] (ze z9U):=fs
theorem z4J(S:ZJ K mg "_law_web" z9U ["deck","most"])(T:Txt mg)(Tk:Def P w K mg base 1 "_law_take" ["deck","many"] Xi):Def P w K mg base 2 "_law_web" ["deck","most"] (z3V K):=S.def fun f fd F=>by
 refine F.ZM Z3c fun nd cdv A' outer s H vs Q E hr h=>?_;obtain⟨d,m,B,rfl,m1,m12,hB,hd,k⟩:=h;refine⟨_,(qc (qs 2 (qo yu qi (qd Tk (qa (qv 0) (qa (qv 1) qn))))) (qc (qs 3 (qd Tk (qa (qv 0) (qa (qo yu (qx zK (ql (qa qi (qa (qo yu (qo z7x qi (qv 2)) qi) qn))) (qd Tk (qa (qv 0) (qa qi qn)))) qi) qn)))) (qc (qI 4 (ze z9U) ["k","deck","pages"] [none,some 0,some 2] (qR T.range (qa (qv 3) qn)) ⟨⟨rfl,rfl,.inl rfl⟩,⟨rfl,rfl,.inl rfl⟩,trivial⟩ (fun _ _ _ _ _ _=>(qg 0)) (fun _ _ _ _ _=>qV) (fun _ _ _ _ _=>(qt (qa (qd Tk (qa (qv 1) (qa (qv 2) qn))) (qa (qd Tk (qa (qv 1) (qa (qv 2) qn))) qn))))) ⟨@z9d _ _ _ _ _ (@z7k _ _ _ _ _ _ _ _ (PW.pt (z7m (yz (z6u hr) (pv 4) (@z3J _ _ _ _ zJ) (Yj _)) (z4j (yz ya (ZP (by rfl) (by rfl) (by rfl) (by decide) Tk (hr.mono (by decide)) (@zB _ _ _ _ _ (by rfl) (pv 0) (@zB _ _ _ _ _ (by rfl) zP zJ))) zP (Yj _))))) (@ye _ _ _ (@jx _ _ 4 _ _ _ _ (by rfl) (Or.inl rfl) nd rfl (Or.inl rfl) (ZV xZ (pv 4) (YZ Yx (pv 4) Xb (Xl zP))))) j9) (@ye _ _ _ (@VE _ _ _ _ (@Xu _ _ _ _ _ (@zB _ _ _ _ _ (by rfl) (pv 2) (@zB _ _ _ _ _ (by rfl) (YV yZ (by rfl) T.tup boot_tuple (@zB _ _ _ _ _ (by rfl) (yI uX (by rfl) T.srt boot_sorted (@zB _ _ _ _ _ (by rfl) (pv 4) zJ)) zJ)) zJ)))))⟩))),?_⟩;refine⟨_,rfl,_,rfl,d,m,B,rfl,by lia,by lia,by lia,hd,fun n1 G1 a0 a1 d1 k1=>?_⟩;refine⟨_,_,rfl,rfl,?_⟩;change Uc _ _ _ [some (.ref d),some (.int m),some (.int (1+n1)),none,none] G1;obtain⟨n,en⟩:∃ n:Int,1+n1=n:=⟨_,rfl⟩;rw[en];have n1':1<=n:=by lia
 have nm:n<=m:=by lia
 refine⟨_,rfl,_,rfl,_,_,rfl,rfl,.inl ⟨by decide,by decide⟩,_,_,rfl,rfl,zl2,fun l G2 s2 m2 e2=>?_⟩;have nld:l≠d:=fun z=>by obtain⟨_,_,_,h,_⟩:=d1;rw[z,h] at m2;cases m2
 refine⟨_,rfl,d,2,B+1,rfl,by decide,by decide,by lia,d1.same s2,fun j G3 j0 j1 d3 k3=>?_⟩;obtain⟨q,hq,q1,q2⟩:∃ q:Int,atI [V.int 3,V.int (2 * n+1)] j=some (.int q)/\1<=q/\q<=25:=by
  have:j=0\/j=1:=by lia
  rcases this with rfl | rfl;exact⟨3,rfl,by decide,by decide⟩;exact⟨2 * n+1,rfl,by lia,by lia⟩
 refine⟨l,_,_,_,rfl,rfl,zQ.of (k3 _ _ e2 nld),hq,_,_,rfl,rfl,d,q+1,B+1+1,rfl,by lia,by lia,by lia,d3,fun many G4 b0 b1 d4 k4=>?_⟩;have k04:Kp d H G4:=k1.trans (s2.kp.trans (k3.trans k4));refine⟨_,rfl,many,rfl,by lia,by lia,fun D hD=>?_⟩;have nDd:D≠d:=d4.ne hD;refine ua (lo:=0) (n:=many.toNat) (fun i ys σ G=>Kp d G4 G/\Zm G d (B+3+2 * i)/\G D=some (.lst ys)/\(∃ ps,Zp K G ps ys/\ps.length=i/\∀ p∈ps,0<=p.1/\p.1<n/\0<=p.2/\p.2<n)/\∃ v,σ=[v,some (.ref d),some (.int n)]) ?_ ?_ ?_ ?_;exact⟨Kp.new hD,d4.same (zC.new hD),zh,⟨[],rfl,rfl,fun _ h=>absurd h (by simp)⟩,none,rfl⟩;rintro i ys σ G ⟨_,_,e,_⟩;exact e
 · rintro i ys σ G hi ⟨kG,dG,eD,⟨ps,hP,hl,rng⟩,v,rfl⟩
   have lys:=hP.len;dsimp only [Zs];rw[if_pos rfl];refine⟨_,rfl,_,rfl,d,n,_,rfl,by lia,by lia,by lia,dG,fun x G5 x0 x1 d5 k5=>?_⟩;refine⟨_,rfl,_,rfl,d,n,_,rfl,by lia,by lia,by lia,d5,fun y G6 y0 y1 d6 k6=>?_⟩;refine⟨zl2,fun t G7 s7 m7 e7=>?_⟩;have eD7:G7 D=some (.lst ys):=s7 _ _ (k6 _ _ (k5 _ _ eD nDd) nDd);have kl7:KL G G7:=(dG.kl k5).trans ((d5.kl k6).trans s7.kl);have k1:KL G7 (upd G7 D (.lst (ys ++ [.ref t]))):=KL.set eD7;refine⟨eD7,by rw[lys,hl,sizeLine_eq];lia,Wt.next hi ⟨fun b o e nb=>?_,?_,zh,⟨ps ++ [(x,y)],Zp.snoc (zX.of (k1.tup e7)) (Zp.kl k1 (Zp.kl kl7 hP)),by rw[Z0M,hl];rfl,fun p hp=>?_⟩,_,rfl⟩⟩;rw[zD (zo e hD)];exact s7 _ _ (k6 _ _ (k5 _ _ (kG _ _ e nb) nb) nb);exact ((d6.same s7).kp (Kp.set (p:=D)) (Z4q nDd)).up (by lia);rcases Z25.mp hp with hp | hp;exact rng p hp;rw[Z04.mp hp];exact⟨x0,x1,y0,y1⟩
 rintro ys σ G ⟨kG,dG,eD,⟨ps,hP,hl,rng⟩,v,rfl⟩;have lys:=hP.len;have k0:Kp d H G:=k04.trans kG;have ml:many.toNat<=25:=by lia
 refine⟨fun σ' G'=>∃ L us ps,G' L=some (.lst us)/\Zp K G' ps us/\ps.length<=30/\(∀ p∈ps,0<=p.1/\p.1<n/\0<=p.2/\p.2<n)/\Zm G' d (B+100)/\Kp d H G'/\σ'=[some (.ref d),some (.int m),some (.int n),some (.int many),some (.ref L)],?_,?_⟩;refine⟨_,rfl,zl0,fun b G5 s5 m5 e5=>⟨D,b,ys,rfl,rfl,.inr ⟨zQ.of (s5 _ _ eD),zQ.of e5⟩,_,rfl,?_⟩⟩;refine if2 (fun hne=>?_) (fun hne=>?_);refine⟨_,rfl,d,4,_,rfl,by decide,by decide,by lia,dG.same s5,fun j G6 j0 j1 d6 k6=>⟨rfl,_,rfl,?_⟩⟩;have eD6:G6 D=some (.lst ys):=k6 _ _ (s5 _ _ eD) nDd;have hP6:Zp K G6 ps ys:=Zp.kl ((dG.same s5).kl k6) (Zp.kl s5.kl hP);have k6':Kp d H G6:=k0.trans (s5.kp.trans k6);refine if2 (fun hj=>?_) (fun hj=>?_);refine⟨_,rfl,_,rfl,_,rfl,D,ys,rfl,zQ.of eD6,fun p hp=>?_⟩;have s7:zC G6 (upd G6 p (.lst (ZQ ys none (some 2)))):=zC.new hp;refine⟨D,p,ys,_,rfl,rfl,s7 _ _ eD6,zh,?_,fun p2 G8 s8 m8 e8=>?_⟩;rw[show (some (2:Int))=some ((2:Nat):Int) from rfl,Z1A,Z20,sizeLine_eq];lia;rw[show (some (2:Int))=some ((2:Nat):Int) from rfl,Z1A] at e8;have s68:zC G6 G8:=s7.trans (by rw[show (some (2:Int))=some ((2:Nat):Int) from rfl,Z1A] at *;exact s8);have hP8:Zp K G8 ps ys:=Zp.kl s68.kl hP6;refine⟨p2,_,ps ++ ps.take 2,e8,Zp.append (Zp.take 2 hP8) hP8,?_,fun p hp=>?_,(d6.same s68).up (by lia),k6'.trans s68.kp,rfl⟩;rw[Z0M,Z20];lia;rcases Z25.mp hp with hp | hp;exact rng p hp;exact rng p (List.mem_of_mem_take hp);exact⟨D,ys,ps,eD6,hP6,by lia,rng,d6.up (by lia),k6',rfl⟩;exact⟨D,ys,ps,s5 _ _ eD,Zp.kl s5.kl hP,by lia,rng,(dG.same s5).up (by lia),k0.trans s5.kp,rfl⟩;rintro σ' G' ⟨L,us,ps,eL,hP,few,rng,dG',kH,rfl⟩;refine⟨_,rfl,_,rfl,L,us,ps,rfl,zQ.of eL,hP,by lia,fun us2 ms D2 G6 pm pw hP2 s6 mD e6=>?_⟩
 refine⟨D2,us2,rfl,zQ.of e6,fun t G7 s7 m7 e7=>⟨zl2,fun a G8 s8 m8 e8=>?_⟩⟩;refine k a n ms G8 ⟨t,us2,e8,s8 _ _ e7,Zp.kl (s7.trans s8).kl hP2⟩ n1' nm (by rw[pm.length_eq];exact few) (fun p hp=>rng p (pm.mem_iff.mp hp)) pw (dG'.same (s6.trans (s7.trans s8))) (kH.trans (s6.trans (s7.trans s8)).kp)
theorem Q3:zE ["web"] ["web"] (ze Z8):=fs
theorem vW(S:ZJ K mg "_law_web_shown" Z8 ["web"])(T:Txt mg)(zstr:mg "str"=none):Def P w K mg base 1 "_law_web_shown" ["web"] (Y7 K):=S.def fun f fd F=>by
 refine F.ZM Q3 fun nd cdv A' outer s H vs Q E hr h=>?_;obtain⟨a,n,ps,rfl,hw,n0,n12,few,rng,k⟩:=h;refine⟨_,(q1 (qr (qm Z1G Z55 PySem.F.type_str_join (VC (K:=K) rfl) qw (qa (qo xZ (ql (qa qw (qa (qY zU zstr boot_str (qa (qx zF (qv 0) qi) qn)) qn))) (qG (ze Z8) ["one","other"] [none,none] (qU (qx zF (qv 0) qi)) trivial (fun _ _ _ _ _ _=>(qj K 2 (qH (qg 0) (qH (qg 1) qN)))) (fun _ _ _ _ _=>qV) (fun _ _ _ _ _=>(qo zT (qo zT (qY zU zstr boot_str (qa (qv 0) qn)) qw) (qY zU zstr boot_str (qa (qv 1) qn)))))) qn)))),?_⟩;obtain⟨t,us,ea,et,hp⟩:=hw;have hl:=hp.len;have lg:∀ i:Int,0<=i->i<=99->i.natAbs.log2<1920:=fun i h0 h1=>Z4h (by lia) (by lia);refine⟨rfl,_,rfl,a,_,_,_,rfl,rfl,zX.of ea,rfl,n,rfl,lg n n0 (by lia),zl2,fun l G1 s1 m1 e1=>?_⟩;refine⟨_,rfl,a,_,_,_,rfl,rfl,zX.of (s1 _ _ ea),rfl,t,rfl,⟨_,zX.of (s1 _ _ et)⟩,fun D hD=>?_⟩;have hp1:=hp.kl s1.kl;refine Yn (K:=K) (a:=t) (D:=D) (xs:=us) (fun i ys σ G=>zC G1 G/\G D=some (.lst ys)/\ys=((ps.take i).map Pw.wd).map V.str/\∃ v w,σ=[v,w]) ⟨zC.new hD,zh,rfl,none,none,rfl⟩ ?_ ?_ ?_;rintro i ys σ G ⟨s,e,_⟩;exact⟨zX.of (s _ _ (s1 _ _ et)),e⟩
 · rintro i x ys σ G hx hlt ⟨sG,eD,rfl,v,w',rfl⟩
   obtain⟨ax,px,ex,rfl,hqx⟩:=(hp1.kl sG.kl).get hx;have r:=rng px (Z21 ex);have z1:=zZ r.1 (show px.1<=99 by lia);have z2:=zZ r.2.2.1 (show px.2<=99 by lia);have zg:(Str.ofString ">").cps.size=1:=by decide +kernel
   refine⟨ax,_,rfl,hqx,rfl,_,_,rfl,_,_,rfl,rfl,?_⟩;refine yL rfl ?_;refine⟨_,rfl,px.1,rfl,lg _ r.1 (by lia),_,_,rfl,rfl,?_,_,rfl,px.2,rfl,lg _ r.2.2.1 (by lia),_,_,rfl,rfl,?_,eD,(by rw[ZB,ZB,Z20,sizeLine_eq];lia),Wt.next hlt ⟨fun b o e=>by rw[zD (zo e hD)];exact sG _ _ e,zh,?_,_,_,rfl⟩⟩;rw[Zq,Zq,sizeLine_eq];lia;rw[Zq,Zq,zO,sizeLine_eq];lia;rw[Z31,ex,Z15,Z15];rfl
 rintro ys σ G ⟨sG,eD,rfl,_⟩;rw[Z0A (by lia)] at eD;have zp:(Str.ofString "pages").cps.size=5:=by decide +kernel
 have z1:=zZ n0 (show n<=99 by lia);have m5:∀ z∈[Str.ofString "pages",Pw.ns n] ++ ps.map Pw.wd,z.cps.size<=5:=fun z h=>by
  rcases Z25.mp h with h | h;rcases Z0z.mp h with rfl | h;lia;rw[Z04.mp h];exact Z11 z1 (by decide);obtain⟨p,hp,rfl⟩:=Z17.mp h;have r:=rng p hp;have z1:=zZ r.1 (show p.1<=99 by lia);have z2:=zZ r.2.2.1 (show p.2<=99 by lia);have zb:(Str.ofString ">").cps.size=1:=by decide +kernel
  unfold Pw.wd;rw[zO,zO];show (Str.ofString (toString p.1)).cps.size+_+(Str.ofString (toString p.2)).cps.size<=5;lia
 have ll:([Str.ofString "pages",Pw.ns n] ++ ps.map Pw.wd).length<=62:=by
  rw[Z0M,ZB];show 2+_<=62;lia
 have zs1:(Str.ofString " ").cps.size=1:=by decide +kernel
 refine z6p (xs:=[Str.ofString "pages",Pw.ns n]) (zs:=ps.map Pw.wd) (sG _ _ e1) eD (by rw[ZB];show 2+_<=_;lia) fun q G2 s2 m2 e2=>?_;refine⟨_,q,_,rfl,rfl,zQ.of e2,Jp m5 ?_,?_⟩;rw[zs1];exact Z11 (Z5j _ ll) (by decide);rw[z7F];exact k G2 (s1.trans (sG.trans s2))
theorem z9F:zE ["deck","some","below","above","one","two"] ["deck"] (ze z2t):=fs
theorem z2u(S:ZJ K mg "_law_leap" z2t ["deck"])(T:Txt mg)(Tk:Def P w K mg base 1 "_law_take" ["deck","many"] Xi):Def P w K mg base 2 "_law_leap" ["deck"] (z3X K):=S.def fun f fd F=>by
 refine F.ZM z9F fun nd cdv A' outer s H vs Q E hr h=>?_;obtain⟨d,B,rfl,hB,hd,k⟩:=h;refine⟨_,(qc (qs 1 (ql (qa (qt (qa qi (qa qi qn))) (qa (qt (qa qi (qa qi qn))) (qa (qt (qa qi (qa qi qn))) (qa (qt (qa qi (qa qi qn))) (qa (qt (qa qi (qa qi qn))) (qa (qt (qa qi (qa qi qn))) qn)))))))) (qc (qs 2 (qo yu qi (qd Tk (qa (qv 0) (qa qi qn))))) (qc (qs 3 (qo yu qi (qd Tk (qa (qv 0) (qa (qo XZ (qv 2) qi) qn))))) (qc ⟨Q5 rfl nd (i:=4) (j:=5) rfl rfl (by decide) rfl rfl (@zB _ _ _ _ _ (by rfl) (pv 3) (@zB _ _ _ _ _ (by rfl) (pv 2) zJ)) (by rfl)⟩ (qc ⟨QA PassesOwn.never (yz z0i (pv 4) zP (Yj _)) (@ye _ _ _ (Q5 rfl nd (i:=4) (j:=5) rfl rfl (by decide) rfl rfl (@zB _ _ _ _ _ (by rfl) (ZV YD (pv 5) (pv 4)) (@zB _ _ _ _ _ (by rfl) (pv 4) zJ)) (by rfl)))⟩ (q1 (qr (qx zK (qo xZ (qv 1) (ql (qa (qt (qa (qo ZO (qv 3) (qv 5)) (qa (qo ZO (qv 2) (qv 5)) qn))) qn))) (qd Tk (qa (qv 0) (qa qi qn))))))))))),?_⟩;refine⟨zl2,fun t1 G1 s1 m1 e1=>⟨zl2,fun t2 G2 s2 m2 e2=>⟨zl2,fun t3 G3 s3 m3 e3=>⟨zl2,fun t4 G4 s4 m4 e4=>⟨zl2,fun t5 G5 s5 m5 e5=>⟨zl2,fun t6 G6 s6 m6 e6=>⟨(by show 6<=sizeLine;decide),fun L G7 s7 m7 e7=>?_⟩⟩⟩⟩⟩⟩⟩;have hP:Zp K G7 ([] ++ [(1,2)] ++ [(1,1)] ++ [(1,7)] ++ [(3,20)] ++ [(99,100)] ++ [(1,1000)]) ([] ++ [.ref t1] ++ [.ref t2] ++ [.ref t3] ++ [.ref t4] ++ [.ref t5] ++ [.ref t6]) :=
  Zp.snoc (zX.of (s7 _ _ e6)) (Zp.snoc (zX.of (s7 _ _ (s6 _ _ e5))) (Zp.snoc (zX.of (s7 _ _ (s6 _ _ (s5 _ _ e4)))) (Zp.snoc (zX.of (s7 _ _ (s6 _ _ (s5 _ _ (s4 _ _ e3))))) (Zp.snoc (zX.of (s7 _ _ (s6 _ _ (s5 _ _ (s4 _ _ (s3 _ _ e2)))))) (Zp.snoc (zX.of (s7 _ _ (s6 _ _ (s5 _ _ (s4 _ _ (s3 _ _ (s2 _ _ e1))))))) rfl)))))
 obtain⟨xs,e7,hP,ln,small⟩:∃ (xs:List V),G7 L=some (.lst xs)/\Zp K G7 [(1,2),(1,1),(1,7),(3,20),(99,100),(1,1000)] xs/\xs.length=6/\∀ A∈([(1,2),(1,1),(1,7),(3,20),(99,100),(1,1000)]:List (Int×Int)),(0<A.2/\Int.gcd A.1 A.2=1)/\0<A.1/\A.1<=A.2/\A.2<=1000:=⟨_,e7,hP,rfl,by decide⟩;have s07:zC H G7:=s1.trans (s2.trans (s3.trans (s4.trans (s5.trans (s6.trans s7)))));have nLd:L≠d:=(hd.same (s1.trans (s2.trans (s3.trans (s4.trans (s5.trans s6)))))).ne m7;clear e1 e2 e3 e4 e5 e6 m1 m2 m3 m4 m5 m6 m7;refine⟨_,rfl,d,30,B,rfl,by decide,by decide,by lia,hd.same s07,fun a G8 a0 a1 d8 k8=>⟨_,_,rfl,rfl,?_⟩⟩;change Uc _ _ _ [some (.ref d),some (.ref L),some (.int (2+a)),none,none,none] G8;obtain⟨bl,ebl⟩:∃ b:Int,2+a=b:=⟨_,rfl⟩;rw[ebl];refine⟨_,rfl,_,rfl,_,_,rfl,rfl,d,bl - 1,B+1,rfl,by lia,by lia,by lia,d8,fun c G9 c0 c1 d9 k9=>⟨_,_,rfl,rfl,?_⟩⟩;change Uc _ _ _ [some (.ref d),some (.ref L),some (.int bl),some (.int (1+c)),none,none] G9;obtain⟨ab,eab⟩:∃ b:Int,1+c=b:=⟨_,rfl⟩;rw[eab];refine⟨_,rfl,_,rfl,_,_,rfl,?_⟩;refine VJ (fun σ G'=>∃ u v:Int,σ=[some (.ref d),some (.ref L),some (.int bl),some (.int ab),some (.int u),some (.int v)]/\0<=u/\0<v/\v<=1000/\u<=1000/\Int.gcd u v=Int.gcd ab bl/\G'=G9)
  (fun σ _=>match σ with | [_,_,_,_,some (.int u),_]=>u.toNat | _=>0) ⟨ab,bl,rfl,by lia,by lia,by lia,by lia,rfl,rfl⟩ ?_
 rintro σ G' ⟨u,v,rfl,u0,v0,v1,u1,hg,rfl⟩;refine⟨_,rfl,_,_,rfl,rfl,_,rfl,if2 (fun h=>⟨_,wN,?_⟩) (fun h=>?_)⟩;have hu:0<u:=of_decide_eq_true h;have h1:=Z4t v (show u≠0 by lia);have h2:=Z51 v hu;refine⟨_,rfl,_,rfl,_,_,rfl,rfl,hu,_,rfl,_,_,rfl,⟨v % u,u,rfl,h1,hu,u1,by lia,by rw[Int.gcd_comm,Pw.uC (Z44 v0) hu,Int.gcd_comm,hg],rfl⟩,?_⟩;show (v % u).toNat<u.toNat;lia;have sv:Sz 9000 v:=Zd 20 (by lia);have k79:=k8.trans k9;have e9:=k79 _ _ e7 nLd;have hP9:Zp K _ _ xs:=Zp.kl (((hd.same s07).kl k8).trans (d8.kl k9)) hP;have hu:u=0:=by have:¬ 0<u:=of_decide_eq_false h;lia
 have ev:v=(Int.gcd ab bl:Int):=by rw[← hg,hu,Int.gcd_zero_left];lia
 have bl0:0<bl:=by lia
 have emk:(ab.fdiv v,bl.fdiv v)=Pw.mk ab bl:=by
  unfold Pw.mk;rw[if_neg (by lia),ev]
 have cm:=Pw.Zt (a:=ab) (b:=bl) (by lia);rw[← emk] at cm;have hdv1:(v:Int)∣ab:=by rw[ev];exact Int.gcd_dvd_left ..
 have hdv2:(v:Int)∣bl:=by rw[ev];exact Int.gcd_dvd_right ..
 obtain⟨a',ea'⟩:=hdv1;obtain⟨b',eb'⟩:=hdv2;have fd:∀ z:Int,(v * z).fdiv v=z:=fun z=>by rw[Z32 _ (by lia),Int.mul_ediv_cancel_left _ (by lia)]
 have last:0<ab.fdiv v/\ab.fdiv v<=bl.fdiv v/\bl.fdiv v<=1000:=by
  rw[ea',eb',fd,fd];have h1:0<v * a':=by lia
  have h2:v * a'<=v * b':=by lia
  have a0':0<a':=Int.lt_of_mul_lt_mul_left (a:=v) (by rw[Int.mul_zero];exact h1) (Z44 v0);have ab':a'<=b':=Int.le_of_mul_le_mul_left h2 v0;refine⟨a0',ab',?_⟩;have h3:v * b'<=1000:=by lia
  have h4:1 * b'<=v * b':=Int.mul_le_mul_of_nonneg_right (by lia) (by lia);lia
 refine⟨_,rfl,_,rfl,_,rfl,_,_,rfl,rfl,⟨by lia,sv⟩,_,rfl,_,rfl,_,_,rfl,rfl,⟨by lia,sv⟩,zl2,fun t F1 u1 n1 f1=>⟨zl1,fun b F2 u2 n2 f2=>?_⟩⟩;refine⟨L,b,xs,_,rfl,rfl,u2 _ _ (u1 _ _ e9),f2,(by rw[ln];show 7<=sizeLine;decide),fun L2 F3 u3 n3 f3=>?_⟩;have hP3:Zp K F3 _ (xs ++ [.ref t]):=Zp.snoc (p:=(ab.fdiv v,bl.fdiv v)) (zX.of (u3 _ _ (u2 _ _ f1))) (Zp.kl (u1.trans (u2.trans u3)).kl hP9);have u03:=u1.trans (u2.trans u3);refine⟨_,rfl,d,7,_,rfl,by decide,by decide,by lia,d9.same u03,fun j F4 j0 j1 d4 k4=>?_⟩;obtain⟨i,rfl⟩:=Z50 j0;have hi:i<(xs ++ [V.ref t]).length:=by rw[Z0M,ln];show i<7;lia
 have nL2:L2≠d:=(d9.same (u1.trans u2)).ne n3;have hP4:Zp K F4 _ (xs ++ [.ref t]):=Zp.kl ((d9.same u03).kl k4) hP3;obtain⟨q,A,eA,eq,hq⟩:=hP4.get (Z01 hi);refine⟨L2,_,_,_,rfl,rfl,zQ.of (k4 _ _ f3 nL2),z8 (Z01 hi),?_⟩;rw[eq];have mA:=Z21 eA;obtain⟨q1,q2,q3,q4⟩:(0<A.2/\Int.gcd A.1 A.2=1)/\0<A.1/\A.1<=A.2/\A.2<=1000:=by
  rcases Z25.mp mA with h | h;exact small A h;rw[Z04.mp h];exact⟨cm,last⟩
 exact k q A F4 hq q1 q2 q3 q4 (d4.up (by lia)) (s07.kp.trans (k79.trans (u03.kp.trans k4)))
theorem z2A:zE ["above","below","one","two"] ["above","below"] (ze vc):=fs
theorem z4v(S:ZJ K mg "_law_low" vc ["above","below"])(T:Txt mg) :Def P w K mg base 1 "_law_low" ["above","below"] z0L:=S.def fun f fd F=>by
 refine F.ZM z2A fun nd cdv A' outer s H vs Q E hr h=>?_;obtain⟨x,y,rfl,hy,sx,sy,k⟩:=h;refine⟨_,(qc ⟨Q5 rfl nd (i:=2) (j:=3) rfl rfl (by decide) rfl rfl (@zB _ _ _ _ _ (by rfl) (yI Qp (by rfl) T.abs boot_abs (@zB _ _ _ _ _ (by rfl) (pv 0) zJ)) (@zB _ _ _ _ _ (by rfl) (pv 1) zJ)) (by rfl)⟩ (qc ⟨QA PassesOwn.never (yz z0i (pv 2) zP (Yj _)) (@ye _ _ _ (Q5 rfl nd (i:=2) (j:=3) rfl rfl (by decide) rfl rfl (@zB _ _ _ _ _ (by rfl) (ZV YD (pv 3) (pv 2)) (@zB _ _ _ _ _ (by rfl) (pv 2) zJ)) (by rfl)))⟩ (q1 (qr (qt (qa (qo ZO (qv 0) (qv 3)) (qa (qo ZO (qv 1) (qv 3)) qn))))))),?_⟩;have hyn:y≠0:=by lia
 refine⟨_,rfl,x,rfl,_,rfl,_,_,rfl,?_⟩;have ag:=z3p x y;rw[if_neg (show ¬ y<0 by lia)] at ag;refine VJ (fun σ G=>∃ (a b:Int),σ=[some (.int x),some (.int y),some (.int a),some (.int b)]/\0<=a/\0<b/\Int.gcd a b=Int.gcd x y/\zC H G)
  (fun σ _=>match σ with | [_,_,some (.int a),_]=>a.toNat | _=>0) ⟨_,_,rfl,z1q x,hy,ag,zC.refl _⟩ ?_
 rintro σ G ⟨a,b,rfl,ha,hb,hg,sG⟩;refine⟨_,rfl,_,_,rfl,rfl,_,rfl,if2 (fun h=>⟨_,wN,?_⟩) (fun h=>?_)⟩;have ha0:0<a:=of_decide_eq_true h;refine⟨_,rfl,_,rfl,_,_,rfl,rfl,ha0,_,rfl,_,_,rfl,⟨b % a,a,rfl,Z4t _ (by lia),ha0,?_,sG⟩,?_⟩;rw[Int.gcd_comm,Pw.uC (Z44 hb) ha0,Int.gcd_comm,hg];show (b % a).toNat<a.toNat;have h1:=Z4t b (show a≠0 by lia);have h2:=Z51 b ha0;lia;have h:¬ 0<a:=of_decide_eq_false h;have h0:a=0:=by lia
 subst h0;have e:(b:Int)=(Int.gcd x y:Int):=by rw[← hg,Int.gcd_zero_left];lia
 subst e;have sg:=(z8f (x:=x) sy hyn).mono (show 8000<=9000 by decide);refine⟨_,rfl,_,rfl,_,_,rfl,rfl,⟨by lia,sg⟩,_,rfl,_,rfl,_,_,rfl,rfl,⟨by lia,sg⟩,zl2,fun p G2 s2 hp e2=>?_⟩;refine k p G2 (sG.trans s2) (sG.free hp) ?_;unfold Pw.mk;rw[if_neg (show ¬ y<0 by lia)];exact e2
theorem z8p:zE ["one","other"] ["one","other"] (ze z1l):=fs
theorem z1E(S:ZJ K mg "_law_plus" z1l ["one","other"])(T:Txt mg)(Lo:Def P w K mg base 1 "_law_low" ["above","below"] z0L):Def P w K mg base 2 "_law_plus" ["one","other"] (Vw K):=S.def fun f fd F=>by
 refine F.ZM z8p fun nd cdv A' outer s H vs Q E hr h=>?_;obtain⟨p,q,A,B,rfl,fA,fB,a2,b2,sA,sB,k⟩:=h;refine⟨_,(q1 (qr (qd Lo (qa (qo yu (qo z7 (qx zF (qv 0) qi) (qx zF (qv 1) qi)) (qo z7 (qx zF (qv 1) qi) (qx zF (qv 0) qi))) (qa (qo z7 (qx zF (qv 0) qi) (qx zF (qv 1) qi)) qn))))),?_⟩;refine⟨_,rfl,p,_,_,_,rfl,rfl,fA,rfl,_,rfl,q,_,_,_,rfl,rfl,fB,rfl,_,_,rfl,rfl,⟨sA.1.mono (by decide),sB.2.mono (by decide)⟩,_,rfl,q,_,_,_,rfl,rfl,fB,rfl,_,rfl,p,_,_,_,rfl,rfl,fA,rfl,_,_,rfl,rfl,⟨sB.1.mono (by decide),sA.2.mono (by decide)⟩,_,_,rfl,rfl,_,rfl,p,_,_,_,rfl,rfl,fA,rfl,_,rfl,q,_,_,_,rfl,rfl,fB,rfl,_,_,rfl,rfl,⟨sA.2.mono (by decide),sB.2.mono (by decide)⟩,?_⟩;exact⟨_,_,rfl,Z4s a2 b2,((sA.1.mul sB.2).add (sB.1.mul sA.2)).mono (by decide),(sA.2.mul sB.2).mono (by decide),fun r G s m e=>k r G s m e⟩
theorem VM:zE ["one","other"] ["one","other"] (ze YF):=fs
theorem Uk(S:ZJ K mg "_law_is_less" YF ["one","other"])(T:Txt mg) :Def P w K mg base 1 "_law_is_less" ["one","other"] (z7w K):=S.def fun f fd F=>by
 refine F.ZM VM fun nd cdv A' outer s H vs Q E hr h=>?_;obtain⟨p,q,A,B,rfl,fA,fB,sA,sB,k⟩:=h;refine⟨_,(q1 (qr (qe Ys (qo z7 (qx zF (qv 0) qi) (qx zF (qv 1) qi)) (qo z7 (qx zF (qv 1) qi) (qx zF (qv 0) qi))))),?_⟩;exact⟨_,rfl,p,_,_,_,rfl,rfl,fA,rfl,_,rfl,q,_,_,_,rfl,rfl,fB,rfl,_,_,rfl,rfl,⟨sA.1.mono (by decide),sB.2.mono (by decide)⟩,_,rfl,q,_,_,_,rfl,rfl,fB,rfl,_,rfl,p,_,_,_,rfl,rfl,fA,rfl,_,_,rfl,rfl,⟨sB.1.mono (by decide),sA.2.mono (by decide)⟩,_,_,rfl,rfl,k⟩
open L2
theorem Uh:zE ["desk","pages","found","page","parts_v"] ["desk","pages"] (ze Y8):=fs
theorem jv(S:ZJ K mg "_law_shares" Y8 ["desk","pages"])(T:Txt mg)(DT:DkT K Cd)(Sy:Z1 P w K mg base yk 18 Cd "say" ["self","words"] (ZF P w K mg base 16 fz C Cd))(zstr:mg "str"=none)(cSh:Jw P w K mg base fz (Str.ofString "share") 1 (xr K C)):Def P w K mg base 19 "_law_shares" ["desk","pages"] (z5V K C Cd tb posR):=S.def fun f fd F=>by
 refine F.ZM Uh fun nd cdv A' outer s H vs Q E hr h=>?_;obtain⟨d,p,pd,lp,n,ps,Ws,A,rfl,h,k⟩:=h;refine⟨_,(qc (qs 2 (ql qn)) (qc (qF (qR T.range (qa (qv 1) qn)) (qg 3) (qc (qs 4 (qm Z1G Z2M Z4i Yg (qM (qv 0) DT.cl Sy (qa (qo zT qw (qY zU zstr boot_str (qa (qv 3) qn))) qn)) (qa qw qn))) (q1 (qX (qm Z47 PySem.F.slot_list_append PySem.F.type_list_append yW (qv 2) (qa (qt (qa (qY ZI T.int boot_int (qa (qx zK (qv 4) qi) qn)) (qa (qY ZI T.int boot_int (qa (qx zK (qv 4) qi) qn)) qn))) qn)))))) (q1 (qr (qv 2))))),?_⟩;refine zG fun RR hRR=>?_;have n12:=h.s.n12;have n1:=h.s.n1;refine⟨zl0,fun D G1 s1 m1 e1=>?_⟩;show RR [_,_,_,_,_] _;subst hRR;refine zG fun RR hRR=>?_;have zs:(Str.ofString "share ").cps.size=6:=by decide +kernel
 refine⟨_,rfl,(n:Int),rfl,by lia,by lia,?_⟩;rw[Z2J];refine yU (lo:=0) (n:=n) (fun j σ G=>zC H G/\∃ (ys:List V) (Fs:List (Int×Int)) (v3 v4:Option V),G D=some (.lst ys)/\yp K G Fs ys/\Fs.length=j/\(∀ Ss,Pw.Zi ps A (YM n) n Ss->Ss.take j=Fs)/\(0<j->∃ Ss,Pw.Zi ps A (YM n) n Ss/\∀ S∈Ss,yc 1983 S)/\σ=[some (.ref d),some (.int (n:Int)),some (.ref D),v3,v4]) ?_ ?_ ?_;exact⟨s1,[],[],none,none,e1,rfl,rfl,fun Ss _=>by rw[List.take_zero],fun z=>absurd z (Z2N _),rfl⟩;intro j σ G hj hP;refine YY fun DD hDD=>?_;have hnx:=congrArg Ends.nx hDD;clear hDD;refine zG fun R2 hR2=>?_;obtain⟨sG,ys,Fs,v3,v4,eD,fD,lF,hF,_,rfl⟩:=hP;rw[Z58];have hG:=h.same sG;obtain⟨dx,ed⟩:=hG.o;have zj:=zZ (show (0:Int)<=(j:Int) by lia) (show (j:Int)<=99 by lia);refine⟨_,rfl,d,dx,_,rfl,ed,Js.no (Cd:=Cd) (by decide +kernel),_,rfl,(j:Int),rfl,Z29 (Z46 _) (by lia),_,_,rfl,rfl,(by rw[Zq,Zq,zs,sizeLine_eq];lia),?_⟩;refine yj ?_;show ZF P w K mg base 16 fz C Cd [.ref d,.str (Str.ofString "share " ++ Pw.ns (j:Int))] G _ _;refine UD hG cSh hj fun G2 Ss ok sz s2=>?_;have l8:=ok.len;have mS:=mem_getD (Bs:=Ss) (t:=j) (by lia);have nS:=ok.nn _ mS;have cS:=(ok.canon _ mS).1;obtain⟨zf,⟨q1,em1,b1⟩,q2,em2,b2⟩:=Ja nS (by lia) (sz _ mS);refine⟨rfl,_,47,rfl,vI z9M,by lia,fun pt G3 s3 m3 e3=>?_⟩;rw[z0P,em1,em2] at e3;have s23:=s2.trans s3;have eD3:=s23 _ _ eD;show R2 [_,_,_,_,_] _;subst hR2;refine⟨_,rfl,.inl ⟨rfl,_,zQ.of eD3⟩,_,rfl,pt,_,_,.str (Pw.ns (q1:Int)),rfl,rfl,zQ.of e3,rfl,_,(q1:Int),rfl,(Xg b1).1,(Xg b1).2,_,rfl,pt,_,_,.str (Pw.ns (q2:Int)),rfl,rfl,zQ.of e3,rfl,_,(q2:Int),rfl,(Xg b2).1,(Xg b2).2,zl2,fun t G4 s4 m4 e4=>?_⟩;have f4:XC K G4 t (Ss.getD j (0,1)):=by
  unfold XC;rw[em1,em2];exact e4
 have eD4:=s4 _ _ eD3;have s24:=s23.trans s4;refine⟨D,_,_,rfl,rfl,eD4,?_,vM hnx ⟨fun b o e=>?_,_,Fs ++ [Ss.getD j (0,1)],_,_,zh,((fD.same s24).snoc f4).kp (KL.set eD4),?_,fun Ts Jv=>?_,fun _=>⟨Ss,ok,sz⟩,rfl⟩⟩;rw[fD.len,lF];exact Zf (by lia);rw[zD (zo e m1)];exact s24 _ _ (sG _ _ e);rw[Z0M,Z37,lF];obtain rfl:=h.s.uniq ok Jv;rw[Z31,hF Ss ok,Z01 (by lia),Z02,Z01 (by lia)];rfl;rintro σ G ⟨sG,ys,Fs,v3,v4,eD,fD,lF,hF,hS,rfl⟩;obtain⟨Ss,ok,sz⟩:=hS n1;show RR [_,_,_,_,_] _;subst hRR;have e:=hF Ss ok;rw[Z0A (by rw[ok.len];exact Z03 _)] at e;subst e;exact⟨_,rfl,k D G Ss ys ok sz sG m1 eD fD⟩
open L2
theorem Jk:zE ["leap","out","pages","to","leaps","some"] ["leap","out","pages","to"] (ze xF):=fs
theorem JE(S:ZJ K mg "_law_going" xF ["leap","out","pages","to"])(T:Txt mg)(Lo:Def P w K mg base 1 "_law_low" ["above","below"] z0L)(Pl:Def P w K mg base 2 "_law_plus" ["one","other"] (Vw K)):Def P w K mg base 3 "_law_going" ["leap","out","pages","to"] (Z0i K):=S.def fun f fd F=>by
 refine F.ZM Jk fun nd cdv A' outer s H vs Q E hr h=>?_;obtain⟨la,L,A,ps,n,j,t,rfl,fA,eL,ca,a0,a1,a3,n1,n12,ht,few,k⟩:=h;refine⟨_,(qc (qf (qk (z5R hr) (qv 1) (ql qn)) (q1 (qr (qd Lo (qa qi (qa (qv 2) qn))))) q0) (qc (qs 4 (qd Lo (qa (qx zF (qv 0) qi) (qa (qo z7 (qx zF (qv 0) qi) (qv 2)) qn)))) (qc (qs 5 (qd Lo (qa (qo z7 (qo XZ (qx zF (qv 0) qi) (qx zF (qv 0) qi)) (qm Z47 PySem.F.slot_list_count PySem.F.type_list_count z4P (qv 1) (qa (qv 3) qn))) (qa (qo z7 (qx zF (qv 0) qi) (qy z0 T.len Z2O (qa (qv 1) qn))) qn)))) (q1 (qr (qd Pl (qa (qv 4) (qa (qv 5) qn)))))))),?_⟩;have sA1:Sz 20 A.1:=Zd 20 (by lia);have sA2:Sz 20 A.2:=Zd 20 (by lia);have sn:Sz 10 (n:Int):=Zd 10 (by lia);have ol:=Pw.Z4 ps (j:Int);have hc:=List.count_le_length (a:=(t:Int)) (l:=Pw.outs ps (j:Int));have zc:Sz 10 (((Pw.outs ps (j:Int)).count (t:Int):Nat):Int):=Zd 10 (by lia);have zl:Sz 10 (((Pw.outs ps (j:Int)).length:Nat):Int):=Zd 10 (by lia);refine zG fun RR hRR=>?_;refine⟨_,rfl,zl0,fun nl G1 s1 m1 e1=>⟨L,nl,_,rfl,rfl,.inr ⟨zQ.of (s1 _ _ eL),zQ.of e1⟩,_,rfl,?_⟩⟩;by_cases ho:Pw.outs ps (j:Int)=[];refine yL (by rw[ho];rfl) ?_;refine⟨_,rfl,1,(n:Int),rfl,by lia,Zd 1 (by decide),sn.mono (by decide),fun r G2 s2 m2 e2=>k r G2 (s1.trans s2) (s1.free m2) ?_⟩;unfold Pw.Zb;rw[if_pos ho,Pw.uQ _ _ ht];have cb:Pw.Canon ((1:Int),(n:Int)):=⟨by show 0<(n:Int);lia,by show Int.gcd 1 _=1;simp⟩;rw[← Pw.JU cb];exact e2;have hne:((Pw.outs ps (j:Int)).map V.int).isEmpty=false:=by
  cases h:Pw.outs ps (j:Int) with
  | nil=>exact absurd h ho
  | cons x l=>rfl
 have hlen:1<=(Pw.outs ps (j:Int)).length:=Z2K.mpr ho;refine ZN hne ?_;show RR [_,_,_,_,_,_] _;subst hRR;have d1:0<A.2 * (n:Int):=Z4s (by lia) (by lia);have d2:0<A.2 * (((Pw.outs ps (j:Int)).length:Nat):Int):=Z4s (by lia) (by lia);have fA1:=fA.same s1;have eL1:=s1 _ _ eL;have zm1:Sz 40 (A.2 * (n:Int)):=(sA2.mul sn).mono (by decide);have zm2:Sz 40 ((A.2 - A.1) * (((Pw.outs ps (j:Int)).count (t:Int):Nat):Int)):=((sA2.sub sA1).mul zc).mono (by decide);have zm3:Sz 40 (A.2 * (((Pw.outs ps (j:Int)).length:Nat):Int)):=(sA2.mul zl).mono (by decide);refine⟨_,rfl,la,_,_,_,rfl,rfl,fA1,rfl,_,rfl,la,_,_,_,rfl,rfl,fA1,rfl,_,rfl,_,_,rfl,rfl,⟨sA2.mono (by decide),sn.mono (by decide)⟩,_,_,rfl,d1,sA1.mono (by decide),zm1.mono (by decide),fun p1 G2 s2 m2 e2=>?_⟩;have fA2:=fA1.same s2;have eL2:=s2 _ _ eL1;refine⟨_,rfl,la,_,_,_,rfl,rfl,fA2,rfl,_,rfl,la,_,_,_,rfl,rfl,fA2,rfl,_,_,rfl,rfl,_,rfl,.inl ⟨rfl,_,zQ.of eL2⟩,_,rfl,L,_,_,rfl,rfl,zQ.of eL2,_,_,rfl,rfl,⟨(sA2.sub sA1).mono (by decide),zc.mono (by decide)⟩,_,rfl,la,_,_,_,rfl,rfl,fA2,rfl,_,rfl,L,_,rfl,.inl (zQ.of eL2),_,_,rfl,by rw[ZB],⟨sA2.mono (by decide),zl.mono (by decide)⟩,_,_,rfl,d2,zm2.mono (by decide),zm3.mono (by decide),fun p2 G3 s3 m3 e3=>?_⟩;have c1:=Pw.Zt (a:=A.1) (b:=A.2 * (n:Int)) (by lia);have c2:=Pw.Zt (a:=(A.2 - A.1) * (((Pw.outs ps (j:Int)).count (t:Int):Nat):Int)) (b:=A.2 * (((Pw.outs ps (j:Int)).length:Nat):Int)) (by lia);refine⟨_,rfl,_,rfl,p1,p2,_,_,rfl,zX.of (s3 _ _ e2),zX.of e3,c1.1,c2.1,(U3 (n:=40) (by lia) (sA1.mono (by decide)) zm1).mono (by decide),(U3 (n:=40) (by lia) zm2 zm3).mono (by decide),fun r G4 s4 m4 e4=>k r G4 (((s1.trans s2).trans s3).trans s4) (s1.free (s2.free (s3.free m4))) ?_⟩;rw[Pw.z7r ca n1 hlen] at e4;unfold Pw.Zb;rw[if_neg ho];have lenE:(YM n).length=n:=by simp[YM]
 rw[lenE,Z02,Z14,Z5r ht];show XC K G4 r (Pw.QI A ((YM n).getD t (0,1)) _ _);rw[show (YM n).getD t (0,1)=(1,(n:Int)) from Pw.uQ _ _ ht];exact e4
open L2
theorem z0t:zE ["web","leap","row","pages","links","found","page","out","to","going","part"] ["web","leap","row"] (ze Yi):=fs
theorem z1p(S:ZJ K mg "_law_step" Yi ["web","leap","row"])(T:Txt mg)(Lo:Def P w K mg base 1 "_law_low" ["above","below"] z0L)(Pl:Def P w K mg base 2 "_law_plus" ["one","other"] (Vw K))(Go:Def P w K mg base 3 "_law_going" ["leap","out","pages","to"] (Z0i K)):Def P w K mg base 4 "_law_step" ["web","leap","row"] (z4h K):=S.def fun f fd F=>by
 refine F.ZM z0t fun nd cdv A' outer s H vs Q E hr h=>?_;obtain⟨wa,la,ro,n,ps,A,Ss,ys,V',rfl,h,k⟩:=h;refine⟨_,(qc ⟨Jh (pv 0) (z2k rfl (Zz (Zo (i:=3) nd rfl (Or.inl rfl)) (Zz (Zo (i:=4) nd rfl (Or.inl rfl)) Y5)))⟩ (qc (qI 5 (ze Yi) ["page"] [none] (qR T.range (qa (qv 3) qn)) trivial (fun _ _ _ _ _ _=>(qg 0)) (fun _ _ _ _ _=>qV) (fun _ _ _ _ _=>(qt (qa qi (qa qi qn))))) (qc (qF (qR T.range (qa (qv 3) qn)) (qg 6) (qc (qI 7 (ze Yi) ["at","to","page"] [none,none,some 6] (qU (qv 4)) ⟨⟨rfl,rfl,.inl rfl⟩,trivial⟩ (fun _ _ _ _ _ _=>(qj K 2 (qH (qg 0) (qH (qg 1) qN)))) (fun _ _ _ _ _=>(qZ (qk ya (qv 0) (qv 2)))) (fun _ _ _ _ _=>(qv 1))) (q1 (qF (qR T.range (qa (qv 3) qn)) (qg 8) (qc (qs 9 (qd Go (qa (qv 1) (qa (qv 7) (qa (qv 3) (qa (qv 8) qn)))))) (qc (qs 10 (qd Lo (qa (qo z7 (qx zF (qx zK (qv 2) (qv 6)) qi) (qx zF (qv 9) qi)) (qa (qo z7 (qx zF (qx zK (qv 2) (qv 6)) qi) (qx zF (qv 9) qi)) qn)))) (q1 ⟨Jh (ZP (by rfl) (by rfl) (by rfl) (by decide) Pl (hr.mono (by decide)) (@zB _ _ _ _ _ (by rfl) (ZD zK (pv 5) (pv 8) (fun _ _=>rfl)) (@zB _ _ _ _ _ (by rfl) (pv 10) zJ))) (z1n (pv 5) (pv 8) set_list)⟩))))))) (q1 (qr (qv 5)))))),?_⟩;have n1:=h.n1;have n12:=h.n12;have few:=h.few;have hBn:(YM n).length=n:=by simp[YM]
 have pr:=Y9 h.n1 h.n12 h.a0 h.a1;have cb:=Pw.Yh h.n1;have lk:∀ p∈ps,0<=p.2/\p.2<(n:Int):=fun p hp=>(h.rng p hp).2.2;obtain⟨ws,uw,hwa,hws,hpw⟩:=id h.web;have hlw:=hpw.len;refine zG fun RR hRR=>?_;refine⟨_,rfl,wa,_,rfl,zX.of hwa,rfl,_,_,rfl,_,_,rfl,rfl,?_⟩;show RR [_,_,_,_,_,_,_,_,_,_,_] _;subst hRR;refine zG fun RR hRR=>?_;refine⟨_,rfl,(n:Int),rfl,by lia,by lia,fun D hD=>?_⟩;rw[Z2J];refine ua (lo:=0) (n:=n) (D:=D) (fun i vs σ G=>zC H G/\G D=some (.lst vs)/\yp K G (List.replicate i (0,1)) vs/\∃ x,σ=[x]) ?_ ?_ ?_ ?_;exact⟨zC.new hD,zh,rfl,none,rfl⟩;rintro i vs σ G ⟨_,e,_⟩;exact e
 · rintro i vs σ G hi ⟨s1,e1,f1,x,rfl⟩
   rw[Z58];dsimp only [Zs];rw[if_pos rfl];refine⟨zl2,fun q G2 s2 m2 e2=>⟨s2 _ _ e1,?_,Wt.next hi ⟨fun b o e=>?_,zh,?_,_,rfl⟩⟩⟩;rw[f1.len,Z4r];exact Zf (by lia);rw[zD (zo e hD)];exact s2 _ _ (s1 _ _ e);rw[List.replicate_succ'];exact ((f1.same s2).snoc (A:=(0,1)) e2).kp (KL.set (s2 _ _ e1))
 rintro vs σ G1 ⟨s1,e1,f1,_⟩;show RR [_,_,_,_,_,_,_,_,_,_,_] _;subst hRR;refine zG fun RR hRR=>?_;have mO:∀ {G:Hp},zC H G->G ws=some (.tup uw):=fun s=>s _ _ hws;refine⟨_,rfl,(n:Int),rfl,by lia,by lia,?_⟩;rw[Z2J];refine yU (lo:=0) (n:=n) (fun j σ G=>zC H G/\∃ (zs:List V) (v6 v7 v8 v9 v10:Option V),G D=some (.lst zs)/\yp K G (Pw.stq (Pw.wst ps A Ss n) n j 0) zs/\σ=[some (.ref wa),some (.ref la),some (.ref ro),some (.int (n:Int)),some (.ref ws),some (.ref D),v6,v7,v8,v9,v10]) ?_ ?_ ?_;refine⟨s1,vs,none,none,none,none,none,e1,?_,rfl⟩;rw[Pw.z5U];exact f1
 · intro j σ G hj hP
   refine YY fun DD hDD=>?_;have hnx:=congrArg Ends.nx hDD;clear hDD;refine zG fun R2 hR2=>?_;obtain⟨sG,zs,v6,v7,v8,v9,v10,eD,fD,rfl⟩:=hP;rw[Z58];refine⟨_,rfl,ws,rfl,⟨_,zX.of (mO sG)⟩,fun O hO=>?_⟩;refine Yn (K:=K) (a:=ws) (D:=O) (xs:=uw) (fun i ys σ H'=>zC G H'/\H' O=some (.lst ys)/\ys=(Pw.outs (ps.take i) (j:Int)).map V.int/\∃ x y,σ=[x,y,some (.int (j:Int))]) ?_ ?_ ?_ ?_;exact⟨zC.new hO,zh,rfl,none,none,rfl⟩;rintro i ys σ H' ⟨t1,hD1,_,_⟩;exact⟨zX.of (mO (sG.trans t1)),hD1⟩
   · rintro i v ys σ H' hi hlt ⟨t1,hD1,rfl,x,y,rfl⟩
     obtain⟨a,p,e1,rfl,e2⟩:=hpw.get hi;have et:ps.take (i+1)=ps.take i ++ [p]:=(by rw[Z4l,e1];rfl);refine⟨a,_,rfl,(sG.trans t1).YT e2,rfl,_,_,rfl,_,_,rfl,rfl,?_⟩;refine⟨_,rfl,_,rfl,rfl,_,rfl,?_⟩;have hlen:((Pw.outs (ps.take i) (j:Int)).map V.int).length<sizeLine:=by
      rw[ZB];have h1:=Pw.Z4 (ps.take i) (j:Int);have h2:(ps.take i).length<=ps.length:=(by rw[Z20];lia);exact Zf (by lia)
     by_cases c:p.1=(j:Int)
     · refine yL (by rw[c];simp) ?_
       refine⟨_,rfl,hD1,hlen,Wt.next hlt ⟨fun b o e=>?_,zh,?_,_,_,rfl⟩⟩;rw[zD (zo e hO)];exact t1 b o e;rw[et,Pw.yY,if_pos c,Z15];rfl
     · refine ZN (by simpa using c) ?_
       exact Wt.next hlt ⟨t1,hD1,by rw[et,Pw.yY,if_neg c,Z43],_,_,rfl⟩
   rintro ys2 σ H1 ⟨t1,eO,rfl,_⟩;rw[hlw,Z0A (Z03 _)] at eO;have oD:D≠O:=zo eD hO;have eD1:=t1 _ _ eD;have fD1:=fD.same t1;have sG1:=sG.trans t1;show R2 [_,_,_,_,_,_,_,_,_,_,_] _;subst hR2;have sa:yc 20 A:=⟨Zd 20 (by have:=h.a0;have:=h.a1;have:=h.a3;lia),Zd 20 (by have:=h.a0;have:=h.a1;have:=h.a3;lia)⟩;have sb:∀ B∈YM n,yc 10 B:=fun B hB=>by
    rw[List.eq_of_mem_replicate hB];exact⟨Zd 10 (by show (1:Int).natAbs<_;decide),Zd 10 (by show (n:Int).natAbs<_;lia)⟩
   have hSl:=h.ok.len;have mR:=mem_getD (Bs:=Ss) (t:=j) (by lia);have cR:=h.rw.canon _ mR;have zR:=h.rw.sz2 mR;refine⟨_,rfl,(n:Int),rfl,by lia,by lia,?_⟩;rw[Z2J];refine yU (lo:=0) (n:=n) (fun t σ G=>zC H G/\∃ (zs:List V) (v8 v9 v10:Option V),G D=some (.lst zs)/\yp K G (Pw.stq (Pw.wst ps A Ss n) n j t) zs/\G O=some (.lst ((Pw.outs ps (j:Int)).map V.int))/\σ=[some (.ref wa),some (.ref la),some (.ref ro),some (.int (n:Int)),some (.ref ws),some (.ref D),some (.int (j:Int)),some (.ref O),v8,v9,v10]) ?_ ?_ ?_;exact⟨sG1,zs,v8,v9,v10,eD1,fD1,eO,rfl⟩;intro t σ G2 ht hP;refine YY fun D2 hD2=>?_;have hnx2:=congrArg Ends.nx hD2;clear hD2;refine zG fun R3 hR3=>?_;obtain⟨s2,ys3,w8,w9,w10,eD2,fD2,eO2,rfl⟩:=hP;rw[Z58];have htW:t<(Pw.Zb ps A (YM n) (j:Nat)).length:=by rw[Pw.vt];lia
   have mW:=mem_getD htW;have cW:=Pw.vF (ps:=ps) (page:=(j:Int)) h.ca cb _ mW;have zW:=z6s (by lia) h.ca cb sa sb _ mW;obtain⟨z1,z2⟩:=z9c lk (by lia) h.ca (sa.mono (by decide)) cb hBn (by lia) pr h.rw (j:=j) (t:=t) (by lia) ht;refine⟨_,rfl,_,rfl,_,rfl,_,rfl,la,O,A,ps,n,j,t,rfl,h.leap.same s2,eO2,h.ca,h.a0,h.a1,h.a3,n1,n12,ht,few,fun g G3 s3 m3 f3=>?_⟩;have s23:=s2.trans s3;show R3 [_,_,_,_,_,_,_,_,_,_,_] _;subst hR3;refine zG fun R3 hR3=>?_;obtain⟨q2,eq2,fq2⟩:=(h.frs.same s23).at (j:=j) (A:=Ss.getD j (0,1)) (by rw[Z02,Z01 (by lia)];rfl);have fg:=xw.of f3;have fr:=xw.of fq2;have er:=s23 _ _ h.row;refine⟨_,rfl,_,rfl,ro,ys,(j:Int),.ref q2,rfl,rfl,zQ.of er,z8 eq2,q2,_,_,_,rfl,rfl,fr,rfl,_,rfl,g,_,_,_,rfl,rfl,fg,rfl,_,_,rfl,rfl,⟨zR.1.mono (by decide),zW.1.mono (by decide)⟩,?_⟩;refine⟨_,rfl,_,rfl,ro,ys,(j:Int),.ref q2,rfl,rfl,zQ.of er,z8 eq2,q2,_,_,_,rfl,rfl,fr,rfl,_,rfl,g,_,_,_,rfl,rfl,fg,rfl,_,_,rfl,rfl,⟨zR.2.mono (by decide),zW.2.mono (by decide)⟩,?_⟩;refine⟨_,_,rfl,Z4s cR.1 cW.1,(zR.1.mul zW.1).mono (by decide),(zR.2.mul zW.2).mono (by decide),fun p4 G4 s4 m4 e4=>?_⟩;have f4:XC K G4 p4 (Pw.xV (Ss.getD j (0,1)) ((Pw.Zb ps A (YM n) (j:Nat)).getD t (0,1))):=e4;rw[Pw.z2J (Pw.zI cR) (Pw.zI cW)] at f4;have s34:=s3.trans s4;show R3 [_,_,_,_,_,_,_,_,_,_,_] _;subst hR3;obtain⟨q5,eq5,fq5⟩:=(fD2.same s34).at (j:=t) (Pw.Z1S ht);rw[if_neg (Z2N _)] at fq5;have eD4:=s34 _ _ eD2;have cS:=Pw.ZH (Pw.qs j (Pw.wst ps A Ss n t));refine⟨_,rfl,_,rfl,D,ys3,(t:Int),.ref q5,rfl,rfl,zQ.of eD4,z8 eq5,_,rfl,q5,p4,_,_,rfl,xw.of fq5,xw.of f4,cS.1,(Pw.ZH _).1,z1.mono (by decide),(z2 j hj).mono (by decide),fun r G5 s5 m5 f5=>?_⟩;rw[Pw.jb (Pw.zI cS) (Pw.zI (Pw.ZH _)),Pw.Yt,Pw.Yt] at f5;have eD5:=s5 _ _ eD4;have lz:ys3.length=n:=by rw[fD2.len];simp[Pw.stq]
   refine⟨_,rfl,_,rfl,D,ys3,(t:Int),t,rfl,rfl,eD5,z9j (by lia),vM hnx2 ⟨fun b o e=>?_,_,_,_,_,zh,?_,?_,rfl⟩⟩;rw[zD (zo e hD)];exact s5 _ _ (s34 _ _ (s2 _ _ e));rw[← Pw.z8z];exact (yp.puA f5 t (fD2.same (s34.trans s5))).kp (KL.set eD5);rw[zD (fun z=>oD z.symm)];exact s5 _ _ (s34 _ _ eO2);rintro σ G2 ⟨s2,zs2,w8,w9,w10,eD2,fD2,eO2,rfl⟩;rw[Pw.z8B] at fD2;exact vM hnx ⟨s2,zs2,_,_,_,_,_,eD2,fD2,rfl⟩
 rintro σ G ⟨sG,zs,v6,v7,v8,v9,v10,eD,fD,rfl⟩;show RR [_,_,_,_,_,_,_,_,_,_,_] _;subst hRR;rw[Pw.z8R h.ok] at fD;exact⟨_,rfl,k D G zs sG hD eD fD⟩
open L2
theorem Xw:zE ["desk","web","leap","row","total","share","ranks","one","other","left","right"] ["desk","web","leap"] (ze ZE):=fs
theorem XT(S:ZJ K mg "_law_shares_right" ZE ["desk","web","leap"])(T:Txt mg)(DT:DkT K Cd)(Sy:Z1 P w K mg base yk 18 Cd "say" ["self","words"] (ZF P w K mg base 16 fz C Cd))(Sd:Def P w K mg base 19 "_law_shares" ["desk","pages"] (z5V K C Cd tb posR))(Pl:Def P w K mg base 2 "_law_plus" ["one","other"] (Vw K))(St:Def P w K mg base 4 "_law_step" ["web","leap","row"] (z4h K))(cRk:Jw P w K mg base fz (Str.ofString "rank") 0 (vj K C tb posR)):Def P w K mg base 20 "_law_shares_right" ["desk","web","leap"] (z7v K C Cd tb posR):=S.def fun f fd F=>by
 refine F.ZM Xw fun nd cdv A' outer s H vs Q E hr h=>?_;obtain⟨d,wa,la,p,pd,lp,n,ps,Ws,A,rfl,h,hw,hl,a3,k⟩:=h;refine⟨_,(qc (qs 3 (qd Sd (qa (qv 0) (qa (qx zF (qv 1) qi) qn)))) (qc (qs 4 (qt (qa qi (qa qi qn)))) (qc (qF (qL (qv 3)) (qg 5) (qc (qs 4 (qd Pl (qa (qv 4) (qa (qv 5) qn)))) (q1 (qf (qW (qO (qk Ys (qx zF (qv 5) qi) qi) (qP (qk Ys (qo z7 (qo z7 (qx zF (qv 5) qi) (qx zF (qv 2) qi)) (qx zF (qv 1) qi)) (qo z7 (qx zF (qv 2) qi) (qx zF (qv 5) qi)))))) (q1 (qr qb)) q0)))) (qc (qf (qW (qO (qk (Jq hr) (qv 4) (qt (qa qi (qa qi qn)))) (qP (qk (Jq hr) (qd St (qa (qv 1) (qa (qv 2) (qa (qv 3) qn)))) (qv 3))))) (q1 (qr qb)) q0) (qc (qI 6 (ze ZE) ["word"] [none] (qL (qm Z1G Z2M Z4i Yg (qM (qv 0) DT.cl Sy (qa qw qn)) (qa qw qn))) trivial (fun _ _ _ _ _ _=>(qg 0)) (fun _ _ _ _ _=>qV) (fun _ _ _ _ _=>(qY ZI T.int boot_int (qa (qv 0) qn)))) (qc (qF ⟨uy (by rfl) (by rfl) (by rfl) rfl T.zip (@zB _ _ _ _ _ (by rfl) (pv 6) (@zB _ _ _ _ _ (by rfl) (YZ Yx (pv 6) (Xl zP) Xb) zJ))⟩ (qJ (qH (qg 7) (qH (qg 8) qN))) (qc (qs 9 (qo z7 (qx zF (qx zK (qv 3) (qv 7)) qi) (qx zF (qx zK (qv 3) (qv 8)) qi))) (qc (qs 10 (qo z7 (qx zF (qx zK (qv 3) (qv 8)) qi) (qx zF (qx zK (qv 3) (qv 7)) qi))) (q1 (qf (qW (qO (qk Ys (qv 9) (qv 10)) (qP (qW (qA (qk ya (qv 9) (qv 10)) (qB (qk z0i (qv 7) (qv 8)))))))) (q1 (qr qb)) q0))))) (q1 (qr (qe (Z0Z hr) (qy XE T.srt boot_sorted (qa (qv 6) qn)) ⟨j3 rfl rfl T.lst rfl T.range (@zB _ _ _ _ _ (by rfl) (ZD zF (pv 1) zP (fun _ _=>rfl)) zJ)⟩))))))))),?_⟩;have n1:=h.s.n1;have n12:=h.s.n12;have few:=h.s.few;have ca:=h.s.ca;have a0:=h.s.a0;have a1:=h.s.a1;obtain⟨wt,uw,hwa,hwt,hpw⟩:=id hw;refine zG fun RR hRR=>?_;refine⟨_,rfl,_,rfl,wa,_,_,_,rfl,rfl,zX.of hwa,rfl,d,p,pd,lp,n,ps,Ws,A,rfl,h,fun D G1 Ss ys ok sz s1 m1 e1 f1=>?_⟩;have pr:=Y9 n1 n12 a0 a1;have lk:∀ q∈ps,0<=q.2/\q.2<(n:Int):=fun q hq=>(h.s.rng q hq).2.2;have hBn:(YM n).length=n:=by simp[YM]
 obtain⟨V',rw⟩:=Rw.any (z:=20) (by lia) lk ca (Pw.Yh n1) hBn n12 pr (by decide) (Zd 20 (by lia)) (Zd 20 (by lia)) ok;have hSl:=ok.len;have hyl:=f1.len;show RR [_,_,_,_,_,_,_,_,_,_,_] _;subst hRR;refine zG fun RR hRR=>?_;refine⟨zl2,fun to G2 s2 n2 e2=>?_⟩;show RR [_,_,_,_,_,_,_,_,_,_,_] _;subst hRR;refine zG fun RR hRR=>?_;have s12:=s1.trans s2;refine⟨_,rfl,D,rfl,⟨_,zQ.of (s2 _ _ e1)⟩,?_⟩;refine Yo (K:=K) (a:=D) (xs:=ys) (fun m σ G=>zC G2 G/\∃ (q:Addr) (v5:Option V),XC K G q (Pw.Vv (Pw.qs m (fun t=>Pw.val (Ss.getD t (0,1)))))/\σ=[some (.ref d),some (.ref wa),some (.ref la),some (.ref D),some (.ref q),v5,none,none,none,none,none]) ?_ (fun m σ G _ hP=>zQ.of (hP.1 _ _ (s2 _ _ e1))) ?_ ?_;exact⟨zC.refl _,to,none,e2,rfl⟩;intro m v σ G hm hP;refine YY fun DD hDD=>?_;have hnx:=congrArg Ends.nx hDD;clear hDD;refine zG fun R2 hR2=>?_;obtain⟨sG,q,v5,fq,rfl⟩:=hP;have hml:m<ys.length:=(Z12.mp hm).1;have hmS:m<Ss.length:=by lia
 obtain⟨q',eq',fq'⟩:=(f1.same (s2.trans sG)).at (j:=m) (A:=Ss.getD m (0,1)) (by rw[Z02,Z01 hmS];rfl);rw[hm] at eq';cases eq';have mS:=mem_getD hmS;have cS:=ok.canon _ mS;have cQ:=Pw.ZH (Pw.qs m (fun t=>Pw.val (Ss.getD t (0,1))));have zS:=rw.sz2 mS;refine⟨_,rfl,_,rfl,q,q',_,_,rfl,xw.of fq,xw.of fq',cQ.1,cS.1,(z8o rw (by lia) (j:=m) (by lia)).mono (by decide),zS.mono (by decide),fun r G3 s3 m3 f3=>?_⟩;rw[Pw.jb (Pw.zI cQ) (Pw.zI cS),Pw.Yt] at f3;show R2 [_,_,_,_,_,_,_,_,_,_,_] _;subst hR2;have fr:=xw.of (K:=K) (s3 _ _ fq');have sH3:=s12.trans (sG.trans s3);have fl:=hl.same sH3;have li:=ok.Z2Z n1 n12 ca a0 a1 (t:=m) (by lia);refine⟨_,rfl,q',_,_,_,rfl,rfl,fr,rfl,_,_,rfl,rfl,_,rfl,ZN (decide_eq_false (by have:=cS.1;lia)) ?_⟩;refine⟨_,rfl,q',_,_,_,rfl,rfl,fr,rfl,_,rfl,la,_,_,_,rfl,rfl,fl,rfl,_,_,rfl,rfl,⟨zS.1.mono (by decide),(Zd 20 (by lia):Sz 20 A.2).mono (by decide)⟩,_,rfl,wa,_,_,_,rfl,rfl,zX.of (sH3 _ _ hwa),rfl,_,_,rfl,rfl,⟨(zS.1.mul (Zd 20 (by lia):Sz 20 A.2)).mono (by decide),(Zd 20 (by lia):Sz 20 (n:Int)).mono (by decide)⟩,?_⟩;refine⟨_,rfl,la,_,_,_,rfl,rfl,fl,rfl,_,rfl,q',_,_,_,rfl,rfl,fr,rfl,_,_,rfl,rfl,⟨(Zd 20 (by lia):Sz 20 A.1).mono (by decide),zS.2.mono (by decide)⟩,_,_,rfl,rfl,_,rfl,ZN (decide_eq_false (Int.not_lt.mpr li)) ?_⟩;exact vM hnx ⟨sG.trans s3,r,_,f3,rfl⟩
 · rintro σ G ⟨sG,q,v5,fq,rfl⟩
   show RR [_,_,_,_,_,_,_,_,_,_,_] _;subst hRR;refine zG fun RR hRR=>?_;rw[hyl,hSl,ok.one] at fq;have sG2:=s2.trans sG;have sHG:=s1.trans sG2;refine⟨_,rfl,zl2,fun t8 G8 s8 n8 e8=>?_⟩;refine neF (A:=Pw.Vv 1) (B:=(1,1)) (s8 _ _ fq) e8 ⟨_,rfl,ZN rfl ?_⟩;have sH8:=sHG.trans s8;have s28:=sG2.trans s8;refine⟨_,rfl,_,rfl,_,rfl,wa,la,D,n,ps,A,Ss,ys,V',rfl,⟨hw.same sH8,hl.same sH8,ca,a0,a1,a3,n1,n12,few,h.s.rng,s28 _ _ e1,f1.same s28,ok,rw⟩,fun D9 G9 zs s9 m9 e9 f9=>?_⟩;refine⟨_,rfl,Z3A (zQ.of e9) (zQ.of (s9 _ _ (s28 _ _ e1))) f9 (f1.same (s28.trans s9)) ⟨_,rfl,ZN rfl ?_⟩⟩;show RR [_,_,_,_,_,_,_,_,_,_,_] _;subst hRR;refine zG fun RR hRR=>?_;have sH9:=sH8.trans s9;have s29:=s28.trans s9;have h9:=h.same sH9;obtain⟨dx,ed⟩:=h9.o;refine⟨_,rfl,d,dx,_,rfl,ed,Js.no (Cd:=Cd) (by decide +kernel),?_⟩;show ZF P w K mg base 16 fz C Cd [.ref d,.str (Str.ofString "rank")] _ _ _;refine z5K h9 cRk fun G10 Ts r Jv rk kp h10=>?_;obtain rfl:=h.s.uniq ok Jv;have lr:r.length=n:=by rw[rk.pm.length_eq,Z2I]
   have hr12:∀ i∈r,i<n:=fun i hi=>Z23.mp (rk.pm.mem_iff.mp hi);generalize el:(r.map fun (k:Nat)=>(k:Int))=l;have ll:l.length=n:=by rw[← el,ZB,lr]
   have lz:∀ z∈l,0<=z/\z<=99:=fun z hz=>by
    rw[← el] at hz;obtain⟨i,hi,rfl⟩:=Z17.mp hz;have:=hr12 i hi;lia
   refine⟨rfl,_,32,rfl,vI z7F,Z11 (Pw.z4c (by lia) lz) (by decide),fun pt G11 s11 m11 e11=>?_⟩;rw[Pw.uR (fun z=>by rw[z] at ll;simp at ll;lia)] at e11;refine⟨pt,rfl,⟨_,zQ.of e11⟩,fun D2 hD2=>?_⟩;refine Z0 (K:=K) (a:=pt) (D:=D2) (xs:=(l.map Pw.ns).map V.str) (fun i vs σ G=>zC G11 G/\G D2=some (.lst vs)/\vs=(l.take i).map V.int/\∃ x,σ=[x]) ?_ ?_ ?_ ?_;exact⟨zC.new hD2,zh,rfl,none,rfl⟩;rintro i vs σ G ⟨t1,eV,_⟩;exact⟨zQ.of (t1 _ _ e11),eV⟩
   · rintro i v vs σ G hi hlt ⟨t1,eV,rfl,x,rfl⟩
     have hil:i<l.length:=(by rw[ZB,ZB] at hlt;exact hlt);have hz:=lz _ (Z26 hil);rw[Z14,Z14,Z01 hil] at hi;cases hi;dsimp only [Zs];rw[if_pos rfl];refine⟨_,rfl,_,l[i],rfl,z1C hz.1 (by lia),Z11 (zZ hz.1 hz.2) (by decide),eV,?_,Wt.next hlt ⟨fun b o e=>?_,zh,?_,_,rfl⟩⟩;rw[ZB,Z20];exact Zf (by lia);rw[zD (zo e hD2)];exact t1 _ _ e;rw[Z4l,Z01 hil,Z15];rfl
   rintro vs σ G12 ⟨t12,eV,rfl,_⟩;rw[ZB,ZB,Z0A (Z03 _)] at eV;show RR [_,_,_,_,_,_,_,_,_,_,_] _;subst hRR;refine zG fun RR hRR=>?_;have tbN:∀ {b:Addr}{xs:List V},G9 b=some (.lst xs)->b≠tb:=fun e z=>by
    rcases h9.t with t |⟨_,t,_⟩ <;> rw[z,t] at e <;> cases e
   have u:KU G9 G10:=kp.ku (.inr (by rcases h9.t with t |⟨_,t,_⟩ <;> exact⟨_,t⟩));have t10:=s11.trans t12;have eR:=t10 _ _ (kp _ _ (s29 _ _ e1) (tbN (s29 _ _ e1)));have fR:=((f1.same s29).ku u).same t10;have wR:=((hw.same sH9).ku u).same t10;have h12:=h10.same t10;refine⟨_,rfl,_,rfl,1,rfl,D2,_,rfl,zQ.of eV,fun Z hZ=>?_⟩
   rw[z9P];have t13:zC G12 (upd G12 Z (.lst ((l.map V.int).drop 1))):=zC.new hZ;have eZ:(upd G12 Z (.lst ((l.map V.int).drop 1))) Z=some (.lst ((l.map V.int).drop 1)):=zh;generalize upd G12 Z (.lst ((l.map V.int).drop 1))=G13 at t13 eZ;have eV3:=t13 _ _ eV;refine⟨true,true,D2,Z,l.map V.int,(l.map V.int).drop 1,rfl,zQ.of eV3,zQ.of eZ,?_⟩;refine z6C (K:=K) (b1:=true) (b2:=true) (a:=D2) (b:=Z) (xs:=l.map V.int) (zs:=(l.map V.int).drop 1) (by rw[Z30];lia) (fun j σ G=>zC G13 G/\∃ v7 v8 v9 v10:Option V,σ=[some (.ref d),some (.ref wa),some (.ref la),some (.ref D),some (.ref q),v5,some (.ref D2),v7,v8,v9,v10]) ?_ (fun i σ G hP=>⟨zQ.of (hP.1 _ _ eV3),zQ.of (hP.1 _ _ eZ)⟩) ?_ ?_;exact⟨zC.refl _,_,_,_,_,rfl⟩;intro i x z σ G T G' hx hz hi hP hT sT eT;obtain⟨sG3,v7,v8,v9,v10,rfl⟩:=hP;subst el;have hi1:i+1<r.length:=by simp only[Z30,ZB] at hi;lia
   obtain⟨a,ga⟩:∃ a,r[i]?=some a:=⟨_,Z01 (by lia)⟩;obtain⟨b,gb⟩:∃ b,r[i+1]?=some b:=⟨_,Z01 hi1⟩;rw[Z14,Z14,ga] at hx;rw[List.getElem?_drop,Nat.add_comm 1 i,Z14,Z14,gb] at hz;cases hx;cases hz;have ma:=hr12 _ (Z21 ga);have mb:=hr12 _ (Z21 gb);have ad:=rk.adj ga gb;refine⟨T,_,rfl,zX.of eT,rfl,_,_,rfl,_,_,rfl,rfl,?_⟩;refine YY fun DD hDD=>?_;have hnx:=congrArg Ends.nx hDD;clear hDD;refine zG fun R2 hR2=>?_;have mSa:=mem_getD (Bs:=Ss) (t:=a) (by lia);have mSb:=mem_getD (Bs:=Ss) (t:=b) (by lia);have cr:=ad.Z3L (ok.canon _ mSa).1 (ok.canon _ mSb).1;have tG:=(t13.trans sG3).trans sT;obtain⟨qa,ea,fa⟩:=(fR.same tG).at (j:=a) (A:=Ss.getD a (0,1)) (by rw[Z02,Z01 (by lia)];rfl);obtain⟨qb,eb,fb⟩:=(fR.same tG).at (j:=b) (A:=Ss.getD b (0,1)) (by rw[Z02,Z01 (by lia)];rfl);have fa:=xw.of (K:=K) fa;have fb:=xw.of (K:=K) fb;have za:=rw.sz2 mSa;have zb:=rw.sz2 mSb;have eRG:=zQ.of (K:=K) (tG _ _ eR);refine⟨_,rfl,_,rfl,D,ys,(a:Int),.ref qa,rfl,rfl,eRG,z8 ea,qa,_,_,_,rfl,rfl,fa,rfl,_,rfl,_,rfl,D,ys,(b:Int),.ref qb,rfl,rfl,eRG,z8 eb,qb,_,_,_,rfl,rfl,fb,rfl,_,_,rfl,rfl,⟨za.1.mono (by decide),zb.2.mono (by decide)⟩,?_⟩;show R2 [_,_,_,_,_,_,_,_,_,_,_] _;subst hR2;refine zG fun R2 hR2=>?_;refine⟨_,rfl,_,rfl,D,ys,(b:Int),.ref qb,rfl,rfl,eRG,z8 eb,qb,_,_,_,rfl,rfl,fb,rfl,_,rfl,_,rfl,D,ys,(a:Int),.ref qa,rfl,rfl,eRG,z8 ea,qa,_,_,_,rfl,rfl,fa,rfl,_,_,rfl,rfl,⟨zb.1.mono (by decide),za.2.mono (by decide)⟩,?_⟩;show R2 [_,_,_,_,_,_,_,_,_,_,_] _;subst hR2;have nl:¬ (Ss.getD a (0,1)).1 * (Ss.getD b (0,1)).2<(Ss.getD b (0,1)).1 * (Ss.getD a (0,1)).2:=by
    rcases cr with c |⟨c,_⟩;exact Int.not_lt.mpr (Z44 c);exact Int.not_lt.mpr (Int.le_of_eq c.symm)
   refine⟨_,rfl,_,rfl,_,_,rfl,rfl,_,rfl,ZN (decide_eq_false nl) ?_⟩;rcases cr with c |⟨c,l2⟩;refine⟨_,rfl,_,rfl,rfl,_,rfl,ZN (by simpa using (Int.ne_of_gt c)) ?_⟩;exact ZN rfl (vM hnx ⟨sG3.trans sT,_,_,_,_,rfl⟩);refine⟨_,rfl,_,rfl,rfl,_,rfl,yL (by simpa using c) ?_⟩;refine⟨_,rfl,_,rfl,_,_,rfl,rfl,_,rfl,ZN (decide_eq_false (show ¬ (a:Int) > (b:Int) by lia)) ?_⟩;exact vM hnx ⟨sG3.trans sT,_,_,_,_,rfl⟩;rintro σ G ⟨sG3,v7,v8,v9,v10,rfl⟩;show RR [_,_,_,_,_,_,_,_,_,_,_] _;subst hRR;have tG:=t13.trans sG3;obtain⟨wt2,uw2,hwa2,hwt2,hpw2⟩:=wR.same tG;refine⟨_,rfl,D2,l,rfl,zQ.of (sG3 _ _ eV3),by lia,fun ms E1 F1 pm up x1 y1 z1=>?_⟩
   refine⟨_,rfl,wa,_,_,_,rfl,rfl,zX.of (x1 _ _ hwa2),rfl,n,rfl,by lia,fun E2 F2 x2 y2 z2=>?_⟩;have em:ms=(List.range n).map fun (k:Nat)=>(k:Int):=by
    refine QM (pm.trans ?_) up ?_;rw[← el];exact rk.pm.map _;exact List.pairwise_map.mpr (List.pairwise_lt_range.imp fun h=>by lia)
   refine⟨E1,E2,_,_,ms.map Dt.int,ms.map Dt.int,rfl,rfl,.inr ⟨zQ.of (x2 _ _ z1),zQ.of z2⟩,yV _ _ _,?_,(by rw[VW];decide),?_⟩;have e2:((List.range n).map fun (k:Nat)=>(k:Int)).map V.int=(List.range n).map fun (k:Nat)=>V.int (k:Int):=by rw[Z57];rfl
   rw[em,← e2];exact yV _ _ _;rw[Y0];have xx:=(tG.trans x1).trans x2;exact k F2 ((sH9.kp.trans kp).trans (t10.trans xx).kp) (h12.same xx)
open L2
theorem uV:zE ["desk","one","other","pages","page","row"] ["desk","one","other","pages"] (ze yS):=fs
theorem jR(S:ZJ K mg "_law_passes" yS ["desk","one","other","pages"])(T:Txt mg)(DT:DkT K Cd)(Sy:Z1 P w K mg base yk 18 Cd "say" ["self","words"] (ZF P w K mg base 16 fz C Cd))(zstr:mg "str"=none)(cLi:Jw P w K mg base fz (Str.ofString "link") 2 (Xd K C))(cSh:Jw P w K mg base fz (Str.ofString "share") 1 (xr K C))(cUn:Jw P w K mg base fz (Str.ofString "undo") 0 (Xk K C)):Def P w K mg base 20 "_law_passes" ["desk","one","other","pages"] (z2B K C Cd tb posR):=S.def fun f fd F=>by
 refine F.ZM uV fun nd cdv A' outer s H vs Q E hr h=>?_;obtain⟨d,p,pd,lp,L,n,x,y,ps,Ws,A,l,rfl,h,eL,nL,hx,hy,hz,few,hW,k⟩:=h;refine⟨_,(qc (qF (qL (qv 3)) (qg 4) (q1 (qX (qM (qv 0) DT.cl Sy (qa (qo zT (qo zT (qo zT qw (qY zU zstr boot_str (qa (qv 4) qn))) qw) (qY zU zstr boot_str (qa (qv 1) qn))) qn))))) (qc (qI 5 (ze yS) ["page","desk"] [none,some 0] (qU (qt (qa (qv 1) (qa (qv 2) qn)))) ⟨⟨rfl,rfl,.inl rfl⟩,trivial⟩ (fun _ _ _ _ _ _=>(qg 0)) (fun _ _ _ _ _=>qV) (fun _ _ _ _ _=>⟨Z2A (K:=K) rfl (by rfl) (by rfl) (by rfl) (by rfl) (by rfl) Z1G Z2M Z4i Yg (z3k (by rfl) (by rfl) (by rfl) (pv 1) DT.cl Sy (hr.mono (by decide)) xE (@zB _ _ _ _ _ (by rfl) (ZV zT z1t (YV zU (by rfl) zstr boot_str (@zB _ _ _ _ _ (by rfl) (pv 0) zJ))) zJ)) (@zB _ _ _ _ _ (by rfl) z1t zJ)⟩)) (qc (qF (qL (qv 3)) (qg 4) (q1 (qX (qM (qv 0) DT.cl Sy (qa qw qn))))) (q1 (qr (qe Ys (qo z7 (qY ZI T.int boot_int (qa (qx zK (qx zK (qv 5) qi) qi) qn)) (qY ZI T.int boot_int (qa (qx zK (qx zK (qv 5) qi) qi) qn))) (qo z7 (qY ZI T.int boot_int (qa (qx zK (qx zK (qv 5) qi) qi) qn)) (qY ZI T.int boot_int (qa (qx zK (qx zK (qv 5) qi) qi) qn))))))))),?_⟩;have n12:=h.s.n12;have z5:(Str.ofString "link ").cps.size=5:=by decide +kernel
 have z1:(Str.ofString " ").cps.size=1:=by decide +kernel
 have z6:(Str.ofString "share ").cps.size=6:=by decide +kernel
 have zn:∀ {m:Nat},m<n->(Pw.ns (m:Int)).cps.size<=2:=fun {m} hm=>zZ (by lia) (by lia);have nL2:L∉[p,pd]:=by
  obtain⟨now,us,⟨⟨dl,hl⟩,hpd⟩,_⟩:=id h.s.l;simp only[Z0z,Z3F,or_false];rintro (z | z);rw[z,hl] at eL;cases eL;exact nL z
 refine zG fun RR hRR=>?_;refine⟨_,rfl,L,rfl,⟨_,zQ.of eL⟩,?_⟩;refine Yo (K:=K) (a:=L) (xs:=l.map V.int) (fun i σ G=>Kx [p,pd] H G/\∃ (Rs:List (List (Int×Int))) (ms:List (Int×Int)) (v4:Option V),Rs.length=i/\(∀ R∈Rs,R.length<=60/\∀ q∈R,0<=q.1/\q.1<(n:Int)/\0<=q.2/\q.2<(n:Int))/\(Rs ++ [ms])[0]?=some ps/\ms.Perm (ps ++ (l.take i).map fun z=>(z,(x:Int)))/\Ds K C Cd tb posR G d p pd lp n ms (Ws ++ Rs.map fun R=>((n:Int),R)) A/\σ=[some (.ref d),some (.int (x:Int)),some (.int (y:Int)),some (.ref L),v4,none]) ?_ (fun i σ G _ hP=>zQ.of (hP.1 _ _ eL nL2)) ?_ ?_;exact⟨Kx.refl _ _,[],ps,none,rfl,(fun R hR=>by cases hR),rfl,(by simp),(by simpa using h),rfl⟩;rintro i v σ G hi ⟨kG,Rs,ms,v4,lR,hR,h0,pm,hG,rfl⟩;have hil:i<l.length:=by have:=(Z12.mp hi).1;rwa [ZB] at this
 have hzi:=hz _ (Z26 hil);rw[Z14,Z01 hil] at hi;cases hi;obtain⟨m,em⟩:∃ m:Nat,l[i]=(m:Int):=⟨l[i].toNat,by lia⟩;have hm:m<n:=by lia
 rw[em];have lm:ms.length=ps.length+i:=by rw[pm.length_eq,Z0M,ZB,Z20];lia
 obtain⟨dx,ed⟩:=hG.o;refine⟨_,rfl,d,dx,_,rfl,ed,Js.no (Cd:=Cd) (by decide +kernel),?_⟩;have zm:=zn hm;have zx:=zn hx;have lgm:((m:Int)).natAbs.log2<1920:=Z29 (Z46 _) (by lia);have lgx:((x:Int)).natAbs.log2<1920:=Z29 (Z46 _) (by lia);refine⟨_,rfl,(m:Int),rfl,lgm,_,_,rfl,rfl,(by rw[Zq,Zq,z5,sizeLine_eq];show 5+(Pw.ns (m:Int)).cps.size<=_;lia),_,_,rfl,rfl,(by rw[Zq,Zq,zO,z5,z1,sizeLine_eq];show 5+(Pw.ns (m:Int)).cps.size+1<=_;lia),?_⟩;refine⟨_,rfl,(x:Int),rfl,lgx,_,_,rfl,rfl,(by rw[Zq,Zq,zO,zO,z5,z1,sizeLine_eq];show 5+(Pw.ns (m:Int)).cps.size+1+(Pw.ns (x:Int)).cps.size<=_;lia),?_⟩;show ZF P w K mg base 16 fz C Cd [.ref d,.str (Str.ofString "link " ++ Pw.ns (m:Int) ++ Str.ofString " " ++ Pw.ns (x:Int))] _ _ _;refine z0f hG cLi hm hx (by lia) (by rw[Z0M,ZB];lia) fun G2 ms2 pm2 up2 h2 k2=>?_;refine⟨kG.trans k2,Rs ++ [ms],ms2,_,(by rw[Z0M,lR];rfl),(fun R hRm=>?_),?_,?_,?_,rfl⟩;rcases Z25.mp hRm with e | e;exact hR R e;rw[Z04.mp e];exact⟨by lia,hG.s.rng⟩;rw[Z2H (by simp)];exact h0;rw[Z4l,Z01 hil,em];refine pm2.trans ?_;rw[Z15,← Z22];exact pm.append_right _;rw[Z15,← Z22];exact h2
 · rintro σ G ⟨kG,Rs,ms,v4,lR,hR,h0,pm,hG,rfl⟩
   show RR [_,_,_,_,_,_] _;subst hRR;rw[ZB] at lR;rw[ZB,Z0A (Z03 _)] at pm;refine zG fun RR hRR=>?_;obtain⟨now,us,⟨⟨dl,hp⟩,hpd⟩,_⟩:=id hG.s.l;have out:∀ {b:Addr},G b=none->b∉[p,pd]:=fun {b} e=>by
    simp only[Z0z,Z3F,or_false];rintro (z | z);rw[z,hp] at e;cases e;rw[z,hpd] at e;cases e
   refine⟨_,rfl,_,rfl,zl2,fun tt G2 s2 m2 e2=>?_⟩;refine⟨tt,rfl,⟨_,zX.of e2⟩,fun D hD=>?_⟩;refine Yn (K:=K) (a:=tt) (D:=D) (xs:=[.int (x:Int),.int (y:Int)]) (fun i vs σ G'=>zC G2 G'/\G' D=some (.lst vs)/\vs.length=i/\(∀ (j c:Nat),j<i->[x,y][j]?=some c->∃ (q:Addr) (Ss:List (Int×Int)),vs[j]?=some (.ref q)/\q≠D/\q∉[p,pd]/\Pw.Zi ms A (YM n) n Ss/\(∀ S∈Ss,yc 1983 S)/\G' q=some (.lst [.str (Pw.ns (Ss.getD c (0,1)).1),.str (Pw.ns (Ss.getD c (0,1)).2)]))/\∃ v,σ=[v,some (.ref d)]) ?_ ?_ ?_ ?_;exact⟨zC.new hD,zh,rfl,(fun j c hj=>absurd hj (Z41 _)),none,rfl⟩;rintro i vs σ G' ⟨t1,eV,_⟩;exact⟨zX.of (t1 _ _ e2),eV⟩
   · rintro i v vs σ G' hi hlt ⟨t1,eV,lV,hV,v0,rfl⟩
     obtain⟨c,hc,rfl,hcn⟩:∃ c:Nat,[x,y][i]?=some c/\v=V.int (c:Int)/\c<n:=by
      rcases i with _ | _ | i;exact⟨x,rfl,(Z1X hi).symm,hx⟩;exact⟨y,rfl,(Z1X hi).symm,hy⟩;exact absurd hlt (by simp)
     dsimp only [Zs];rw[if_pos rfl];have hG2:=hG.same (s2.trans t1);obtain⟨dx,ed⟩:=hG2.o;have zc:=zn hcn;refine⟨_,rfl,d,dx,_,rfl,ed,Js.no (Cd:=Cd) (by decide +kernel),_,rfl,(c:Int),rfl,Z29 (Z46 _) (by lia),_,_,rfl,rfl,(by rw[Zq,Zq,z6,sizeLine_eq];show 6+(Pw.ns (c:Int)).cps.size<=_;lia),?_⟩;refine yj ?_;show ZF P w K mg base 16 fz C Cd [.ref d,.str (Str.ofString "share " ++ Pw.ns (c:Int))] G' _ _;refine UD hG2 cSh hcn fun G3 Ss ok sz s3=>?_;have mS:=mem_getD (Bs:=Ss) (t:=c) (by rw[ok.len];exact hcn);have cS:=(ok.canon _ mS).1;obtain⟨zf,_,_⟩:=Ja (ok.nn _ mS) (by lia) (sz _ mS);refine⟨rfl,_,47,rfl,vI z9M,by lia,fun pt G4 s4 m4 e4=>?_⟩;rw[z0P] at e4;have t34:=s3.trans s4;have eV4:=t34 _ _ eV;have nD:pt≠D:=(zo (s3 _ _ eV) m4).symm;refine⟨eV4,(by rw[lV];exact Zf (by simp at hlt;lia)),Wt.next hlt ⟨fun b o e=>?_,zh,by rw[Z0M,lV];rfl,fun j c' hj hc'=>?_,_,rfl⟩⟩;rw[zD (zo e hD)];exact t34 _ _ (t1 _ _ e);by_cases e:j=i;subst e;rw[hc] at hc';cases hc';refine⟨pt,Ss,(by rw[Z3H (by lia),lV,Nat.sub_self];rfl),nD,out (s2.free (t1.free (s3.free m4))),ok,sz,?_⟩;rw[zD nD];exact e4;obtain⟨q,Ts,a1,e3,a2,a3,a4,a5⟩:=hV j c' (by lia) hc';refine⟨q,Ts,(by rw[Z2H (by lia)];exact a1),e3,a2,a3,a4,?_⟩;rw[zD e3];exact t34 _ _ a5
   rintro vs σ G5 ⟨t5,eV,lV,hV,_⟩;show RR [_,_,_,_,_,_] _;subst hRR;obtain⟨q0,Ss,v0,_,o0,ok,sz,g0⟩:=hV 0 x (by simp) rfl;obtain⟨q1,Ts,v1,_,o1,ok1,_,g1⟩:=hV 1 y (by simp) rfl;obtain rfl:=hG.s.uniq ok ok1;have oD:D∉[p,pd]:=out (s2.free hD);have s25:=s2.trans t5;have hG5:=hG.same s25;have eL5:=s25 _ _ (kG _ _ eL nL2);refine zG fun RR hRR=>?_;refine⟨_,rfl,L,rfl,⟨_,zQ.of eL5⟩,?_⟩;refine Yo (K:=K) (a:=L) (xs:=l.map V.int) (fun j σ G'=>Kx [p,pd] G5 G'/\∃ (R:List (Int×Int)) (v4:Option V),(Rs ++ [ms])[l.length - j]?=some R/\Ds K C Cd tb posR G' d p pd lp n R (Ws ++ (Rs.take (l.length - j)).map fun R=>((n:Int),R)) A/\σ=[some (.ref d),some (.int (x:Int)),some (.int (y:Int)),some (.ref L),v4,some (.ref D)]) ?_ (fun i σ G' _ hP=>zQ.of (hP.1 _ _ eL5 nL2)) ?_ ?_;refine⟨Kx.refl _ _,ms,_,?_,?_,rfl⟩;rw[Nat.sub_zero,Z3H (by lia),lR,Nat.sub_self];rfl;rw[Nat.sub_zero,Z0A (by lia)];exact hG5;rintro j v σ G' hj ⟨k6,R,v4,eR,h6,rfl⟩;have hjl:j<l.length:=by have:=(Z12.mp hj).1;rwa [ZB] at this
   obtain⟨m,em⟩:∃ m,l.length - j=m+1:=⟨l.length - j - 1,by lia⟩;have em2:l.length - (j+1)=m:=by lia
   have hm:m<Rs.length:=by lia
   rw[em,Z4l,Z01 hm,Z15,← Z22] at h6;obtain⟨dx,ed⟩:=h6.o;have hRm:=hR _ (Z26 hm);refine⟨_,rfl,d,dx,_,rfl,ed,Js.no (Cd:=Cd) (by decide +kernel),?_⟩;show ZF P w K mg base 16 fz C Cd [.ref d,.str (Str.ofString "undo")] _ _ _;refine z0l (ps0:=Rs[m]) h6 cUn hRm.1 hRm.2 fun G7 h7 k7=>?_;refine⟨k6.trans k7,Rs[m],_,?_,?_,rfl⟩;rw[em2,Z2H hm,Z01 hm];rw[em2];exact h7;rintro σ G6 ⟨k6,R,v4,eR,h6,rfl⟩;show RR [_,_,_,_,_,_] _;subst hRR;rw[ZB,Nat.sub_self] at eR h6;rw[h0] at eR;cases eR;rw[List.take_zero,Z42,Z43] at h6;have eD6:=zQ.of (K:=K) (k6 _ _ eV oD);have f0:=zQ.of (K:=K) (k6 _ _ g0 o0);have f1:=zQ.of (K:=K) (k6 _ _ g1 o1);have rd:∀ {c:Nat},c<n->(PySem.intText? (Pw.ns (Ss.getD c (0,1)).1)=some (Ss.getD c (0,1)).1/\(Pw.ns (Ss.getD c (0,1)).1).cps.size<=640)/\(PySem.intText? (Pw.ns (Ss.getD c (0,1)).2)=some (Ss.getD c (0,1)).2/\(Pw.ns (Ss.getD c (0,1)).2).cps.size<=640)/\yc 1983 (Ss.getD c (0,1)):=fun {c} hc=>by
    have mS:=mem_getD (Bs:=Ss) (t:=c) (by rw[ok.len];exact hc);have cS:=(ok.canon _ mS).1;obtain⟨_,⟨m1,e1,b1⟩,m2,e2,b2⟩:=Ja (ok.nn _ mS) (by lia) (sz _ mS);exact⟨by rw[e1];exact Xg b1,by rw[e2];exact Xg b2,sz _ mS⟩
   obtain⟨x1,x2,x3⟩:=rd hx;obtain⟨y1,y2,y3⟩:=rd hy;refine⟨_,rfl,D,vs,1,.ref q1,rfl,rfl,eD6,z8 v1,q1,_,0,_,rfl,rfl,f1,rfl,_,_,rfl,y1.1,y1.2,_,rfl,D,vs,0,.ref q0,rfl,rfl,eD6,z8 v0,q0,_,1,_,rfl,rfl,f0,rfl,_,_,rfl,x2.1,x2.2,_,_,rfl,rfl,⟨y3.1.mono (by decide),x3.2.mono (by decide)⟩,?_⟩;refine⟨_,rfl,D,vs,0,.ref q0,rfl,rfl,eD6,z8 v0,q0,_,0,_,rfl,rfl,f0,rfl,_,_,rfl,x1.1,x1.2,_,rfl,D,vs,1,.ref q1,rfl,rfl,eD6,z8 v1,q1,_,1,_,rfl,rfl,f1,rfl,_,_,rfl,y2.1,y2.2,_,_,rfl,rfl,⟨x3.1.mono (by decide),y3.2.mono (by decide)⟩,_,_,rfl,rfl,?_⟩;exact k G6 ms Ss pm ok h6 (kG.trans (s25.kx.trans k6))
open L2
theorem qu:zE ["desk","script","web","leap","cell","deck","one","other","early","late"] ["desk","script","web","leap"] (ze yi):=fs
theorem Qi(S:ZJ K mg "_law_links_right" yi ["desk","script","web","leap"])(T:Txt mg)(DT:DkT K Cd)(Sy:Z1 P w K mg base yk 18 Cd "say" ["self","words"] (ZF P w K mg base 16 fz C Cd))(zstr:mg "str"=none)(cLi:Jw P w K mg base fz (Str.ofString "link") 2 (Xd K C))(cUn:Jw P w K mg base fz (Str.ofString "undo") 0 (Xk K C))(cSw:Jw P w K mg base fz (Str.ofString "show") 0 (QU K C))(Dk:Def P w K mg base 1 "_law_deck" ["cell","k"] j5)(Tk:Def P w K mg base 1 "_law_take" ["deck","many"] Xi)(Sd:Def P w K mg base 19 "_law_shares" ["desk","pages"] (z5V K C Cd tb posR))(Lt:Def P w K mg base 1 "_law_is_less" ["one","other"] (z7w K))(Sw:Def P w K mg base 1 "_law_web_shown" ["web"] (Y7 K))(Sr:Def P w K mg base 20 "_law_shares_right" ["desk","web","leap"] (z7v K C Cd tb posR)):Def P w K mg base 21 "_law_links_right" ["desk","script","web","leap"] (Z0x K C Cd tb posR):=S.def fun f fd F=>by
 refine F.ZM qu fun nd cdv A' outer s H vs Q E hr h=>?_;obtain⟨d,sc,wa,la,p,pd,lp,n,ps,Ws,A,ns,rfl,h,eS,hw,up,hl,a3,hW,few,k⟩:=h;refine⟨_,(qc (qF (qL (q9 Yx (qv 1) (qQ qi) (qQ qi))) (qg 4) (qc (qs 5 (qd Dk (qa (qv 4) (qa qi qn)))) (qc ⟨Q5 rfl nd (i:=6) (j:=7) rfl rfl (by decide) rfl rfl (@zB _ _ _ _ _ (by rfl) (ZP (by rfl) (by rfl) (by rfl) (by decide) Tk (hr.mono (by decide)) (@zB _ _ _ _ _ (by rfl) (pv 5) (@zB _ _ _ _ _ (by rfl) (ZD zF (pv 2) zP (fun _ _=>rfl)) zJ))) (@zB _ _ _ _ _ (by rfl) (ZP (by rfl) (by rfl) (by rfl) (by decide) Tk (hr.mono (by decide)) (@zB _ _ _ _ _ (by rfl) (pv 5) (@zB _ _ _ _ _ (by rfl) (ZD zF (pv 2) zP (fun _ _=>rfl)) zJ))) zJ)) (by rfl)⟩ (qc (qs 8 (qd Sd (qa (qv 0) (qa (qx zF (qv 2) qi) qn)))) (q1 (qf (qW (qA (qk Ys (qy z0 T.len Z2O (qa (qx zF (qv 2) qi) qn)) qi) (qB (qk ya (qM (qv 0) DT.cl Sy (qa (qo zT (qo zT (qo zT qw (qY zU zstr boot_str (qa (qv 6) qn))) qw) (qY zU zstr boot_str (qa (qv 7) qn))) qn)) qw)))) (qc (qs 9 (qd Sd (qa (qv 0) (qa (qx zF (qv 2) qi) qn)))) (qc (qf (qp (qd Lt (qa (qx zK (qv 9) (qv 7)) (qa (qx zK (qv 8) (qv 7)) qn)))) (q1 (qr qb)) q0) (q1 (qf (qk ya (qd Tk (qa (qv 5) (qa qi qn))) qi) (q1 (qf (qW (qO (qk vL (qM (qv 0) DT.cl Sy (qa qw qn)) qw) (qP (qk (Jq hr) (qd Sd (qa (qv 0) (qa (qx zF (qv 2) qi) qn))) (qv 8))))) (q1 (qr qb)) q0)) (q1 (qs 2 (qt (qa (qx zF (qv 2) qi) (qa (qY yZ T.tup boot_tuple (qa (qy XJ T.srt boot_sorted (qa (qo z1g (qx zF (qv 2) qi) (qt (qa (qt (qa (qv 6) (qa (qv 7) qn))) qn))) qn)) qn)) qn))))))))) q0)))))) (q1 (qr (q4 (qe ya (qM (qv 0) DT.cl Sy (qa qw qn)) (qd Sw (qa (qv 2) qn))) (q6 (qd Sr (qa (qv 0) (qa (qv 2) (qa (qv 3) qn))))))))),?_⟩;have n1:=h.s.n1;have n12:=h.s.n12;have z5:(Str.ofString "link ").cps.size=5:=by decide +kernel
 have z1:(Str.ofString " ").cps.size=1:=by decide +kernel
 have zn:∀ {m:Nat},m<n->(Pw.ns (m:Int)).cps.size<=2:=fun {m} hm=>zZ (by lia) (by lia);obtain⟨cs,ecs,lcs⟩:=z5a ns;refine zG fun RR hRR=>?_;refine⟨_,rfl,3,rfl,16,rfl,sc,_,rfl,eS,fun Z hZ=>?_⟩;rw[ecs];have t0:zC H (upd H Z (.lst (cs.map V.int))):=zC.new hZ;have eZ:(upd H Z (.lst (cs.map V.int))) Z=some (.lst (cs.map V.int)):=zh;generalize upd H Z (.lst (cs.map V.int))=G0 at t0 eZ;have nZ:Z∉[p,pd]:=by
  obtain⟨now,us,⟨⟨dl,hp⟩,hpd⟩,_⟩:=id h.s.l;simp only[Z0z,Z3F,or_false];rintro (z | z);rw[z,hp] at hZ;cases hZ;rw[z,hpd] at hZ;cases hZ
 refine⟨Z,rfl,⟨_,zQ.of eZ⟩,?_⟩;refine Yo (K:=K) (a:=Z) (xs:=cs.map V.int) (fun i σ G=>Kx [p,pd] G0 G/\∃ (wb:Addr) (ms:List (Int×Int)) (Vs:List Wb) (v4 v5 v6 v7 v8 v9:Option V),ms.length<=ps.length+i/\Vs.length<=Ws.length+i/\Ds K C Cd tb posR G d p pd lp n ms Vs A/\ZX K G wb n ms/\ms.Pairwise Z2/\xw K G la A/\σ=[some (.ref d),some (.ref sc),some (.ref wb),some (.ref la),v4,v5,v6,v7,v8,v9]) ?_ (fun i σ G _ hP=>zQ.of (hP.1 _ _ eZ nZ)) ?_ ?_;exact⟨Kx.refl _ _,wa,ps,Ws,_,_,_,_,_,_,by lia,by lia,h.same t0,hw.same t0,up,hl.same t0,rfl⟩;intro i v σ G hi hP;refine YY fun DD hDD=>?_;have hnx:=congrArg Ends.nx hDD;clear hDD;refine zG fun R2 hR2=>?_;obtain⟨kG,wb,ms,Vs,v4,v5,v6,v7,v8,v9,lm,lV,hG,hwb,upm,fA,rfl⟩:=hP;have hil:i<cs.length:=by have:=(Z12.mp hi).1;rwa [ZB] at this
 rw[Z14,Z01 hil] at hi;cases hi;obtain⟨wt,uw,hwa,hwt,hpw⟩:=id hwb;refine⟨_,rfl,cs[i],11,rfl,fun dk G2 s2 m2 d2=>?_⟩;show R2 [_,_,_,_,_,_,_,_,_,_] _;subst hR2;refine zG fun R2 hR2=>?_;refine⟨_,rfl,_,rfl,wb,_,_,_,rfl,rfl,zX.of (s2 _ _ hwa),rfl,dk,(n:Int),11,rfl,by lia,by lia,by decide,d2,fun a G3 a0 a1 d3 k3=>?_⟩;have S3:zC G G3:=fun b o e=>k3 _ _ (s2 _ _ e) (zo e m2);refine⟨_,rfl,_,rfl,wb,_,_,_,rfl,rfl,zX.of (S3 _ _ hwa),rfl,dk,(n:Int),12,rfl,by lia,by lia,by decide,d3,fun b G4 b0 b1 d4 k4=>?_⟩;have S4:zC G G4:=fun c o e=>k4 _ _ (S3 _ _ e) (zo e m2);obtain⟨x,rfl⟩:∃ x:Nat,a=(x:Int):=⟨a.toNat,by lia⟩;obtain⟨y,rfl⟩:∃ y:Nat,b=(y:Int):=⟨b.toNat,by lia⟩;have hx:x<n:=by lia
 have hy:y<n:=by lia
 refine⟨_,_,rfl,?_⟩;show R2 [_,_,_,_,_,_,_,_,_,_] _;subst hR2;refine zG fun R2 hR2=>?_;refine⟨_,rfl,_,rfl,wb,_,_,_,rfl,rfl,zX.of (S4 _ _ hwa),rfl,d,p,pd,lp,n,ms,Vs,A,rfl,hG.same S4,fun D1 G5 Ss ys ok sz s5 n5 e5 f5=>?_⟩;have S5:=S4.trans s5;have hG5:=hG.same S5;have n9:=hG5.o;obtain⟨now,us,⟨⟨dl,hp⟩,hpd⟩,_⟩:=id hG.s.l;have out:∀ {b:Addr},G b=none->b∉[p,pd]:=fun {b} e=>by
  simp only[Z0z,Z3F,or_false];rintro (z | z);rw[z,hp] at e;cases e;rw[z,hpd] at e;cases e
 have oD1:D1∉[p,pd]:=out (S4.free n5);have odk:dk∉[p,pd]:=out m2;have lw:=hpw.len;show R2 [_,_,_,_,_,_,_,_,_,_] _;subst hR2;refine⟨_,rfl,wb,_,_,_,rfl,rfl,zX.of (S5 _ _ hwa),rfl,wt,uw,rfl,.inr (zX.of (S5 _ _ hwt)),_,_,rfl,rfl,_,rfl,yL (decide_eq_true (show ((uw.length:Nat):Int)<60 by lia)) ?_⟩;obtain⟨dx,ed⟩:=hG5.o;have zx:=zn hx;have zy:=zn hy;have lgx:((x:Int)).natAbs.log2<1920:=Z29 (Z46 _) (by lia);have lgy:((y:Int)).natAbs.log2<1920:=Z29 (Z46 _) (by lia);refine⟨_,rfl,d,dx,_,rfl,ed,Js.no (Cd:=Cd) (by decide +kernel),?_⟩;refine⟨_,rfl,(x:Int),rfl,lgx,_,_,rfl,rfl,(by rw[Zq,Zq,z5,sizeLine_eq];show 5+(Pw.ns (x:Int)).cps.size<=_;lia),_,_,rfl,rfl,(by rw[Zq,Zq,zO,z5,z1,sizeLine_eq];show 5+(Pw.ns (x:Int)).cps.size+1<=_;lia),?_⟩;refine⟨_,rfl,(y:Int),rfl,lgy,_,_,rfl,rfl,(by rw[Zq,Zq,zO,zO,z5,z1,sizeLine_eq];show 5+(Pw.ns (x:Int)).cps.size+1+(Pw.ns (y:Int)).cps.size<=_;lia),?_⟩;show ZF P w K mg base 16 fz C Cd [.ref d,.str (Str.ofString "link " ++ Pw.ns (x:Int) ++ Str.ofString " " ++ Pw.ns (y:Int))] _ _ _;refine z0f hG5 cLi hx hy (by lia) (by lia) fun G6 ms2 pm2 up2 h6 k6=>?_;refine⟨rfl,_,rfl,yL (by decide +kernel) ?_⟩;have u6:=hG5.s.l.ku k6;have hwb6:=(hwb.same S5).ku u6;obtain⟨wt6,uw6,hwa6,hwt6,hpw6⟩:=id hwb6;have e6:=k6 _ _ e5 oD1;have f6:=f5.ku u6;refine zG fun R2 hR2=>?_;refine⟨_,rfl,_,rfl,wb,_,_,_,rfl,rfl,zX.of hwa6,rfl,d,p,pd,lp,n,ms2,_,A,rfl,h6,fun D2 G7 Ts zs ZM sz2 s7 n7 e7 f7=>?_⟩;show R2 [_,_,_,_,_,_,_,_,_,_] _;subst hR2;refine zG fun R2 hR2=>?_;have mS:=mem_getD (Bs:=Ss) (t:=y) (by rw[ok.len];exact hy);have mT:=mem_getD (Bs:=Ts) (t:=y) (by rw[ZM.len];exact hy);have ge:=Pw.z9r hx hy (fun q hq=>(hG.s.rng q hq).2.2) hG.s.ca (Pw.Yh n1) (by simp[YM]) (Y9 n1 n12 hG.s.a0 hG.s.a1) pm2 ok ZM;have nlt:¬ (Ts.getD y (0,1)).1 * (Ss.getD y (0,1)).2<(Ss.getD y (0,1)).1 * (Ts.getD y (0,1)).2:=fun z=>by
  have:=(Pw.Ye (ZM.canon _ mT).1 (ok.canon _ mS).1).mpr z;grind
 obtain⟨q2,a2,b2⟩:=f7.at (j:=y) (A:=Ts.getD y (0,1)) (by rw[Z02,Z01 (by rw[ZM.len];exact hy)];rfl);obtain⟨q1,c1,c2⟩:=(f6.same s7).at (j:=y) (A:=Ss.getD y (0,1)) (by rw[Z02,Z01 (by rw[ok.len];exact hy)];rfl);refine⟨_,rfl,_,rfl,D2,zs,(y:Int),.ref q2,rfl,rfl,zQ.of e7,z8 a2,_,rfl,_,rfl,D1,ys,(y:Int),.ref q1,rfl,rfl,zQ.of (s7 _ _ e6),z8 c1,q2,q1,_,_,rfl,xw.of b2,xw.of c2,(sz2 _ mT).mono (by decide),(sz _ mS).mono (by decide),?_⟩;refine⟨_,rfl,ZN (decide_eq_false nlt) ?_⟩;show R2 [_,_,_,_,_,_,_,_,_,_] _;subst hR2;obtain⟨da,db,dc,de,dr⟩:=id d4;have de7:=s7 _ _ (k6 _ _ (s5 _ _ de) odk);have npd:dk≠pd:=fun z=>odk (by rw[z];simp);refine⟨_,rfl,dk,2,13,rfl,by decide,by decide,by decide,⟨da,db,dc,de7,dr⟩,fun c G8 c0 c1 d8 k8=>?_⟩;have u8:KU G7 G8:=k8.ku (.inl ⟨_,de7⟩);have h8:=(h6.same s7).kd k8 de7 npd;have nD1:D1≠dk:=fun z=>by rw[z,de] at n5;cases n5
 have e8:=k8 _ _ (s7 _ _ e6) nD1;have f8:=(f6.same s7).ku u8;have w8:=(hwb6.same s7).ku u8;have a8:=u8.YT (((fA.same S5 |> u6.YT) |> s7.YT));have K8:Kx [p,pd] G G8:=fun b o e nb=>k8 _ _ (s7 _ _ (k6 _ _ (S5 _ _ e) nb)) (zo e m2);by_cases cz:c=0;subst cz;refine⟨rfl,_,rfl,yL rfl ?_⟩;obtain⟨dx8,ed8⟩:=h8.o;refine⟨_,rfl,d,dx8,_,rfl,ed8,Js.no (Cd:=Cd) (by decide +kernel),?_⟩;show ZF P w K mg base 16 fz C Cd [.ref d,.str (Str.ofString "undo")] _ _ _;refine z0l h8 cUn hG.s.few hG.s.rng fun G9 h9 k9=>?_;have u9:=h8.s.l.ku k9;refine⟨rfl,_,rfl,ZN (by decide +kernel) ?_⟩;have w9:=w8.ku u9;obtain⟨wt9,uw9,hwa9,_,_⟩:=id w9;refine⟨_,rfl,_,rfl,wb,_,_,_,rfl,rfl,zX.of hwa9,rfl,d,p,pd,lp,n,ms,Vs,A,rfl,h9,fun D3 GA Us xs3 ok3 _ sA nA eA fA3=>?_⟩;obtain rfl:=hG.s.uniq ok ok3;refine⟨_,rfl,Z3A (zQ.of eA) (zQ.of (sA _ _ (k9 _ _ e8 oD1))) fA3 ((f8.ku u9).same sA) ⟨_,rfl,ZN rfl ?_⟩⟩;exact vM hnx ⟨kG.trans (K8.trans (k9.trans sA.kx)),wb,ms,Vs,_,_,_,_,_,_,by lia,by lia,h9.same sA,w9.same sA,upm,(u9.YT a8 |> sA.YT),rfl⟩;refine⟨rfl,_,rfl,ZN (by simpa using cz) ?_⟩;obtain⟨wt8,uw8,hwa8,hwt8,hpw8⟩:=id w8;have l8:=hpw8.len;refine⟨_,rfl,wb,_,_,_,rfl,rfl,zX.of hwa8,rfl,_,rfl,wb,_,_,_,rfl,rfl,zX.of hwa8,rfl,_,rfl,_,rfl,zl2,fun tp GA sA mA eA=>⟨zl1,fun tt GB sB mB eB=>?_⟩⟩
 refine⟨wt8,tt,uw8,_,rfl,rfl,(sA.trans sB) _ _ hwt8,eB,(by rw[sizeLine_eq];show uw8.length+1<=_;lia),fun tc GC sC eC=>?_⟩;have sAC:=sA.trans (sB.trans sC);refine⟨tc,_,ms ++ [((x:Int),(y:Int))],rfl,zX.of eC,Zp.snoc (a:=tp) (p:=((x:Int),(y:Int))) (zX.of ((sB.trans sC) _ _ eA)) (Zp.ku sAC.ku hpw8),(by rw[Z0M];show ms.length+1<64;lia),fun us3 ms3 DS GD pm3 up3 pr3 sD mD eD=>?_⟩;obtain rfl:=Z1b (pm3.trans pm2.symm) up3 up2;refine⟨DS,us3,rfl,zQ.of eD,fun tq GE sE nE eE=>⟨zl2,fun tw GF sF mF eF=>?_⟩⟩;have sAF:=sAC.trans (sD.trans (sE.trans sF));refine vM hnx ⟨kG.trans (K8.trans sAF.kx),tw,ms3,_,_,_,_,_,_,_,?_,?_,h8.same sAF,⟨tq,us3,eF,sF _ _ eE,Zp.ku (sE.trans sF).ku pr3⟩,up3,sAF.YT a8,rfl⟩;rw[pm2.length_eq,Z0M];show ms.length+1<=_;lia;rw[Z0M];show Vs.length+1<=_;lia;rintro σ G ⟨kG,wb,ms,Vs,v4,v5,v6,v7,v8,v9,lm,lV,hG,hwb,upm,fA,rfl⟩;rw[ZB] at lm lV;show RR [_,_,_,_,_,_,_,_,_,_] _;subst hRR;obtain⟨dx,ed⟩:=hG.o;refine⟨_,rfl,d,dx,_,rfl,ed,Js.no (Cd:=Cd) (by decide +kernel),?_⟩;show ZF P w K mg base 16 fz C Cd [.ref d,.str (Str.ofString "show")] _ _ _;refine z6E hG cSw fun G2 s2=>?_;have hG2:=hG.same s2;refine⟨_,rfl,wb,_,ms,rfl,hwb.same s2,by lia,by lia,hG.s.few,hG.s.rng,fun G3 s3=>⟨rfl,_,rfl,yL (by simp) ?_⟩⟩;have s23:=s2.trans s3;refine⟨_,rfl,_,rfl,_,rfl,d,wb,la,p,pd,lp,n,ms,Vs,A,rfl,hG.same s23,hwb.same s23,fA.same s23,a3,fun G4 k4 h4=>?_⟩;have wd:∀ {X Y:Hp},Kx [p,pd] X Y->Kx [p,pd,tb] X Y:=fun kk b o e nn=>kk b o e fun z=>nn (by
  rcases Z0z.mp z with z | z;rw[z];exact Z0y;rw[Z04.mp z];exact Z07 _ Z0y)
 exact k G4 ms Vs (by lia) (by lia) h4 (t0.kx.trans ((wd kG).trans (s23.kx.trans (k4.kx (by simp)))))
open L2
theorem V7:zE ["script","k"] ["script","k"] (ze YG):=fs
theorem Ua(S:ZJ K mg "_law_cell_at" YG ["script","k"])(T:Txt mg) :Def P w K mg base 1 "_law_cell_at" ["script","k"] (Jr K):=S.def fun f fd F=>by
 refine F.ZM V7 fun nd cdv A' outer s H vs Q E hr h=>?_;obtain⟨sc,m,ns,rfl,eS,k⟩:=h;refine⟨_,(qc (qf (qk Ys (qv 1) (qy z0 T.len Z2O (qa (qv 0) qn))) (q1 (qr (qx zK (qv 0) (qv 1)))) q0) (q1 (qr qi))),?_⟩;refine⟨_,rfl,_,rfl,sc,_,rfl,.inl eS,_,_,rfl,rfl,_,rfl,?_⟩;by_cases c:m<ns.length;refine yL (decide_eq_true (show (m:Int)<(((ns.map V.int).length:Nat):Int) by rw[ZB];lia)) ?_;exact⟨_,rfl,_,rfl,sc,_,(m:Int),.int ns[m],rfl,rfl,eS,z8 (by rw[Z14,Z01 c];rfl),k _⟩;refine ZN (decide_eq_false (show ¬ (m:Int)<(((ns.map V.int).length:Nat):Int) by rw[ZB];lia)) ?_;exact k 0
open L2
theorem Qz:zE ["desk","one","other","pages","told","every","found","k"] ["desk","one","other","pages"] (ze ZU):=fs
theorem QL(S:ZJ K mg "_law_pass_right" ZU ["desk","one","other","pages"])(T:Txt mg)(DT:DkT K Cd)(Sy:Z1 P w K mg base yk 18 Cd "say" ["self","words"] (ZF P w K mg base 16 fz C Cd))(zstr:mg "str"=none)(zmin:mg "min"=none)(zset:mg "set"=none)(cPs:Jw P w K mg base fz (Str.ofString "pass") 2 (vq K C))(Pa:Def P w K mg base 20 "_law_passes" ["desk","one","other","pages"] (z2B K C Cd tb posR)):Def P w K mg base 21 "_law_pass_right" ["desk","one","other","pages"] (Z0w K C Cd tb posR):=S.def fun f fd F=>by
 refine F.ZM Qz fun nd cdv A' outer s H vs Q E hr h=>?_;obtain⟨d,p,pd,lp,n,x,y,ps,Ws,A,rfl,h,hx,hy,hxy,few,hW,k⟩:=h;refine⟨_,(qc (qs 4 (qM (qv 0) DT.cl Sy (qa (qo zT (qo zT (qo zT qw (qY zU zstr boot_str (qa (qv 1) qn))) qw) (qY zU zstr boot_str (qa (qv 2) qn))) qn))) (qc (qs 5 ⟨j3 rfl rfl T.lst rfl T.range (@zB _ _ _ _ _ (by rfl) (yI (U6 rfl) (by rfl) zmin boot_min (@zB _ _ _ _ _ (by rfl) zP (@zB _ _ _ _ _ (by rfl) (pv 3) zJ))) zJ)⟩) (qc (qf (qk ya (qv 4) qw) (q1 (qr (q7 (qd Pa (qa (qv 0) (qa (qv 1) (qa (qv 2) (qa (qv 5) qn)))))))) q0) (qc (qs 6 (q8 (qk ya (qv 4) qw) (ql qn) (qG (ze ZU) ["word"] [none] (qL (qm Z1G Z2M Z4i Yg (qv 4) (qa qw qn))) trivial (fun _ _ _ _ _ _=>(qg 0)) (fun _ _ _ _ _=>qV) (fun _ _ _ _ _=>(qY ZI T.int boot_int (qa (qv 0) qn)))))) (qc (qf (qW (qO (qT (qp (qd Pa (qa (qv 0) (qa (qv 1) (qa (qv 2) (qa (qv 6) qn))))))) (qP (qk (Jq hr) (qv 6) ⟨z0F rfl (by rfl) T.srt (by rfl) zset (@zB _ _ _ _ _ (by rfl) (pv 6) zJ)⟩)))) (q1 (qr qb)) q0) (qc (qF (qR T.range (qa (qy z0 T.len Z2O (qa (qv 6) qn)) qn)) (qg 7) (q1 (qf (qp (qd Pa (qa (qv 0) (qa (qv 1) (qa (qv 2) (qa (qo xZ (q9 Yx (qv 6) qK (qQ (qv 7))) (q9 Yx (qv 6) (qQ (qo yu (qv 7) qi)) qK)) qn)))))) (q1 (qr qb)) q0))) (q1 (qr qb)))))))),?_⟩;have n1:=h.s.n1;have n12:=h.s.n12;have z5:(Str.ofString "pass ").cps.size=5:=by decide +kernel
 have z1:(Str.ofString " ").cps.size=1:=by decide +kernel
 have zn:∀ {m:Nat},m<n->(Pw.ns (m:Int)).cps.size<=2:=fun {m} hm=>zZ (by lia) (by lia);have zx:=zn hx;have zy:=zn hy;have lgx:((x:Int)).natAbs.log2<1920:=Z29 (Z46 _) (by lia);have lgy:((y:Int)).natAbs.log2<1920:=Z29 (Z46 _) (by lia);obtain⟨now,us,⟨⟨dl,hp⟩,hpd⟩,_⟩:=id h.s.l;obtain⟨dx,ed⟩:=h.o;refine zG fun RR hRR=>?_;refine⟨_,rfl,d,dx,_,rfl,ed,Js.no (Cd:=Cd) (by decide +kernel),?_⟩;refine⟨_,rfl,(x:Int),rfl,lgx,_,_,rfl,rfl,(by rw[Zq,Zq,z5,sizeLine_eq];show 5+(Pw.ns (x:Int)).cps.size<=_;lia),_,_,rfl,rfl,(by rw[Zq,Zq,zO,z5,z1,sizeLine_eq];show 5+(Pw.ns (x:Int)).cps.size+1<=_;lia),?_⟩;refine⟨_,rfl,(y:Int),rfl,lgy,_,_,rfl,rfl,(by rw[Zq,Zq,zO,zO,z5,z1,sizeLine_eq];show 5+(Pw.ns (x:Int)).cps.size+1+(Pw.ns (y:Int)).cps.size<=_;lia),?_⟩;show ZF P w K mg base 16 fz C Cd [.ref d,.str (Str.ofString "pass " ++ Pw.ns (x:Int) ++ Str.ofString " " ++ Pw.ns (y:Int))] _ _ _;refine z7f h cPs hx hy hxy few fun G1 o lo s1=>?_;show RR [_,_,_,_,_,_,_,_] _;subst hRR;refine zG fun RR hRR=>?_;have emin:(if (n:Int)<6 then (n:Int) else 6)=((min 6 n:Nat):Int):=by split <;> lia
 refine⟨_,rfl,6,(n:Int),rfl,min 6 n,congrArg (fun z=>[V.int z]) emin,by lia,fun ev G2 s2 m2 e2=>?_⟩;have e2':G2 ev=some (.lst ((oiL (List.range (min 6 n))).map V.int)):=by rw[e2];unfold oiL;rw[Z57];rfl
 show RR [_,_,_,_,_,_,_,_] _;subst hRR;refine zG fun RR hRR=>?_;have s12:=s1.trans s2;have h2:=h.same s12;have new:∀ {G:Hp}{b:Addr},Ds K C Cd tb posR G d p pd lp n ps Ws A->G b=none->b≠pd:=fun hG e z=>by
  obtain⟨_,_,⟨_,hpd⟩,_⟩:=id hG.s.l;rw[z,hpd] at e;cases e
 have rng:∀ {l:List Int},l.Sublist (oiL (List.range (min 6 n)))->(∀ z∈l,0<=z/\z<(n:Int))/\l.length<=6:=fun {l} hs=>by
  refine⟨fun z hz=>?_,?_⟩;obtain⟨m,hm,rfl⟩:=Z17.mp (hs.subset hz);have:=Z23.mp hm;lia;have:=hs.length_le;unfold oiL at this;rw[ZB,Z2I] at this;lia
 have past:∀ {G:Hp}{L:Addr}{l:List Int}{Q:VK}{E:XK},Ds K C Cd tb posR G d p pd lp n ps Ws A->G L=some (.lst (l.map V.int))->L≠pd->l.Sublist (oiL (List.range (min 6 n)))->(∀ (G':Hp) (b:Bool),(b=true↔Pw.vQ ps A (YM n) n x y l)->Ds K C Cd tb posR G' d p pd lp n ps Ws A->Kx [p,pd] G G'->Q (.bl b) G')->z2B K C Cd tb posR [.ref d,.int (x:Int),.int (y:Int),.ref L] G Q E:=fun {G L l Q E} hG eL nL hs k=>by
  obtain⟨a1,a2⟩:=rng hs;exact⟨d,p,pd,lp,L,n,x,y,ps,Ws,A,l,rfl,hG,eL,nL,hx,hy,a1,by lia,hW,fun H' ms Ss pm ok hG' kx=>k H' _ (hG.past hx a1 pm ok).symm hG' kx⟩
 cases o with
 | none =>
   refine⟨_,rfl,rfl,_,rfl,yL rfl ?_⟩;refine⟨_,rfl,_,rfl,_,rfl,_,rfl,?_⟩;refine yj ?_;refine past h2 e2' (new (h.same s1) m2) (List.Sublist.refl _) fun G' b hb _ _=>⟨b,rfl,?_⟩;cases b with
   | false=>exact k G'
   | true=>exact absurd (hb.mp rfl) (lo _ _ (Pw.ZS.mpr ⟨List.Sublist.refl _,rfl⟩))
 | some row =>
   obtain⟨hsub,hpast⟩:=lo.sub;obtain⟨hrow,l6⟩:=rng hsub;have upr:row.Pairwise (·<·):=List.Pairwise.sublist hsub (by unfold oiL;rw[List.pairwise_map];exact List.pairwise_lt_range.imp fun h=>by lia)
   have ne1:Pw.uB (some row)≠Str.ofString "never":=by
    cases row with
    | nil=>decide +kernel
    | cons a l=>exact Pw.Z0N (by simp) (by decide +kernel) (by decide +kernel)
   refine⟨_,rfl,rfl,_,rfl,ZN (decide_eq_false (fun z=>by injection z with z;exact ne1 z)) ?_⟩;show RR [_,_,_,_,_,_,_,_] _;subst hRR;refine zG fun RR hRR=>?_;have key:∀ (F:Addr) (G:Hp),Ds K C Cd tb posR G d p pd lp n ps Ws A->G F=some (.lst (row.map V.int))->F≠pd->RR [some (.ref d),some (.int (x:Int)),some (.int (y:Int)),some (.int (n:Int)),some (.str (Pw.uB (some row))),some (.ref ev),some (.ref F),none] G:=by
    intro F G hG eF nF;subst hRR;have nF2:F∉[p,pd]:=by
     obtain⟨_,_,⟨⟨dl,hp⟩,_⟩,_⟩:=id hG.s.l;simp only[Z0z,Z3F,or_false];rintro (z | z);rw[z,hp] at eF;cases eF;exact nF z
    refine zG fun RR hRR=>?_;refine⟨_,rfl,_,rfl,_,rfl,_,rfl,?_⟩;refine yj ?_;refine past hG eF nF hsub fun G3 b hb hG3 k3=>?_;obtain rfl:b=true:=hb.mpr hpast;have eF3:=k3 _ _ eF nF2;refine⟨_,rfl,ZN rfl ?_⟩;refine⟨_,rfl,_,rfl,F,row,rfl,zQ.of eF3,Pw.QJ.mpr (hsub.trans Pw.z9o),upr,fun D G4 s4 m4 e4=>?_⟩;refine⟨F,D,_,_,row.map Dt.int,row.map Dt.int,rfl,rfl,.inr ⟨zQ.of (s4 _ _ eF3),zQ.of e4⟩,yV _ _ _,yV _ _ _,(by rw[VW];decide),?_⟩;rw[Y0];refine⟨_,rfl,ZN rfl ?_⟩;show RR [_,_,_,_,_,_,_,_] _;subst hRR;refine zG fun RR hRR=>?_;have hG4:=hG3.same s4;have eF4:=s4 _ _ eF3;refine⟨_,rfl,F,_,rfl,.inl (zQ.of eF4),(((row.map V.int).length:Nat):Int),rfl,(by rw[ZB];lia),(by rw[ZB];lia),?_⟩;rw[Z2J,ZB];refine yU (lo:=0) (n:=row.length) (fun j σ G'=>Kx [p,pd] G4 G'/\Ds K C Cd tb posR G' d p pd lp n ps Ws A/\∃ v7,σ=[some (.ref d),some (.int (x:Int)),some (.int (y:Int)),some (.int (n:Int)),some (.str (Pw.uB (some row))),some (.ref ev),some (.ref F),v7]) ?_ ?_ ?_;exact⟨Kx.refl _ _,hG4,_,rfl⟩;rintro j σ G5 hj ⟨k5,hG5,v7,rfl⟩;rw[Z58];have eF5:=k5 _ _ eF4 nF2;refine⟨_,rfl,_,rfl,_,rfl,_,rfl,_,rfl,(j:Int),rfl,F,_,rfl,zQ.of eF5,fun Z hZ=>?_⟩;have s6:zC G5 (upd G5 Z (.lst (ZQ (row.map V.int) none (some (j:Int))))):=zC.new hZ;have eZ:(upd G5 Z (.lst (ZQ (row.map V.int) none (some (j:Int))))) Z=_:=zh;generalize upd G5 Z (.lst (ZQ (row.map V.int) none (some (j:Int))))=G6 at s6 eZ;refine⟨_,rfl,_,rfl,_,_,rfl,rfl,(j:Int)+1,rfl,F,_,rfl,zQ.of (s6 _ _ eF5),fun Y hY=>?_⟩;have s7:zC G6 (upd G6 Y (.lst (ZQ (row.map V.int) (some ((j:Int)+1)) none))):=zC.new hY;have eY:(upd G6 Y (.lst (ZQ (row.map V.int) (some ((j:Int)+1)) none))) Y=_:=zh;generalize upd G6 Y (.lst (ZQ (row.map V.int) (some ((j:Int)+1)) none))=G7 at s7 eY;have lc:=congrArg List.length (z3F hj);rw[Z0M,ZB,List.length_eraseIdx_of_lt hj] at lc;refine⟨Z,Y,_,_,rfl,rfl,s7 _ _ eZ,eY,(by rw[lc,sizeLine_eq];lia),fun W G8 s8 m8 e8=>?_⟩;rw[z3F hj] at e8;have hG7:=hG5.same (s6.trans s7);refine yj ?_;refine past (hG7.same s8) e8 (new hG7 m8) ((List.eraseIdx_sublist _ _).trans hsub) fun G9 b hb hG9 k9=>?_;cases b with
    | true =>
      have:=lo.few ((List.eraseIdx_sublist row j).trans hsub) (hb.mp rfl);rw[List.length_eraseIdx_of_lt hj] at this;lia
    | false=>exact⟨_,rfl,ZN rfl ⟨k5.trans (((s6.trans s7).trans s8).kx.trans k9),hG9,_,rfl⟩⟩
    rintro σ G5 ⟨_,_,v7,rfl⟩;show RR [_,_,_,_,_,_,_,_] _;subst hRR;exact k G5
   cases row with
   | nil =>
     refine⟨_,rfl,rfl,_,rfl,yL rfl ?_⟩;exact⟨zl0,fun F G3 s3 m3 e3=>key F G3 (h2.same s3) e3 (new h2 m3)⟩
   | cons r0 row =>
     have ne2:Pw.uB (some (r0 :: row))≠Str.ofString "now":=Pw.Z0N (by simp) (by decide +kernel) (by decide +kernel);refine⟨_,rfl,rfl,_,rfl,ZN (decide_eq_false (fun z=>by injection z with z;exact ne2 z)) ?_⟩;have lz:∀ z∈r0 :: row,0<=z/\z<=99:=fun z hz=>(by have:=hrow z hz;lia);have ep:Pw.uB (some (r0 :: row))=Pw.ptT (r0 :: row):=rfl;have nl:r0 :: row≠[]:=(by simp);generalize r0 :: row=l at *;rw[ep];refine⟨_,rfl,rfl,_,32,rfl,vI z7F,Z11 (Pw.z4c (by lia) lz) (by decide),fun pt G3 s3 m3 e3=>?_⟩;rw[Pw.uR nl] at e3;refine⟨pt,rfl,⟨_,zQ.of e3⟩,fun D2 hD2=>?_⟩;refine Z0 (K:=K) (a:=pt) (D:=D2) (xs:=(l.map Pw.ns).map V.str) (fun i vs σ G=>zC G3 G/\G D2=some (.lst vs)/\vs=(l.take i).map V.int/\∃ x,σ=[x]) ?_ ?_ ?_ ?_;exact⟨zC.new hD2,zh,rfl,none,rfl⟩;rintro i vs σ G ⟨t1,eV,_⟩;exact⟨zQ.of (t1 _ _ e3),eV⟩
     · rintro i v vs σ G hi hlt ⟨t1,eV,rfl,x,rfl⟩
       have hil:i<l.length:=(by rw[ZB,ZB] at hlt;exact hlt);have hz:=lz _ (Z26 hil);rw[Z14,Z14,Z01 hil] at hi;cases hi;dsimp only [Zs];rw[if_pos rfl];refine⟨_,rfl,_,l[i],rfl,z1C hz.1 (by lia),Z11 (zZ hz.1 hz.2) (by decide),eV,?_,Wt.next hlt ⟨fun b o e=>?_,zh,?_,_,rfl⟩⟩;rw[ZB,Z20];exact Zf (by lia);rw[zD (zo e hD2)];exact t1 _ _ e;rw[Z4l,Z01 hil,Z15];rfl
     rintro vs σ G4 ⟨t4,eV,rfl,_⟩;rw[ZB,ZB,Z0A (Z03 _)] at eV;rw[ep] at key;exact key D2 G4 (h2.same (s3.trans t4)) eV (new (h2.same s3) hD2)
open L2
def Vr(K:PySem.W.Frag)(tb:Addr):Sp:=fun vs H Q _=>∃ (a:Addr) (ns:List Int),vs=[.ref a]/\zQ K H a (ns.map V.int)/\ns.length<=63/\Tab tb posR XG H/\∀ H',Q (.bl true) H'
theorem Z3e:zE ["script","desk","web","leap","deck","one","other"] ["script"] (ze jH):=fs
theorem Z1m(F:Vb K "law" "law" jH f fd)(T:Txt mg)(DT:DkT K Cd)(Sy:Z1 P w K mg base yk 18 Cd "say" ["self","words"] (ZF P w K mg base 16 fz C Cd))(zstr:mg "str"=none)(Mk:MkD P w K mg base yk 3 Cd "Desk" ["self"] (z0X K C Cd))(Wd:Def P w K mg base 2 "_law_web" ["deck","most"] (z3V K))(Dk:Def P w K mg base 1 "_law_deck" ["cell","k"] j5)(Ce:Def P w K mg base 1 "_law_cell_at" ["script","k"] (Jr K))(Lp:Def P w K mg base 2 "_law_leap" ["deck"] (z3X K))(Sw:Def P w K mg base 1 "_law_web_shown" ["web"] (Y7 K))(Tk:Def P w K mg base 1 "_law_take" ["deck","many"] Xi)(Sr:Def P w K mg base 20 "_law_shares_right" ["desk","web","leap"] (z7v K C Cd tb posR))(Li:Def P w K mg base 21 "_law_links_right" ["desk","script","web","leap"] (Z0x K C Cd tb posR))(Pr:Def P w K mg base 21 "_law_pass_right" ["desk","one","other","pages"] (Z0w K C Cd tb posR)):ZK P w K mg base yk 22 f fd ["script"] (Vr K tb):=by
 refine F.ZM Z3e fun nd cdv A' outer s H vs Q E hr h=>?_;obtain⟨a,ns,rfl,hS,hlen,tab,k⟩:=h;refine⟨_,(qc (qs 1 ⟨z4H (by rfl) (by decide) Mk (hr.mono (by decide)) xE⟩) (qc (qs 2 (qd Wd (qa (qd Dk (qa (qd Ce (qa (qv 0) (qa qi qn))) (qa qi qn))) (qa qi qn)))) (qc (qs 3 (qd Lp (qa (qd Dk (qa (qd Ce (qa (qv 0) (qa qi qn))) (qa qi qn))) qn))) (qc (qf (qk vL (qM (qv 1) DT.cl Sy (qa (qo zT (qo zT (qo zT qw (qY zU zstr boot_str (qa (qx zF (qv 3) qi) qn))) qw) (qY zU zstr boot_str (qa (qx zF (qv 3) qi) qn))) qn)) qw) (q1 (qr qb)) q0) (qc (qf (qW (qO (qk vL (qM (qv 1) DT.cl Sy (qa (qo zT qw (qd Sw (qa (qv 2) qn))) qn)) qw) (qP (qT (qp (qd Sr (qa (qv 1) (qa (qv 2) (qa (qv 3) qn))))))))) (q1 (qr qb)) q0) (qc (qf (qT (qp (qd Li (qa (qv 1) (qa (qv 0) (qa (qv 2) (qa (qv 3) qn))))))) (q1 (qr qb)) q0) (qc (qs 4 (qd Dk (qa (qd Ce (qa (qv 0) (qa qi qn))) (qa qi qn)))) (qc ⟨Q5 rfl nd (i:=5) (j:=6) rfl rfl (by decide) rfl rfl (@zB _ _ _ _ _ (by rfl) (ZP (by rfl) (by rfl) (by rfl) (by decide) Tk (hr.mono (by decide)) (@zB _ _ _ _ _ (by rfl) (pv 4) (@zB _ _ _ _ _ (by rfl) (ZD zF (pv 2) zP (fun _ _=>rfl)) zJ))) (@zB _ _ _ _ _ (by rfl) (ZP (by rfl) (by rfl) (by rfl) (by decide) Tk (hr.mono (by decide)) (@zB _ _ _ _ _ (by rfl) (pv 4) (@zB _ _ _ _ _ (by rfl) (ZD zF (pv 2) zP (fun _ _=>rfl)) zJ))) zJ)) (by rfl)⟩ (q1 (qr (q5 (qe ya (qv 5) (qv 6)) (q6 (qd Pr (qa (qv 1) (qa (qv 5) (qa (qv 6) (qa (qx zF (qv 2) qi) qn))))))))))))))))),?_⟩;refine zG fun RR hRR=>?_;intro d dx hd hdx ne;refine⟨d,dx,rfl,zh,fun p pd lp G1 mp mpd o1 l1 f1 k1=>⟨rfl,?_⟩⟩;have s1:zC H G1:=fun b o e=>k1 b o (by rw[zD (zo e hd),zD (zo e hdx)];exact e) (zo e hd);have h1:Ds K C Cd tb posR G1 d p pd lp 1 [] [] (1,2):=⟨o1,⟨l1,by decide,by decide,by decide,(fun q hq=>by cases hq),f1,⟨by decide,by decide⟩,by decide,by decide,⟨Zd 41 (by decide),Zd 41 (by decide)⟩⟩,tab.same s1⟩;have sc:∀ {G:Hp},Kx [tb] H G->zQ K G a (ns.map V.int):=fun kx=>hS.kx kx fun o e n z=>tab.ne e n (Z04.mp z);have npd:∀ {G:Hp}{p pd lp:Addr}{n:Nat}{ps:List (Int×Int)}{Ws:List Wb}{A:Int×Int}{b:Addr},Ds K C Cd tb posR G d p pd lp n ps Ws A->G b=none->b≠pd:=fun hG e z=>by
  obtain⟨_,_,⟨_,q⟩,_⟩:=id hG.s.l;rw[z,q] at e;cases e
 show RR [_,_,_,_,_,_,_] _;subst hRR;refine zG fun RR hRR=>?_;have x1:Kx [tb] H G1:=s1.kx;refine⟨_,rfl,a,1,ns,rfl,sc x1,fun z=>⟨z,3,rfl,fun dk G2 s2 m2 d2=>⟨dk,6,3,rfl,by decide,by decide,by decide,d2,fun wa n ps G3 hw n1 n6 few rng up d3 k3=>?_⟩⟩⟩;have h3:=(h1.same s2).kd k3 d2.choose_spec.choose_spec.choose_spec.1 (npd h1 m2);have x3:Kx [tb] H G3:=k3.kxn (x1.trans s2.kx) (s1.free m2);obtain⟨N,rfl⟩:∃ N:Nat,n=(N:Int):=⟨n.toNat,by lia⟩;have okw:OkL ((N:Int),ps):=⟨n1,by show (N:Int)<=12;lia,by show ps.length<=60;lia,up,rng⟩;show RR [_,_,_,_,_,_,_] _;subst hRR;clear k3 d3 d2 m2 s2 k1 hdx;refine zG fun RR hRR=>?_;refine⟨_,rfl,a,2,ns,rfl,sc x3,fun z=>⟨z,5,rfl,fun dk G4 s4 m4 d4=>⟨dk,5,rfl,by decide,d4,fun la A G5 fA ca a0 a1 a3 d5 k5=>?_⟩⟩⟩;have h5:=(h3.same s4).kd k5 d4.choose_spec.choose_spec.choose_spec.1 (npd h3 m4);have x5:Kx [tb] H G5:=k5.kxn (x3.trans s4.kx) (h3.t.out x3 m4);have hw5:=hw.kl (s4.kl.trans (d4.kl k5));show RR [_,_,_,_,_,_,_] _;subst hRR;clear k5 d5 d4 m4 s4;refine zG fun RR hRR=>?_;obtain⟨dx5,ed5⟩:=h5.o;have zl:(Str.ofString "leap ").cps.size=5:=by decide +kernel
 have zq:(Str.ofString "/").cps.size=1:=by decide +kernel
 have zw:(Str.ofString "web ").cps.size=4:=by decide +kernel
 have big:∀ {m:Int},0<=m->m<=1000->(Pw.ns m).cps.size<=600/\m.natAbs.log2<1920:=fun {m} h0 h1=>by
  obtain⟨q,rfl⟩:∃ q:Nat,m=(q:Int):=⟨m.toNat,by lia⟩;exact⟨xM (Z29 (show q<=1000 by lia) (by decide +kernel)),Z29 (Z46 _) (by lia)⟩
 obtain⟨b1,g1⟩:=big (m:=A.1) (by lia) (by lia);obtain⟨b2,g2⟩:=big (m:=A.2) (by lia) (by lia);refine⟨_,rfl,d,dx5,_,rfl,ed5,Js.no (Cd:=Cd) (by decide +kernel),?_⟩;refine⟨_,rfl,la,_,_,_,rfl,rfl,fA,rfl,A.1,rfl,g1,_,_,rfl,rfl,(by rw[Zq,Zq,zl,sizeLine_eq];show 5+(Pw.ns A.1).cps.size<=_;lia),_,_,rfl,rfl,(by rw[Zq,Zq,zO,zl,zq,sizeLine_eq];show 5+(Pw.ns A.1).cps.size+1<=_;lia),?_⟩;refine⟨_,rfl,la,_,_,_,rfl,rfl,fA,rfl,A.2,rfl,g2,_,_,rfl,rfl,(by rw[Zq,Zq,zO,zO,zl,zq,sizeLine_eq];show 5+(Pw.ns A.1).cps.size+1+(Pw.ns A.2).cps.size<=_;lia),?_⟩;refine yj ?_;show ZF P w K mg base 16 fz C Cd [.ref d,.str (Str.ofString "leap " ++ Pw.ns A.1 ++ Str.ofString "/" ++ Pw.ns A.2)] _ _ _;have ex:Str.ofString "leap " ++ Pw.ns A.1 ++ Str.ofString "/" ++ Pw.ns A.2=Str.ofString "leap " ++ Pw.Ju A:=by unfold Pw.Ju;simp only[Pw.ZR]
 refine⟨d,p,pd,lp,_,_,_,_,rfl,h5.o,h5.s.l,h5.s.fA,.inr (.inr ⟨A,ex,ca,a0,a1,by lia,fun p6 pd6 lp6 G6 m6 mp6 o6 l6 f6 k6=>?_⟩)⟩;obtain⟨h6,u6⟩:=h5.new (n':=1) (ps':=[]) k6 o6 l6 (by decide) (by decide) (by decide) (fun q hq=>by cases hq) f6 ca a0 a1 ⟨Zd 20 (by lia),Zd 20 (by lia)⟩;have x6:Kx [tb] H G6:=k6.kxn x5 hd;have hw6:=hw5.ku u6;have fA6:xw K G6 la A:=u6.YT fA;refine⟨rfl,_,rfl,ZN rfl ?_⟩;show RR [_,_,_,_,_,_,_] _;subst hRR;clear k6 m6 mp6 o6 l6 u6 hw hw5 fA h1 h3 h5 ed5;refine zG fun RR hRR=>?_;obtain⟨dx6,ed6⟩:=h6.o;refine⟨_,rfl,d,dx6,_,rfl,ed6,Js.no (Cd:=Cd) (by decide +kernel),?_⟩;refine⟨_,rfl,wa,(N:Int),ps,rfl,hw6,by lia,by lia,by lia,rng,fun G7 s7=>⟨_,_,rfl,rfl,(by rw[Zq,Zq,zw,sizeLine_eq];have:=z1e (ps:=ps) (n:=(N:Int)) okw;lia),?_⟩⟩;refine yj ?_;show ZF P w K mg base 16 fz C Cd [.ref d,.str (Str.ofString "web " ++ Pw.wbT (N:Int) ps)] _ _ _;have h7:=h6.same s7;refine⟨d,p6,pd6,lp6,_,_,_,_,rfl,h7.o,h7.s.l,h7.s.fA,.inr (.inl ⟨N,ps,rfl,by lia,by lia,by lia,rng,up,fun p8 pd8 G8 m8 mp8 o8 l8 k8=>?_⟩)⟩;have x7:=x6.trans s7.kx;have f8:XC K G8 lp6 A:=k8 _ _ h7.s.fA (fun z=>by obtain⟨_,e⟩:=h7.o;have:=h7.s.fA;unfold XC at this;rw[z,e] at this;cases this);obtain⟨h8,u8⟩:=h7.new k8 o8 l8 (by lia) (by lia) (by lia) rng f8 ca a0 a1 h7.s.sA;have x8:Kx [tb] H G8:=k8.kxn x7 hd;have hp8:=h7.t.out x7 m8;have hpd8:=h7.t.out x7 mp8;refine⟨rfl,_,rfl,ZN rfl ?_⟩;refine⟨_,rfl,_,rfl,_,rfl,?_⟩;refine yj ?_;refine⟨d,wa,la,p8,pd8,lp6,N,ps,[],A,rfl,h8,(hw6.same s7).ku u8,u8.YT (s7.YT fA6),a3,fun G9 k9 h9=>⟨_,rfl,ZN rfl ?_⟩⟩;have u9:KU G8 G9:=k9.ku (.inr h8.t.vp);have hw9:=((hw6.same s7).ku u8).ku u9;have fA9:=u9.YT (u8.YT (s7.YT fA6));have x9:Kx [tb] H G9:=x8.trans (k9.kx (by simp));show RR [_,_,_,_,_,_,_] _;subst hRR;clear hw6 fA6 u9 u8 k8 o8 l8 h8 h7 h6 x8 x7 x6 ed6;refine zG fun RR hRR=>?_;refine⟨_,rfl,_,rfl,_,rfl,_,rfl,?_⟩;refine yj ?_;refine⟨d,a,wa,la,p8,pd8,lp6,N,ps,[],A,ns,rfl,h9,sc x9,hw9,up,fA9,a3,(by simp),by lia,fun G10 ms Vs lm lV h10 k10=>⟨_,rfl,ZN rfl ?_⟩⟩;have x10:Kx [tb] H G10:=fun b o e nb=>k10 _ _ (x9 _ _ e nb) (by simp only[Z0z,Z3F,or_false] at nb ⊢;rintro (z | z | z);exact absurd z (zo e hp8);exact absurd z (zo e hpd8);exact nb z);show RR [_,_,_,_,_,_,_] _;subst hRR;refine zG fun RR hRR=>?_
 refine⟨_,rfl,a,0,ns,rfl,sc x10,fun z=>⟨z,7,rfl,fun dk G11 s11 m11 d11=>?_⟩⟩;have h11:=h10.same s11;obtain⟨wt,uw,hwa,_,_⟩:=(hw9.ku (h9.ku k10)).same s11;show RR [_,_,_,_,_,_,_] _;subst hRR;clear hw9 fA9 h9 k10 x9 x10;refine zG fun RR hRR=>?_;refine⟨_,rfl,_,rfl,wa,_,_,_,rfl,rfl,zX.of hwa,rfl,dk,(N:Int),7,rfl,by lia,by lia,by decide,d11,fun x G12 x0 xN d12 k12=>?_⟩;have hd11:=d11.choose_spec.choose_spec.choose_spec.1;have nwa:wa≠dk:=fun z=>by rw[z,hd11] at hwa;cases hwa
 refine⟨_,rfl,_,rfl,wa,_,_,_,rfl,rfl,zX.of (k12 _ _ hwa nwa),rfl,dk,(N:Int),8,rfl,by lia,by lia,by decide,d12,fun y G13 y0 yN d13 k13=>?_⟩;have h13:=h11.kd (k12.trans k13) hd11 (npd h10 m11);obtain⟨X,rfl⟩:∃ X:Nat,x=(X:Int):=⟨x.toNat,by lia⟩;obtain⟨Y,rfl⟩:∃ Y:Nat,y=(Y:Int):=⟨y.toNat,by lia⟩;refine⟨_,_,rfl,?_⟩;show RR [_,_,_,_,_,_,_] _;subst hRR;by_cases e:(X:Int)=(Y:Int);exact⟨_,rfl,_,rfl,rfl,_,rfl,yL (by simpa using e) (k G13)⟩;refine⟨_,rfl,_,rfl,rfl,_,rfl,ZN (by simpa using e) ?_⟩;refine⟨_,rfl,_,rfl,_,rfl,_,rfl,wa,_,_,_,rfl,rfl,zX.of (k13 _ _ (k12 _ _ hwa nwa) nwa),rfl,?_⟩;refine yj ?_;exact⟨d,p8,pd8,lp6,N,X,Y,ms,Vs,A,rfl,h13,by lia,by lia,by lia,by lia,(by simp at lV;lia),k⟩
open L2
theorem all_mk{l:PySem.W.OpenLaw}{w:World}{K:PySem.W.Frag}{h:Heap}{mg:Str->Option Value}{fa f91 :Addr}(XK:K.In h)(G:h.Ns mainGlobals mg)(hfa:mg "law"=some (.ref fa))
 {od an:Option Addr}{sl:Array (Option Value)}{oc kV dc pm cd ct:Value}
 (A6:FnAt K "is_whole" z2C)
 (A7:FnAt K "common" xY)
 (A8:FnAt K "is_pair_of_wholes" z7t)
 (A9:FnAt K "is_fraction" Z2j)
 (A10:FnAt K "made" z3d)
 (A11:FnAt K "is_less" vh)
 (A12:FnAt K "shared_below" z2Q)
 (A13:FnAt K "aboves" Vp)
 (A15:FnAt K "cleared" Qg)
 (A16:FnAt K "solved" QK)
 (A20:FnAt K "is_link" QV)
 (A21:FnAt K "are_rising" yQ)
 (A22:FnAt K "are_links" Yz)
 (A23:FnAt K "is_web" uE)
 (A24:FnAt K "leads" uJ)
 (A25:FnAt K "is_leap" z8e)
 (A26:FnAt K "even" z6d)
 (A28:FnAt K "parts" z2S)
 (A29:FnAt K "factor" jg)
 (A30:FnAt K "equation" Xf)
 (A31:FnAt K "visits" Qy)
 (A32:FnAt K "shares" Vj)
 (A34:FnAt K "ranked" jZ)
 (A37:FnAt K "with_link" z5T)
 (A43:FnAt K "show_figures" y9)
 (A44:FnAt K "show_number" YC)
 (A45:FnAt K "show_fraction" yP)
 (A46:FnAt K "show_web" xj)
 (A47:FnAt K "are_figures" yD)
 (A48:FnAt K "read_number" YJ)
 (A49:FnAt K "read_pair" xR)
 (A50:FnAt K "read_fraction" yO)
 (A51:FnAt K "read_web" xn)
 (A53:FnAt K "choices" YN)
 (A54:FnAt K "linked" VB)
 (A55:FnAt K "is_ahead" X4)
 (A56:FnAt K "least_links" YL)
 (A60:FnAt K "parted" Qd)
 (A61:FnAt K "check_page" xg)
 (A62:FnAt K "say_link" qq)
 (A65:FnAt K "say_undo" X6)
 (A66:FnAt K "say_show" XO)
 (A67:FnAt K "say_share" xO)
 (A68:FnAt K "say_rank" qC)
 (A69:FnAt K "say_pass" X8)
 (A71:FnAt K "read_leap" xK)
 (A72:FnAt K "answered" Yd)
 (A75:FnAt K "_law_cell_at" YG)
 (A76:FnAt K "_law_take" XR)
 (A77:FnAt K "_law_deck" XS)
 (A78:FnAt K "_law_web" z9U)
 (A79:FnAt K "_law_leap" z2t)
 (A80:FnAt K "_law_web_shown" Z8)
 (A81:FnAt K "_law_low" vc)
 (A82:FnAt K "_law_plus" z1l)
 (A83:FnAt K "_law_shares" Y8)
 (A84:FnAt K "_law_going" xF)
 (A85:FnAt K "_law_step" Yi)
 (A86:FnAt K "_law_shares_right" ZE)
 (A87:FnAt K "_law_is_less" YF)
 (A88:FnAt K "_law_links_right" yi)
 (A89:FnAt K "_law_passes" yS)
 (A90:FnAt K "_law_pass_right" ZU)
 (aL:PySem.W.nsIn K mainGlobals "law"=some (some (.ref f91))) (lL:K.lookup f91=some ⟨oc,od,.func (PySem.W.fnOf "law" "law" (ZT jH) (Zy jH) (ze jH) .none kV dc pm an cd ct),sl⟩) (cL:PySem.W.codeIn K cd "law"=true) (kL:PySem.W.keepIn K (.ref f91)=true)
 (zabs:PySem.W.nsIn K mainGlobals "abs"=some none)
 (zisi:PySem.W.nsIn K mainGlobals "isinstance"=some none)
 (ztup:PySem.W.nsIn K mainGlobals "tuple"=some none)
 (zint:PySem.W.nsIn K mainGlobals "int"=some none)
 (zbool:PySem.W.nsIn K mainGlobals "bool"=some none)
 (zlst:PySem.W.nsIn K mainGlobals "list"=some none)
 (zenu:PySem.W.nsIn K mainGlobals "enumerate"=some none)
 (zlen:PySem.W.nsIn K mainGlobals "len"=some none)
 (zrange:PySem.W.nsIn K mainGlobals "range"=some none)
 (zsrt:PySem.W.nsIn K mainGlobals "sorted"=some none)
 (zsum:PySem.W.nsIn K mainGlobals "sum"=some none)
 (zzip:PySem.W.nsIn K mainGlobals "zip"=some none)
 (zmax:PySem.W.nsIn K mainGlobals "max"=some none)
 (zrev:PySem.W.nsIn K mainGlobals "reversed"=some none)
 (zstr:PySem.W.nsIn K mainGlobals "str"=some none)
 (zall:PySem.W.nsIn K mainGlobals "all"=some none)
 (zmin:PySem.W.nsIn K mainGlobals "min"=some none)
 (zset:PySem.W.nsIn K mainGlobals "set"=some none)
 {C:Addr}(aC:JO K "Live" C)
 (n_now:PySem.W.findIn K (.ref C) "now"=some none)
 (n_leap:PySem.W.findIn K (.ref C) "leap"=some none)
 (n_past:PySem.W.findIn K (.ref C) "past"=some none)
 (M_init:Jt K C "__init__" "Live.__init__" V0)
 (M_turn:Jt K C "turn" "Live.turn" VH)
 (M_check:Jt K C "check" "Live.check" QN)
 (M_link:Jt K C "link" "Live.link" uK)
 (M_undo:Jt K C "undo" "Live.undo" ue)
 (M_web:Jt K C "web" "Live.web" jY)
 (M_shares:Jt K C "shares" "Live.shares" X0)
 (M_ranked:Jt K C "ranked" "Live.ranked" XQ)
 (I_MOST_PAGES:vY K "MOST_PAGES" 12)
 (I_MOST_LINKS:vY K "MOST_LINKS" 60)
 (I_MOST_FIGURES:vY K "MOST_FIGURES" 13)
 (I_MOST_PLACES:vY K "MOST_PLACES" 6)
 (L_shares_shares:JK K "shares" "shares_shares")
 (L_ranked_shares:JK K "ranked" "ranked_shares")
 {Cd:Addr}(aD:JO K "Desk" Cd)
 (n_live:PySem.W.findIn K (.ref Cd) "live"=some none)
 (M_dinit:Jt K Cd "__init__" "Desk.__init__" X7)
 (M_say:Jt K Cd "say" "Desk.say" Q8)
 (S_DONE:z5C K "DONE" Jv)
 {fz:Str->Option Value}(D_ANS:z8r w K "ANSWERS" fz)
 (F_link:Xv K fz (Str.ofString "link") 2 "say_link")
 (F_undo:Xv K fz (Str.ofString "undo") 0 "say_undo")
 (F_show:Xv K fz (Str.ofString "show") 0 "say_show")
 (F_share:Xv K fz (Str.ofString "share") 1 "say_share")
 (F_rank:Xv K fz (Str.ofString "rank") 0 "say_rank")
 (F_pass:Xv K fz (Str.ofString "pass") 2 "say_pass")
 {cR tb:Addr}(CO:xD K "ranked" cR) (hC:PySem.W.codeHdIn K cR tb=true)
:∃ fd:FuncData,(∀ (s:Shared) (v:Value),BindsTo s fd ⟨[v],[]⟩ [("script",v)])/\∀ base:Heap,K.In base->base.Ns mainGlobals mg->Bm base mg->ZK l.prog w K mg base yk 22 fa fd ["script"] (Vr K tb):=by
 have e:=hfa.symm.trans (Z4n XK G aL)
 cases e
 have F91:=z1P (st:=jH) lL cL kL
 have mk_Live:=aC.mkf ["self","web","leap"] M_init XK G fun _ _ _ _ _ _ us hl=>match us,hl with | [_,_,_],_=>rfl
 have LT:LvT K C:=⟨aC.cl,n_now,n_leap,n_past⟩
 obtain⟨t_MOST_PAGES,i_MOST_PAGES⟩:=I_MOST_PAGES.mg XK G
 obtain⟨t_MOST_LINKS,i_MOST_LINKS⟩:=I_MOST_LINKS.mg XK G
 obtain⟨t_MOST_FIGURES,i_MOST_FIGURES⟩:=I_MOST_FIGURES.mg XK G
 obtain⟨t_MOST_PLACES,i_MOST_PLACES⟩:=I_MOST_PLACES.mg XK G
 have l_shares_shares:=L_shares_shares.mg XK G
 have l_ranked_shares:=L_ranked_shares.mg XK G
 have mk_Desk:=aD.mkf ["self"] M_dinit XK G fun _ _ _ _ _ _ us hl=>match us,hl with | [_],_=>rfl
 have DT:DkT K Cd:=⟨aD.cl,n_live⟩
 obtain⟨t_DONE,i_DONE⟩:=S_DONE.mg XK G
 obtain⟨zANS,aANS,dcANS⟩:=D_ANS
 have mANS:=Z4n XK G aANS
 have T:Txt mg:=⟨Z24 XK G zabs,Z24 XK G zisi,Z24 XK G ztup,Z24 XK G zint,Z24 XK G zbool,Z24 XK G zlst,Z24 XK G zenu,Z24 XK G zlen,Z24 XK G zrange,Z24 XK G zsrt,Z24 XK G zsum,Z24 XK G zzip,Z24 XK G zmax⟩
 have zrev:=Z24 XK G zrev
 have zstr:=Z24 XK G zstr
 have zall:=Z24 XK G zall
 have zmin:=Z24 XK G zmin
 have zset:=Z24 XK G zset
 refine⟨PySem.W.fnOf "law" "law" (ZT jH) (Zy jH) (ze jH) .none kV dc pm an cd ct,fun s v=>.of_eq rfl,fun base KB _ hBm=>?_⟩
 · skip
   have dM:Def l.prog w K mg base 2 "made" ["above","below"] Ve:=Z1M (A10.g XK G) (A7.g XK G) T
   have dCo:Def l.prog w K mg base 1 "common" ["one","other"] YU:=z5X (A7.g XK G)
   have dBe:=z9a (A12.g XK G) dCo
   have dAb:Def l.prog w K mg base 1 "aboves" ["some","below"] (Qj K):=z8b (A13.g XK G)
   have dLd:Def l.prog w K mg base 1 "leads" ["web","page"] (Vt K Pw.outs):=z9L (A24.g XK G)
   have dPa:=z9h (A28.g XK G) T dLd
   have dFa:=z6k (A29.g XK G) T dPa
   have dEq:=z1y (A30.g XK G) T dFa
   have dCl:Def l.prog w K mg base 1 "cleared" ["equation","chosen","place","before"] (vy K):=z4F (A15.g XK G) T
   have dSo:=z6a (A16.g XK G) T dCl
   have dVi:=z8c (A31.g XK G) T dAb dBe dSo dEq dPa
   have dSh:=z6N (A32.g XK G) T dVi dM
   have dWh:Def l.prog w K mg base 1 "is_whole" ["thing"] QH:=z2j (A6.g XK G) T
   have dPa:=Xz (A8.g XK G) T dWh
   have dIf:=uY (A9.g XK G) T dPa dCo
   have dIl:=z5z (A20.g XK G) T dPa
   have dRi:Def l.prog w K mg base 1 "are_rising" ["links"] (vz K):=Jl (A21.g XK G) T zall
   have dAl:=z0Q (A22.g XK G) T i_MOST_PAGES i_MOST_LINKS zall dIl dRi
   have dIw:=z6w (A23.g XK G) T i_MOST_PAGES i_MOST_LINKS dWh dAl
   have dFi:Def l.prog w K mg base 1 "are_figures" ["text","most"] z0d:=u4 (A47.g XK G) T zall
   have dRn:=uW (A48.g XK G) T i_MOST_FIGURES dFi
   have dRp:=z0R (A49.g XK G) T dRn
   have dRf:=vU (A50.g XK G) T dRp dIf
   have dRw:=z2w (A51.g XK G) T dRn dRp dIw
   have dSs:=(dSh.sh).Z0S l_shares_shares
   have dWi:Def l.prog w K mg base 1 "with_link" ["web","one","other"] (Jo K):=z0y (A37.g XK G) T
   have dEv:=Z2w (A26.g XK G) T dM
   have dIlI:Def l.prog w K mg base 3 "is_link" ["pages","thing"] (JQ K):=dIl.imp fun vs H Q E h=>by obtain⟨n,x,y,q,e,hq,k⟩:=h;exact⟨n,x,y,q,e,zX.of hq,k⟩
   have eMk:MkD l.prog w K mg base yk 1 C "Live" ["self","web","leap"] (Yy C):=Z1t mk_Live T LT
   have eTu:Z1 l.prog w K mg base yk 1 C "turn" ["self","web"] (Jj C):=Z2y M_turn.g T LT
   have eCh:=z9x M_check.g T LT dIlI
   have eLi:=Z2m M_link.g T LT i_MOST_PAGES i_MOST_LINKS eCh eTu dWi
   have eUd:Z1 l.prog w K mg base yk 1 C "undo" ["self"] (jU K C):=Z2k M_undo.g T LT
   have eWe:Z1 l.prog w K mg base yk 1 C "web" ["self"] (QS K C):=Z3k M_web.g T LT
   have eSh:=z7K M_shares.g T LT dSs dEv
   have dSv:=dSh.Z0S l_shares_shares
   have dRk:=(z7E (A34.g XK G) T hBm KB CO XK G hC dSv dAb dBe).Z0S l_ranked_shares
   have eRk:=z7e M_ranked.g T LT dRk dEv
   have dIs:Def l.prog w K mg base 1 "is_less" ["one","other"] (z1L K):=z4p (A11.g XK G) T
   have dLk:=z6x (A54.g XK G) T dWi
   have dAh:=z2R (A55.g XK G) T dSs dIs
   have dCh:Def l.prog w K mg base 13 "choices" ["places","many"] (jB K 12):=XF (A53.g XK G) T 12
   have dLl:=u7 (A56.g XK G) T dCh dLk dAh
   have dGf:Def l.prog w K mg base 1 "show_figures" ["number"] V3:=uM (A43.g XK G) T zstr zrev
   have dGn:=Uo (A44.g XK G) T dGf
   have dGr:=vX (A45.g XK G) T dGn
   have dSw:Def l.prog w K mg base 1 "show_web" ["web"] (Y7 K):=z2c (A46.g XK G) T zstr
   have dPt:Def l.prog w K mg base 1 "parted" ["pages"] (z3j K):=z6h (A60.g XK G) T zstr
   have dCp:=je (A61.g XK G) T LT eWe
   have dYl:=z2q (A62.g XK G) T LT i_DONE eLi
   have dYu:=z1R (A65.g XK G) T LT i_DONE eUd
   have dYs:=z2z (A66.g XK G) T LT eWe dSw
   have dYh:=JG (A67.g XK G) T LT dCp eSh dGr
   have dYr:=z2l (A68.g XK G) T LT eRk dPt
   have dYp:=z1x (A69.g XK G) T LT i_MOST_PLACES zmin dCp eWe dEv dLl dPt
   have dIp:=z4S (A25.g XK G) T dIf
   have dRl:=z0E (A71.g XK G) T dRf dIp
   have dAn:=z2N (A72.g XK G) T zall mANS dcANS dFi
   have eDi:=z9m mk_Desk T DT eMk
   have eSy:=Z3m M_say.g T LT DT zstr i_DONE eMk eWe dRw dRl dAn
   have cLi:=F_link.anc XK G dYl (by decide)
   have cUn:=F_undo.anc XK G dYu (by decide)
   have cSw:=F_show.anc XK G dYs (by decide)
   have cSh:=F_share.anc XK G dYh (by decide)
   have cRk:=F_rank.anc XK G dYr (by decide)
   have cPs:=F_pass.anc XK G dYp (by decide)
   have dDk:Def l.prog w K mg base 1 "_law_deck" ["cell","k"] j5:=z1z (A77.g XK G) T
   have dTk:Def l.prog w K mg base 1 "_law_take" ["deck","many"] Xi:=z1A (A76.g XK G) T
   have dWd:=z4J (A78.g XK G) T dTk
   have dSl:Def l.prog w K mg base 1 "_law_web_shown" ["web"] (Y7 K):=vW (A80.g XK G) T zstr
   have dLd:=z2u (A79.g XK G) T dTk
   have dLo:Def l.prog w K mg base 1 "_law_low" ["above","below"] z0L:=z4v (A81.g XK G) T
   have dPl:=z1E (A82.g XK G) T dLo
   have dLt:Def l.prog w K mg base 1 "_law_is_less" ["one","other"] (z7w K):=Uk (A87.g XK G) T
   have dCe:Def l.prog w K mg base 1 "_law_cell_at" ["script","k"] (Jr K):=Ua (A75.g XK G) T
   have dSd:=jv (tb:=tb) (A83.g XK G) T DT eSy zstr cSh
   have dGo:=JE (A84.g XK G) T dLo dPl
   have dSt:=z1p (A85.g XK G) T dLo dPl dGo
   have dSq:=XT (A86.g XK G) T DT eSy dSd dPl dSt cRk
   have dPs:=jR (tb:=tb) (A89.g XK G) T DT eSy zstr cLi cSh cUn
   have dLr:=Qi (A88.g XK G) T DT eSy zstr cLi cUn cSw dDk dTk dSd dLt dSl dSq
   have dPr:=QL (A90.g XK G) T DT eSy zstr zmin zset cPs dPs
   exact Z1m F91 T DT eSy zstr eDi dWd dDk dCe dLd dSl dTk dSq dLr dPr
theorem walk{l:PySem.W.OpenLaw}{d:DefRec}{K:Params->PySem.W.Frag}(hn:l.most=some 63)(hdf:d.params.defaults=[])(hY:∀ (w:World) (h:Heap),YP w h->(K w.params).In h)(hT:∀ (w:World) (h:Heap),YP w h->h.get? tb=some (PySem.W.tabObj #[]))(hKT:∀ p:Params,(K p).lookup tb=none)(hC:∀ p:Params,PySem.W.codeHdIn (K p) c tb=true)(F:∀ (w:World) (mg:Str->Option Value) (fa:Addr) (h:Heap),(K w.params).In h->h.Ns mainGlobals mg->mg d.name=some (.ref fa)->
  ∃ fd:FuncData,(∀ (s:Shared) (u:Value),BindsTo s fd ⟨[u],[]⟩ [("script",u)])/\∀ base:Heap,(K w.params).In base->base.Ns mainGlobals mg->Bm base mg->ZK l.prog w (K w.params) mg base yk 22 fa fd ["script"] (Vr (K w.params) tb)) :
 PySem.W.WalkO q loose XP YP l.row.toRowW d [] (fun f vs=>PySem.call f vs) :=
 L2.z8d (n:=63) (k:=22) (x:="script") (c:=c) (tb:=tb) (CX:=fun _=>yk) (sp:=fun w=>Vr (K w.params) tb) hn (by decide) hdf ⟨rfl,by decide,by decide,rfl⟩ hY hT hKT hC F (fun _ _ a ns hl hO hS=>⟨a,ns,rfl,hS,hl,.inl hO.1,fun _=>rfl⟩) fun _ _ _ _ _ z=>z
end Lw
def PySem.W.Fast.tw6080366724316050808:Unit:=()
def PySem.W.Fast.tw10964822052528803167:Unit:=()
def PySem.W.Fast.tw4788249388584317182:Unit:=()
def PySem.W.Fast.tw15751486865995923618:Unit:=()
def PySem.W.Fast.tw10176658538859189986:Unit:=()
def PySem.W.Fast.tw12589574409050979645:Unit:=()
def PySem.W.Fast.tw7120550398879710396:Unit:=()
def PySem.W.Fast.tw16043085304890139805:Unit:=()
def PySem.W.Fast.tw7390002533822316451:Unit:=()
def PySem.W.Fast.tw1229322160120290884:Unit:=()
def PySem.W.Fast.tw9100078592433416209:Unit:=()
def PySem.W.Fast.tw10690365162348507592:Unit:=()
def PySem.W.Fast.tw6977548224368144206:Unit:=()
def PySem.W.Fast.tw7845859840647741484:Unit:=()
def PySem.W.Fast.tw3426868865554421724:Unit:=()
def PySem.W.Fast.tw6394232786116479383:Unit:=()
def PySem.W.Fast.tw2245901200888762807:Unit:=()
def PySem.W.Fast.tw11813759250559665482:Unit:=()
def PySem.W.Fast.tw3875355242748862255:Unit:=()
def PySem.W.Fast.tw5833586048810971489:Unit:=()
def PySem.W.Fast.tw2878058330933952571:Unit:=()
def PySem.W.Fast.tw14270914869351828447:Unit:=()
def PySem.W.Fast.tw3961200683807314049:Unit:=()
def PySem.W.Fast.tw4676964062889645298:Unit:=()
def PySem.W.Fast.tw8701868855311329717:Unit:=()
def PySem.W.Fast.tw3279284894347964759:Unit:=()
def PySem.W.Fast.tw18076949113084256684:Unit:=()
def PySem.W.Fast.tw9180710907508951844:Unit:=()
def PySem.W.Fast.tw8178226750633100316:Unit:=()
def PySem.W.Fast.tw11501487247020116091:Unit:=()
def PySem.W.Fast.tw11974132909393285850:Unit:=()
def PySem.W.Fast.tw8374093695931114505:Unit:=()
def PySem.W.Fast.tw8317828133961639275:Unit:=()
def PySem.W.Fast.tw9126373336758286744:Unit:=()
def PySem.W.Fast.tw16086295997526872279:Unit:=()
def PySem.W.Fast.tw6549599323922988686:Unit:=()
def PySem.W.Fast.tw12991349051991472921:Unit:=()
def PySem.W.Fast.tw7103741795989664649:Unit:=()
def PySem.W.Fast.tw15024900454921507898:Unit:=()
def PySem.W.Fast.tw13446900616146438253:Unit:=()
def PySem.W.Fast.tw7031908500504311875:Unit:=()
def PySem.W.Fast.tw2079226213989069853:Unit:=()
def PySem.W.Fast.tw17120104879584482461:Unit:=()
def PySem.W.Fast.tw1770681071010281685:Unit:=()
def PySem.W.Fast.tw7744342943583254888:Unit:=()
def PySem.W.Fast.tw13973080613996344902:Unit:=()
def PySem.W.Fast.tw2489342176250418896:Unit:=()
def PySem.W.Fast.tw6558215864720889324:Unit:=()
def PySem.W.Fast.tw9624792261444556790:Unit:=()
def PySem.W.Fast.tw13786483126593081569:Unit:=()
def PySem.W.Fast.tw14736928354331428041:Unit:=()
def PySem.W.Fast.tw15856405065060412382:Unit:=()
def PySem.W.Fast.tw17148603296525982699:Unit:=()
def PySem.W.Fast.tw11264766611608372528:Unit:=()
def PySem.W.Fast.tw781970347935044085:Unit:=()
def PySem.W.Fast.tw6866243591902830988:Unit:=()
def PySem.W.Fast.tw10037704567305879462:Unit:=()
def PySem.W.Fast.tw9845574572842176514:Unit:=()
def PySem.W.Fast.tw2856827068060767820:Unit:=()
def PySem.W.Fast.tw11616899230438937557:Unit:=()
def PySem.W.Fast.tw11485105712459688817:Unit:=()
def PySem.W.Fast.tw16606375746720000365:Unit:=()
def PySem.W.Fast.tw14433827140933482198:Unit:=()
def PySem.W.Fast.tw1958810995447822424:Unit:=()
def PySem.W.Fast.tw6976775389354198720:Unit:=()
def PySem.W.Fast.tw12469551688655761034:Unit:=()
def PySem.W.Fast.tw2473914611937671447:Unit:=()
def PySem.W.Fast.tw7758200966594089725:Unit:=()
def PySem.W.Fast.tw2572087801568454385:Unit:=()
def PySem.W.Fast.tw18292354038434345364:Unit:=()
def PySem.W.Fast.tw17801058183378152747:Unit:=()
def PySem.W.Fast.tw2759367782554415309:Unit:=()
def PySem.W.Fast.tw7382442013532007340:Unit:=()
def PySem.W.Fast.tw11191098368300907353:Unit:=()
def PySem.W.Fast.tw3056772972945108934:Unit:=()
def PySem.W.Fast.tw312722534049060678:Unit:=()
def PySem.W.Fast.tw8927376673269280573:Unit:=()
def PySem.W.Fast.tw13151882388091843924:Unit:=()
def PySem.W.Fast.tw11506033816302033399:Unit:=()
def PySem.W.Fast.tw6809275580349777762:Unit:=()
def PySem.W.Fast.tw17335435293453292839:Unit:=()
def PySem.W.Fast.tw14822629573181748894:Unit:=()
def PySem.W.Fast.tw11131421703949940181:Unit:=()
def PySem.W.Fast.tw15809753101789612134:Unit:=()
def PySem.W.Fast.tw7303149109780369629:Unit:=()
def PySem.W.Fast.tw6924520277208592122:Unit:=()
def PySem.W.Fast.tw4947370652902635011:Unit:=()
def PySem.W.Fast.tw9975642221325945820:Unit:=()
def PySem.W.Fast.tw5631731561906279650:Unit:=()
def PySem.W.Fast.tw17634791641738758733:Unit:=()
def PySem.W.Fast.tw6713938448433200573:Unit:=()
def PySem.W.Fast.tw8225547968392949165:Unit:=()
def PySem.W.Fast.tw14186116884511535109:Unit:=()
def PySem.W.Fast.tw13785015940975566975:Unit:=()
def PySem.W.Fast.tw8870511706737314356:Unit:=()
def PySem.W.Fast.tw12289855862185736968:Unit:=()
def PySem.W.Fast.tw4886516793142139124:Unit:=()
def PySem.W.Fast.tw18119506080792738836:Unit:=()
def PySem.W.Fast.tw10008007524800642862:Unit:=()
def PySem.W.Fast.tw3427283233222769627:Unit:=()
def PySem.W.Fast.tw1741924091677679544:Unit:=()
def PySem.W.Fast.tw9355170468377615819:Unit:=()
def PySem.W.Fast.tw977153616200833554:Unit:=()
def PySem.W.Fast.tw14596089039541956896:Unit:=()
def PySem.W.Fast.tw1744597056257124140:Unit:=()
def PySem.W.Fast.tw18326449449447163239:Unit:=()
def PySem.W.Fast.tw2338386218709573974:Unit:=()
def PySem.W.Fast.tw17359470300196716790:Unit:=()
def PySem.W.Fast.tw1933357111067910717:Unit:=()
def PySem.W.Fast.tw14789128443083041584:Unit:=()
def PySem.W.Fast.tw4308583075299826511:Unit:=()
def PySem.W.Fast.tw18119127313987328488:Unit:=()
def PySem.W.Fast.tw4181655845468052045:Unit:=()
def PySem.W.Fast.tw17376145144970055874:Unit:=()
def PySem.W.Fast.tw12345930304386878553:Unit:=()
def PySem.W.Fast.tw6529294795040215923:Unit:=()
def PySem.W.Fast.tw14129502965557063250:Unit:=()
def PySem.W.Fast.tw12896356238385924337:Unit:=()
def PySem.W.Fast.tw2778859064175614832:Unit:=()
def PySem.W.Fast.tw17596565094130172878:Unit:=()
def PySem.W.Fast.tw4673144957562671432:Unit:=()
def PySem.W.Fast.tw8074385608776762076:Unit:=()
def PySem.W.Fast.tw16969135353328327223:Unit:=()
def PySem.W.Fast.tw14550610857574458683:Unit:=()
def PySem.W.Fast.tw4134634768299761712:Unit:=()
def PySem.W.Fast.tw12525063015910722237:Unit:=()
def PySem.W.Fast.tw10858385447794882407:Unit:=()
def PySem.W.Fast.tw17997326243397556843:Unit:=()
open PySem PySem.W PyProof.Rows
set_option maxRecDepth 100000 in
theorem PySem.Challenge.cw_pagewalks_k57_whole_by_the_desk_holds : PySem.Challenge.rw_pagewalks_k57_whole_by_the_desk.Holds := by
 w_on;o_law;k_head;(case hw=>w_witness2)
 k_fill
 refine Lw.walk (l:=PySem.Challenge.rw_pagewalks_k57_whole_by_the_desk) (c:=205) (tb:=201) rfl rfl (fun w h Y=>PySem.W.km_in_of Y) (fun w h Y=>PySem.W.km_tabs_of Y _ (.head _)) (fun p=>by kernel_rfl) (fun p=>by kernel_rfl) ?F
 case F =>
  intro w mg fa h KX G hmg
  refine' Lw.all_mk KX G hmg ?A6 ?A7 ?A8 ?A9 ?A10 ?A11 ?A12 ?A13 ?A15 ?A16 ?A20 ?A21 ?A22 ?A23 ?A24 ?A25 ?A26 ?A28 ?A29 ?A30 ?A31 ?A32 ?A34 ?A37 ?A43 ?A44 ?A45 ?A46 ?A47 ?A48 ?A49 ?A50 ?A51 ?A53 ?A54 ?A55 ?A56 ?A60 ?A61 ?A62 ?A65 ?A66 ?A67 ?A68 ?A69 ?A71 ?A72 ?A75 ?A76 ?A77 ?A78 ?A79 ?A80 ?A81 ?A82 ?A83 ?A84 ?A85 ?A86 ?A87 ?A88 ?A89 ?A90 ?aL ?lL ?cL ?kL ?zabs ?zisi ?ztup ?zint ?zbool ?zlst ?zenu ?zlen ?zrange ?zsrt ?zsum ?zzip ?zmax ?zrev ?zstr ?zall ?zmin ?zset ?aC ?n_now ?n_leap ?n_past ?M_init ?M_turn ?M_check ?M_link ?M_undo ?M_web ?M_shares ?M_ranked ?I_MOST_PAGES ?I_MOST_LINKS ?I_MOST_FIGURES ?I_MOST_PLACES ?L_shares_shares ?L_ranked_shares ?aD ?n_live ?M_dinit ?M_say ?S_DONE ?D_ANS ?F_link ?F_undo ?F_show ?F_share ?F_rank ?F_pass (cR:=205) (tb:=201) ?CO ?hC
  any_goals (refine' L2.FnAt.of ?a ?l ?c ?k;(case a=>k_is);(case l=>k_is);(case c=>k_is);(case k=>k_is))
  (case aL=>k_is)
  (case lL=>k_is)
  (case cL=>k_is)
  (case kL=>k_is)
  (case zabs=>k_is)
  (case zisi=>k_is)
  (case ztup=>k_is)
  (case zint=>k_is)
  (case zbool=>k_is)
  (case zlst=>k_is)
  (case zenu=>k_is)
  (case zlen=>k_is)
  (case zrange=>k_is)
  (case zsrt=>k_is)
  (case zsum=>k_is)
  (case zzip=>k_is)
  (case zmax=>k_is)
  (case zrev=>k_is)
  (case zstr=>k_is)
  (case zall=>k_is)
  (case zmin=>k_is)
  (case zset=>k_is)
  (case aC=>refine' L2.JO.of ?a ?pg ?hd ?po ?sa ?mk ?kc;(case a=>k_is);(case pg=>k_is);(case hd=>k_is);(case po=>k_is);(case sa=>k_is);(case mk=>k_is);(case kc=>k_is))
  (case n_now=>k_is)
  (case n_leap=>k_is)
  (case n_past=>k_is)
  (case I_MOST_PAGES=>refine' L2.vY.of ?a;(case a=>k_is))
  (case I_MOST_LINKS=>refine' L2.vY.of ?a;(case a=>k_is))
  (case I_MOST_FIGURES=>refine' L2.vY.of ?a;(case a=>k_is))
  (case I_MOST_PLACES=>refine' L2.vY.of ?a;(case a=>k_is))
  (case L_shares_shares=>refine' L2.JK.of ?a ?b;(case a=>k_is);(case b=>k_is))
  (case L_ranked_shares=>refine' L2.JK.of ?a ?b;(case a=>k_is);(case b=>k_is))
  (case aD=>refine' L2.JO.of ?a ?pg ?hd ?po ?sa ?mk ?kc;(case a=>k_is);(case pg=>k_is);(case hd=>k_is);(case po=>k_is);(case sa=>k_is);(case mk=>k_is);(case kc=>k_is))
  (case n_live=>k_is)
  (case S_DONE=>refine' L2.z5C.of ?a;(case a=>k_is))
  (case D_ANS=>refine' L2.z8r.of ?a ?l ?z ?k;(case a=>k_is);(case l=>k_is);(case z=>decide);(case k=>exact⟨⟨_,_,rfl,rfl⟩,⟨_,_,rfl,rfl⟩,⟨_,_,rfl,rfl⟩,⟨_,_,rfl,rfl⟩,⟨_,_,rfl,rfl⟩,⟨_,_,rfl,rfl⟩,⟨_,_,rfl,rfl⟩,⟨_,_,rfl,rfl⟩,trivial⟩))
  (case F_link=>refine' L2.Xv.of ?a ?l ?n;(case a=>first | rfl | kernel_rfl);(case l=>k_is);(case n=>k_is))
  (case F_undo=>refine' L2.Xv.of ?a ?l ?n;(case a=>first | rfl | kernel_rfl);(case l=>k_is);(case n=>k_is))
  (case F_show=>refine' L2.Xv.of ?a ?l ?n;(case a=>first | rfl | kernel_rfl);(case l=>k_is);(case n=>k_is))
  (case F_share=>refine' L2.Xv.of ?a ?l ?n;(case a=>first | rfl | kernel_rfl);(case l=>k_is);(case n=>k_is))
  (case F_rank=>refine' L2.Xv.of ?a ?l ?n;(case a=>first | rfl | kernel_rfl);(case l=>k_is);(case n=>k_is))
  (case F_pass=>refine' L2.Xv.of ?a ?l ?n;(case a=>first | rfl | kernel_rfl);(case l=>k_is);(case n=>k_is))
  (case CO=>refine' L2.xD.of ?a ?l ?c;(case a=>k_is);(case l=>k_is);(case c=>rfl))
  (case hC=>kernel_rfl)
  any_goals (refine' L2.Jt.of ?a ?i ?l ?c ?k;(case a=>k_is);(case i=>k_is);(case l=>k_is);(case c=>k_is);(case k=>k_is))

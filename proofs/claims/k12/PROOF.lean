import PyProof.Rows.All
import Wide.All
import OpenK.AllK
import Wide.FinOn
import Lean
import PyProof.EqAt
import PyProof.EqKinds
import PyProof.TupleCall
import PyProof.NeKinds
import PyProof.EnumMake
import PyProof.Draws
import PyProof.ListNew
import PyProof.Rows.IntBool
import KE.LcSums
import PyProof.ListMulRoad
import PyProof.WalksT
import PyProof.ZipIter
import PyProof.Rows.ZipGen
import PyProof.SumWalk
import PyProof.Rows.CallKwBuiltin
import PyProof.AutoListH
import PyProof.WalkInts
import KE.KRevIter
import PyProof.ListStr
import PyProof.ListRange
import KE.KSortTup
import KE.KLam
import KE.KNestM
import KE.KFind
import KE.KTryDeep
import KE.KIsAll
import PyProof.ExcArgsOwn
import PyProof.Rows.SetFrom
import PyProof.StrWalks
import PyProof.CollectIter
import PyProof.FactsAll.set
import PyProof.StrCalls2
import PyProof.StrLawsIn
import PyProof.SliceStr2
import PyProof.StrOps2
import PyProof.StrBlockH
import PyProof.Rows.StrItems
import PyProof.Rows.StrSplitAre
import PyProof.StrLawsTight
import KE.KIntText
import KE.IntTextText
import PyProof.CompFree
import PyProof.Rows.StrSplitJoin
import PyProof.Rows.FStr
import PyProof.FactsAll.bool_1
import PyProof.ReprLen
import PyProof.FactsAll.NoneType_1
import PyProof.FitsInt
import PySem.Challenge.RW_pagewalks_k12_shares_looked_at
set_option maxHeartbeats 1000000
set_option Elab.async false
set_option bootstrap.genMatcherCode false
set_option genSizeOfSpec false
set_option genSizeOf false
set_option linter.all false
set_option maxRecDepth 100000
namespace L2
open PySem PySem.Spec PyProof.Rows
noncomputable abbrev Key:=Sum Int Str
noncomputable def z3n:Key→Value→Bool
 | .inl k,v=>Value.isInt k v
 | .inr x,v=>Value.isStrOf x v
noncomputable def z7P(w:World):Key→Int
 | .inl k=>hashInt k
 | .inr x=>hashStr w x
theorem ZE:∀ {k:Key}{v:Value},z3n k v=true→(∃ i t,k=Sum.inl i∧v=Value.int i t)∨(∃ x t,k=Sum.inr x∧v=Value.str x t)
 | .inl i,v,h=>by
   obtain⟨t,e⟩:=Value.isInt_shape (k:=i) (v:=v) h
   exact .inl ⟨i,t,rfl,e⟩
 | .inr x,v,h=>by
   obtain⟨t,e⟩:=Value.isStrOf_shape (x:=x) (v:=v) h
   exact .inr ⟨x,t,rfl,e⟩
theorem z3Y(a b:Int):decide ((Sum.inl a:Key)=Sum.inl b)=(a == b):=by
 by_cases e:a=b
 · subst e;simp
 · have h:¬ (Sum.inl a:Key)=Sum.inl b:=fun q=>e (Sum.inl.inj q)
   rw[decide_eq_false h]
   exact (beq_eq_false_iff_ne.mpr e).symm
theorem z3S(a b:Str):decide ((Sum.inr a:Key)=Sum.inr b)=decide (a=b):=by
 by_cases e:a=b
 · subst e;simp
 · have h:¬ (Sum.inr a:Key)=Sum.inr b:=fun q=>e (Sum.inr.inj q)
   rw[decide_eq_false h,decide_eq_false e]
theorem z4R(a:Int)(b:Str):decide ((Sum.inl a:Key)=Sum.inr b)=false:=decide_eq_false (fun q=>nomatch q)
theorem z4k(a:Str)(b:Int):decide ((Sum.inr a:Key)=Sum.inl b)=false:=decide_eq_false (fun q=>nomatch q)
noncomputable def xY(prog:Program)(w:World):PySem.KeyKind prog w Key where
 is:=z3n
 hash:=z7P w
 inj:=fun v a b ha hb=>by
  rcases ZE ha with⟨i,t,rfl,rfl⟩|⟨x,t,rfl,rfl⟩
  · rcases ZE hb with⟨j,u,rfl,e⟩|⟨y,u,rfl,e⟩
    · injection e with e1 _;rw[e1]
    · exact nomatch e
  · rcases ZE hb with⟨j,u,rfl,e⟩|⟨y,u,rfl,e⟩
    · exact nomatch e
    · injection e with e1 _;rw[e1]
 byValue:=fun k v h=>by
  rcases ZE h with⟨i,t,rfl,rfl⟩|⟨x,t,rfl,rfl⟩ <;> rfl
 pyHash:=fun hv h=>by
  rcases ZE hv with⟨i,t,rfl,rfl⟩|⟨x,t,rfl,rfl⟩
  · exact wpAny_pyHash_int h
  · exact wpAny_pyHash_str h
 eqBool:=fun hu hv h=>by
  rcases ZE hu with⟨i,t,rfl,rfl⟩|⟨x,t,rfl,rfl⟩
  · rcases ZE hv with⟨j,u,rfl,rfl⟩|⟨y,u,rfl,rfl⟩
    · rw[z3Y] at h;exact wpAny_eqBool_int h
    · rw[z4R] at h;exact SeqAt.EqAt.int_str i t y u _ _ _ _ h
  · rcases ZE hv with⟨j,u,rfl,rfl⟩|⟨y,u,rfl,rfl⟩
    · rw[z4k] at h;exact SeqAt.EqAt.str_int x t j u _ _ _ _ h
    · rw[z3S] at h;exact wpAny_eqBool_str h
 «strs»:=fun k x t v h=>by
  rcases ZE h with⟨i,u,rfl,e⟩|⟨y,u,rfl,e⟩
  · exact nomatch e
  · injection e with e1 _
    subst e1
    cases v <;> rfl
inductive V where
 | non | bl (b:Bool) | int (i:Int) | str (x:Str) | byt (b:Array UInt8) | flt (b:UInt64) | ref (a:Addr) | ty (n:String)
 deriving DecidableEq
noncomputable def RelV:V→Value→Prop
 | .non,u=>u=Value.none
 | .bl b,u=>u=Value.bool b
 | .int i,u=>∃ t,u=Value.int i t
 | .str x,u=>∃ t,u=Value.str x t
 | .byt b,u=>∃ t,u=Value.bytes b t
 | .flt b,u=>∃ t,u=Value.float b t
 | .ref a,u=>u=Value.ref a
 | .ty n,u=>u=Value.type n
noncomputable abbrev Vals:List V→List Value→Prop:=Paired RelV
theorem Vals.length{xs:List V}{us:List Value}(r:Vals xs us):xs.length=us.length:=Paired.length r
theorem Vals.get:∀ {xs:List V}{us:List Value}{i:Nat}{x:V},Vals xs us→xs[i]?=some x→∃ u,us[i]?=some u∧RelV x u
 | _,_,_,_,.nil,e=>by simp at e
 | _,_,0,_,.cons r _,e=>by simp at e;subst e;exact⟨_,rfl,r⟩
 | _,_,i+1,x,.cons _ t,e=>by
   obtain⟨u,h1,h2⟩:=Vals.get (i:=i) (x:=x) t (by simpa using e)
   exact⟨u,by simpa using h1,h2⟩
theorem Vals.set{x:V}{u:Value}(r:RelV x u):∀ {xs:List V}{us:List Value}(i:Nat),Vals xs us→Vals (xs.set i x) (us.set i u)
 | _,_,_,.nil=>.nil
 | _,_,0,.cons _ t=>.cons r t
 | _,_,i+1,.cons q t=>.cons q (Vals.set r i t)
theorem Vals.append:∀ {xs ys:List V}{us ws:List Value},Vals xs us→Vals ys ws→Vals (xs ++ ys) (us ++ ws)
 | _,_,_,_,.nil,s=>s
 | _,_,_,_,.cons r t,s=>.cons r (Vals.append t s)
theorem Vals.take:∀ {xs:List V}{us:List Value}(n:Nat),Vals xs us→Vals (xs.take n) (us.take n)
 | _,_,0,_=>.nil
 | _,_,_+1,.nil=>.nil
 | _,_,n+1,.cons r t=>.cons r (Vals.take n t)
theorem Vals.drop:∀ {xs:List V}{us:List Value}(n:Nat),Vals xs us→Vals (xs.drop n) (us.drop n)
 | _,_,0,r=>r
 | _,_,_+1,.nil=>.nil
 | _,_,n+1,.cons _ t=>Vals.drop n t
noncomputable def z4l:Option V→Option Value→Prop
 | some v,some u=>RelV v u
 | none,none=>True
 | _,_=>False
noncomputable def KV{κ:Type}:List (κ×V)→List (κ×Value)→Prop:=Paired fun (p:κ×V) (q:κ×Value)=>p.1=q.1∧RelV p.2 q.2
noncomputable def kV:Key→V
 | .inl i=>.int i
 | .inr x=>.str x
inductive HO where
 | lst (xs:List V)
 | tup (xs:List V)
 | dK (kvs:List (Key×V)) | dT (kvs:List (List Key×V))
 | set (S:Int→Bool) (n:Nat)
 | ins (C dx:Addr) (fs:List (Str×V))
 | own (x:Addr)
 | xd (fs:List (Str×V))
 | met (f x:Addr)
 | rng (lo hi:Int)
 | frz (o:Obj) (u:HO)
 | tbl (ps:Array Value)
 | ext (φ:Heap→Prop)
noncomputable abbrev Hp:=Addr→Option HO
noncomputable def upd(H:Hp)(a:Addr)(o:HO):Hp:=fun b=>if b=a then some o else H b
theorem zj{H:Hp}{a:Addr}{o:HO}:upd H a o a=some o:=by unfold upd;rw[if_pos rfl]
theorem zp{H:Hp}{a b:Addr}{o:HO}(h:b≠a):upd H a o b=H b:=by unfold upd;rw[if_neg h]
theorem VJ{H:Hp}{a:Addr}{o u:HO}:upd (upd H a o) a u=upd H a u:=by
 funext b;unfold upd;split <;> rfl
theorem z3I{H:Hp}{a b:Addr}{o u:HO}(h:H a=some o)(h':H b=some u)(d:o≠u):a≠b:=by
 intro e;subst e;rw[h] at h';exact d (Option.some.inj h')
theorem zh{H:Hp}{a b:Addr}{o:HO}(h:H a=some o)(h':H b=none):a≠b:=by
 intro e;subst e;rw[h] at h';cases h'
noncomputable def Zb(h:Heap)(a:Addr)(items:Array Value):Prop:=∃ o,h.get? a=some o∧(o.cls,o.dict)=(Value.type "tuple",(none:Option Addr))∧∃ n,o.data=.seq items n
theorem Zb.tup{h:Heap}{a:Addr}{items:Array Value}(p:Zb h a items):PyProof.Rows.IsTup h a items:=by
 obtain⟨o,e,c,n,d⟩:=p
 exact⟨o,e,congrArg Prod.fst c,n,d⟩
theorem Zb.new(h:Heap)(items:Array Value):Zb (h.push { cls:=.type "tuple",data:=.seq items }) h.objs.size items:=⟨_,Heap.get?_push_size _ rfl,rfl,_,rfl⟩
section
variable(P:Program)(w:World)
noncomputable def Zy(H:Hp)(h:Heap)(a:Addr):HO→Prop
 | .lst xs=>xs.length≤sizeLine∧∃ (its:List Value) (n:Nat),Vals xs its∧h.get? a=some { cls:=.type "list",data:=.seq its.toArray n }
 | .tup xs=>xs.length≤sizeLine∧∃ its:List Value,Vals xs its∧Zb h a its.toArray
 | .dK kvs=>kvs.length≤sizeLine∧(a == sysModules)=false∧∃ vs,KV kvs vs∧h.DictOf (xY P w) a vs
 | .dT kvs=>kvs.length≤sizeLine∧(a == sysModules)=false∧∃ xs:List (List Key×Addr×Value),
  Paired (fun (p:List Key×V) (q:List Key×Addr×Value)=>p.1=q.1∧H q.2.1=some (.tup (p.1.map kV))∧RelV p.2 q.2.2) kvs xs ∧
  ∃ o es ep,h.get? a=some o∧o.ExactDict∧o.data=.dict es ep∧es.toList=xs.map (entryOfKey (tupleKind (xY P w)))∧(xs.map (·.1)).Nodup
 | .set S n=>h.SetOf (intKind P w) a S n
 | .ins C dx fs=>H dx=some (.own a)∧fs.length≤1000∧dx≠a∧h.get? a=some (PySem.W.instObj C dx) ∧
  ∃ mA,h.Ns1 dx mA∧(∀ f,z4l (fs.lookup f) (mA f))∧PySem.Within mA (fs.map (·.1))
 | .own _=>∃ o,h.get? a=some o
 | .xd fs=>∃ mA,h.Ns1 a mA∧∀ f,z4l (fs.lookup f) (mA f)
 | .rng lo hi=>∃ t u v,h.get? a=some { cls:=.type "range",data:=.fields #[.int lo t,.int hi u,.int 1 v] }
 | .frz o u=>h.get? a=some o∧Zy H h a u
 | .tbl ps=>h.get? a=some { cls:=.none,data:=.fields ps }
 | .met f x=>h.get? a=some (PySem.W.methodObj (.ref f) (.ref x))
 | .ext φ=>φ h∧(∃ o,h.get? a=some o)∧∀ h1 h2:Heap,φ h1→(∀ o,h1.get? a=some o→h2.get? a=some o)→φ h2
noncomputable def XN(H:Hp)(h:Heap):Prop:=∀ a o,H a=some o→Zy P w H h a o
end
section
variable{P:Program}{w:World}{H H':Hp}{h h':Heap}{a:Addr}{o:HO}
theorem Zy.lt(x:Zy P w H h a o):a<h.objs.size:=by
 cases o with
 | lst xs=>obtain⟨_,_,_,_,e⟩:=x;exact Heap.lt_size e
 | tup xs=>obtain⟨_,_,_,p⟩:=x;exact p.tup.lt
 | dK kvs=>obtain⟨_,_,_,_,o,_,_,e,_⟩:=x;exact Heap.lt_size e
 | dT kvs=>obtain⟨_,_,_,_,o,_,_,e,_⟩:=x;exact Heap.lt_size e
 | set S n=>obtain⟨o,_,_,_,e,_⟩:=x;exact Heap.lt_size e
 | ins C dx fs=>obtain⟨_,_,_,e,_⟩:=x;exact Heap.lt_size e
 | own y=>obtain⟨_,e⟩:=x;exact Heap.lt_size e
 | xd fs=>obtain⟨_,⟨_,_,_,e,_⟩,_⟩:=x;exact Heap.lt_size e
 | rng lo hi=>obtain⟨_,_,_,e⟩:=x;exact Heap.lt_size e
 | frz ob u=>obtain⟨e,_⟩:=x;exact Heap.lt_size e
 | tbl ps=>exact Heap.lt_size (show h.get? a=some _ from x)
 | met f y=>exact Heap.lt_size (show h.get? a=some _ from x)
 | ext φ=>obtain⟨_,⟨_,e⟩,_⟩:=x;exact Heap.lt_size e
theorem Paired.z6L{α β:Type}{F G:α→β→Prop}:∀ {l₁:List α}{l₂:List β},Paired F l₁ l₂→(∀ a b,F a b→G a b)→Paired G l₁ l₂
 | _,_,.nil,_=>.nil
 | _,_,.cons r t,f=>.cons (f _ _ r) (Paired.z6L t f)
theorem Zy.stay(x:Zy P w H h a o)(k:∀ b u,(b=a∨H b=some (.own a))→h.get? b=some u→h'.get? b=some u)
 (ho:∀ b,H b=some (.own a)→H' b=some (.own a)) (ht:∀ b xs,H b=some (.tup xs)→H' b=some (.tup xs)):Zy P w H' h' a o:=by
 induction o with
 | lst xs=>obtain⟨z,its,n,r,e⟩:=x;exact⟨z,its,n,r,k _ _ (.inl rfl) e⟩
 | tup xs=>obtain⟨z,its,r,ob,e,c⟩:=x;exact⟨z,its,r,ob,k _ _ (.inl rfl) e,c⟩
 | dK kvs=>obtain⟨z,y,vs,r,ob,es,ep,e,c⟩:=x;exact⟨z,y,vs,r,ob,es,ep,k _ _ (.inl rfl) e,c⟩
 | dT kvs =>
   obtain⟨z,y,xs,r,ob,es,ep,e,c⟩:=x
   exact⟨z,y,xs,Paired.z6L r fun p q z=>⟨z.1,ht _ _ z.2.1,z.2.2⟩,ob,es,ep,k _ _ (.inl rfl) e,c⟩
 | set S n=>obtain⟨ob,es,ep,t,e,c⟩:=x;exact⟨ob,es,ep,t,k _ _ (.inl rfl) e,c⟩
 | ins C dx fs =>
   obtain⟨d,z,ne,e,mA,⟨od,es,ep,e2,c⟩,r⟩:=x
   exact⟨ho _ d,z,ne,k _ _ (.inl rfl) e,mA,⟨od,es,ep,k _ _ (.inr d) e2,c⟩,r⟩
 | own y=>obtain⟨ob,e⟩:=x;exact⟨ob,k _ _ (.inl rfl) e⟩
 | xd fs=>obtain⟨mA,⟨od,es,ep,e,c⟩,r⟩:=x;exact⟨mA,⟨od,es,ep,k _ _ (.inl rfl) e,c⟩,r⟩
 | rng lo hi=>obtain⟨t,u,v,e⟩:=x;exact⟨t,u,v,k _ _ (.inl rfl) e⟩
 | frz ob u ih=>obtain⟨e,q⟩:=x;exact⟨k _ _ (.inl rfl) e,ih q⟩
 | tbl ps =>
   have e:h.get? a=some { cls:=.none,data:=.fields ps }:=x
   show h'.get? a=some { cls:=.none,data:=.fields ps }
   exact k a _ (.inl rfl) e
 | met f y =>
   have e:h.get? a=some (PySem.W.methodObj (.ref f) (.ref y)):=x
   show h'.get? a=some (PySem.W.methodObj (.ref f) (.ref y))
   exact k a _ (.inl rfl) e
 | ext φ=>obtain⟨p,⟨o,e⟩,st⟩:=x;exact⟨st _ _ p fun o q=>k _ _ (.inl rfl) q,⟨o,k _ _ (.inl rfl) e⟩,st⟩
theorem XN.lt(x:XN P w H h)(e:H a=some o):a<h.objs.size:=(x a o e).lt
theorem XN.fresh(x:XN P w H h)(e:h.objs.size≤a):H a=none:=by
 cases q:H a with
 | none=>rfl
 | some u=>exact absurd (Nat.lt_of_lt_of_le (x.lt q) e) (Nat.lt_irrefl _)
theorem XN.kept(x:XN P w H h)(k:∀ b u,h.get? b=some u→h'.get? b=some u):XN P w H h':=fun a o e =>
 (x a o e).stay (fun b u _ q=>k b u q) (fun _ q=>q) fun _ _ q=>q
theorem XN.laid(x:XN P w H h)(k:∀ b u,h.get? b=some u→h'.get? b=some u)(hp:h.objs.size≤a)(new:Zy P w (upd H a o) h' a o):XN P w (upd H a o) h':=fun b u e=>by
 have hn:=x.fresh hp
 by_cases hb:b=a
 · subst hb;rw[zj] at e;cases e;exact new
 · rw[zp hb] at e
   exact (x b u e).stay (fun c v _ q=>k c v q) (fun c q=>by rw[zp (zh q hn)];exact q) fun c xs q=>by rw[zp (zh q hn)];exact q
end
noncomputable def Rd(H:Hp)(a:Addr)(u:HO):Prop:=H a=some u∨∃ o,H a=some (.frz o u)
theorem Rd.ok{P:Program}{w:World}{H:Hp}{h:Heap}{a:Addr}{u:HO}(r:Rd H a u)(x:XN P w H h):Zy P w H h a u:=by
 rcases r with r |⟨o,r⟩
 · exact x a u r
 · obtain⟨_,q⟩:=x a _ r
   exact q
noncomputable def Mut:Option HO→Prop
 | some (.lst _)=>True
 | some (.dK _)=>True
 | some (.dT _)=>True
 | some (.set _ _)=>True
 | some (.ins _ _ _)=>True
 | some (.ext _)=>True
 | _=>False
section
variable{P:Program}{w:World}{H:Hp}{h h':Heap}{x e:Addr}{o':HO}
theorem XN.write(ok:XN P w H h)(mu:Mut (H x))(he:e=x∨H e=some (.own x))(k:∀ b u,b≠e→h.get? b=some u→h'.get? b=some u)(heo:∃ u,h'.get? e=some u)
 (new:Zy P w (upd H x o') h' x o'):XN P w (upd H x o') h':=fun b u q=>by
 have nown:∀ c y,H c=some (.own y)→c≠x:=fun c y r z=>by subst z;rw[r] at mu;exact mu
 have ntup:∀ c xs,H c=some (.tup xs)→c≠x:=fun c xs r z=>by subst z;rw[r] at mu;exact mu
 by_cases hb:b=x
 · subst hb;rw[zj] at q;cases q;exact new
 · rw[zp hb] at q
   by_cases hbe:b=e
   · have q':H b=some (.own x):=by
      rcases he with z | z
      · exact absurd (hbe.trans z) hb
      · rw[hbe];exact z
     rw[q] at q';cases q'
     obtain⟨v,hv⟩:=heo
     exact⟨v,by rw[hbe];exact hv⟩
   · refine (ok b u q).stay (fun c v hc r=>k c v ?_ r) (fun c r=>by rw[zp (nown c b r)];exact r) fun c xs r=>by rw[zp (ntup c xs r)];exact r
     rcases hc with rfl | hc
     · exact hbe
     · rintro rfl
       rcases he with z | z
       · exact nown c b hc z
       · rw[hc] at z;cases z;exact hb rfl
end
structure Un(fs ex:List Addr)(H H':Hp)(h h':Heap):Prop where
 keep:∀ b o,h.get? b=some o→H b=none→b∉fs→b∉ex→h'.get? b=some o
 slot:∀ b o,h.get? b=some o→H b=none→b∈fs→b∉ex→∃ sl,h'.get? b=some { o with slots:=sl }
 free:∀ b o,h.get? b=some o→H b=none→b∉ex→H' b=none
 there:∀ b o,h.get? b=some o→b∉ex→∃ o',h'.get? b=some o'
 tups:∀ b xs,H b=some (.tup xs)→H' b=some (.tup xs)
 frzs:∀ b o u,H b=some (.frz o u)→H' b=some (.frz o u)
 tbls:∀ b ps,H b=some (.tbl ps)→∃ more,H' b=some (.tbl (ps ++ more))
section
variable{fs fs' ex ex':List Addr}{H H1 H2:Hp}{h h1 h2 h':Heap}{a x e:Addr}{o:HO}
theorem Un.any(u:Un fs ex H H1 h h1){b:Addr}{ob:Obj}(q:h.get? b=some ob)(n:H b=none)(hx:b∉ex):∃ sl,h1.get? b=some { ob with slots:=sl }:=by
 by_cases hb:b∈fs
 · exact u.slot b ob q n hb hx
 · exact⟨ob.slots,u.keep b ob q n hb hx⟩
theorem Un.kept(k:∀ b u,h.get? b=some u→h'.get? b=some u):Un fs ex H H h h' :=
 ⟨fun b ob q _ _ _=>k b ob q,fun b ob q _ _ _=>⟨ob.slots,k b ob q⟩,fun _ _ _ n _=>n,fun b ob q _=>⟨ob,k b ob q⟩,fun _ _ q=>q,fun _ _ _ q=>q,fun _ ps q=>⟨#[],by rw[q];simp⟩⟩
theorem Un.refl:Un fs ex H H h h:=Un.kept fun _ _ q=>q
theorem Un.laid(k:∀ b u,h.get? b=some u→h'.get? b=some u)(hp:h.objs.size≤a)(hn:H a=none):Un fs ex H (upd H a o) h h' where
 keep:=fun b u q _ _ _=>k b u q
 slot:=fun b u q _ _ _=>⟨u.slots,k b u q⟩
 free:=fun b u q n _=>by rw[zp (Nat.ne_of_lt (Nat.lt_of_lt_of_le (Heap.lt_size q) hp))];exact n
 there:=fun b u q _=>⟨u,k b u q⟩
 tups:=fun b xs q=>by rw[zp (zh q hn)];exact q
 frzs:=fun b u xs q=>by rw[zp (zh q hn)];exact q
 tbls:=fun b ps q=>⟨#[],by rw[zp (zh q hn),q];simp⟩
theorem Un.write(mu:Mut (H x))(he:e=x∨H e=some (.own x))(k:∀ b u,b≠e→h.get? b=some u→h'.get? b=some u)(heo:∃ u,h'.get? e=some u):Un fs ex H (upd H x o) h h':=by
 have hx:∀ b,H b=none→b≠x:=fun b n z=>by subst z;rw[n] at mu;exact mu
 have hb:∀ b,H b=none→b≠e:=fun b n z=>by
  subst z
  rcases he with r | r
  · exact hx b n r
  · rw[n] at r;cases r
 have hm:∀ b u,H b=some u→¬ Mut (some u)→b≠x:=fun b u q nm z=>by subst z;rw[q] at mu;exact nm mu
 refine⟨fun b u q n _ _=>k b u (hb b n) q,fun b u q n _ _=>⟨u.slots,k b u (hb b n) q⟩,fun b u q n _=>by rw[zp (hx b n)];exact n,fun b u q _=>?_,
  fun b xs q=>by rw[zp (hm b _ q fun z=>z)];exact q,fun b u xs q=>by rw[zp (hm b _ q fun z=>z)];exact q,fun b ps q=>⟨#[],by rw[zp (hm b _ q fun z=>z),q];simp⟩⟩
 by_cases hbe:b=e
 · subst hbe;exact heo
 · exact⟨u,k b u hbe q⟩
end
noncomputable def trk(h:Heap)(H:Hp):List Addr:=(List.range h.objs.size).filter fun a=>(H a).isSome
noncomputable def VF(h:Heap)(H:Hp):Heap:=PySem.W.hideAll h (trk h H)
theorem Ju(h:Heap)(H:Hp):(VF h H).objs.size=h.objs.size:=PySem.W.hideAll_size _ _
theorem z1H{h:Heap}{H:Hp}{b:Addr}{o:Obj}(e:h.get? b=some o)(n:H b=none):(VF h H).get? b=some o :=
 PySem.W.hideAll_get _ e fun hm=>by
  have q:(H b).isSome=true:=(List.mem_filter.mp hm).2
  rw[n] at q;simp at q
theorem z2p{h:Heap}{H:Hp}{b:Addr}{o:Obj}(e:(VF h H).get? b=some o):h.get? b=some o∧H b=none:=by
 have e':h.get? b=some o:=PySem.W.of_hideAll (trk h H) e
 refine⟨e',?_⟩
 cases q:H b with
 | none=>rfl
 | some x =>
   have hm:b∈trk h H:=List.mem_filter.mpr ⟨List.mem_range.mpr (Heap.lt_size e'),by simp[q]⟩
   have z:(VF h H).get? b=none:=PySem.W.hideAll_none (trk h H) hm
   rw[z] at e;cases e
noncomputable def Xr(g h:Heap)(L:Addr):List (Addr×Obj):=(List.range h.objs.size).filterMap fun a=>if a=L∨(g.get? a).isSome=true then none else (h.get? a).map fun o=>(a,o)
theorem XU{g h:Heap}{L a:Addr}{o:Obj}(h1:a≠L)(h2:g.get? a=none)(h3:h.get? a=some o):(a,o)∈Xr g h L :=
 List.mem_filterMap.mpr ⟨a,List.mem_range.mpr (Heap.lt_size h3),by simp[h1,h2,h3]⟩
theorem Qo{g h:Heap}{L:Addr}{p:Addr×Obj}(hp:p∈Xr g h L):p.1≠L∧g.get? p.1=none∧h.get? p.1=some p.2:=by
 obtain⟨b,_,e⟩:=List.mem_filterMap.mp hp
 split at e
 · cases e
 · rename_i hn
   cases q:h.get? b with
   | none=>rw[q] at e;simp at e
   | some u =>
     rw[q] at e
     simp only[Option.map_some,Option.some.injEq] at e
     subst e
     refine⟨fun z=>hn (.inl z),?_,q⟩
     show g.get? b=none
     cases r:g.get? b with
     | none=>rfl
     | some v=>exact (hn (.inr (by simp[r]))).elim
theorem z1n{g h:Heap}{L:Addr}:News g L h (Xr g h L):=fun p hp=>let ⟨a,b,c⟩:=Qo hp;⟨c,a,b⟩
structure Mod(K:PySem.W.Frag)(mg:Str→Option Value)(base:Heap):Prop where
 kin:K.In base
 glob:base.Ns mainGlobals mg
 blt:∃ mb,base.Ns builtinsNs mb∧∀ x:Str,x≠"__name__"→mb x=bootBuiltins x
 nolimit:base.NoLimit
set_option genInjectivity false in
set_option genInjectivity false in
structure Cx where
 prog:Program
 w:World
 K:PySem.W.Frag
 mg:Str→Option Value
 base:Heap
 A:Around
 N:List Str
 s₀:Shared
 H₀:Hp
 env:Env
 outer:List Env
 stack:List Env
 ex:List Addr
 fn:Str→Bool
 calm:Bool
 pn:List (Addr×Obj)
 xe:Value→Shared→Prop
noncomputable def frs(l:List Env):List Addr:=l.filterMap (·.frame)
noncomputable abbrev Cx.fs(X:Cx):List Addr:=frs X.outer
noncomputable def Vis(sc:Scope)(x:Str):Prop:=sc.names.lookup x=some .local∨sc.names.lookup x=some .cell∨sc.names.lookup x=some .free
noncomputable def Loc(sc:Scope)(x:Str):Prop:=sc.names.lookup x=some .local∨sc.names.lookup x=some .cell
noncomputable def Look(env:Env)(h:Heap)(m:Str→Option Value)(x:Str)(u:Value):Prop :=
 (env.kindOf x=some .local∧m x=some u)∨((env.kindOf x=some .cell∨env.kindOf x=some .free)∧∃ c,env.cells.lookup x=some c∧h.IsCell c (some u))
set_option genInjectivity false in
structure Cx.Ok(X:Cx):Prop where
 mod:Mod X.K X.mg X.base
 kind:X.env.scope.kind=.function
 glob:X.env.globals=mainGlobals
 blt:X.env.builtins=builtinsNs
 above:X.s₀.heap.objs.size≤X.env.locals
 inj:∀ x y c,X.env.cells.lookup x=some c→X.env.cells.lookup y=some c→x=y
 has:∀ x,(X.env.kindOf x=some .cell∨X.env.kindOf x=some .free)→∃ c,X.env.cells.lookup x=some c
 cab:∀ x c,X.fn x=true→X.env.cells.lookup x=some c→X.s₀.heap.objs.size≤c
 hd:X.calm=true→X.A.handled=none
 frames:X.A.frames=some X.stack
 stk:X.stack=X.outer∨(X.stack=X.env :: X.outer∧X.env.frame=some X.env.locals)
 exf:∀ b∈X.ex,b≠X.env.locals∧∀ x c,X.env.cells.lookup x=some c→c≠b
 bs:∀ b o,X.base.get? b=some o→X.s₀.heap.get? b=some o∧X.H₀ b=none
 bsz:X.base.objs.size≤X.s₀.heap.objs.size
 noex:∀ b o,X.base.get? b=some o→b∉X.ex
 exfs:∀ b∈X.ex,b∉X.fs
 qE:X.s₀.heap.FunFrames X.base X.outer
 frf:∀ b∈X.fs,X.H₀ b=none
set_option genInjectivity false in
structure Inv(X:Cx)(pins:List (Addr×Obj))(σ:List (Option V))(H:Hp)(s:Shared):Prop where
 ok:X.Ok
 os:s.os=X.s₀.os
 bare:AllBare s.gens
 base:Un X.fs X.ex X.H₀ H X.s₀.heap s.heap
 loc:∃ m,s.heap.Ns X.env.locals m∧∀ (i:Nat) (x:Str) (v:V),X.N[i]?=some x→σ[i]?=some (some v)→Vis X.env.scope x→∃ u,RelV v u∧Look X.env s.heap m x u
 cell:∀ x c,X.env.cells.lookup x=some c→∃ v,s.heap.IsCell c v
 free:H X.env.locals=none
 freeC:∀ x c,X.env.cells.lookup x=some c→H c=none
 pin:∀ p∈X.pn ++ pins,s.heap.get? p.1=some p.2∧H p.1=none∧p.1≠X.env.locals∧p.1∉X.fs∧∀ v,p.2.data≠.cell v
 hok:XN X.prog X.w H s.heap
 len:σ.length=X.N.length
section
variable{X:Cx}{pins:List (Addr×Obj)}{σ:List (Option V)}{H H':Hp}{s:Shared}{h':Heap}
theorem Cx.Ok.z7K(ok:X.Ok){b:Addr}{o:Obj}(e:X.base.get? b=some o):b∉X.fs:=fun hb=>by
 have:=(ok.qE.mem hb).1
 rw[e] at this;cases this
theorem Inv.bs(I:Inv X pins σ H s):∀ b o,X.base.get? b=some o→s.heap.get? b=some o∧H b=none:=fun b o e =>
 ⟨I.base.keep b o (I.ok.bs b o e).1 (I.ok.bs b o e).2 (I.ok.z7K e) (I.ok.noex b o e),I.base.free b o (I.ok.bs b o e).1 (I.ok.bs b o e).2 (I.ok.noex b o e)⟩
theorem Inv.bk(I:Inv X pins σ H s):∀ b o,X.base.get? b=some o→s.heap.get? b=some o:=fun b o e=>(I.bs b o e).1
theorem Inv.mod(I:Inv X pins σ H s):Mod X.K X.mg X.base:=I.ok.mod
theorem Inv.VL(I:Inv X pins σ H s):X.K.In s.heap:=I.ok.mod.kin.keeps I.bk
theorem Inv.lt(I:Inv X pins σ H s):X.env.locals<s.heap.objs.size:=let ⟨_,hn,_⟩:=I.loc;hn.lt
theorem Inv.sz(I:Inv X pins σ H s):X.s₀.heap.objs.size≤s.heap.objs.size:=Nat.le_trans I.ok.above (Nat.le_of_lt I.lt)
theorem Inv.z7E(I:Inv X pins σ H s){a:Addr}(h:s.heap.objs.size≤a):a∉X.fs:=fun hb=>by
 obtain⟨_,o,ho,_⟩:=I.ok.qE.mem hb
 exact absurd (Nat.lt_of_lt_of_le (Heap.lt_size ho) (Nat.le_trans I.sz h)) (Nat.lt_irrefl _)
theorem Inv.cne(I:Inv X pins σ H s):∀ x c,X.env.cells.lookup x=some c→c≠X.env.locals:=fun x c e z=>by
 obtain⟨v,o,ho,hd⟩:=I.cell x c e
 obtain⟨m,⟨o',es,ep,ho',hd',_⟩,_⟩:=I.loc
 rw[z,ho'] at ho;cases ho;rw[hd'] at hd;cases hd
theorem Inv.qE(I:Inv X pins σ H s):s.heap.FunFrames X.base X.outer:=by
 have all:∀ (l:List Env),(∀ b∈frs l,b∈X.fs)→X.s₀.heap.FunFrames X.base l→s.heap.FunFrames X.base l:=by
  intro l
  induction l with
  | nil=>intro _ _;trivial
  | cons env r ih =>
    intro hs hl
    obtain⟨hk,⟨L,o,hf,hn,ho,hd⟩,hr⟩:=hl
    have hL:L∈X.fs:=hs L (by unfold frs;rw[List.filterMap_cons,hf];exact List.mem_cons_self)
    obtain⟨sl,e⟩:=I.base.slot L o ho (I.ok.frf L hL) hL fun z=>I.ok.exfs L z hL
    exact⟨hk,⟨L,_,hf,hn,e,hd⟩,ih (fun b hb=>hs b (by unfold frs;rw[List.filterMap_cons,hf];exact List.mem_cons_of_mem _ hb)) hr⟩
 exact all X.outer (fun _ hb=>hb) I.ok.qE
theorem Inv.stack(I:Inv X pins σ H s):s.heap.FunFrames X.base X.stack:=by
 rcases I.ok.stk with e |⟨e,hf⟩
 · rw[e];exact I.qE
 · rw[e]
   obtain⟨m,hn,_⟩:=I.loc
   refine .cons (by rw[I.ok.kind];decide) hf hn ?_ I.qE
   exact Heap.get?_none_of_le (Nat.le_trans I.ok.bsz I.ok.above)
theorem Inv.qG(I:Inv X pins σ H s):∀ b∈frs X.stack,b∈X.env.locals :: X.fs:=fun b hb=>by
 rcases I.ok.stk with e |⟨e,hf⟩
 · rw[e] at hb;exact List.mem_cons_of_mem _ hb
 · rw[e] at hb
   unfold frs at hb
   rw[List.filterMap_cons,hf] at hb
   exact hb
theorem Inv.ql(I:Inv X pins σ H s):∀ b∈frs X.stack,H b=none:=fun b hb=>by
 rcases List.mem_cons.mp (I.qG b hb) with e | hb
 · rw[e];exact I.free
 · obtain⟨_,o,ho,_⟩:=I.ok.qE.mem hb
   exact I.base.free b o ho (I.ok.frf b hb) fun z=>I.ok.exfs b z hb
theorem Inv.step{g':Array GenState}{t':Nat}{d':Drawn}{ch:List Addr}(I:Inv X pins σ H s)
 (hch:∀ b∈ch,(b∈X.ex∨X.s₀.heap.objs.size≤b)∧b≠X.env.locals∧(∀ x c,X.env.cells.lookup x=some c→c≠b)∧∀ p∈X.pn ++ pins,p.1≠b)
 (keep:∀ b o,b≠X.env.locals→b∉X.fs→b∉ch→s.heap.get? b=some o→H b=none→h'.get? b=some o)
 (slot:∀ b o,b≠X.env.locals→b∈X.fs→b∉ch→s.heap.get? b=some o→H b=none→∃ sl,h'.get? b=some { o with slots:=sl }) (free:∀ b o,b∉ch→s.heap.get? b=some o→H b=none→H' b=none)
 (there:∀ b o,b∉ch→s.heap.get? b=some o→∃ o',h'.get? b=some o')
 (tups:∀ b xs,H b=some (.tup xs)→H' b=some (.tup xs)) (frzs:∀ b o u,H b=some (.frz o u)→H' b=some (.frz o u)) (tbls:∀ b ps,H b=some (.tbl ps)→∃ more,H' b=some (.tbl (ps ++ more)))
 (ns:∀ m,s.heap.Ns X.env.locals m→h'.Ns X.env.locals m) (hok:XN X.prog X.w H' h') (hg:AllBare g') :
 Inv X pins σ H' { s with heap:=h',gens:=g',drawn:=d',toks:=t' }:=by
 have neL:∀ b o,X.s₀.heap.get? b=some o→b≠X.env.locals:=fun b o e=>Nat.ne_of_lt (Nat.lt_of_lt_of_le (Heap.lt_size e) I.ok.above)
 have neC:∀ b o,X.s₀.heap.get? b=some o→b∉X.ex→b∉ch:=fun b o e hx hb=>by
  rcases (hch b hb).1 with z | z
  · exact hx z
  · exact absurd (Nat.lt_of_lt_of_le (Heap.lt_size e) z) (Nat.lt_irrefl _)
 have cellK:∀ x c,X.env.cells.lookup x=some c→∀ v,s.heap.IsCell c v→h'.IsCell c v:=fun x c e v ⟨o,ho,hd⟩=>by
  have nch:c∉ch:=fun z=>(hch c z).2.2.1 x c e rfl
  by_cases hc:c∈X.fs
  · obtain⟨sl,q⟩:=slot c o (I.cne x c e) hc nch ho (I.freeC x c e)
    exact⟨_,q,hd⟩
  · exact⟨o,keep c o (I.cne x c e) hc nch ho (I.freeC x c e),hd⟩
 refine⟨I.ok,I.os,hg,⟨fun b o e n hb hx=>?_,fun b o e n hb hx=>?_,fun b o e n hx=>?_,fun b o e hx=>?_,fun b xs e=>tups b xs (I.base.tups b xs e),fun b o xs e=>frzs b o xs (I.base.frzs b o xs e),fun b ps e=>?_⟩,?_,fun x c e=>?_,?_,fun x c e=>?_,fun p hp=>?_,hok,I.len⟩
 · exact keep b o (neL b o e) hb (neC b o e hx) (I.base.keep b o e n hb hx) (I.base.free b o e n hx)
 · obtain⟨sl,e1⟩:=I.base.slot b o e n hb hx
   obtain⟨sl',e2⟩:=slot b _ (neL b o e) hb (neC b o e hx) e1 (I.base.free b o e n hx)
   exact⟨sl',e2⟩
 · obtain⟨o',e1⟩:=I.base.there b o e hx
   exact free b o' (neC b o e hx) e1 (I.base.free b o e n hx)
 · obtain⟨o',e1⟩:=I.base.there b o e hx
   exact there b o' (neC b o e hx) e1
 · obtain⟨m1,e1⟩:=I.base.tbls b ps e
   obtain⟨m2,e2⟩:=tbls b _ e1
   exact⟨m1 ++ m2,by rw[e2,Array.append_assoc]⟩
 · obtain⟨m,hn,hl⟩:=I.loc
   refine⟨m,ns m hn,fun i x v e1 e2 e3=>?_⟩
   obtain⟨u,r,l⟩:=hl i x v e1 e2 e3
   refine⟨u,r,?_⟩
   rcases l with l |⟨k,c,e,z⟩
   · exact .inl l
   · exact .inr ⟨k,c,e,cellK x c e _ z⟩
 · obtain⟨v,z⟩:=I.cell x c e
   exact⟨v,cellK x c e v z⟩
 · obtain⟨m,⟨o,_,_,ho,_⟩,_⟩:=I.loc
   exact free _ o (fun z=>(hch _ z).2.1 rfl) ho I.free
 · obtain⟨v,o,ho,hd⟩:=I.cell x c e
   exact free c o (fun z=>(hch c z).2.2.1 x c e rfl) ho (I.freeC x c e)
 · obtain⟨e,n,ne,nf,d⟩:=I.pin p hp
   have nch:p.1∉ch:=fun z=>(hch p.1 z).2.2.2 p hp rfl
   exact⟨keep p.1 p.2 ne nf nch e n,free p.1 p.2 nch e n,ne,nf,d⟩
theorem Inv.un{t':Nat}(I:Inv X pins σ H s)(u:Un X.fs [] H H' s.heap h')(hok:XN X.prog X.w H' h'):Inv X pins σ H' { s with heap:=h',toks:=t' }:=by
 obtain⟨m,⟨o,es,ep,ho,r⟩,_⟩:=id I.loc
 obtain⟨sl,hL⟩:=u.any ho I.free (by simp)
 exact I.step (g':=s.gens) (d':=s.drawn) (ch:=[]) (fun _ z=>nomatch z) (fun b o _ hb _ e n=>u.keep b o e n hb (by simp)) (fun b o _ hb _ e n=>u.slot b o e n hb (by simp)) (fun b o _ e n=>u.free b o e n (by simp)) (fun b o _ e=>u.there b o e (by simp)) u.tups u.frzs u.tbls (fun m' hm=>by
  obtain⟨o',es',ep',ho',r'⟩:=hm
  rw[ho] at ho';cases ho'
  exact⟨_,es',ep',hL,r'⟩) hok I.bare
theorem Inv.call{g':Array GenState}{t':Nat}{d':Drawn}{ch:List Addr}(I:Inv X pins σ H s)(u:Un (frs X.stack) ch H H' s.heap h')(hok:XN X.prog X.w H' h')(hg:AllBare g')
 (hch:∀ b∈ch,(b∈X.ex∨X.s₀.heap.objs.size≤b)∧b≠X.env.locals∧(∀ x c,X.env.cells.lookup x=some c→c≠b)∧∀ p∈X.pn ++ pins,p.1≠b) :
 Inv X pins σ H' { s with heap:=h',gens:=g',drawn:=d',toks:=t' }:=by
 obtain⟨m,⟨o,es,ep,ho,r⟩,_⟩:=id I.loc
 obtain⟨sl,hL⟩:=u.any ho I.free fun z=>(hch _ z).2.1 rfl
 exact I.step (ch:=ch) hch (fun b o hL hb hc e n=>u.keep b o e n (fun z=>(List.mem_cons.mp (I.qG b z)).elim hL hb) hc) (fun b o _ _ hc e n=>u.any e n hc) (fun b o hc e n=>u.free b o e n hc) (fun b o hc e=>u.there b o e hc) u.tups u.frzs u.tbls (fun m' hm=>by
  obtain⟨o',es',ep',ho',r'⟩:=hm
  rw[ho] at ho';cases ho'
  exact⟨_,es',ep',hL,r'⟩) hok hg
theorem Inv.turned{t':Nat}{it:Addr}(I:Inv X pins σ H s)(k:∀ b o,b≠it→s.heap.get? b=some o→h'.get? b=some o)(hn:H it=none)(hL:it≠X.env.locals)
 (h1:it∈X.ex∨X.s₀.heap.objs.size≤it) (h2:∀ x c,X.env.cells.lookup x=some c→c≠it) (h3:∀ p∈X.pn ++ pins,p.1≠it):Inv X pins σ H { s with heap:=h',toks:=t' }:=by
 have nit:∀ b u,H b=some u→b≠it:=fun b u e z=>by rw[z,hn] at e;cases e
 refine I.step (g':=s.gens) (d':=s.drawn) (ch:=[it]) (fun b hb=>?_) (fun b o _ _ hc e _=>k b o (fun z=>hc (by simp[z])) e) (fun b o _ _ hc e _=>⟨o.slots,k b o (fun z=>hc (by simp[z])) e⟩) (fun _ _ _ _ n=>n)
  (fun b o hc e=>⟨o,k b o (fun z=>hc (by simp[z])) e⟩) (fun _ _ e=>e) (fun _ _ _ e=>e) (fun b ps e=>⟨#[],by rw[e];simp⟩) (fun m hm=>?_) (fun b u e=>?_) I.bare
 · have e:b=it:=by simpa using hb
   subst e
   exact⟨h1,hL,h2,h3⟩
 · obtain⟨o,es,ep,ho,r⟩:=hm
   exact⟨o,es,ep,k _ o (Ne.symm hL) ho,r⟩
 · refine (I.hok b u e).stay (fun c v hc q=>k c v ?_ q) (fun _ q=>q) fun _ _ q=>q
   rcases hc with z | z
   · rw[z];exact nit b u e
   · exact nit c _ z
theorem Inv.tok(I:Inv X pins σ H s)(t:Nat):Inv X pins σ H { s with toks:=t }:=I.un (h':=s.heap) (t':=t) Un.refl I.hok
theorem Inv.kept{t':Nat}(I:Inv X pins σ H s)(k:∀ b u,s.heap.get? b=some u→h'.get? b=some u):Inv X pins σ H { s with heap:=h',toks:=t' }:=I.un (Un.kept k) (I.hok.kept k)
theorem Inv.laid{a:Addr}{o:HO}{t':Nat}(I:Inv X pins σ H s)(k:∀ b u,s.heap.get? b=some u→h'.get? b=some u)(hp:s.heap.objs.size≤a)(new:Zy X.prog X.w (upd H a o) h' a o) :
 Inv X pins σ (upd H a o) { s with heap:=h',toks:=t' }:=I.un (Un.laid k hp (I.hok.fresh hp)) (I.hok.laid k hp new)
theorem Inv.write{x e:Addr}{o:HO}{t':Nat}(I:Inv X pins σ H s)(mu:Mut (H x))(he:e=x∨H e=some (.own x))(k:∀ b u,b≠e→s.heap.get? b=some u→h'.get? b=some u)(heo:∃ u,h'.get? e=some u)
 (new:Zy X.prog X.w (upd H x o) h' x o):Inv X pins σ (upd H x o) { s with heap:=h',toks:=t' }:=I.un (Un.write mu he k heo) (I.hok.write mu he k heo new)
theorem Inv.ju{pins':List (Addr×Obj)}(I:Inv X pins σ H s)(h:∀ p∈pins',s.heap.get? p.1=some p.2∧H p.1=none∧p.1≠X.env.locals∧p.1∉X.fs∧∀ v,p.2.data≠.cell v):Inv X pins' σ H s :=
 ⟨I.ok,I.os,I.bare,I.base,I.loc,I.cell,I.free,I.freeC,fun p hp=>(List.mem_append.mp hp).elim (fun z=>I.pin p (List.mem_append_left _ z)) (h p),I.hok,I.len⟩
theorem uH{N:List Str}(hN:N.Nodup){i j:Nat}{x:Str}(a:N[i]?=some x)(b:N[j]?=some x):i=j:=by
 obtain⟨h1,e1⟩:=List.getElem?_eq_some_iff.mp a
 obtain⟨h2,e2⟩:=List.getElem?_eq_some_iff.mp b
 exact (List.getElem_inj hN).mp (e1.trans e2.symm)
theorem QN{M:Model}{A:Around}{E:Value→Shared→Prop}{i:Nat}{x:Str}{v:V}{u:Value}{Q:Unit→Shared→Prop}(I:Inv X pins σ H s)(hN:X.N.Nodup)(hi:X.N[i]?=some x)(hx:Loc X.env.scope x)(r:RelV v u)
 (h:∀ s',Inv X pins (σ.set i (some v)) H s'→(∃ a,Heap.SameBut a s.heap s'.heap∧(a=X.env.locals∨X.env.cells.lookup x=some a))→Q () s') (hf:X.fn x=true∨X.env.scope.names.lookup x=some .local:=by first | exact .inl rfl | exact .inr rfl | assumption):wpAny M A (storeName X.env x u) Q E s:=by
 obtain⟨m,hn,hl⟩:=id I.loc
 have hcls:(X.env.scope.kind == .class || (X.env.scope.kind == .module && X.env.locals != X.env.globals))=false:=by rw[I.ok.kind];rfl
 have hiσ:i<σ.length:=by rw[I.len];exact (List.getElem?_eq_some_iff.mp hi).1
 have cne:=I.cne
 have tracked:∀ {a:Addr}{h':Heap},(∃ o,s.heap.get? a=some o∧H a=none)→Heap.SameBut a s.heap h'→XN X.prog X.w H h':=fun {a h'} ha hs b ob e=>by
  obtain⟨_,_,hfree⟩:=ha
  refine (I.hok b ob e).stay (fun c w' hc q=>(hs.2 c ?_).trans q) (fun _ q=>q) fun _ _ q=>q
  rintro rfl
  rcases hc with rfl | hc
  · rw[hfree] at e;cases e
  · rw[hfree] at hc;cases hc
 rcases hx with hk | hk
 · refine wpAny_storeName_local hk hn (fun h' hn' hs=>?_) hcls
   obtain⟨oL,_,_,hoL,_⟩:=id hn
   refine h _ ⟨I.ok,I.os,I.bare,⟨fun b o e n hb hx=>?_,fun b o e n hb hx=>?_,I.base.free,fun b o e hx=>?_,I.base.tups,I.base.frzs,I.base.tbls⟩,⟨_,hn',fun j y v' e1 e2 e3=>?_⟩,fun y c e=>?_,I.free,I.freeC,fun p hp=>?_,tracked ⟨oL,hoL,I.free⟩ hs,by simpa using I.len⟩ ⟨_,hs,.inl rfl⟩
   · exact (hs.2 b (Nat.ne_of_lt (Nat.lt_of_lt_of_le (Heap.lt_size e) I.ok.above))).trans (I.base.keep b o e n hb hx)
   · obtain⟨sl,e1⟩:=I.base.slot b o e n hb hx
     exact⟨sl,(hs.2 b (Nat.ne_of_lt (Nat.lt_of_lt_of_le (Heap.lt_size e) I.ok.above))).trans e1⟩
   · obtain⟨o',e1⟩:=I.base.there b o e hx
     exact⟨o',(hs.2 b (Nat.ne_of_lt (Nat.lt_of_lt_of_le (Heap.lt_size e) I.ok.above))).trans e1⟩
   · by_cases hj:j=i
     · subst hj
       rw[hi] at e1;cases e1
       rw[List.getElem?_set_self hiσ] at e2
       cases e2
       exact⟨u,r,.inl ⟨hk,by simp⟩⟩
     · rw[List.getElem?_set_ne (Ne.symm hj)] at e2
       obtain⟨u',r',q⟩:=hl j y v' e1 e2 e3
       refine⟨u',r',?_⟩
       rcases q with⟨k,e⟩|⟨k,c,e,z⟩
       · refine .inl ⟨k,?_⟩
         have:y≠x:=fun e=>hj (uH hN e1 (e ▸ hi))
         simp[this,e]
       · exact .inr ⟨k,c,e,z.sameBut hs (cne y c e)⟩
   · obtain⟨w',z⟩:=I.cell y c e
     exact⟨w',z.sameBut hs (cne y c e)⟩
   · obtain⟨e,n,ne,nf,d⟩:=I.pin p hp
     exact⟨(hs.2 p.1 ne).trans e,n,ne,nf,d⟩
 · have hfn:X.fn x=true:=by
    rcases hf with z | z
    · exact z
    · rw[z] at hk;cases hk
   obtain⟨c,hc⟩:=I.ok.has x (.inl hk)
   obtain⟨w',z⟩:=I.cell x c hc
   refine wpAny_storeName_cell I.ok.kind hk hc z (fun h' hc' hs=>?_)
   obtain⟨oc,hoc,hocd⟩:=id z
   refine h { s with heap:=h' } ⟨I.ok,I.os,I.bare,⟨fun b o e n hb hx=>?_,fun b o e n hb hx=>?_,I.base.free,fun b o e hx=>?_,I.base.tups,I.base.frzs,I.base.tbls⟩,⟨m,hn.sameBut hs (Ne.symm (cne x c hc)),fun j y v' e1 e2 e3=>?_⟩,fun y c' e=>?_,I.free,I.freeC,fun p hp=>?_,tracked ⟨oc,hoc,I.freeC x c hc⟩ hs,by simpa using I.len⟩ ⟨c,hs,.inr hc⟩
   · exact (hs.2 b (Nat.ne_of_lt (Nat.lt_of_lt_of_le (Heap.lt_size e) (I.ok.cab x c hfn hc)))).trans (I.base.keep b o e n hb hx)
   · obtain⟨sl,e1⟩:=I.base.slot b o e n hb hx
     exact⟨sl,(hs.2 b (Nat.ne_of_lt (Nat.lt_of_lt_of_le (Heap.lt_size e) (I.ok.cab x c hfn hc)))).trans e1⟩
   · obtain⟨o',e1⟩:=I.base.there b o e hx
     exact⟨o',(hs.2 b (Nat.ne_of_lt (Nat.lt_of_lt_of_le (Heap.lt_size e) (I.ok.cab x c hfn hc)))).trans e1⟩
   · by_cases hj:j=i
     · subst hj
       rw[hi] at e1;cases e1
       rw[List.getElem?_set_self hiσ] at e2
       cases e2
       exact⟨u,r,.inr ⟨.inl hk,c,hc,hc'⟩⟩
     · rw[List.getElem?_set_ne (Ne.symm hj)] at e2
       obtain⟨u',r',q⟩:=hl j y v' e1 e2 e3
       refine⟨u',r',?_⟩
       rcases q with q |⟨k,c',e,z'⟩
       · exact .inl q
       · refine .inr ⟨k,c',e,z'.sameBut hs ?_⟩
         rintro rfl
         exact hj (uH hN e1 (I.ok.inj _ _ _ e hc ▸ hi))
   · by_cases hcc:c'=c
     · subst hcc;exact⟨_,hc'⟩
     · obtain⟨w2,z2⟩:=I.cell y c' e
       exact⟨w2,z2.sameBut hs hcc⟩
   · obtain⟨e,n,ne,nf,d⟩:=I.pin p hp
     refine⟨(hs.2 p.1 ?_).trans e,n,ne,nf,d⟩
     intro q
     rw[q,hoc] at e
     have q':oc=p.2:=Option.some.inj e
     exact d w' (by rw[← q'];exact hocd)
theorem Xk{M:Model}{A:Around}{E:Value→Shared→Prop}{i:Nat}{x:Str}{v:V}{u:Value}{Q:Unit→Shared→Prop}(I:Inv X pins σ H s)(hN:X.N.Nodup)(hi:X.N[i]?=some x)(hx:Loc X.env.scope x)(r:RelV v u)
 (h:∀ s',Inv X pins (σ.set i (some v)) H s'→Q () s') (hf:X.fn x=true∨X.env.scope.names.lookup x=some .local:=by first | exact .inl rfl | exact .inr rfl | assumption):wpAny M A (storeName X.env x u) Q E s :=
 QN I hN hi hx r (fun s' I' _=>h s' I') hf
theorem Inv.jW{s':Shared}{ch:List Addr}(I:Inv X pins σ H s)(ho:s'.os=s.os)(u:Un (frs X.stack) ch H H' s.heap s'.heap)(hok:XN X.prog X.w H' s'.heap)(hg:AllBare s'.gens)
 (hch:∀ b∈ch,(b∈X.ex∨X.s₀.heap.objs.size≤b)∧b≠X.env.locals∧(∀ x c,X.env.cells.lookup x=some c→c≠b)∧∀ p∈X.pn ++ pins,p.1≠b):Inv X pins σ H' s':=by
 obtain⟨h',g',d',t',o'⟩:=s'
 have e:o'=s.os:=ho
 subst e
 exact I.call (g':=g') (t':=t') (d':=d') u hok hg hch
end
noncomputable abbrev XK:=Value→Option Addr→Hp→Prop
noncomputable abbrev St:=List (Option V)
noncomputable abbrev VK:=V→Hp→Prop
noncomputable abbrev TE:=St→Hp→VK→Prop
noncomputable abbrev TT:=St→Hp→(Bool→Hp→Prop)→Prop
noncomputable abbrev TA:=St→Hp→(List V→Hp→Prop)→Prop
set_option genInjectivity false in
structure Ends where
 nx:St→Hp→Prop
 rt:VK
 bk:St→Hp→Prop:=fun _ _=>False
 ct:St→Hp→Prop:=fun _ _=>False
noncomputable abbrev TS:=Ends→St→Hp→Prop
noncomputable def EP(X:Cx)(pins:List (Addr×Obj))(σ:St)(Q:VK)(u:Value)(s':Shared):Prop:=∃ v H',Inv X pins σ H' s'∧RelV v u∧Q v H'
noncomputable def TP(X:Cx)(pins:List (Addr×Obj))(σ:St)(Q:Bool→Hp→Prop)(b:Bool)(s':Shared):Prop:=∃ H',Inv X pins σ H' s'∧Q b H'
noncomputable def AP(X:Cx)(pins:List (Addr×Obj))(σ:St)(Q:List V→Hp→Prop)(us:List Value)(s':Shared):Prop:=∃ vs H',Inv X pins σ H' s'∧Vals vs us∧Q vs H'
noncomputable def SP(X:Cx)(pins:List (Addr×Obj))(D:Ends)(f:Flow)(s':Shared):Prop :=
 match f with
 | .next=>∃ σ' H',Inv X pins σ' H' s'∧D.nx σ' H'
 | .brk=>∃ σ' H',Inv X pins σ' H' s'∧D.bk σ' H'
 | .cont=>∃ σ' H',Inv X pins σ' H' s'∧D.ct σ' H'
 | .ret u=>∃ v σ' H',Inv X pins σ' H' s'∧RelV v u∧D.rt v H'
noncomputable def PE(X:Cx)(e:Expr)(t:TE):Prop :=
 ∀ (pins:List (Addr×Obj)) (s:Shared) (σ:St) (H:Hp) (Q:VK),Inv X pins σ H s→t σ H Q→wpAny (model X.prog X.w) X.A (eval e X.env) (EP X pins σ Q) X.xe s
noncomputable def PT(X:Cx)(e:Expr)(t:TT):Prop :=
 ∀ (pins:List (Addr×Obj)) (s:Shared) (σ:St) (H:Hp) (Q:Bool→Hp→Prop),Inv X pins σ H s→t σ H Q→wpAny (model X.prog X.w) X.A (isTrue e X.env (eval e X.env)) (TP X pins σ Q) X.xe s
noncomputable def PW(X:Cx)(e:Expr)(t:TT):Prop :=
 ∀ (whole:Sem Value) (pins:List (Addr×Obj)) (s:Shared) (σ:St) (H:Hp) (Q:Bool→Hp→Prop),Inv X pins σ H s→t σ H Q→wpAny (model X.prog X.w) X.A (isTrue e X.env whole) (TP X pins σ Q) X.xe s
theorem PW.pt{X:Cx}{e:Expr}{t:TT}(h:PW X e t):PT X e t:=h _
noncomputable def PA(X:Cx)(es:List Expr)(t:TA):Prop :=
 ∀ (pos:Pos) (pins:List (Addr×Obj)) (s:Shared) (σ:St) (H:Hp) (Q:List V→Hp→Prop),Inv X pins σ H s→t σ H Q→wpAny (model X.prog X.w) X.A (spliced (backTo pos (starEach es X.env))) (AP X pins σ Q) X.xe s
noncomputable def PS(X:Cx)(st:Stmt)(t:TS):Prop :=
 ∀ (pins:List (Addr×Obj)) (s:Shared) (σ:St) (H:Hp) (D:Ends),Inv X pins σ H s→t D σ H→wpAny (model X.prog X.w) X.A (exec st X.env) (SP X pins D) X.xe s
noncomputable def uY(X:Cx)(st:List Stmt)(t:TS):Prop :=
 ∀ (pins:List (Addr×Obj)) (s:Shared) (σ:St) (H:Hp) (D:Ends),Inv X pins σ H s→t D σ H→wpAny (model X.prog X.w) X.A (execs st X.env) (SP X pins D) X.xe s
theorem Zt{α:Type}{t:Sem α}{Q Q':α→Shared→Prop}{M:Model}{A:Around}{E:Value→Shared→Prop}{s:Shared}(h:wpAny M A t Q E s)(hQ:∀ a s,Q a s→Q' a s):wpAny M A t Q' E s:=wpAny_mono h hQ fun _ _ x=>x
section
variable{X:Cx}
noncomputable def z6i(i:Nat):TE:=fun σ H Q=>∃ v,σ[i]?=some (some v)∧Q v H
noncomputable def tC(v:V):TE:=fun _ H Q=>Q v H
theorem z5e{i:Nat}{x:Str}{pos:Pos}(hN:X.N[i]?=some x)(hv:Vis X.env.scope x)(hd:(x == ("__debug__":Str))=false:=by decide)(hcd:(x == ("__classdict__":Str))=false:=by decide):PE X (.Name x pos) (z6i i):=by
 intro pins s σ H Q I h
 obtain⟨v,e,h⟩:=h
 obtain⟨m,hn,hl⟩:=I.loc
 obtain⟨u,r,l⟩:=hl i x v hN e hv
 have fin:EP X pins σ Q u s:=⟨v,H,I,r,h⟩
 rcases l with⟨hk,hm⟩|⟨hk,c,hc,hcell⟩
 · exact wpAny_Name (wpAny_loadName_local I.ok.kind hk hn hm fin) hd
 · rcases hk with hk | hk
   · exact wpAny_Name (wpAny_loadName_cell I.ok.kind hk hc hcell fin) hd
   · exact wpAny_Name (wpAny_loadName_free I.ok.kind hk hc hcell fin hcd) hd
theorem zg{i j pos}:PE X (.Constant (.int i) j pos) (tC (.int i)):=fun _ _ _ H _ I h=>wpAny_Constant_int ⟨.int i,H,I.tok _,⟨_,rfl⟩,h⟩
theorem ZT{b j pos}:PE X (.Constant (.bool b) j pos) (tC (.bl b)):=fun _ _ _ H _ I h=>Constant_bool ⟨.bl b,H,I,rfl,h⟩
theorem Ve{j pos}:PE X (.Constant .none j pos) (tC .non):=fun _ _ _ H _ I h=>Constant_none ⟨.non,H,I,rfl,h⟩
theorem Vc{x j pos}:PE X (.Constant (.str x) j pos) (tC (.str x)):=fun _ _ _ H _ I h=>Calls.Constant_str ⟨.str x,H,I.tok _,⟨_,rfl⟩,h⟩
noncomputable def Gl(X:Cx)(x:Str):Prop:=X.env.kindOf x=some .globalImplicit
theorem jk{E:Value→Shared→Prop}{pins:List (Addr×Obj)}{s:Shared}{σ:St}{H:Hp}{x:Str}{u:Value}{pos:Pos}{Q:Value→Shared→Prop}(I:Inv X pins σ H s)(hg:Gl X x)(hm:X.mg x=some u)(h:Q u s)
 (hd:(x == ("__debug__":Str))=false:=by decide):wpAny (model X.prog X.w) X.A (eval (.Name x pos) X.env) Q E s :=
 Calls.Name_function_global I.ok.kind hg (Calls.loadGlobal_global (by rw[I.ok.glob];exact I.mod.glob.keeps I.bk) hm h) hd
theorem Yh{E:Value→Shared→Prop}{pins:List (Addr×Obj)}{s:Shared}{σ:St}{H:Hp}{x:Str}{u:Value}{pos:Pos}{Q:Value→Shared→Prop}(I:Inv X pins σ H s)(hg:Gl X x)(hm:X.mg x=none)(hv:bootBuiltins x=some u)(h:Q u s)
 (hn:x≠"__name__":=by decide) (hd:(x == ("__debug__":Str))=false:=by decide):wpAny (model X.prog X.w) X.A (eval (.Name x pos) X.env) Q E s:=by
 obtain⟨mb,h1,h2⟩:=I.mod.blt
 exact Calls.Name_function_global I.ok.kind hg (Calls.loadGlobal_builtin (by rw[I.ok.glob];exact I.mod.glob.keeps I.bk) hm (by rw[I.ok.blt];exact h1.keeps I.bk) ((h2 x hn).trans hv) h) hd
theorem VB{x:Str}{v:V}{u:Value}{pos:Pos}(hg:Gl X x)(hm:X.mg x=some u)(r:RelV v u)(hd:(x == ("__debug__":Str))=false:=by decide):PE X (.Name x pos) (tC v) :=
 fun _ _ _ H _ I h=>jk I hg hm ⟨v,H,I,r,h⟩ hd
theorem yt{x:Str}{v:V}{u:Value}{pos:Pos}(hg:Gl X x)(hm:X.mg x=none)(hv:bootBuiltins x=some u)(r:RelV v u)(hn:x≠"__name__":=by decide)(hd:(x == ("__debug__":Str))=false:=by decide):PE X (.Name x pos) (tC v) :=
 fun _ _ _ H _ I h=>Yh I hg hm hv ⟨v,H,I,r,h⟩ hn hd
variable{a b:Expr}{ta tb:TE}{pos:Pos}
noncomputable def tB(t:TE):TT:=fun σ H Q=>t σ H fun x H1=>∃ c,x=.bl c∧Q c H1
theorem Yi{e:Expr}{t:TE}(h:PE X e t)(he:∀ whole,isTrue e X.env whole=(do let v ←whole;standAt e.pos;holding [v] (truthy v)):=by intro _;rfl):PT X e (tB t):=by
 intro pins s σ H Q I hw
 refine isTrue_plain (Zt (h pins s σ H _ I hw) fun v s1 ⟨x,H1,I1,r1,q1⟩=>?_) (he _)
 obtain⟨d,rfl,q⟩:=q1
 cases r1
 exact wpAny_truthy_bool ⟨H1,I1,q⟩
variable{tA tB':TT}{rest:List Expr}
noncomputable def z7O(t u:TT):TT:=fun σ H Q=>t σ H fun c H1=>if c=true then u σ H1 Q else Q false H1
noncomputable def tOr(t u:TT):TT:=fun σ H Q=>t σ H fun c H1=>if c=true then Q true H1 else u σ H1 Q
noncomputable def z7A(t:TT):TT:=fun σ H Q=>t σ H fun c H1=>Q (!c) H1
theorem jn(ha:PT X a tA):PW X (.BoolOp .And [a] pos) tA:=by
 intro wh pins s σ H Q I h
 refine isTrue_and (Zt (ha pins s σ H Q I h) fun c s1 e=>?_)
 cases c with
 | true=>exact isTrue_and_nil e
 | false=>exact e
theorem qJ(ha:PT X a tA):PW X (.BoolOp .Or [a] pos) tA:=by
 intro wh pins s σ H Q I h
 refine isTrue_or (Zt (ha pins s σ H Q I h) fun c s1 e=>?_)
 cases c with
 | false=>exact isTrue_or_nil e
 | true=>exact e
theorem Um(ha:PT X a tA)(hb:PW X (.BoolOp .And (b :: rest) pos) tB'):PW X (.BoolOp .And (a :: b :: rest) pos) (z7O tA tB'):=by
 intro wh pins s σ H Q I h
 refine isTrue_and (Zt (ha pins s σ H _ I h) fun c s1 ⟨H1,I1,q1⟩=>?_)
 cases c with
 | true=>exact hb wh pins s1 σ H1 Q I1 q1
 | false=>exact⟨H1,I1,q1⟩
theorem uW(ha:PT X a tA)(hb:PW X (.BoolOp .Or (b :: rest) pos) tB'):PW X (.BoolOp .Or (a :: b :: rest) pos) (tOr tA tB'):=by
 intro wh pins s σ H Q I h
 refine isTrue_or (Zt (ha pins s σ H _ I h) fun c s1 ⟨H1,I1,q1⟩=>?_)
 cases c with
 | true=>exact⟨H1,I1,q1⟩
 | false=>exact hb wh pins s1 σ H1 Q I1 q1
theorem xJ(ha:PT X a tA):PT X (.UnaryOp .Not a pos) (z7A tA):=by
 intro pins s σ H Q I h
 exact isTrue_not (ha pins s σ H (fun c H1=>Q (!c) H1) I h)
noncomputable def z6k(ta tb:TE):TE:=fun σ H Q=>ta σ H fun x H1=>∃ c,x=.bl c∧if c=true then tb σ H1 Q else Q (.bl false) H1
noncomputable def z6E(ta:TE):TE:=fun σ H Q=>ta σ H fun x H1=>∃ c,x=.bl c∧Q (.bl (!c)) H1
theorem Ye{op}{t:TE}(h:PE X a t):PE X (.BoolOp op [a] pos) t:=fun pins s σ H Q I hw=>BoolOp_one (h pins s σ H Q I hw)
theorem yi(ha:PE X a ta)(hb:PE X (.BoolOp .And (b :: rest) pos) tb):PE X (.BoolOp .And (a :: b :: rest) pos) (z6k ta tb):=by
 intro pins s σ H Q I h
 refine BoolOp_and (Zt (ha pins s σ H _ I h) fun v s1 ⟨x,H1,I1,r1,q1⟩=>?_)
 obtain⟨c,rfl,q1⟩:=q1
 cases r1
 refine wpAny_truthy_bool ?_
 cases c with
 | true=>exact hb pins s1 σ H1 Q I1 q1
 | false=>exact⟨.bl false,H1,I1,rfl,q1⟩
theorem z5b(ha:PE X a ta):PE X (.UnaryOp .Not a pos) (z6E ta):=by
 intro pins s σ H Q I h
 refine UnaryOp_ (Zt (ha pins s σ H _ I h) fun v s1 ⟨x,H1,I1,r1,q1⟩=>?_)
 obtain⟨c,rfl,q1⟩:=q1
 cases r1
 exact not_of (wpAny_truthy_bool ⟨.bl (!c),H1,I1,rfl,q1⟩)
end
noncomputable def z7(K:PySem.W.Frag)(H:Hp)(a:Addr)(xs:List V):Prop :=
 Rd H a (.lst xs) ∨
  ∃ (o:Obj) (its:Array Value) (n:Nat),K.lookup a=some o∧o.cls=.type "list"∧o.dict=none∧o.data=.seq its n∧its.size≤sizeLine∧Vals xs its.toList
noncomputable def z5(K:PySem.W.Frag)(H:Hp)(a:Addr)(xs:List V):Prop :=
 Rd H a (.tup xs) ∨
  ∃ (o:Obj) (its:Array Value) (n:Nat),K.lookup a=some o∧o.cls=.type "tuple"∧o.data=.seq its n∧its.size≤sizeLine∧Vals xs its.toList
noncomputable def z7J:Value→Option V
 | .none=>some .non
 | .bool b=>some (.bl b)
 | .int i _=>some (.int i)
 | .str x _=>some (.str x)
 | .bytes b _=>some (.byt b)
 | .float b _=>some (.flt b)
 | .ref a=>some (.ref a)
 | .type n=>some (.ty n)
 | _=>none
theorem RelV.abs{x:V}{u:Value}(r:RelV x u):z7J u=some x:=by
 cases x with
 | non=>cases r;rfl
 | bl _=>cases r;rfl
 | int _=>obtain⟨t,rfl⟩:=r;rfl
 | str _=>obtain⟨t,rfl⟩:=r;rfl
 | byt _=>obtain⟨t,rfl⟩:=r;rfl
 | flt _=>obtain⟨t,rfl⟩:=r;rfl
 | ref _=>cases r;rfl
 | ty _=>cases r;rfl
theorem RelV.inj{x y:V}{u:Value}(r:RelV x u)(q:RelV y u):x=y:=Option.some.inj (r.abs.symm.trans q.abs)
theorem Vals.inj:∀ {xs ys:List V}{us:List Value},Vals xs us→Vals ys us→xs=ys
 | _,_,_,.nil,.nil=>rfl
 | _,_,_,.cons r t,.cons r' t'=>by rw[r.inj r',Vals.inj t t']
section
variable{X:Cx}{pins:List (Addr×Obj)}{σ:St}{H:Hp}{s:Shared}{a:Addr}{xs ys:List V}
theorem z7.of{K:PySem.W.Frag}(h:H a=some (.lst xs)):z7 K H a xs:=.inl (.inl h)
theorem z5.of{K:PySem.W.Frag}(h:H a=some (.tup xs)):z5 K H a xs:=.inl (.inl h)
theorem Inv.list(I:Inv X pins σ H s)(h:z7 X.K H a xs):∃ its:List Value,Vals xs its∧PlainL s.heap a its.toArray∧xs.length≤sizeLine:=by
 rcases h with h |⟨o,its,n,hk,hc,hd,hs,hz,r⟩
 · obtain⟨z,its,n,r,e⟩:=h.ok I.hok
   exact⟨its,r,⟨_,n,e,rfl,rfl,rfl⟩,z⟩
 · refine⟨its.toList,r,⟨o,n,I.VL a o hk,hc,hd,by simpa using hs⟩,?_⟩
   have e:=r.length
   simp only[Array.length_toList] at e
   omega
theorem Inv.tuple(I:Inv X pins σ H s)(h:z5 X.K H a xs):∃ its:List Value,Vals xs its∧IsTup s.heap a its.toArray∧xs.length≤sizeLine:=by
 rcases h with h |⟨o,its,n,hk,hc,hs,hz,r⟩
 · obtain⟨z,its,r,p⟩:=h.ok I.hok
   exact⟨its,r,p.tup,z⟩
 · refine⟨its.toList,r,⟨o,I.VL a o hk,hc,n,by simpa using hs⟩,?_⟩
   have e:=r.length
   simp only[Array.length_toList] at e
   omega
theorem Inv.Xd(I:Inv X pins σ H s)(h:z7 X.K H a xs)(h':z7 X.K H a ys):xs=ys:=by
 obtain⟨its,r,⟨o,n,e,_,_,d⟩,_⟩:=I.list h
 obtain⟨its',r',⟨o',n',e',_,_,d'⟩,_⟩:=I.list h'
 rw[e] at e';cases e'
 rw[d] at d'
 injection d' with d1 _
 have:its=its':=by simpa using congrArg Array.toList d1
 subst this
 exact r.inj r'
theorem Inv.XD(I:Inv X pins σ H s)(h:z5 X.K H a xs)(h':z5 X.K H a ys):xs=ys:=by
 obtain⟨its,r,⟨o,e,_,n,d⟩,_⟩:=I.tuple h
 obtain⟨its',r',⟨o',e',_,n',d'⟩,_⟩:=I.tuple h'
 rw[e] at e';cases e'
 rw[d] at d'
 injection d' with d1 _
 have:its=its':=by simpa using congrArg Array.toList d1
 subst this
 exact r.inj r'
end
noncomputable abbrev Cx.QB(X:Cx)(E:Value→Shared→Prop):Cx:={ X with xe:=E }
noncomputable abbrev Cx.nox(X:Cx):Cx:=X.QB fun _ _=>False
theorem Cx.Ok.QB{X:Cx}(ok:X.Ok)(E:Value→Shared→Prop):(X.QB E).Ok :=
 ⟨ok.mod,ok.kind,ok.glob,ok.blt,ok.above,ok.inj,ok.has,ok.cab,ok.hd,ok.frames,ok.stk,ok.exf,ok.bs,ok.bsz,ok.noex,ok.exfs,ok.qE,ok.frf⟩
theorem Cx.Ok.YU{X:Cx}{E:Value→Shared→Prop}(ok:(X.QB E).Ok):X.Ok :=
 ⟨ok.mod,ok.kind,ok.glob,ok.blt,ok.above,ok.inj,ok.has,ok.cab,ok.hd,ok.frames,ok.stk,ok.exf,ok.bs,ok.bsz,ok.noex,ok.exfs,ok.qE,ok.frf⟩
section
variable{X:Cx}{pins:List (Addr×Obj)}{σ:St}{H:Hp}{s:Shared}{E:Value→Shared→Prop}
theorem Inv.QB(I:Inv X pins σ H s)(E:Value→Shared→Prop):Inv (X.QB E) pins σ H s:=⟨I.ok.QB E,I.os,I.bare,I.base,I.loc,I.cell,I.free,I.freeC,I.pin,I.hok,I.len⟩
theorem Inv.YU(I:Inv (X.QB E) pins σ H s):Inv X pins σ H s:=⟨I.ok.YU,I.os,I.bare,I.base,I.loc,I.cell,I.free,I.freeC,I.pin,I.hok,I.len⟩
theorem SP.YU{D:Ends}{f:Flow}{s':Shared}(h:SP (X.QB E) pins D f s'):SP X pins D f s':=by
 cases f with
 | next=>obtain⟨σ',H',I,q⟩:=h;exact⟨σ',H',I.YU,q⟩
 | brk=>obtain⟨σ',H',I,q⟩:=h;exact⟨σ',H',I.YU,q⟩
 | cont=>obtain⟨σ',H',I,q⟩:=h;exact⟨σ',H',I.YU,q⟩
 | ret u=>obtain⟨v,σ',H',I,r,q⟩:=h;exact⟨v,σ',H',I.YU,r,q⟩
theorem uY.nox{st:List Stmt}{t:TS}(h:uY X.nox st t):uY X st t:=fun pins s σ H D I hw =>
 wpAny_mono (h pins s σ H D (I.QB _) hw) (fun _ _ q=>q.YU) fun _ _ z=>False.elim z
end
section
variable{X:Cx}{st:Stmt}{rest:List Stmt}{t u:TS}{e:Expr}{te:TE}{pos:Pos}
noncomputable def z5C:TS:=fun D σ H=>D.nx σ H
noncomputable def z7l(t u:TS):TS:=fun D σ H=>t { D with nx:=u D } σ H
theorem Zr:uY X [] z5C:=fun _ _ σ H _ I h=>wpAny_execs_nil ⟨σ,H,I,h⟩
theorem zo(h1:PS X st t)(h2:uY X rest u):uY X (st :: rest) (z7l t u):=by
 intro pins s σ H D I h
 refine wpAny_execs_cons (Zt (h1 pins s σ H { D with nx:=u D } I h) fun f s1 q=>?_)
 cases f with
 | next =>
   obtain⟨σ',H',I',q⟩:=q
   exact h2 pins s1 σ' H' D I' q
 | ret v=>exact q
 | brk=>exact q
 | cont=>exact q
theorem zC(h1:PS X st t):uY X [st] t:=by
 intro pins s σ H D I h
 refine wpAny_execs_cons (Zt (h1 pins s σ H D I h) fun f s1 q=>?_)
 cases f with
 | next=>exact wpAny_execs_nil q
 | ret v=>exact q
 | brk=>exact q
 | cont=>exact q
theorem Inv.quiet{pins:List (Addr×Obj)}{σ:St}{H:Hp}{s:Shared}(I:Inv X pins σ H s):interactive X.env=false:=by simp[interactive,I.ok.kind]
noncomputable def z6I(te:TE):TS:=fun D σ H=>te σ H fun _ H1=>D.nx σ H1
theorem qd(he:PE X e te)(hs:swapsWith e none pos.line X.env=pure false:=by rfl):PS X (.Expr e pos) (z6I te):=by
 intro pins s σ H D I h
 exact wpAny_Expr_any (Zt (he pins s σ H _ I h) fun v s1 ⟨x,H1,I1,r1,q1⟩=>⟨σ,H1,I1,q1⟩) I.quiet hs
noncomputable def z7b(te:TE):TS:=fun D σ H=>te σ H D.rt
theorem zS(he:PE X e te):PS X (.Return (some e) pos) (z7b te):=by
 intro pins s σ H D I h
 exact wpAny_Return_some (Zt (he pins s σ H _ I h) fun v s1 ⟨x,H1,I1,r1,q1⟩=>⟨x,σ,H1,I1,r1,q1⟩)
noncomputable def z6X(c:TT)(t u:TS):TS:=fun D σ H=>c σ H fun b H1=>if b=true then t D σ H1 else u D σ H1
theorem Z3{c:Expr}{a b:List Stmt}{tc:TT}(hc:PT X c tc)(ha:uY X a t)(hb:uY X b u):PS X (.If c a b pos) (z6X tc t u):=by
 intro pins s σ H D I h
 refine wpAny_If (Zt (hc pins s σ H _ I h) fun d s1 ⟨H1,I1,q1⟩=>?_)
 cases d with
 | true=>exact ha pins s1 σ H1 D I1 q1
 | false=>exact hb pins s1 σ H1 D I1 q1
end
noncomputable abbrev TG:=V→St→Hp→(St→Hp→Prop)→Prop
noncomputable abbrev TGs:=List V→St→Hp→(St→Hp→Prop)→Prop
noncomputable def PG(X:Cx)(target:Expr)(t:TG):Prop :=
 ∀ (pins:List (Addr×Obj)) (s:Shared) (σ:St) (H:Hp) (v:V) (u:Value) (Q:St→Hp→Prop),Inv X pins σ H s→RelV v u→t v σ H Q →
   wpAny (model X.prog X.w) X.A (assign target X.env u) (fun _ s'=>∃ σ' H',Inv X pins σ' H' s'∧Q σ' H') X.xe s
noncomputable def PGs(X:Cx)(ts:List Expr)(t:TGs):Prop :=
 ∀ (pins:List (Addr×Obj)) (s:Shared) (σ:St) (H:Hp) (vs:List V) (us:List Value) (Q:St→Hp→Prop),Inv X pins σ H s→Vals vs us→t vs σ H Q →
   wpAny (model X.prog X.w) X.A (assignInOrder ((assignEach ts X.env).map (·.2)) us) (fun _ s'=>∃ σ' H',Inv X pins σ' H' s'∧Q σ' H') X.xe s
noncomputable abbrev z1e:=V→V→V→Hp→(Hp→Prop)→Prop
noncomputable def z4U(X:Cx)(t:z1e):Prop :=
 ∀ (pins:List (Addr×Obj)) (s:Shared) (σ:St) (H:Hp) (o i v:V) (ov iv u:Value) (Q:Hp→Prop),Inv X pins σ H s→RelV o ov→RelV i iv→RelV v u→t o i v H Q →
   wpAny (model X.prog X.w) X.A (setItem ov iv u) (fun _ s'=>∃ H',Inv X pins σ H' s'∧Q H') X.xe s
noncomputable abbrev TIp:=V→V→Hp→VK→Prop
noncomputable def PIp(X:Cx)(op:Operator)(t:TIp):Prop :=
 ∀ (pins:List (Addr×Obj)) (s:Shared) (σ:St) (H:Hp) (x y:V) (v u:Value) (Q:VK),Inv X pins σ H s→RelV x v→RelV y u→t x y H Q →
   wpAny (model X.prog X.w) X.A (inplaceOp op v u) (EP X pins σ Q) X.xe s
section
variable{X:Cx}{pos:Pos}
noncomputable def ZU(i:Nat):TG:=fun v σ H Q=>Q (σ.set i (some v)) H
theorem zQ{i:Nat}{x:Str}(hN:X.N.Nodup)(hi:X.N[i]?=some x)(hx:Loc X.env.scope x)(hf:X.fn x=true∨X.env.scope.names.lookup x=some .local:=by first | exact .inl rfl | exact .inr rfl | assumption):PG X (.Name x pos) (ZU i):=by
 intro pins s σ H v u Q I r h
 exact wpAny_assign_Name (Xk I hN hi hx r (fun s' I'=>⟨_,H,I',h⟩) hf)
noncomputable def z6Z:TGs:=fun vs σ H Q=>vs=[]∧Q σ H
noncomputable def z6j(t:TG)(u:TGs):TGs:=fun vs σ H Q=>∃ v r,vs=v :: r∧t v σ H fun σ' H'=>u r σ' H' Q
theorem yJ:PGs X [] z6Z:=by
 intro pins s σ H vs us Q I r h
 obtain⟨e,h⟩:=h
 subst e
 cases r
 exact assignInOrder_nil ⟨σ,H,I,h⟩
theorem Zn{e:Expr}{es:List Expr}{t:TG}{u:TGs}(h1:PG X e t)(h2:PGs X es u)
 (hs:(assignEach (e :: es) X.env).map (·.2)=assign e X.env :: (assignEach es X.env).map (·.2):=by rfl):PGs X (e :: es) (z6j t u):=by
 intro pins s σ H vs us Q I r h
 obtain⟨v,vr,e1,h⟩:=h
 subst e1
 cases r with
 | cons r rr =>
   rw[hs]
   refine assignInOrder_cons (Zt (h1 pins s σ H _ _ _ I r h) fun _ s1 ⟨σ1,H1,I1,q1⟩=>?_)
   exact h2 pins s1 σ1 H1 _ _ Q I1 rr q1
noncomputable def z6q(K:PySem.W.Frag)(n:Nat)(t:TGs):TG:=fun v σ H Q=>∃ a xs,v=.ref a∧z5 K H a xs∧xs.length=n∧t xs σ H Q
theorem Xx{es:List Expr}{k:Nat}{t:TGs}{n:Nat}(hc:X.calm=true)(h:PGs X es t)
 (hn:(assignEach es X.env).length=n:=by rfl) (hst:(assignEach es X.env).findIdx? (·.1)=none:=by rfl):PG X (.Tuple es k pos) (z6q X.K n t):=by
 intro pins s σ H v u Q I r hw
 obtain⟨a,xs,e1,hq,hl,hw⟩:=hw
 subst e1
 cases r
 obtain⟨its,rv,ht,hz⟩:=I.tuple hq
 refine assign_Tuple_tuple (I.ok.hd hc) ht (by simp[hn,← hl,rv.length]) hst fun h' hx=>?_
 have I1:Inv X pins σ H { s with heap:=h' }:=I.kept (t':=s.toks) fun b o e=>hx b o (Nat.ne_of_lt (Heap.lt_size e)) e
 exact h pins _ σ H xs _ Q I1 (by simpa using rv) hw
noncomputable def z7o(to ti:TE)(t:z1e):TG:=fun v σ H Q=>to σ H fun o H1=>ti σ H1 fun i H2=>t o i v H2 fun H3=>Q σ H3
theorem yV{o i:Expr}{to ti:TE}{t:z1e}(ho:PE X o to)(hi:PE X i ti)(hs:z4U X t)
 (ha:∀ v,assign (.Subscript o i pos) X.env v=(do
  let ov ←holding [v] (eval o X.env)
  let iv ←holding [v,ov] (eval i X.env)
  standAt pos
  holding [v,ov,iv] (setItem ov iv v)
  release [v,ov,iv] []):=by intro _;rfl):PG X (.Subscript o i pos) (z7o to ti t):=by
 intro pins s σ H v u Q I r h
 rw[ha]
 refine wpAny_bind (wpAny_holding (Zt (ho pins s σ H _ I h) fun ov s1 ⟨x,H1,I1,r1,q1⟩=>?_))
 refine wpAny_bind (wpAny_holding (Zt (hi pins s1 σ H1 _ I1 q1) fun iv s2 ⟨y,H2,I2,r2,q2⟩=>?_))
 refine wpAny_bind (wpAny_standAt (wpAny_bind (wpAny_holding (Zt (hs pins s2 σ H2 x y v ov iv u _ I2 r1 r2 r q2) fun _ s3 ⟨H3,I3,q3⟩=>?_))))
 exact wpAny_release ⟨σ,H3,I3,q3⟩
noncomputable def z1x(te:TE)(g:TG):TS:=fun D σ H=>te σ H fun x H1=>g x σ H1 D.nx
theorem yT{tg e:Expr}{te:TE}{g:TG}(he:PE X e te)(hg:PG X tg g)(hs:swapsWithSole [tg] e pos.line X.env=pure false:=by rfl)(hw:swappedStores [tg] e X.env=pure none:=by rfl)
 (h1:(assignEach [tg] X.env).map (·.2)=[assign tg X.env]:=by rfl):PS X (.Assign [tg] e pos) (z1x te g):=by
 intro pins s σ H D I h
 refine wpAny_Assign_stores (Zt (he pins s σ H _ I h) fun v s1 ⟨x,H1,I1,r1,q1⟩=>?_) hs hw
 rw[h1]
 exact Zt (hg pins s1 σ H1 x v _ I1 r1 q1) fun _ s2 q=>q
theorem ZQ{i:Nat}{x:Str}{e:Expr}{te:TE}{pos':Pos}(hN:X.N.Nodup)(hi:X.N[i]?=some x)(hx:Loc X.env.scope x)(he:PE X e te)(hs:swapsWith e (some (.Name x pos')) pos.line X.env=pure false:=by rfl)(hf:X.fn x=true∨X.env.scope.names.lookup x=some .local:=by first | exact .inl rfl | exact .inr rfl | assumption) :
 PS X (.Assign [.Name x pos'] e pos) (z1x te (ZU i)):=by
 intro pins s σ H D I h
 refine wpAny_Assign_Name (Zt (he pins s σ H _ I h) fun v s1 ⟨y,H1,I1,r1,q1⟩=>?_) hs
 exact Xk I1 hN hi hx r1 (fun s2 I2=>⟨_,H1,I2,q1⟩) hf
noncomputable def z7y(i j:Nat)(ta:TA):TS:=fun D σ H=>ta σ H fun vs H1=>∃ v w,vs=[v,w]∧D.nx ((σ.set i (some v)).set j (some w)) H1
theorem z5g{i j:Nat}{x y:Str}{a b:Expr}{ta:TA}{px py pt:Pos}{kt k2 pt2}(hc:X.calm=true)(hN:X.N.Nodup)(hi:X.N[i]?=some x)(hj:X.N[j]?=some y)(hij:i≠j)
 (hx:X.env.scope.names.lookup x=some .local) (hy:X.env.scope.names.lookup y=some .local) (ha:PA X [a,b] ta)
 (hw:swappedStores [.Tuple [.Name x px,.Name y py] kt pt] (.Tuple [a,b] k2 pt2) X.env=pure (some [x,y]))
 (hs:swapsWithSole [.Tuple [.Name x px,.Name y py] kt pt] (.Tuple [a,b] k2 pt2) pos.line X.env=pure false:=by rfl) :
 PS X (.Assign [.Tuple [.Name x px,.Name y py] kt pt] (.Tuple [a,b] k2 pt2) pos) (z7y i j ta):=by
 intro pins s σ H D I h
 rw[exec_Assign_arm]
 refine wpAny_bind (wpAny_standAt ?_)
 rw[hs]
 refine wpAny_bind (wpAny_pure ?_)
 rw[if_neg (by decide)]
 refine wpAny_bind (Tuple_ (Zt (ha _ pins s σ H _ I h) fun us s1 ⟨vs,H1,I1,r1,q1⟩=>?_))
 obtain⟨v,w,e1,q1⟩:=q1
 subst e1
 obtain⟨u1,u2,rfl,rv,rw'⟩:∃ u1 u2,us=[u1,u2]∧RelV v u1∧RelV w u2:=by
  cases r1 with
  | cons p q =>
    cases q with
    | cons p' q' =>
      cases q'
      exact⟨_,_,rfl,p,p'⟩
 refine wpAny_newObj_type ?_ (by show 2≤sizeLine;decide)
 have I2:Inv X pins σ H1 { s1 with heap:=s1.heap.push { cls:=.type "tuple",data:=.seq [u1,u2].toArray } }:=I1.kept (t':=s1.toks) fun b o e=>Heap.get?_push_of_some _ e
 rw[hw]
 refine wpAny_bind (wpAny_pure ?_)
 show wpAny (model X.prog X.w) X.A (do rule "assign.swapped-stores";let items ←unpackItems (.ref s1.heap.objs.size) 2 none;assignInOrder [fun v=>bindName X.env y v,fun v=>bindName X.env x v] items.reverse;pure Flow.next) _ _ _
 refine wpAny_bind (wpAny_rule (wpAny_bind (unpackItems_tuple (items:=#[u1,u2]) (I.ok.hd hc) (IsTup.new s1.heap _) fun h' hx'=>?_)))
 have I3:=I2.kept (h':=h') (t':=s1.toks) fun b o e=>hx' b o (Nat.ne_of_lt (Heap.lt_size e)) e
 show wpAny _ _ (assignInOrder [fun v=>bindName X.env y v,fun v=>bindName X.env x v] [u2,u1] >>= fun _=>pure Flow.next) _ _ _
 refine wpAny_bind (assignInOrder_cons (wpAny_bindName (Xk I3 hN hj (.inl hy) rw' (fun s2 I4=>?_) (.inr hy))))
 refine assignInOrder_cons (wpAny_bindName (Xk I4 hN hi (.inl hx) rv (fun s3 I5=>assignInOrder_nil (wpAny_pure ?_)) (.inr hx)))
 rw[List.set_comm _ _ (Ne.symm hij)] at I5
 exact⟨_,H1,I5,q1⟩
noncomputable def z6f(to ti te:TE)(tget:V→V→Hp→VK→Prop)(tip:TIp)(tset:z1e):TS:=fun D σ H=>to σ H fun o H1=>ti σ H1 fun i H2=>tget o i H2 fun x H3=>te σ H3 fun y H4=>tip x y H4 fun z H5=>tset o i z H5 fun H6=>D.nx σ H6
noncomputable def z6J(X:Cx)(t:V→V→Hp→VK→Prop):Prop :=
 ∀ (pins:List (Addr×Obj)) (s:Shared) (σ:St) (H:Hp) (o i:V) (ov iv:Value) (Q:VK),Inv X pins σ H s→RelV o ov→RelV i iv→t o i H Q →
   wpAny (model X.prog X.w) X.A (getItem ov iv) (EP X pins σ Q) X.xe s
theorem z2f{o i e:Expr}{to ti te:TE}{tget:V→V→Hp→VK→Prop}{tip:TIp}{tset:z1e}{op:Operator}{tpos:Pos}(ho:PE X o to)(hi:PE X i ti)(hg:z6J X tget)(he:PE X e te)(hp:PIp X op tip)(hs:z4U X tset)
 (ha:∀ ov iv new,augStore i ov iv new=(do holding [new,ov,iv] (setItem ov iv new);release [new,ov,iv] [];pure .next):=by intros;rfl):PS X (.AugAssign (.Subscript o i tpos) op e pos) (z6f to ti te tget tip tset):=by
 intro pins s σ H D I h
 refine wpAny_AugAssign_SubscriptAny (Zt (ho pins s σ H _ I h) fun ov s1 ⟨x1,H1,I1,r1,q1⟩=>?_) ha
 refine Zt (hi pins s1 σ H1 _ I1 q1) fun iv s2 ⟨x2,H2,I2,r2,q2⟩=>?_
 refine Zt (hg pins s2 σ H2 x1 x2 ov iv _ I2 r1 r2 q2) fun old s3 ⟨x3,H3,I3,r3,q3⟩=>?_
 refine Zt (he pins s3 σ H3 _ I3 q3) fun v s4 ⟨x4,H4,I4,r4,q4⟩=>?_
 refine Zt (hp pins s4 σ H4 x3 x4 old v _ I4 r3 r4 q4) fun new s5 ⟨x5,H5,I5,r5,q5⟩=>?_
 exact Zt (hs pins s5 σ H5 x1 x2 x5 ov iv new _ I5 r1 r2 r5 q5) fun _ s6 ⟨H6,I6,q6⟩=>⟨σ,H6,I6,q6⟩
noncomputable def ipI(f:Int→Int→Int):TIp:=fun x y H Q=>∃ i j,x=.int i∧y=.int j∧Q (.int (f i j)) H
theorem z4s:PIp X .Add (ipI fun i j=>i+j):=by
 intro pins s σ H x y v u Q I r1 r2 h
 obtain⟨i,j,e1,e2,q⟩:=h
 subst e1;subst e2
 obtain⟨t,rfl⟩:=r1
 obtain⟨t',rfl⟩:=r2
 exact iadd_int ⟨.int _,H,I.tok _,⟨_,rfl⟩,q⟩
end
section
variable{X:Cx}{pos:Pos}
noncomputable def z1s(c:TT)(tb:TS):TS:=fun D σ H=>∃ W:Nat→St→Hp→Prop,(∃ m,W m σ H)∧∀ m σ H,W m σ H →
 c σ H fun b H1=>if b=true then ∃ N:St→Hp→Prop,(∀ σ' H',N σ' H'→∃ m',m'<m∧W m' σ' H')∧tb { D with nx:=N,ct:=N,bk:=D.nx } σ H1 else D.nx σ H1
theorem uB{c:Expr}{body:List Stmt}{tc:TT}{tb:TS}(hp:PassesOwn (model X.prog X.w) X.A X.env X.xe)(hc:PT X c tc)(hb:uY X body tb):PS X (.While c body [] pos) (z1s tc tb):=by
 intro pins s σ H D I h
 obtain⟨W,⟨m0,w0⟩,turn⟩:=h
 refine wpAny_While (codeAny_whileLoop (fun n s'=>∃ σ' H',Inv X pins σ' H' s'∧W n σ' H') ?_ m0 ⟨σ,H,I,w0⟩)
 rintro n s1 ⟨σ1,H1,I1,w1⟩
 refine wpAny_passesOwn hp (Zt (hc pins s1 σ1 H1 _ I1 (turn n σ1 H1 w1)) fun b s2 ⟨H2,I2,q2⟩=>?_)
 cases b with
 | true =>
   obtain⟨N,hN,q2⟩:=q2
   rw[if_pos rfl]
   refine wpAny_passesOwn hp (Zt (hb pins s2 σ1 H2 _ I2 q2) fun f s3 q3=>?_)
   cases f with
   | next =>
     obtain⟨σ3,H3,I3,n3⟩:=q3
     obtain⟨m',hm,w3⟩:=hN σ3 H3 n3
     exact⟨m',hm,σ3,H3,I3,w3⟩
   | cont =>
     obtain⟨σ3,H3,I3,n3⟩:=q3
     obtain⟨m',hm,w3⟩:=hN σ3 H3 n3
     exact⟨m',hm,σ3,H3,I3,w3⟩
   | brk=>exact q3
   | ret v=>exact q3
 | false =>
   rw[if_neg Bool.false_ne_true]
   exact wpAny_execs_nil ⟨σ1,H2,I2,q2⟩
end
set_option genInjectivity false in
structure It where
 go:Nat→Hp→Prop
 yld:Nat→Hp→V→Hp→Prop
 stop:Nat→Hp→Prop
noncomputable def Z7(X:Cx)(pins:List (Addr×Obj))(H:Hp)(b:Addr):Prop :=
 H b=none∧b≠X.env.locals∧b∉X.fs∧(b∈X.ex∨X.s₀.heap.objs.size≤b)∧(∀ x c,X.env.cells.lookup x=some c→c≠b)∧∀ p∈X.pn ++ pins,p.1≠b
theorem Inv.V2{X:Cx}{pins:List (Addr×Obj)}{σ:St}{H H':Hp}{s:Shared}{b:Addr}(I:Inv X pins σ H s)(hb:s.heap.objs.size≤b)(hn:H' b=none):Z7 X pins H' b:=by
 refine⟨hn,Nat.ne_of_gt (Nat.lt_of_lt_of_le I.lt hb),I.z7E hb,.inr (Nat.le_trans I.sz hb),fun x c e z=>?_,fun p hp z=>?_⟩
 · obtain⟨v,q⟩:=I.cell x c e
   exact absurd (Nat.lt_of_lt_of_le q.lt (by rw[z];exact hb)) (Nat.lt_irrefl _)
 · exact absurd (Nat.lt_of_lt_of_le (Heap.lt_size (I.pin p hp).1) (by rw[z];exact hb)) (Nat.lt_irrefl _)
structure Turn(P:Program)(w:World)(K:PySem.W.Frag)(tg:Expr)(J:It)(fp:List Addr)(it:Addr)(tn:Nat→Heap→Prop):Prop where
 mem:it∈fp
 obj:∀ i h,tn i h→∀ b∈fp,∃ o,h.get? b=some o∧∀ v,o.data≠.cell v
 keep:∀ i h h',tn i h→(∀ b∈fp,∀ o,h.get? b=some o→h'.get? b=some o)→tn i h'
 item:∀ (X:Cx),X.prog=P→X.w=w→X.K=K→X.calm=true→∀ (i:Nat) (pins:List (Addr×Obj)) (s:Shared) (σ:St) (H:Hp) (E:Value→Shared→Prop),Inv X pins σ H s→(∀ b∈fp,Z7 X pins H b)→tn i s.heap→J.go i H →
  wpAny (model P w) X.A (pyNext (.ref it)) (fun r s1=>∃ u,r=some u ∧
   wpAny (model P w) X.A (letOwnedTupleGo tg (.ref it) u) (fun _ s2=>∃ x H',Inv X pins σ H' s2∧RelV x u∧J.yld i H x H'∧tn (i+1) s2.heap∧∀ b∈fp,H' b=none) E s1) E s
 done:∀ (X:Cx),X.prog=P→X.w=w→X.K=K→X.calm=true→∀ (i:Nat) (pins:List (Addr×Obj)) (s:Shared) (σ:St) (H:Hp) (E:Value→Shared→Prop),Inv X pins σ H s→(∀ b∈fp,Z7 X pins H b)→tn i s.heap→J.stop i H →
  wpAny (model P w) X.A (pyNext (.ref it)) (fun r s1=>r=none∧Inv X pins σ H s1) E s
 self:∀ (A:Around) (i:Nat) (s:Shared) (Q:Value→Shared→Prop) (E:Value→Shared→Prop),tn i s.heap→Q (.ref it) s→wpAny (model P w) A (pyIter (.ref it)) Q E s
noncomputable abbrev TI:=St→Hp→(It→Hp→Prop)→Prop
noncomputable def PIE(X:Cx)(pins:List (Addr×Obj))(σ:St)(tg:Expr)(R:It→Hp→Prop)(itv:Value)(s2:Shared):Prop :=
 ∃ (it:Addr) (fp:List Addr) (tn:Nat→Heap→Prop) (J:It) (H':Hp),itv=.ref it∧Inv X pins σ H' s2∧Turn X.prog X.w X.K tg J fp it tn∧tn 0 s2.heap∧(∀ b∈fp,Z7 X pins H' b)∧R J H'
noncomputable def PI(X:Cx)(tg iter:Expr)(wi:TI):Prop :=
 ∀ (pins:List (Addr×Obj)) (s:Shared) (σ:St) (H:Hp) (R:It→Hp→Prop),Inv X pins σ H s→wi σ H R →
   wpAny (model X.prog X.w) X.A (eval iter X.env) (fun v s1=>wpAny (model X.prog X.w) X.A (pyIter v) (PIE X pins σ tg R) X.xe s1) X.xe s
theorem z1c{M:Model}{A:Around}{E:Value→Shared→Prop}{s:Shared}{tg:Expr}{it:Addr}{u:Value}{o:Obj}{n:String}{vs:Array Value}{Q:Unit→Shared→Prop}(ho:s.heap.get? it=some o)(hc:o.cls=.type n)(hd:o.data=.fields vs)
 (hn:["enumerate","zip","dict_itemiterator","dict_reverseitemiterator","odict_iterator","itertools.zip_longest","itertools.pairwise"].contains n=false) (hQ:Q () s):wpAny M A (letOwnedTupleGo tg (.ref it) u) Q E s:=by
 unfold letOwnedTupleGo
 cases tg <;> first
  | exact wpAny_pure hQ
  | (cases u <;> first
   | exact wpAny_pure hQ
   | (refine wpAny_bind (wpAny_load ho ?_)
      rw[hc,hd]
      show wpAny M A (if (["enumerate","zip","dict_itemiterator","dict_reverseitemiterator","odict_iterator","itertools.zip_longest","itertools.pairwise"].contains n && vs[0]? == some (rawInt _))=true then _ else _) Q E s
      rw[if_neg (by intro h;rw[hn,Bool.false_and] at h;cases h)]
      exact wpAny_pure hQ))
noncomputable def Itl(K:PySem.W.Frag)(a:Addr):It :=
 ⟨fun i H=>∃ xs x,z7 K H a xs∧xs[i]?=some x,fun i H x H'=>H'=H∧∀ xs,z7 K H a xs→xs[i]?=some x,fun i H=>∃ xs,z7 K H a xs∧xs.length≤i⟩
noncomputable def Itt(K:PySem.W.Frag)(a:Addr):It :=
 ⟨fun i H=>∃ xs x,z5 K H a xs∧xs[i]?=some x,fun i H x H'=>H'=H∧∀ xs,z5 K H a xs→xs[i]?=some x,fun i H=>∃ xs,z5 K H a xs∧xs.length≤i⟩
noncomputable def Itr(lo:Int)(n:Nat):It:=⟨fun i _=>i<n,fun i H x H'=>H'=H∧x=.int (lo+i),fun i _=>n≤i⟩
theorem vo{P:Program}{w:World}{K:PySem.W.Frag}{tg:Expr}(a it:Addr):Turn P w K tg (Itl K a) [it] it (fun i h=>h.IsListIter it a i) where
 mem:=by simp
 obj:=fun i h st b hb=>by
  have e:b=it:=by simpa using hb
  subst e
  obtain⟨o,e,c,d⟩:=st
  exact⟨o,e,fun v z=>by rw[d] at z;cases z⟩
 keep:=fun i h h' st k=>st.at fun o e=>k it (by simp) o e
 item:=by
  intro X hP hw hK hc i pins s σ H E I hf st hg
  subst hP hw hK
  obtain⟨xs,x,hq,hx⟩:=hg
  obtain⟨its,rv,p,hz⟩:=I.list hq
  obtain⟨u,hu,ru⟩:=rv.get hx
  obtain⟨f0,f1,f2,f3,f4,f5⟩:=hf it (by simp)
  refine wpAny_pyNext_list_item st p.isList (x:=u) (by simpa using hu) fun h' st' sb=>?_
  have I1:Inv X pins σ H { s with heap:=h' }:=I.turned (t':=s.toks) (fun b o hb e=>(sb.2 b hb).trans e) f0 f1 f3 f4 f5
  obtain⟨o,e,c,d⟩:=id st'
  exact⟨u,rfl,z1c (s:={ s with heap:=h' }) e c d (by decide) ⟨x,H,I1,ru,⟨rfl,fun ys hy=>by rw[I.Xd hy hq];exact hx⟩,st',fun b hb=>(hf b hb).1⟩⟩
 done:=by
  intro X hP hw hK hc i pins s σ H E I hf st hg
  subst hP hw hK
  obtain⟨xs,hq,hx⟩:=hg
  obtain⟨its,rv,p,hz⟩:=I.list hq
  obtain⟨f0,f1,f2,f3,f4,f5⟩:=hf it (by simp)
  have hl:=rv.length
  exact wpAny_pyNext_list_end (I.ok.hd hc) st p.isList (by simp;omega) fun h' eb=>⟨rfl,I.turned (t':=s.toks) (fun b o hb e=>eb b o hb e) f0 f1 f3 f4 f5⟩
 self:=fun _ _ _ _ _ st h=>wpAny_pyIter_listiter st h
theorem Qi{P:Program}{w:World}{K:PySem.W.Frag}{tg:Expr}(a it:Addr):Turn P w K tg (Itt K a) [it] it (fun i h=>h.IsTupleIter it a i) where
 mem:=by simp
 obj:=fun i h st b hb=>by
  have e:b=it:=by simpa using hb
  subst e
  obtain⟨o,e,c,d⟩:=st
  exact⟨o,e,fun v z=>by rw[d] at z;cases z⟩
 keep:=fun i h h' st k=>st.at fun o e=>k it (by simp) o e
 item:=by
  intro X hP hw hK hc i pins s σ H E I hf st hg
  subst hP hw hK
  obtain⟨xs,x,hq,hx⟩:=hg
  obtain⟨its,rv,p,hz⟩:=I.tuple hq
  obtain⟨u,hu,ru⟩:=rv.get hx
  obtain⟨f0,f1,f2,f3,f4,f5⟩:=hf it (by simp)
  refine wpAny_pyNext_tuple_item st (show s.heap.IsTuple a its.toArray from p) (x:=u) (by simpa using hu) fun h' st' sb=>?_
  have I1:Inv X pins σ H { s with heap:=h' }:=I.turned (t':=s.toks) (fun b o hb e=>(sb.2 b hb).trans e) f0 f1 f3 f4 f5
  obtain⟨o,e,c,d⟩:=id st'
  exact⟨u,rfl,z1c (s:={ s with heap:=h' }) e c d (by decide) ⟨x,H,I1,ru,⟨rfl,fun ys hy=>by rw[I.XD hy hq];exact hx⟩,st',fun b hb=>(hf b hb).1⟩⟩
 done:=by
  intro X hP hw hK hc i pins s σ H E I hf st hg
  subst hP hw hK
  obtain⟨xs,hq,hx⟩:=hg
  obtain⟨its,rv,p,hz⟩:=I.tuple hq
  obtain⟨f0,f1,f2,f3,f4,f5⟩:=hf it (by simp)
  have hl:=rv.length
  exact wpAny_pyNext_tuple_end (I.ok.hd hc) st (show s.heap.IsTuple a its.toArray from p) (by simp;omega) fun h' eb=>⟨rfl,I.turned (t':=s.toks) (fun b o hb e=>eb b o hb e) f0 f1 f3 f4 f5⟩
 self:=fun _ _ _ _ _ st h=>wpAny_pyIter_tupleiter st h
theorem UB{P:Program}{w:World}{K:PySem.W.Frag}{tg:Expr}(it:Addr)(lo:Int)(n:Nat):Turn P w K tg (Itr lo n) [it] it (fun i h=>IsRangeIter h it (lo+(i:Nat) * 1) ((n:Int) - (i:Nat)) 1) where
 mem:=by simp
 obj:=fun i h st b hb=>by
  have e:b=it:=by simpa using hb
  subst e
  exact⟨_,st,fun v z=>by
   have z':Data.fields _=Data.cell v:=z
   cases z'⟩
 keep:=fun i h h' st k=>k it (by simp) _ st
 item:=by
  intro X hP hw hK hc i pins s σ H E I hf st hg
  subst hP hw hK
  obtain⟨f0,f1,f2,f3,f4,f5⟩:=hf it (by simp)
  have W:=Walks.range (prog:=X.prog) (w:=X.w) (I.ok.hd hc) it lo 1 n
  refine W.item i s _ _ hg st fun v h' tk hv st' kk=>?_
  obtain⟨t,rfl⟩:=hv
  have I1:Inv X pins σ H { s with heap:=h',toks:=tk }:=I.turned (fun b o hb e=>kk b o (by simpa using hb) e) f0 f1 f3 f4 f5
  refine⟨_,rfl,z1c (s:={ s with heap:=h',toks:=tk }) (n:="range_iterator") st' rfl rfl (by decide) ⟨.int (lo+i),H,I1,⟨t,?_⟩,⟨rfl,rfl⟩,st',fun b hb=>(hf b hb).1⟩⟩
  rw[Int.mul_one]
 done:=by
  intro X hP hw hK hc i pins s σ H E I hf st hg
  subst hP hw hK
  obtain⟨f0,f1,f2,f3,f4,f5⟩:=hf it (by simp)
  exact wpAny_pyNext_range_end (I.ok.hd hc) st (by have:n≤i:=hg;omega) fun h' eb=>⟨rfl,I.turned (t':=s.toks) (fun b o hb e=>eb b o hb e) f0 f1 f3 f4 f5⟩
 self:=fun _ _ _ _ _ st h=>wpAny_pyIter_rangeiter st h
section
variable{X:Cx}{tg:Expr}
noncomputable def z5J(K:PySem.W.Frag)(tl:TE):TI:=fun σ H R=>tl σ H fun x H1=>∃ a,x=.ref a∧(∃ xs,z7 K H1 a xs)∧R (Itl K a) H1
noncomputable def z7j(K:PySem.W.Frag)(tl:TE):TI:=fun σ H R=>tl σ H fun x H1=>∃ a,x=.ref a∧(∃ xs,z5 K H1 a xs)∧R (Itt K a) H1
theorem yI{l:Expr}{tl:TE}(hl:PE X l tl):PI X tg l (z5J X.K tl):=by
 intro pins s σ H R I h
 refine Zt (hl pins s σ H _ I h) fun v s1 ⟨x,H1,I1,r1,q1⟩=>?_
 obtain⟨a,e,⟨xs,hq⟩,q⟩:=q1
 subst e
 cases r1
 obtain⟨its,rv,p,hz⟩:=I1.list hq
 refine wpAny_pyIter_list p.isList ?_
 refine⟨s1.heap.objs.size,[s1.heap.objs.size],_,_,H1,rfl,I1.kept (t':=s1.toks) fun b o e=>Heap.get?_push_of_some _ e,vo a _,⟨_,Heap.get?_push_size _ rfl,rfl,rfl⟩,fun b hb=>?_,q⟩
 have e:b=s1.heap.objs.size:=by simpa using hb
 subst e
 exact I1.V2 (Nat.le_refl _) (I1.hok.fresh (Nat.le_refl _))
theorem YY{l:Expr}{tl:TE}(hl:PE X l tl):PI X tg l (z7j X.K tl):=by
 intro pins s σ H R I h
 refine Zt (hl pins s σ H _ I h) fun v s1 ⟨x,H1,I1,r1,q1⟩=>?_
 obtain⟨a,e,⟨xs,hq⟩,q⟩:=q1
 subst e
 cases r1
 obtain⟨its,rv,p,hz⟩:=I1.tuple hq
 refine wpAny_pyIter_tuple (show s1.heap.IsTuple a its.toArray from p) ?_
 refine⟨s1.heap.objs.size,[s1.heap.objs.size],_,_,H1,rfl,I1.kept (t':=s1.toks) fun b o e=>Heap.get?_push_of_some _ e,Qi a _,⟨_,Heap.get?_push_size _ rfl,rfl,rfl⟩,fun b hb=>?_,q⟩
 have e:b=s1.heap.objs.size:=by simpa using hb
 subst e
 exact I1.V2 (Nat.le_refl _) (I1.hok.fresh (Nat.le_refl _))
theorem VU{pins:List (Addr×Obj)}{σ:St}{H:Hp}{s:Shared}{R:It→Hp→Prop}{E:Value→Shared→Prop}{lo hi:Int}{t u v:Tok}{tk:Nat}(I:Inv X pins σ H s)(h1:-(2 ^ 62)≤lo)(h2:lo<2 ^ 62)(h3:-(2 ^ 62)≤hi)(h4:hi<2 ^ 62)
 (q:R (Itr lo (hi - lo).toNat) H):wpAny (model X.prog X.w) X.A (pyIter (.ref s.heap.objs.size)) (PIE X pins σ tg R) E { s with heap:=s.heap.push { cls:=.type "range",data:=.fields #[.int lo t,.int hi u,.int 1 v] },toks:=tk }:=by
 refine wpAny_pyIter_range (IsRange.new ..) (small_one h1 h2 h3 h4) ?_
 have I1:Inv X pins σ H { s with heap:=s.heap.push { cls:=.type "range",data:=.fields #[.int lo t,.int hi u,.int 1 v] },toks:=tk }:=I.kept fun b o e=>Heap.get?_push_of_some _ e
 refine⟨(s.heap.push { cls:=.type "range",data:=.fields #[.int lo t,.int hi u,.int 1 v] }).objs.size,[(s.heap.push { cls:=.type "range",data:=.fields #[.int lo t,.int hi u,.int 1 v] }).objs.size],_,_,H,rfl,
  I1.kept (t':=tk) fun b o e=>Heap.get?_push_of_some _ e,UB _ lo (hi - lo).toNat,?_,fun b hb=>?_,q⟩
 · have e1:lo+((0:Nat):Int) * 1=lo:=by simp
   have e2:(((hi - lo).toNat:Nat):Int) - ((0:Nat):Int)=Builtin.Range.rangeSize lo hi 1:=by rw[rangeSize_one];split <;> omega
   show IsRangeIter _ _ (lo+((0:Nat):Int) * 1) ((((hi - lo).toNat:Nat):Int) - ((0:Nat):Int)) 1
   rw[e1,e2]
   exact Heap.get?_push_size _ rfl
 · have e:b=(s.heap.push { cls:=.type "range",data:=.fields #[.int lo t,.int hi u,.int 1 v] }).objs.size:=by simpa using hb
   subst e
   exact I1.V2 (Nat.le_refl _) (I1.hok.fresh (Nat.le_refl _))
noncomputable def z6K(ta:TA):TI:=fun σ H R=>ta σ H fun vs H1=>∃ j:Int,vs=[.int j]∧-(2 ^ 62)≤j∧j<2 ^ 62∧R (Itr 0 j.toNat) H1
noncomputable def z5T(ta:TA):TI:=fun σ H R=>ta σ H fun vs H1=>∃ i j:Int,vs=[.int i,.int j]∧(-(2 ^ 62)≤i∧i<2 ^ 62∧-(2 ^ 62)≤j∧j<2 ^ 62)∧R (Itr i (j - i).toNat) H1
theorem Zk{a:Expr}{ta:TA}{p pos:Pos}(hg:Gl X "range")(hm:X.mg "range"=none)(ha:PA X [a] ta)(hs:starEach [a] X.env=[(false,eval a X.env)]:=by rfl):PI X tg (.Call (.Name "range" p) [a] [] pos) (z6K ta):=by
 intro pins s σ H R I h
 refine Call_ (Yh I hg hm boot_range (PyProof.Rows.callWith_type1 (Zt (ha pos pins s σ H _ I h) fun us s1 ⟨vs,H1,I1,r1,q1⟩=>?_) hs rfl))
 obtain⟨j,e,q1,q2,q⟩:=q1
 subst e
 cases r1 with
 | cons r rr =>
   cases rr
   obtain⟨t,rfl⟩:=r
   exact call_range_1 (VU I1 (by omega) (by omega) q1 q2 (by simpa using q))
theorem Q4{a b:Expr}{ta:TA}{p pos:Pos}(hg:Gl X "range")(hm:X.mg "range"=none)(ha:PA X [a,b] ta)(hs:starEach [a,b] X.env=[(false,eval a X.env),(false,eval b X.env)]:=by rfl)(hs2:starEach [b] X.env=[(false,eval b X.env)]:=by rfl) :
 PI X tg (.Call (.Name "range" p) [a,b] [] pos) (z5T ta):=by
 intro pins s σ H R I h
 refine Call_ (Yh I hg hm boot_range (PyProof.Rows.callWith_type1 (Zt (ha pos pins s σ H _ I h) fun us s1 ⟨vs,H1,I1,r1,q1⟩=>?_) (by rw[hs,hs2]) (by rw[hs2];rfl)))
 obtain⟨i,j,e,⟨q1,q2,q3,q4⟩,q⟩:=q1
 subst e
 cases r1 with
 | cons r rr =>
   cases rr with
   | cons r' rr =>
     cases rr
     obtain⟨t,rfl⟩:=r
     obtain⟨t',rfl⟩:=r'
     exact call_range_2 (VU I1 q1 q2 q3 q4 q)
noncomputable def z5P(wi:TI)(g:TG)(tb:TS):TS:=fun D σ H=>wi σ H fun J H1=>∃ W:Nat→Nat→St→Hp→Prop,(∃ m,W 0 m σ H1)∧∀ i m σ H,W i m σ H →
 (J.stop i H∧D.nx σ H)∨(J.go i H∧∃ N:St→Hp→Prop,(∀ σ' H',N σ' H'→∃ m',m'<m∧W (i+1) m' σ' H')∧∀ x H',J.yld i H x H'→g x σ H' fun σ2 H2=>tb { D with nx:=N,ct:=N,bk:=D.nx } σ2 H2)
noncomputable def xK(fp:List Addr)(h:Heap):List (Addr×Obj):=fp.filterMap fun b=>(h.get? b).map fun o=>(b,o)
theorem ZS{fp:List Addr}{h:Heap}{b:Addr}{o:Obj}(hb:b∈fp)(e:h.get? b=some o):(b,o)∈xK fp h:=List.mem_filterMap.mpr ⟨b,hb,by rw[e];rfl⟩
theorem Jr{fp:List Addr}{h:Heap}{p:Addr×Obj}(hp:p∈xK fp h):p.1∈fp∧h.get? p.1=some p.2:=by
 obtain⟨b,hb,e⟩:=List.mem_filterMap.mp hp
 cases q:h.get? b with
 | none=>rw[q] at e;cases e
 | some o =>
   rw[q] at e
   have e':(b,o)=p:=Option.some.inj e
   subst e'
   exact⟨hb,q⟩
theorem Inv.pinned{pins:List (Addr×Obj)}{σ:St}{H:Hp}{s:Shared}{fp:List Addr}(I:Inv X pins σ H s)(hf:∀ b∈fp,Z7 X pins H b)(ho:∀ b∈fp,∃ o,s.heap.get? b=some o∧∀ v,o.data≠.cell v):Inv X (pins ++ xK fp s.heap) σ H s :=
 I.ju fun p hp=>(List.mem_append.mp hp).elim (fun z=>I.pin p (List.mem_append_right _ z)) fun z=>by
  obtain⟨hb,e⟩:=Jr z
  obtain⟨f0,f1,f2,_⟩:=hf p.1 hb
  obtain⟨o,e',d⟩:=ho p.1 hb
  rw[e] at e';cases e'
  exact⟨e,f0,f1,f2,d⟩
theorem Inv.Yo{pins pl:List (Addr×Obj)}{σ:St}{H:Hp}{s:Shared}(I:Inv X (pins ++ pl) σ H s):Inv X pins σ H s:=I.ju fun p hp=>I.pin p (List.mem_append_right _ (List.mem_append_left _ hp))
theorem JV{iter:Expr}{body:List Stmt}{wi:TI}{g:TG}{tb:TS}{pos:Pos}(hp:PassesOwn (model X.prog X.w) X.A X.env X.xe)(hc:X.calm=true)(hi:PI X tg iter wi)(hg:PG X tg g)(hb:uY X body tb)
 (hs:∀ x,foldedSetIterable iter X.env x=pure x:=by intro _;rfl):PS X (.For tg iter body [] pos) (z5P wi g tb):=by
 intro pins s σ H D I h
 refine wpAny_For (Zt (hi pins s σ H _ I h) fun v s1 h1=>Zt h1 fun itv s2 h2=>?_) hs
 obtain⟨it,fp,tn,J,H2,e,I2,T,st2,f2,W,⟨m0,w0⟩,turn⟩:=h2
 subst e
 have stat:∀ {H':Hp},(∀ b∈fp,H' b=none)→∀ b∈fp,Z7 X pins H' b:=fun hn b hb=>⟨hn b hb,(f2 b hb).2⟩
 refine codeAny_forLoop_any (fun n s'=>∃ i σ' H',Inv X pins σ' H' s'∧tn i s'.heap∧(∀ b∈fp,H' b=none)∧W i n σ' H') ?_ m0 ⟨0,σ,H2,I2,st2,fun b hb=>(f2 b hb).1,w0⟩
 rintro n s3 ⟨i,σ3,H3,I3,st3,fr3,w3⟩
 rcases turn i n σ3 H3 w3 with⟨stop,qn⟩|⟨go,N,hN,step⟩
 · refine wpAny_passesOwn hp (Zt (T.done X rfl rfl rfl hc i pins s3 σ3 H3 X.xe I3 (stat fr3) st3 stop) fun r s4 ⟨hr,I4⟩=>?_)
   subst hr
   exact wpAny_execs_nil ⟨σ3,H3,I4,qn⟩
 · refine wpAny_passesOwn hp (Zt (T.item X rfl rfl rfl hc i pins s3 σ3 H3 X.xe I3 (stat fr3) st3 go) fun r s4 ⟨u,hr,h4⟩=>?_)
   subst hr
   refine wpAny_passesOwn hp (Zt h4 fun _ s5 ⟨x,H5,I5,r5,y5,st5,fr5⟩=>?_)
   have I5':=I5.pinned (stat fr5) (T.obj _ _ st5)
   refine wpAny_passesOwn hp (Zt (hg _ s5 σ3 H5 x u _ I5' r5 (step x H5 y5)) fun _ s6 ⟨σ6,H6,I6,q6⟩=>?_)
   refine wpAny_passesOwn hp (Zt (hb _ s6 σ6 H6 _ I6 q6) fun f s7 q7=>?_)
   have again:∀ {σ7:St}{H7:Hp},Inv X (pins ++ xK fp s5.heap) σ7 H7 s7→N σ7 H7→∃ m,m<n∧∃ i σ' H',Inv X pins σ' H' s7∧tn i s7.heap∧(∀ b∈fp,H' b=none)∧W i m σ' H':=fun {σ7 H7} I7 n7=>by
    obtain⟨m',hm,w7⟩:=hN σ7 H7 n7
    refine⟨m',hm,i+1,σ7,H7,I7.Yo,T.keep _ _ _ st5 fun b hb o e=>(I7.pin (b,o) (List.mem_append_right _ (List.mem_append_right _ (ZS hb e)))).1,fun b hb=>?_,w7⟩
    obtain⟨o,e,d⟩:=T.obj _ _ st5 b hb
    exact (I7.pin (b,o) (List.mem_append_right _ (List.mem_append_right _ (ZS hb e)))).2.1
   cases f with
   | next=>obtain⟨σ7,H7,I7,n7⟩:=q7;exact again I7 n7
   | cont=>obtain⟨σ7,H7,I7,n7⟩:=q7;exact again I7 n7
   | brk=>obtain⟨σ7,H7,I7,q7⟩:=q7;exact⟨σ7,H7,I7.Yo,q7⟩
   | ret v=>obtain⟨x7,σ7,H7,I7,r7,q7⟩:=q7;exact⟨x7,σ7,H7,I7.Yo,r7,q7⟩
end
theorem Y0{K:PySem.W.Frag}{a:Addr}{xs:List V}{g:TG}{tb:TS}{D:Ends}{σ:St}{H:Hp}(Pv:Nat→St→Hp→Prop)(h0:Pv 0 σ H)(hl:∀ i σ H,i≤xs.length→Pv i σ H→z7 K H a xs)
 (hs:∀ i x σ H,xs[i]?=some x→Pv i σ H→g x σ H fun σ2 H2=>tb { D with nx:=Pv (i+1),ct:=Pv (i+1),bk:=D.nx } σ2 H2) (hd:∀ σ H,Pv xs.length σ H→D.nx σ H) :
 ∃ W:Nat→Nat→St→Hp→Prop,(∃ m,W 0 m σ H)∧∀ i m σ H,W i m σ H →
   ((Itl K a).stop i H∧D.nx σ H)∨((Itl K a).go i H∧∃ N:St→Hp→Prop,(∀ σ' H',N σ' H'→∃ m',m'<m∧W (i+1) m' σ' H')∧∀ x H',(Itl K a).yld i H x H'→g x σ H' fun σ2 H2=>tb { D with nx:=N,ct:=N,bk:=D.nx } σ2 H2):=by
 refine⟨fun i m σ H=>m=xs.length - i∧i≤xs.length∧Pv i σ H,⟨xs.length,by simp,Nat.zero_le _,h0⟩,?_⟩
 rintro i m σ H ⟨rfl,hi,p⟩
 have q:=hl i σ H hi p
 by_cases hlt:i<xs.length
 · refine .inr ⟨⟨xs,xs[i],q,by simp[hlt]⟩,Pv (i+1),fun σ' H' p'=>⟨xs.length - (i+1),by omega,rfl,hlt,p'⟩,fun x H' y=>?_⟩
   obtain⟨e,y⟩:=y
   subst e
   exact hs i x σ _ (y xs q) p
 · have e:i=xs.length:=by omega
   subst e
   exact .inl ⟨⟨xs,q,Nat.le_refl _⟩,hd σ H p⟩
theorem jz{K:PySem.W.Frag}{a:Addr}{xs:List V}{g:TG}{tb:TS}{D:Ends}{σ:St}{H:Hp}(Pv:Nat→St→Hp→Prop)(h0:Pv 0 σ H)(hl:∀ i σ H,i≤xs.length→Pv i σ H→z5 K H a xs)
 (hs:∀ i x σ H,xs[i]?=some x→Pv i σ H→g x σ H fun σ2 H2=>tb { D with nx:=Pv (i+1),ct:=Pv (i+1),bk:=D.nx } σ2 H2) (hd:∀ σ H,Pv xs.length σ H→D.nx σ H) :
 ∃ W:Nat→Nat→St→Hp→Prop,(∃ m,W 0 m σ H)∧∀ i m σ H,W i m σ H →
   ((Itt K a).stop i H∧D.nx σ H)∨((Itt K a).go i H∧∃ N:St→Hp→Prop,(∀ σ' H',N σ' H'→∃ m',m'<m∧W (i+1) m' σ' H')∧∀ x H',(Itt K a).yld i H x H'→g x σ H' fun σ2 H2=>tb { D with nx:=N,ct:=N,bk:=D.nx } σ2 H2):=by
 refine⟨fun i m σ H=>m=xs.length - i∧i≤xs.length∧Pv i σ H,⟨xs.length,by simp,Nat.zero_le _,h0⟩,?_⟩
 rintro i m σ H ⟨rfl,hi,p⟩
 have q:=hl i σ H hi p
 by_cases hlt:i<xs.length
 · refine .inr ⟨⟨xs,xs[i],q,by simp[hlt]⟩,Pv (i+1),fun σ' H' p'=>⟨xs.length - (i+1),by omega,rfl,hlt,p'⟩,fun x H' y=>?_⟩
   obtain⟨e,y⟩:=y
   subst e
   exact hs i x σ _ (y xs q) p
 · have e:i=xs.length:=by omega
   subst e
   exact .inl ⟨⟨xs,q,Nat.le_refl _⟩,hd σ H p⟩
theorem Z5{lo:Int}{n:Nat}{g:TG}{tb:TS}{D:Ends}{σ:St}{H:Hp}(Pv:Nat→St→Hp→Prop)(h0:Pv 0 σ H)
 (hs:∀ i σ H,i<n→Pv i σ H→g (.int (lo+i)) σ H fun σ2 H2=>tb { D with nx:=Pv (i+1),ct:=Pv (i+1),bk:=D.nx } σ2 H2) (hd:∀ σ H,Pv n σ H→D.nx σ H) :
 ∃ W:Nat→Nat→St→Hp→Prop,(∃ m,W 0 m σ H)∧∀ i m σ H,W i m σ H →
   ((Itr lo n).stop i H∧D.nx σ H)∨((Itr lo n).go i H∧∃ N:St→Hp→Prop,(∀ σ' H',N σ' H'→∃ m',m'<m∧W (i+1) m' σ' H')∧∀ x H',(Itr lo n).yld i H x H'→g x σ H' fun σ2 H2=>tb { D with nx:=N,ct:=N,bk:=D.nx } σ2 H2):=by
 refine⟨fun i m σ H=>m=n - i∧i≤n∧Pv i σ H,⟨n,by simp,Nat.zero_le _,h0⟩,?_⟩
 rintro i m σ H ⟨rfl,hi,p⟩
 by_cases hlt:i<n
 · refine .inr ⟨hlt,Pv (i+1),fun σ' H' p'=>⟨n - (i+1),by omega,rfl,hlt,p'⟩,fun x H' y=>?_⟩
   obtain⟨e,y⟩:=y
   subst e y
   exact hs i σ _ hlt p
 · have e:i=n:=by omega
   subst e
   exact .inl ⟨Nat.le_refl _,hd σ H p⟩
theorem uG{c:TT}{tb:TS}{D:Ends}{σ:St}{H:Hp}(Pv:St→Hp→Prop)(μ:St→Hp→Nat)(h0:Pv σ H)
 (hs:∀ σ H,Pv σ H→c σ H fun b H1=>if b=true then tb { D with nx:=fun σ' H'=>Pv σ' H'∧μ σ' H'<μ σ H,ct:=fun σ' H'=>Pv σ' H'∧μ σ' H'<μ σ H,bk:=D.nx } σ H1 else D.nx σ H1)
 (mono:∀ σ H Q Q',(∀ b H1,Q b H1→Q' b H1)→c σ H Q→c σ H Q'):z1s c tb D σ H:=by
 refine⟨fun m σ H=>m=μ σ H∧Pv σ H,⟨_,rfl,h0⟩,?_⟩
 rintro m σ H ⟨rfl,p⟩
 refine mono σ H _ _ (fun b H1 q=>?_) (hs σ H p)
 cases b with
 | true=>exact⟨_,fun σ' H' ⟨p',l⟩=>⟨_,l,rfl,p'⟩,q⟩
 | false=>exact q
noncomputable abbrev R2:=V→V→Hp→VK→Prop
noncomputable def xw(X:Cx)(f:Value→Value→Sem Value)(r:R2):Prop :=
 ∀ (pins:List (Addr×Obj)) (s:Shared) (σ:St) (H:Hp) (x y:V) (v u:Value) (Q:VK),Inv X pins σ H s→RelV x v→RelV y u→r x y H Q →
   wpAny (model X.prog X.w) X.A (f v u) (EP X pins σ Q) X.xe s
noncomputable def UnR(X:Cx)(f:Value→Sem Value)(r:V→Hp→VK→Prop):Prop :=
 ∀ (pins:List (Addr×Obj)) (s:Shared) (σ:St) (H:Hp) (x:V) (v:Value) (Q:VK),Inv X pins σ H s→RelV x v→r x H Q →
   wpAny (model X.prog X.w) X.A (f v) (EP X pins σ Q) X.xe s
noncomputable def ye(X:Cx)(f:Value)(r:List V→Hp→VK→Prop):Prop :=
 ∀ (pins:List (Addr×Obj)) (s:Shared) (σ:St) (H:Hp) (xs:List V) (us:List Value) (Q:VK),Inv X pins σ H s→Vals xs us→r xs H Q →
   wpAny (model X.prog X.w) X.A (call f us) (EP X pins σ Q) X.xe s
noncomputable def z7n(X:Cx)(r:V→Hp→(Bool→Hp→Prop)→Prop):Prop :=
 ∀ (pins:List (Addr×Obj)) (s:Shared) (σ:St) (H:Hp) (x:V) (v:Value) (Q:Bool→Hp→Prop),Inv X pins σ H s→RelV x v→r x H Q →
   wpAny (model X.prog X.w) X.A (truthy v) (TP X pins σ Q) X.xe s
noncomputable def tOp(r:R2)(ta tb:TE):TE:=fun σ H Q=>ta σ H fun x H1=>tb σ H1 fun y H2=>r x y H2 Q
noncomputable def tUn(r:V→Hp→VK→Prop)(ta:TE):TE:=fun σ H Q=>ta σ H fun x H1=>r x H1 Q
noncomputable def rI(C:Int→Int→Prop)(g:Int→Int→V):R2:=fun x y H Q=>∃ i j,x=.int i∧y=.int j∧C i j∧Q (g i j) H
noncomputable def rI0(g:Int→Int→V):R2:=fun x y H Q=>∃ i j,x=.int i∧y=.int j∧Q (g i j) H
noncomputable def rU(g:Int→V):V→Hp→VK→Prop:=fun x H Q=>∃ i,x=.int i∧Q (g i) H
section
variable{X:Cx}{a b c:Expr}{ta tb tc:TE}{pos:Pos}
theorem z4v(ha:PE X a ta)(hb:PE X b tb){pins:List (Addr×Obj)}{s:Shared}{σ:St}{H:Hp}{R:V→V→Hp→Prop}(I:Inv X pins σ H s)
 (h:ta σ H fun x H1=>tb σ H1 fun y H2=>R x y H2) {Q:Value→Shared→Prop}{f:Value→Value→Sem Value}
 (hf:∀ v u s2 x y H2,Inv X pins σ H2 s2→RelV x v→RelV y u→R x y H2→wpAny (model X.prog X.w) X.A (f v u) Q X.xe s2) :
 wpAny (model X.prog X.w) X.A (eval a X.env) (fun v s₁=>wpAny (model X.prog X.w) X.A (eval b X.env) (fun u s₂=>wpAny (model X.prog X.w) X.A (f v u) Q X.xe s₂) X.xe s₁) X.xe s:=by
 refine Zt (ha pins s σ H _ I h) fun v s1 ⟨x,H1,I1,r1,q1⟩=>?_
 refine Zt (hb pins s1 σ H1 _ I1 q1) fun u s2 ⟨y,H2,I2,r2,q2⟩=>?_
 exact hf v u s2 x y H2 I2 r1 r2 q2
theorem zI{op:Operator}{r:R2}(ho:xw X (binaryOp op) r)(ha:PE X a ta)(hb:PE X b tb):PE X (.BinOp a op b pos) (tOp r ta tb):=by
 intro pins s σ H Q I h
 exact wpAny_BinOp (z4v ha hb I h fun v u s2 x y H2 I2 rx ry q=>ho pins s2 σ H2 x y v u Q I2 rx ry q)
theorem z3i{op:UnaryOp}{r:V→Hp→VK→Prop}(ho:UnR X (unaryOp op) r)(ha:PE X a ta):PE X (.UnaryOp op a pos) (tUn r ta):=by
 intro pins s σ H Q I h
 exact UnaryOp_ (Zt (ha pins s σ H _ I h) fun v s1 ⟨x,H1,I1,r1,q1⟩=>ho pins s1 σ H1 x v Q I1 r1 q1)
theorem opI{f:Value→Value→Sem Value}{C:Int→Int→Prop}{g:Int→Int→Int}
 (rule:∀ (i j:Int) (t u:Tok) (s:Shared) (Q:Value→Shared→Prop) (E:Value→Shared→Prop),C i j→Q (.int (g i j) s.toks) { s with toks:=s.toks+1 }→wpAny (model X.prog X.w) X.A (f (.int i t) (.int j u)) Q E s) :
 xw X f (rI C fun i j=>.int (g i j)):=by
 intro pins s σ H x y v u Q I rx ry h
 obtain⟨i,j,rfl,rfl,hc,q⟩:=h
 obtain⟨t,rfl⟩:=rx
 obtain⟨t',rfl⟩:=ry
 exact rule i j t t' s _ _ hc ⟨.int (g i j),H,I.tok _,⟨_,rfl⟩,q⟩
theorem z6c{f:Value→Value→Sem Value}{g:Int→Int→Int}
 (rule:∀ (i j:Int) (t u:Tok) (s:Shared) (Q:Value→Shared→Prop) (E:Value→Shared→Prop),Q (.int (g i j) s.toks) { s with toks:=s.toks+1 }→wpAny (model X.prog X.w) X.A (f (.int i t) (.int j u)) Q E s) :
 xw X f (rI0 fun i j=>.int (g i j)):=by
 intro pins s σ H x y v u Q I rx ry h
 obtain⟨i,j,rfl,rfl,q⟩:=h
 obtain⟨t,rfl⟩:=rx
 obtain⟨t',rfl⟩:=ry
 exact rule i j t t' s _ _ ⟨.int (g i j),H,I.tok _,⟨_,rfl⟩,q⟩
theorem z4S{f:Value→Value→Sem Value}{g:Int→Int→Bool}
 (rule:∀ (i j:Int) (t u:Tok) (s:Shared) (Q:Value→Shared→Prop) (E:Value→Shared→Prop),Q (.bool (g i j)) s→wpAny (model X.prog X.w) X.A (f (.int i t) (.int j u)) Q E s) :
 xw X f (rI0 fun i j=>.bl (g i j)):=by
 intro pins s σ H x y v u Q I rx ry h
 obtain⟨i,j,rfl,rfl,q⟩:=h
 obtain⟨t,rfl⟩:=rx
 obtain⟨t',rfl⟩:=ry
 exact rule i j t t' s _ _ ⟨.bl (g i j),H,I,rfl,q⟩
noncomputable def z7c(i j:Int):Prop:=0<j∧j<1073741824
noncomputable def z7i(i j:Int):Prop:=0≤j∧j≤1000000∧i.natAbs<2 ^ 64
noncomputable def z5a(i j:Int):Prop:=(-(2 ^ 64)<i∧i<2 ^ 64)∨(-(2 ^ 64)<j∧j<2 ^ 64)
theorem z5a.ok{i j:Int}(h:z5a i j):IntMulOk i j:=by
 rcases h with⟨h1,h2⟩|⟨h1,h2⟩
 · exact .of_left (intBits_le_64 h1 h2)
 · exact .of_right (intBits_le_64 h1 h2)
theorem ZZ:xw X (binaryOp .Add) (rI0 fun i j=>.int (i+j)):=z6c fun _ _ _ _ _ _ _ q=>add_int q
theorem Yx:xw X (binaryOp .Sub) (rI0 fun i j=>.int (i - j)):=z6c fun _ _ _ _ _ _ _ q=>sub_int q
theorem YT:xw X (binaryOp .Mult) (rI z5a fun i j=>.int (i * j)):=opI fun _ _ _ _ _ _ _ hc q=>mul_int q hc.ok
theorem j3:xw X (binaryOp .FloorDiv) (rI z7c fun i j=>.int (i / j)):=opI fun i j _ _ _ _ _ hc q=>by
 have h1:(0:Int)<j:=hc.1
 have h2:j<1073741824:=hc.2
 exact floordiv_int (by omega) (by rw[Int.fdiv_eq_ediv_of_nonneg i (by omega)];exact q) (.inl (PyProof.noPylong_small (by omega)))
theorem YR:xw X (binaryOp .Mod) (rI (fun _ j=>0<j) fun i j=>.int (i % j)):=opI fun i j _ _ _ _ _ hc q=>by
 have h1:(0:Int)<j:=hc
 exact mod_int' (by omega) (by rw[Int.fmod_eq_emod_of_nonneg i (by omega)];exact q)
theorem xN:xw X (binaryOp .Pow) (rI z7i fun i j=>.int (i ^ j.toNat)):=opI fun _ _ _ _ _ _ _ hc q=>pow_int_small hc.1 hc.2.1 hc.2.2 q
theorem unI{f:Value→Sem Value}{g:Int→Int}
 (rule:∀ (i:Int) (t:Tok) (s:Shared) (Q:Value→Shared→Prop) (E:Value→Shared→Prop),Q (.int (g i) s.toks) { s with toks:=s.toks+1 }→wpAny (model X.prog X.w) X.A (f (.int i t)) Q E s) :
 UnR X f (rU fun i=>.int (g i)):=by
 intro pins s σ H x v Q I rx h
 obtain⟨i,rfl,q⟩:=h
 obtain⟨t,rfl⟩:=rx
 exact rule i t s _ _ ⟨.int (g i),H,I.tok _,⟨_,rfl⟩,q⟩
theorem z0F:UnR X (unaryOp .USub) (rU fun i=>.int (-i)):=unI fun _ _ _ _ _ q=>neg_int q
end
noncomputable def z5U:V→V→Bool
 | .non,.non=>true | .non,.int _=>true | .int _,.non=>true | .non,.bl _=>true | .bl _,.non=>true | .non,.str _=>true | .str _,.non=>true
 | .int _,.int _=>true | .bl _,.bl _=>true | .str _,.str _=>true | .byt _,.byt _=>true
 | .int _,.str _=>true | .str _,.int _=>true | .bl _,.str _=>true | .str _,.bl _=>true
 | _,_=>false
noncomputable def rEq:R2:=fun x y H Q=>z5U x y=true∧Q (.bl (decide (x=y))) H
noncomputable def rNe:R2:=fun x y H Q=>z5U x y=true∧Q (.bl (!decide (x=y))) H
theorem jJ{i j:Int}:decide (V.int i=V.int j)=(i == j):=by
 rw[Bool.eq_iff_iff]
 simp
theorem z1M{i j:Bool}:decide (V.bl i=V.bl j)=(i == j):=by
 rw[Bool.eq_iff_iff]
 simp
theorem jQ{i j:Str}:decide (V.str i=V.str j)=(i == j):=by
 rw[Bool.eq_iff_iff]
 simp
theorem U7{i j:Array UInt8}:decide (V.byt i=V.byt j)=(i.toList == j.toList):=by
 rw[Bool.eq_iff_iff]
 cases i
 cases j
 simp
section
variable{X:Cx}{a b c:Expr}{ta tb tc:TE}{pos:Pos}
theorem Zj{pins:List (Addr×Obj)}{σ:St}{H:Hp}{s:Shared}{Q:VK}{k k':Bool}(I:Inv X pins σ H s)(q:Q (.bl k) H)(e:k=k'):EP X pins σ Q (.bool k') s:=by
 subst e
 exact⟨.bl k,H,I,rfl,q⟩
theorem YI:xw X (compareOp .Eq) rEq:=by
 intro pins s σ H x y v u Q I rx ry h
 obtain⟨hs,q⟩:=h
 cases x with
 | non =>
   cases rx
   cases y with
   | non=>cases ry;exact PySem.EqNone.eq_none_none (Zj I q (by simp))
   | bl j=>cases ry;exact PySem.EqNone.eq_none_bool (Zj I q (by simp))
   | int j=>obtain⟨t',rfl⟩:=ry;exact PySem.EqNone.eq_none_int (Zj I q (by simp))
   | str j=>obtain⟨t',rfl⟩:=ry;exact PySem.EqNone.eq_none_str (Zj I q (by simp))
   | _=>exact absurd (show false=true from hs) Bool.false_ne_true
 | bl i =>
   cases rx
   cases y with
   | non=>cases ry;exact PySem.EqNone.eq_bool_none (Zj I q (by simp))
   | bl j=>cases ry;exact eq_bool (Zj I q z1M)
   | str j=>obtain⟨t',rfl⟩:=ry;exact PySem.EqMixed.eq_bool_str (Zj I q (by simp))
   | _=>exact absurd (show false=true from hs) Bool.false_ne_true
 | int i =>
   obtain⟨t,rfl⟩:=rx
   cases y with
   | non=>cases ry;exact PySem.EqNone.eq_int_none (Zj I q (by simp))
   | int j=>obtain⟨t',rfl⟩:=ry;exact eq_int (Zj I q jJ)
   | str j=>obtain⟨t',rfl⟩:=ry;exact PySem.EqMixed.eq_int_str (Zj I q (by simp))
   | _=>exact absurd (show false=true from hs) Bool.false_ne_true
 | str i =>
   obtain⟨t,rfl⟩:=rx
   cases y with
   | non=>cases ry;exact PySem.EqNone.eq_str_none (Zj I q (by simp))
   | bl j=>cases ry;exact PySem.EqMixed.eq_str_bool (Zj I q (by simp))
   | int j=>obtain⟨t',rfl⟩:=ry;exact PySem.EqMixed.eq_str_int (Zj I q (by simp))
   | str j=>obtain⟨t',rfl⟩:=ry;exact eq_str (Zj I q jQ)
   | _=>exact absurd (show false=true from hs) Bool.false_ne_true
 | byt i =>
   obtain⟨t,rfl⟩:=rx
   cases y with
   | byt j=>obtain⟨t',rfl⟩:=ry;exact PySem.W.eq_bytes (Zj I q U7)
   | _=>exact absurd (show false=true from hs) Bool.false_ne_true
 | _=>cases y <;> exact absurd (show false=true from hs) Bool.false_ne_true
theorem qH:xw X (compareOp .NotEq) rNe:=by
 intro pins s σ H x y v u Q I rx ry h
 obtain⟨hs,q⟩:=h
 cases x with
 | non =>
   cases rx
   cases y with
   | non=>cases ry;exact PySem.EqNone.ne_none_none (Zj I q (by simp))
   | bl j=>cases ry;exact PySem.EqNone.ne_none_bool (Zj I q (by simp))
   | int j=>obtain⟨t',rfl⟩:=ry;exact PySem.EqNone.ne_none_int (Zj I q (by simp))
   | str j=>obtain⟨t',rfl⟩:=ry;exact PySem.EqNone.ne_none_str (Zj I q (by simp))
   | _=>exact absurd (show false=true from hs) Bool.false_ne_true
 | bl i =>
   cases rx
   cases y with
   | non=>cases ry;exact PySem.EqNone.ne_bool_none (Zj I q (by simp))
   | bl j=>cases ry;exact ne_bool (Zj I q (congrArg not z1M))
   | str j=>obtain⟨t',rfl⟩:=ry;exact PySem.EqMixed.ne_bool_str (Zj I q (by simp))
   | _=>exact absurd (show false=true from hs) Bool.false_ne_true
 | int i =>
   obtain⟨t,rfl⟩:=rx
   cases y with
   | non=>cases ry;exact PySem.EqNone.ne_int_none (Zj I q (by simp))
   | int j=>obtain⟨t',rfl⟩:=ry;exact ne_int (Zj I q (congrArg not jJ))
   | str j=>obtain⟨t',rfl⟩:=ry;exact PySem.EqMixed.ne_int_str (Zj I q (by simp))
   | _=>exact absurd (show false=true from hs) Bool.false_ne_true
 | str i =>
   obtain⟨t,rfl⟩:=rx
   cases y with
   | non=>cases ry;exact PySem.EqNone.ne_str_none (Zj I q (by simp))
   | bl j=>cases ry;exact PySem.EqMixed.ne_str_bool (Zj I q (by simp))
   | int j=>obtain⟨t',rfl⟩:=ry;exact PySem.EqMixed.ne_str_int (Zj I q (by simp))
   | str j=>obtain⟨t',rfl⟩:=ry;exact ne_str (Zj I q (congrArg not jQ))
   | _=>exact absurd (show false=true from hs) Bool.false_ne_true
 | byt i =>
   obtain⟨t,rfl⟩:=rx
   cases y with
   | byt j=>obtain⟨t',rfl⟩:=ry;exact PySem.W.ne_bytes (Zj I q (congrArg not U7))
   | _=>exact absurd (show false=true from hs) Bool.false_ne_true
 | _=>cases y <;> exact absurd (show false=true from hs) Bool.false_ne_true
theorem z3y:xw X (compareOp .Lt) (rI0 fun i j=>.bl (decide (i<j))):=z4S fun _ _ _ _ _ _ _ q=>lt_int q
theorem jq:xw X (compareOp .Gt) (rI0 fun i j=>.bl (decide (j<i))):=z4S fun _ _ _ _ _ _ _ q=>gt_int q
theorem z0j:xw X (compareOp .GtE) (rI0 fun i j=>.bl (decide (j≤i))):=z4S fun _ _ _ _ _ _ _ q=>ge_int q
theorem z0(b:Expr){op:CmpOp}(h:op≠.In:=by decide)(h2:op≠.NotIn:=by decide):behindInMarks op b=false:=by
 have e1:(op == CmpOp.In)=false:=by cases op <;> first | rfl | exact absurd rfl h
 have e2:(op == CmpOp.NotIn)=false:=by cases op <;> first | rfl | exact absurd rfl h2
 cases b <;> simp[behindInMarks,e1,e2]
theorem Zu{op:CmpOp}{r:R2}(ho:xw X (compareOp op) r)(ha:PE X a ta)(hb:PE X b tb)(hm:behindInMarks op b=false):PE X (.Compare a [op] [b] pos) (tOp r ta tb):=by
 intro pins s σ H Q I h
 exact wpAny_Compare1 (z4v ha hb I h fun v u s2 x y H2 I2 rx ry q=>ho pins s2 σ H2 x y v u Q I2 rx ry q) hm
noncomputable def z5W(t:TE):TT:=fun σ H Q=>t σ H fun x H'=>∃ k,x=.bl k∧Q k H'
theorem Zf{op:CmpOp}{r:R2}(ho:xw X (compareOp op) r)(ha:PE X a ta)(hb:PE X b tb)(hm:behindInMarks op b=false):PT X (.Compare a [op] [b] pos) (z5W (tOp r ta tb)):=by
 intro pins s σ H Q I h
 refine wpAny_isTrue_Compare1 (Zt (ha pins s σ H _ I h) fun v s1 ⟨x,H1,I1,r1,q1⟩=>Zt (hb pins s1 σ H1 _ I1 q1) fun u s2 ⟨y,H2,I2,r2,q2⟩ =>
  Zt (ho pins s2 σ H2 x y v u _ I2 r1 r2 q2) fun c s3 ⟨z,H3,I3,r3,k,e,q3⟩=>?_) hm
 subst e
 cases r3
 exact wpAny_truthy_bool ⟨H3,I3,q3⟩
noncomputable def z4A(K:PySem.W.Frag)(x:V)(H:Hp)(k:Bool):Prop :=
 match x with
 | .non=>k=false
 | .bl b=>k=b
 | .int i=>k=(i != 0)
 | .str y=>y.length≤sizeLine∧k=((y.length:Int) != 0)
 | .byt y=>y.size≤sizeLine∧k=((y.size:Int) != 0)
 | .ref p=>(∃ xs,z7 K H p xs∧k=!xs.isEmpty)∨(∃ xs,z5 K H p xs∧k=!xs.isEmpty)∨∃ kvs,H p=some (.dK kvs)∧k=!kvs.isEmpty
 | _=>False
theorem Ux{κ:Type}{kvs:List (κ×V)}{vs:List (κ×Value)}(r:KV kvs vs):(!vs.isEmpty)=!kvs.isEmpty:=by
 cases r <;> rfl
theorem Qh{xs:List V}{its:List Value}(r:Vals xs its):(!its.toArray.isEmpty)=!xs.isEmpty:=by
 cases r <;> simp
theorem XC:(sizeLine:Nat)<2 ^ 63:=by rw[sizeLine_eq];decide
theorem z3X:z7n X (fun x H Q=>∃ k,z4A X.K x H k∧Q k H):=by
 intro pins s σ H x v Q I rx h
 obtain⟨k,e,q⟩:=h
 have hl:=XC
 have hs:sizeLine=16777216:=sizeLine_eq
 cases x with
 | non =>
   cases rx
   have e':k=false:=e
   subst e'
   exact truthy_none ⟨H,I,q⟩
 | bl b =>
   cases rx
   have e':k=b:=e
   subst e'
   exact wpAny_truthy_bool ⟨H,I,q⟩
 | int i =>
   obtain⟨t,rfl⟩:=rx
   have e':k=(i != 0):=e
   subst e'
   exact PySem.P.truthy_int ⟨H,I,q⟩
 | str y =>
   obtain⟨t,rfl⟩:=rx
   obtain⟨hy,e'⟩:y.length≤sizeLine∧k=((y.length:Int) != 0):=e
   subst e'
   exact PySem.P.truthy_str (by omega) ⟨H,I.tok _,q⟩
 | byt y =>
   obtain⟨t,rfl⟩:=rx
   obtain⟨hy,e'⟩:y.size≤sizeLine∧k=((y.size:Int) != 0):=e
   subst e'
   exact PySem.W.truthy_bytes (by omega) ⟨H,I.tok _,q⟩
 | ref p =>
   cases rx
   have e':(∃ xs,z7 X.K H p xs∧k=!xs.isEmpty)∨(∃ xs,z5 X.K H p xs∧k=!xs.isEmpty)∨∃ kvs,H p=some (.dK kvs)∧k=!kvs.isEmpty:=e
   rcases e' with⟨xs,hx,e'⟩|⟨xs,hx,e'⟩|⟨kvs,hx,e'⟩
   · subst e'
     obtain⟨its,r,pl,hz⟩:=I.list hx
     have hlen:=r.length
     exact wpAny_truthy_list pl.isList (by simp only[List.size_toArray];omega) ⟨H,I.tok _,by rw[Qh r];exact q⟩
   · subst e'
     obtain⟨its,r,pl,hz⟩:=I.tuple hx
     have hlen:=r.length
     exact truthy_tuple pl (by simp only[List.size_toArray];omega) ⟨H,I.tok _,by rw[Qh r];exact q⟩
   · subst e'
     obtain⟨hz,hS,vs,r,m⟩:kvs.length≤sizeLine∧(p == sysModules)=false∧∃ vs,KV kvs vs∧s.heap.DictOf (xY X.prog X.w) p vs:=I.hok p _ hx
     have hlen:kvs.length=vs.length:=Paired.length r
     exact wpAny_truthy_dict hS m (by omega) ⟨H,I.tok _,by rw[Ux r];exact q⟩
 | _=>exact (show False from e).elim
theorem z0U(ha:PE X a ta)(he:∀ whole,isTrue a X.env whole=(do let v ←whole;standAt a.pos;holding [v] (truthy v))) :
 PT X a (fun σ H Q=>ta σ H fun x H'=>∃ k,z4A X.K x H' k∧Q k H'):=by
 intro pins s σ H Q I h
 exact isTrue_plain (Zt (ha pins s σ H _ I h) fun v s1 ⟨x,H1,I1,r1,q1⟩=>z3X pins s1 σ H1 x v Q I1 r1 q1) (he _)
theorem vals1{x:V}{us:List Value}(r:Vals [x] us):∃ u,us=[u]∧RelV x u:=by
 cases r with
 | cons r1 r2=>cases r2;exact⟨_,rfl,r1⟩
theorem vals2{x y:V}{us:List Value}(r:Vals [x,y] us):∃ u w',us=[u,w']∧RelV x u∧RelV y w':=by
 cases r with
 | cons r1 r2 =>
   cases r2 with
   | cons r3 r4=>cases r4;exact⟨_,_,rfl,r1,r3⟩
theorem x6:ye X (.builtin "abs") (fun xs H Q=>∃ i,xs=[.int i]∧Q (.int (if i<0 then -i else i)) H):=by
 intro pins s σ H xs us Q I r h
 obtain⟨i,rfl,q⟩:=h
 obtain⟨u,rfl,t,rfl⟩:=vals1 r
 exact call_abs_int fun u tk=>⟨.int (if i<0 then -i else i),H,I.tok _,⟨_,rfl⟩,q⟩
theorem XO:ye X (.type "int") (fun xs H Q=>(∃ i,xs=[.int i]∧Q (.int i) H)∨∃ k,xs=[.bl k]∧Q (.int (if k then 1 else 0)) H):=by
 intro pins s σ H xs us Q I r h
 rcases h with⟨i,rfl,q⟩|⟨k,rfl,q⟩
 · obtain⟨u,rfl,t,rfl⟩:=vals1 r
   exact call_int_int ⟨.int i,H,I,⟨_,rfl⟩,q⟩
 · obtain⟨u,rfl,r1⟩:=vals1 r
   cases r1
   exact call_int_bool ⟨.int (if k then 1 else 0),H,I.tok _,⟨_,rfl⟩,q⟩
theorem VH:ye X (.type "str") (fun xs H Q=>∃ i,xs=[.int i]∧i.natAbs.log2<1920∧Q (.str (toString i)) H):=by
 intro pins s σ H xs us Q I r h
 obtain⟨i,rfl,hz,q⟩:=h
 obtain⟨u,rfl,t,rfl⟩:=vals1 r
 exact PySem.P.str_of_int hz ⟨.str _,H,I.tok _,⟨_,rfl⟩,q⟩
end
structure z4E(h:Heap)(x dx C:Addr)(mA:Str→Option Value):Prop where
 obj:h.get? x=some (PySem.W.instObj C dx)
 ns:h.Ns1 dx mA
 ne:dx≠x
theorem Jy{h:Heap}{dx:Addr}{mA:Str→Option Value}(n:h.Ns1 dx mA):∃ od,h.get? dx=some od∧∀ name,PySem.W.lookIn name od=some (mA name):=by
 obtain⟨o,es,ep,ho,hd,hk,_,hm⟩:=n
 refine⟨o,ho,fun name=>?_⟩
 have e:=hm name
 unfold nsFind findBy at e
 rw[← Array.find?_toList] at e
 unfold PySem.W.lookIn
 rw[hd]
 dsimp only
 split
 · rename_i y q
   rw[q] at e
   exact congrArg some e
 · rename_i q
   rw[q] at e
   have a:es.toList.any (·.refKey)=false:=by
    rw[List.any_eq_false]
    intro y hy
    obtain⟨z,t,hkey⟩:=hk y (Array.mem_toList_iff.mp hy)
    simp[DictEntry.refKey,hkey]
   have a':¬ es.toList.any (·.refKey)=true:=by rw[a];exact Bool.false_ne_true
   rw[if_neg a']
   exact congrArg some e
theorem z4E.look{h:Heap}{x dx C:Addr}{mA:Str→Option Value}(I:z4E h x dx C mA):∃ od,PySem.W.InstAt h x (PySem.W.instObj C dx) C (some od)∧∀ name,PySem.W.lookIn name od=some (mA name) :=
 let ⟨od,ho,hl⟩:=Jy I.ns
 ⟨od,⟨I.obj,rfl,rfl,ho⟩,hl⟩
section
variable{prog:Program}{w:World}{A:Around}{E:Value→Shared→Prop}{s:Shared}{K:PySem.W.Frag}{x dx C f:Addr}{mA:Str→Option Value}{name:Str}{v:Value}
end
section
variable{P:Program}{w:World}{H H':Hp}{h h':Heap}{a C dx:Addr}{fs fs':List (Str×V)}
theorem z2i(hok:XN P w H h)(e:H a=some (.ins C dx fs)):∃ mA,z4E h a dx C mA∧(∀ f,z4l (fs.lookup f) (mA f))∧PySem.Within mA (fs.map (·.1))∧fs.length≤1000∧H dx=some (.own a):=by
 obtain⟨d,z,ne,ob,mA,n,r,q⟩:=(show Zy P w H h a (.ins C dx fs) from hok a _ e)
 exact⟨mA,⟨ob,n,ne⟩,r,q,z,d⟩
end
structure Cls(K:PySem.W.Frag)(C:Addr):Prop where
 pg:PySem.W.plainGet K C Str.empty=true
 hd:PySem.W.hasDictIn K C=true
 po:PySem.W.plainOver K C=true
 sa:PySem.W.findIn K (.ref C) "__setattr__"=some (some (.builtin "object.__setattr__"))
theorem Cls.get{K:PySem.W.Frag}{C:Addr}(c:Cls K C)(f:Str):PySem.W.plainGet K C f=true:=c.pg
section
variable{X:Cx}{pins:List (Addr×Obj)}{σ:St}{H:Hp}{s:Shared}{a C dx:Addr}{fs:List (Str×V)}{f:Str}{v:V}{A:Around}{E:Value→Shared→Prop}
end
section
variable{X:Cx}{o e value:Expr}{f:Str}{pos pos' tpos:Pos}{ta tv:TE}
end
section
variable{X:Cx}{pins:List (Addr×Obj)}{σ:St}{H:Hp}{s:Shared}{A:Around}{E:Value→Shared→Prop}{Q:Value→Shared→Prop}{c:Value}{b:Bool}
inductive Yq (K:PySem.W.Frag) (H:Hp):V→Value→Prop where
 | non:Yq K H .non (.type "NoneType")
 | bl (x:Bool):Yq K H (.bl x) (.type "bool")
 | int (i:Int):Yq K H (.int i) (.type "int")
 | str (x:Str):Yq K H (.str x) (.type "str")
 | flt (x:UInt64):Yq K H (.flt x) (.type "float")
 | lst {a:Addr}{xs:List V}(e:H a=some (.lst xs)):Yq K H (.ref a) (.type "list")
 | frz {a:Addr}{o:Obj}{xs:List V}(e:H a=some (.frz o (.lst xs))):Yq K H (.ref a) (.type "list")
 | tup {a:Addr}{xs:List V}(e:H a=some (.tup xs)):Yq K H (.ref a) (.type "tuple")
 | dK {a:Addr}{kvs:List (Key×V)}(e:H a=some (.dK kvs)):Yq K H (.ref a) (.type "dict")
 | dT {a:Addr}{kvs:List (List Key×V)}(e:H a=some (.dT kvs)):Yq K H (.ref a) (.type "dict")
 | ins {a C dx:Addr}{fs:List (Str×V)}(e:H a=some (.ins C dx fs)) (cl:Cls K C) (ha:PySem.W.findIn K (.ref C) "__class__"=some (some (.builtin "object.__class__")))
  (hn:PySem.W.specialIn K (.builtin "object.__class__") "__get__"=some (some (.builtin "getset_descriptor.__get__"))) (htk:PySem.W.takesIn K (.builtin "object.__class__")=some true)
  (hm:PySem.W.mroIn K C (.type "object")=some true):Yq K H (.ref a) (.ref C)
theorem Q5{x:V}{u t:Value}(I:Inv X pins σ H s)(rx:RelV x u)(ty:Yq X.K H x t)(e:PySem.W.kitOne X.K t c=some b)(h:∀ tk,Q (.bool b) { s with toks:=tk }) :
 wpAny (model X.prog X.w) A (call (.builtin "isinstance") [u,c]) Q E s:=by
 cases ty with
 | non=>cases (show u=Value.none from rx);exact PySem.W.kia_one PySem.W.kitx_none I.VL True.intro e (fun z=>nomatch z) h
 | bl y=>cases (show u=Value.bool y from rx);exact PySem.W.kia_one PySem.W.kitx_bool I.VL True.intro e (fun z=>nomatch z) h
 | int i=>obtain⟨t,q⟩:=(show ∃ t,u=Value.int i t from rx);cases q;exact PySem.W.kia_one PySem.W.kitx_int I.VL True.intro e (fun z=>nomatch z) h
 | str y=>obtain⟨t,q⟩:=(show ∃ t,u=Value.str y t from rx);cases q;exact PySem.W.kia_one PySem.W.kitx_str I.VL True.intro e (fun z=>nomatch z) h
 | flt y=>obtain⟨t,q⟩:=(show ∃ t,u=Value.float y t from rx);cases q;exact PySem.W.kia_one PySem.W.kitx_float I.VL True.intro e (fun z=>nomatch z) h
 | @lst a xs ea =>
   cases (show u=Value.ref a from rx)
   obtain⟨_,_,n,_,h1⟩:=(show Zy X.prog X.w H s.heap a (.lst xs) from I.hok a _ ea)
   exact PySem.W.kia_one PySem.W.kitx_list I.VL ⟨_,h1,rfl⟩ e (fun z=>nomatch z) h
 | @frz a ob xs ea =>
   cases (show u=Value.ref a from rx)
   obtain⟨_,_,_,n,_,h1⟩:=(show Zy X.prog X.w H s.heap a (.frz ob (.lst xs)) from I.hok a _ ea)
   exact PySem.W.kia_one PySem.W.kitx_list I.VL ⟨_,h1,rfl⟩ e (fun z=>nomatch z) h
 | @tup a xs ea =>
   cases (show u=Value.ref a from rx)
   obtain⟨_,_,_,p⟩:=(show Zy X.prog X.w H s.heap a (.tup xs) from I.hok a _ ea)
   obtain⟨o,h1,h2,_⟩:=p.tup
   exact PySem.W.kia_one PySem.W.kitx_tuple I.VL ⟨o,h1,h2⟩ e (fun z=>nomatch z) h
 | @dK a kvs ea =>
   cases (show u=Value.ref a from rx)
   obtain⟨_,_,vs,_,p⟩:=(show Zy X.prog X.w H s.heap a (.dK kvs) from I.hok a _ ea)
   obtain⟨o,es,ep,h1,h2,_⟩:=p
   exact PySem.W.kia_one PySem.W.kitx_dict I.VL ⟨o,h1,h2.1⟩ e (fun z=>nomatch z) h
 | @dT a kvs ea =>
   cases (show u=Value.ref a from rx)
   obtain⟨_,_,xs,_,o,es,ep,h1,h2,_⟩:=(show Zy X.prog X.w H s.heap a (.dT kvs) from I.hok a _ ea)
   exact PySem.W.kia_one PySem.W.kitx_dict I.VL ⟨o,h1,h2.1⟩ e (fun z=>nomatch z) h
 | @ins a C dx fs ea cl ha hn htk hm =>
   cases (show u=Value.ref a from rx)
   obtain⟨mA,O,_⟩:=z2i I.hok ea
   obtain⟨od,J,_⟩:=O.look
   exact PySem.W.kia_one (PySem.W.kitx_own (cl.get _) cl.hd ha hn htk hm) I.VL J e (fun z=>nomatch z) h
end
structure yQ(k:Nat)(A:Around):Prop where
 hd:A.handled=none
 dp:A.depth+3 * k+5<recursionLimit
 un:A.units+16 * k+200<cLine
 gd:A.guards=some []
theorem yQ.mono{j k:Nat}{A:Around}(r:yQ k A)(h:j≤k):yQ j A:=⟨r.hd,by have:=r.dp;omega,by have:=r.un;omega,r.gd⟩
theorem yQ.deeper{k:Nat}{A:Around}(r:yQ (k+1) A)(env:Env):yQ k (A.deeper env) :=
 ⟨r.hd,by have:=r.dp;show A.depth+1+3 * k+5<_;omega,by have:=r.un;show A.units+3+16 * k+200<_;omega,r.gd⟩
theorem yQ.depth{k:Nat}{A:Around}(r:yQ k A):A.depth<recursionLimit:=by have:=r.dp;omega
theorem yQ.units{k:Nat}{A:Around}(r:yQ k A):A.units+64<cLine:=by have:=r.un;omega
noncomputable def z6m:TA:=fun _ H Q=>Q [] H
noncomputable def JN(ta:TE)(tr:TA):TA:=fun σ H Q=>ta σ H fun x H1=>tr σ H1 fun xs H2=>Q (x :: xs) H2
section
variable{X:Cx}{e:Expr}{es:List Expr}{te:TE}{t:TA}{pos:Pos}
theorem zb:PA X [] z6m:=fun _ _ _ _ H Q I h=>Calls.spliced_nil ⟨[],H,I,.nil,h⟩
theorem zP(ha:PE X e te)(hr:PA X es t)(hs:starEach (e :: es) X.env=(false,eval e X.env) :: starEach es X.env:=by rfl):PA X (e :: es) (JN te t):=by
 intro pos pins s σ H Q I h
 rw[hs]
 show wpAny _ _ (spliced ((false,eval e X.env) :: backTo pos (starEach es X.env))) _ _ s
 refine Calls.spliced_cons (Zt (ha pins s σ H _ I h) fun u s1 ⟨x,H1,I1,r1,q1⟩=>?_)
 exact Zt (hr pos pins s1 σ H1 _ I1 q1) fun us s2 ⟨xs,H2,I2,r2,q2⟩=>⟨x :: xs,H2,I2,.cons r1 r2,q2⟩
noncomputable def z7a(t:TA):TE:=fun σ H Q=>t σ H fun xs H1=>xs.length≤sizeLine∧∀ p,H1 p=none→Q (.ref p) (upd H1 p (.tup xs))
noncomputable def z7G(t:TA):TE:=fun σ H Q=>t σ H fun xs H1=>xs.length≤sizeLine∧∀ p,H1 p=none→Q (.ref p) (upd H1 p (.lst xs))
theorem JP{x1}(h:PA X es t):PE X (.Tuple es x1 pos) (z7a t):=by
 intro pins s σ H Q I hq
 refine wpAny_Tuple_spliced (Zt (h pos pins s σ H _ I hq) fun us s1 ⟨xs,H1,I1,r,z,q⟩=>⟨by rw[← r.length];exact z,?_⟩)
 have hf:H1 s1.heap.objs.size=none:=I1.hok.fresh (Nat.le_refl _)
 refine⟨.ref s1.heap.objs.size,upd H1 s1.heap.objs.size (.tup xs),I1.laid (t':=s1.toks) (fun b u e=>Heap.get?_push_of_some _ e) (Nat.le_refl _) ?_,rfl,q _ hf⟩
 exact⟨z,us,r,⟨_,Heap.get?_push_size _ rfl,rfl,_,rfl⟩⟩
theorem Uj(h:PA X es t):PE X (.List es pos) (z7G t):=by
 intro pins s σ H Q I hq
 refine wpAny_List_spliced (Zt (h pos pins s σ H _ I hq) fun us s1 ⟨xs,H1,I1,r,z,q⟩=>⟨by rw[← r.length];exact z,?_⟩)
 have hf:H1 s1.heap.objs.size=none:=I1.hok.fresh (Nat.le_refl _)
 refine⟨.ref s1.heap.objs.size,upd H1 s1.heap.objs.size (.lst xs),I1.laid (t':=s1.toks) (fun b u e=>Heap.get?_push_of_some _ e) (Nat.le_refl _) ?_,rfl,q _ hf⟩
 exact⟨z,us,0,r,Heap.get?_push_size _ rfl⟩
end
noncomputable abbrev Sp:=List V→Hp→VK→XK→Prop
noncomputable abbrev JH:=List Env→Hp→Shared→XK→Value→Shared→Prop
structure z2r(P:Program)(w:World)(K:PySem.W.Frag)(mg:Str→Option Value)(base:Heap)(A:Around)(outer:List Env)(s:Shared)(H:Hp):Prop where
 frames:A.frames=some outer
 mod:Mod K mg base
 bs:∀ b o,base.get? b=some o→s.heap.get? b=some o∧H b=none
 bsz:base.objs.size≤s.heap.objs.size
 qE:s.heap.FunFrames base outer
 frf:∀ b∈frs outer,H b=none
 hok:XN P w H s.heap
 bare:AllBare s.gens
noncomputable def CE(outer:List Env)(P:Program)(w:World)(H:Hp)(s:Shared)(Q:VK)(u:Value)(s':Shared):Prop :=
 ∃ v H',s'.os=s.os∧AllBare s'.gens∧Un (frs outer) [] H H' s.heap s'.heap∧XN P w H' s'.heap∧RelV v u∧Q v H'
noncomputable def CR(CX:JH)(outer:List Env)(P:Program)(w:World)(H:Hp)(s:Shared)(Q:VK)(E:XK)(r:Result)(s':Shared):Prop :=
 match r with
 | .ok (.ret u)=>CE outer P w H s Q u s'
 | .ok _=>False
 | .error e=>CX outer H s E e s'
structure ZY(P:Program)(w:World)(K:PySem.W.Frag)(mg:Str→Option Value)(base:Heap)(CX:JH)(k:Nat)(f:Addr)(fd:FuncData)(ps:List Str)(sp:Sp):Prop where
 len:∀ vs H Q E,sp vs H Q E→vs.length=ps.length
 run:∀ (A:Around) (outer:List Env) (s:Shared) (H:Hp) (args:Args) (us:List Value) (vs:List V) (Q:VK) (E:XK),yQ k A→z2r P w K mg base A outer s H→BindsTo s fd args (ps.zip us)→Vals vs us→sp vs H Q E →
  codeAny (model P w) A (.call (.ref f) args) (CR CX outer P w H s Q E) s
theorem ZY.imp{P:Program}{w:World}{K:PySem.W.Frag}{mg:Str→Option Value}{base:Heap}{CX:JH}{k:Nat}{f:Addr}{fd:FuncData}{ps:List Str}{sp sp':Sp}(F:ZY P w K mg base CX k f fd ps sp)
 (h:∀ vs H Q E,sp' vs H Q E→sp vs H Q E):ZY P w K mg base CX k f fd ps sp' :=
 ⟨fun vs H Q E q=>F.len vs H Q E (h _ _ _ _ q),fun A outer s H args us vs Q E hr he hb hv hs=>F.run A outer s H args us vs Q E hr he hb hv (h _ _ _ _ hs)⟩
section
variable{X:Cx}{pins:List (Addr×Obj)}{σ:St}{H:Hp}{s s':Shared}
theorem Inv.z7L(I:Inv X pins σ H s):z2r X.prog X.w X.K X.mg X.base X.A X.stack s H :=
 ⟨I.ok.frames,I.ok.mod,I.bs,Nat.le_trans I.ok.bsz I.sz,I.stack,I.ql,I.hok,I.bare⟩
theorem Inv.after{Q:VK}{u:Value}(I:Inv X pins σ H s)(h:CE X.stack X.prog X.w H s Q u s'):EP X pins σ Q u s':=by
 obtain⟨v,H',os,bare,un,hok,r,q⟩:=h
 obtain⟨hh,g,d,t,os'⟩:=s'
 obtain rfl:os'=s.os:=os
 exact⟨v,H',I.call (h':=hh) (g':=g) (d':=d) (t':=t) (ch:=[]) un hok bare (fun b z=>absurd z (by simp)),r,q⟩
end
noncomputable def z3s(sp:Sp)(dvs:List V)(E:XK)(t:TA):TE:=fun σ H Q=>t σ H fun vs H1=>sp (vs ++ dvs) H1 Q E
noncomputable def Binds(K:PySem.W.Frag)(fd:FuncData)(ps:List Str)(ds:List Value):Prop :=
 ∀ (s:Shared) (us:List Value),K.In s.heap→(us ++ ds).length=ps.length→BindsTo s fd ⟨us,[]⟩ (ps.zip (us ++ ds))
theorem Binds.all{K:PySem.W.Frag}{fd:FuncData}{ps:List Str}(h:∀ us:List Value,us.length=ps.length→bindArgs fd ⟨us,[]⟩=pure (ps.zip us)):Binds K fd ps []:=fun s us _ hl=>by
 rw[List.append_nil] at hl ⊢
 exact .of_eq (h us hl)
noncomputable def Passes(CX:JH)(X:Cx)(E:XK):Prop:=∀ (pins:List (Addr×Obj)) (σ:St) (H:Hp) (s:Shared) (e:Value) (s':Shared),Inv X pins σ H s→CX X.stack H s E e s'→X.xe e s'
section
variable{X:Cx}{CX:JH}{k:Nat}{f C:Addr}{fd:FuncData}{ps:List Str}{sp:Sp}{dvs:List V}{ds:List Value}{E:XK}{x m:Str}{p pos apos:Pos}{e o:Expr}{es:List Expr}{ta:TE}{t:TA}
theorem z3R{pins:List (Addr×Obj)}{σ:St}{H:Hp}{s:Shared}{Q:VK}{us:List Value}{vs:List V}(F:ZY X.prog X.w X.K X.mg X.base CX k f fd ps sp)(hr:yQ k X.A)(hb:Binds X.K fd ps ds)(hd:Vals dvs ds)(hx:Passes CX X E)
 (I:Inv X pins σ H s) (r:Vals vs us) (h:sp (vs ++ dvs) H Q E):wpAny (model X.prog X.w) X.A (call (.ref f) us) (EP X pins σ Q) X.xe s:=by
 have r2:Vals (vs ++ dvs) (us ++ ds):=r.append hd
 have hl:(us ++ ds).length=ps.length:=by rw[← r2.length];exact F.len _ _ _ _ h
 refine wpAny_call (codeAny_mono (F.run X.A X.stack s H ⟨us,[]⟩ (us ++ ds) (vs ++ dvs) Q E hr I.z7L (hb s us I.VL hl) r2 h) fun r s' hq=>?_)
 cases r with
 | error e=>exact hx pins σ H s e s' I hq
 | ok fl =>
   cases fl with
   | ret u=>exact I.after hq
   | next=>exact False.elim hq
   | brk=>exact False.elim hq
   | cont=>exact False.elim hq
theorem Zs(F:ZY X.prog X.w X.K X.mg X.base CX k f fd ps sp)(hr:yQ k X.A)(hg:Gl X x)(hm:X.mg x=some (.ref f))(hk:PySem.W.keepIn X.K (.ref f)=true)(hb:Binds X.K fd ps ds)(hd:Vals dvs ds)(hx:Passes CX X E)
 (ha:PA X (e :: es) t) (hdb:(x == ("__debug__":Str))=false:=by decide) (he:starEach (e :: es) X.env=(false,eval e X.env) :: starEach es X.env:=by rfl) (hpl:(backTo pos (starEach es X.env)).any (·.1)=false:=by rfl) :
 PE X (.Call (.Name x p) (e :: es) [] pos) (z3s sp dvs E t):=by
 intro pins s σ H Q I h
 refine wpAny_Call_Name_kw (jk I hg hm ?_ hdb)
 refine PySem.W.callWith_K (h₀:=X.base) I.ok.mod.kin hk (Zt (ha pos pins s σ H _ I h) fun us s1 ⟨vs,H1,I1,r,q⟩=>⟨I1.VL,?_⟩) he hpl
 exact z3R F hr hb hd hx I1 r q
end
section
variable{X:Cx}{CX:JH}{k:Nat}{f C:Addr}{fd:FuncData}{ps ks:List Str}{sp:Sp}{E:XK}{x m:Str}{p pos apos kpos:Pos}{e o:Expr}{es:List Expr}{kws:List Keyword}{te ta:TE}{t tk:TA}{nm:Option Str}
variable{g:List Value→List Value→List Value}{gV:List V→List V→List V}
end
structure zT(N P:List Str)(sc:Scope):Prop where
 kind:sc.kind=.function
 co:sc.isCoroutine=false
 gen:sc.isGenerator=false
 nd:N.Nodup
 pre:N.take P.length=P
 par:∀ x∈P,sc.names.lookup x=some .local∨sc.names.lookup x=some .cell
 nofree:∀ y∈sc.names,y.2≠.free
theorem Q0{kindOf:Str→Option NameKind}{x:Str}:∀ {binds:List (Str×Value)}{m:Str→Option Value},(∀ v,(x,v)∉binds)→bindL kindOf binds m x=m x
 | [],_,_=>rfl
 | (n,v) :: r,m,h=>by
   unfold bindL
   rw[Q0 fun w hw=>h w (List.mem_cons_of_mem _ hw)]
   split
   · have:x≠n:=by rintro rfl;exact h v List.mem_cons_self
     simp[this]
   · rfl
theorem QJ{kindOf:Str→Option NameKind}{x:Str}:∀ {binds:List (Str×Value)}{m:Str→Option Value},(∀ v,(x,v)∉binds)→bindC kindOf binds m x=m x
 | [],_,_=>rfl
 | (n,v) :: r,m,h=>by
   unfold bindC
   rw[QJ fun w hw=>h w (List.mem_cons_of_mem _ hw)]
   split
   · rfl
   · have:x≠n:=by rintro rfl;exact h v List.mem_cons_self
     simp[this]
theorem QW{kindOf:Str→Option NameKind}{x:Str}{v:Value}:∀ {P:List Str}{vs:List Value}{i:Nat}{m:Str→Option Value},P.Nodup→P[i]?=some x→vs[i]?=some v→kindOf x=some .local →
 bindL kindOf (P.zip vs) m x=some v
 | [],_,_,_,_,h,_,_=>by simp at h
 | _ :: _,[],_,_,_,_,h,_=>by simp at h
 | p :: P,w :: vs,0,m,nd,h1,h2,hk=>by
   simp at h1 h2;subst h1;subst h2
   show bindL kindOf ((p,w) :: P.zip vs) m p=_
   unfold bindL
   rw[Q0 fun v hv=>(List.nodup_cons.mp nd).1 (List.of_mem_zip hv).1,if_pos hk]
   simp
 | p :: P,w :: vs,i+1,m,nd,h1,h2,hk=>by
   show bindL kindOf ((p,w) :: P.zip vs) m x=_
   unfold bindL
   exact QW (i:=i) (List.nodup_cons.mp nd).2 (by simpa using h1) (by simpa using h2) hk
theorem Q6{kindOf:Str→Option NameKind}{x:Str}{v:Value}:∀ {P:List Str}{vs:List Value}{i:Nat}{m:Str→Option Value},P.Nodup→P[i]?=some x→vs[i]?=some v→kindOf x≠some .local →
 bindC kindOf (P.zip vs) m x=some v
 | [],_,_,_,_,h,_,_=>by simp at h
 | _ :: _,[],_,_,_,_,h,_=>by simp at h
 | p :: P,w :: vs,0,m,nd,h1,h2,hk=>by
   simp at h1 h2;subst h1;subst h2
   show bindC kindOf ((p,w) :: P.zip vs) m p=_
   unfold bindC
   rw[QJ fun v hv=>(List.nodup_cons.mp nd).1 (List.of_mem_zip hv).1,if_neg hk]
   simp
 | p :: P,w :: vs,i+1,m,nd,h1,h2,hk=>by
   show bindC kindOf ((p,w) :: P.zip vs) m x=_
   unfold bindC
   exact Q6 (i:=i) (List.nodup_cons.mp nd).2 (by simpa using h1) (by simpa using h2) hk
noncomputable def start(N:List Str)(vs:List V):St:=vs.map some ++ List.replicate (N.length - vs.length) none
noncomputable def JE(CX:JH)(P:Program)(w:World)(K:PySem.W.Frag)(mg:Str→Option Value)(base:Heap)(N:List Str)(qual:Str)(scope:Scope)(f:Addr)(cd:Value)(A:Around)(outer:List Env)(s:Shared)(H:Hp)(E:XK):Cx where
 prog:=P
 w:=w
 K:=K
 mg:=mg
 base:=base
 A:=A.deeper (envOfC qual scope s.heap.objs.size f cd)
 N:=N
 s₀:=s
 H₀:=H
 env:=envOfC qual scope s.heap.objs.size f cd
 outer:=outer
 stack:=envOfC qual scope s.heap.objs.size f cd :: outer
 ex:=[]
 calm:=true
 fn:=fun _=>true
 pn:=[]
 xe:=fun e s'=>wpAny (model P w) (A.deeper (envOfC qual scope s.heap.objs.size f cd)) (leaving (envOfC qual scope s.heap.objs.size f cd) e) (fun _ s''=>CX outer H s E e s'') (fun e' s''=>CX outer H s E e' s'') s'
theorem uL{sc:Scope}{n:Nat}{x:Str}(h:sc.names.lookup x=some .cell):∃ c,(cellsFrom n sc.names []).lookup x=some c:=by
 have q:=PySem.W.cellsFrom_some sc.names n [] (.inl h)
 exact Option.isSome_iff_exists.mp q
theorem Jo{CX:JH}{P:Program}{w:World}{K:PySem.W.Frag}{mg:Str→Option Value}{base:Heap}{N ps:List Str}{qual:Str}{scope:Scope}{f:Addr}{cd:Value}{A:Around}{outer:List Env}{s s1:Shared}{H:Hp}{E:XK}{us:List Value}{vs:List V}
 (S:zT N ps scope) (hd:A.handled=none) (e0:z2r P w K mg base A outer s H) (hl:vs.length=ps.length) (r:Vals vs us)
 (x:InCallC s s.heap.objs.size (bindL (envOfC qual scope s.heap.objs.size f cd).kindOf (ps.zip us) fun _=>none) (cellsFrom (s.heap.objs.size+1) scope.names []) (bindC (envOfC qual scope s.heap.objs.size f cd).kindOf (ps.zip us) fun _=>none) s1) :
 Inv (JE CX P w K mg base N qual scope f cd A outer s H E) [] (start N vs) H s1:=by
 have hpl:ps.length≤N.length:=by have:=congrArg List.length S.pre;rw[List.length_take] at this;omega
 obtain⟨h1,tk,rfl,hk⟩:=x.done
 have noA:∀ b:Addr,b∉(JE CX P w K mg base N qual scope f cd A outer s H E).ex:=fun b z=>absurd (show b∈([]:List Addr) from z) (by simp)
 refine⟨⟨e0.mod,S.kind,rfl,rfl,Nat.le_refl _,fun y z c h1 h2=>?_,fun y hy=>?_,fun y c _ h=>?_,fun _=>hd,Around.frames_deeper e0.frames,.inr ⟨rfl,rfl⟩,fun b z=>absurd z (noA b),e0.bs,e0.bsz,fun b _ _=>noA b,fun b z=>absurd z (noA b),e0.qE,e0.frf⟩,
  rfl,e0.bare,Un.kept hk,⟨_,x.toInCall.ns,fun i y v h1 h2 h3=>?_⟩,fun y c h=>⟨_,x.cell y c h⟩,e0.hok.fresh (Nat.le_refl _),fun y c h=>?_,fun p hp=>absurd (show p∈([]:List (Addr×Obj)) from hp) (by simp),e0.hok.kept hk,?_⟩
 · exact name_of_addr x.apart (PySem.mem_of_lookup h1) (PySem.mem_of_lookup h2)
 · have hy:scope.names.lookup y=some .cell∨scope.names.lookup y=some .free:=hy
   rcases hy with hy | hy
   · exact uL hy
   · exact absurd rfl (S.nofree _ (PySem.mem_of_lookup hy))
 · exact Nat.le_of_lt (x.above y c (PySem.mem_of_lookup h))
 · have hi:i<vs.length:=by
    unfold start at h2
    by_cases hi:i<vs.length
    · exact hi
    · rw[List.getElem?_append_right (by simpa using hi)] at h2
      rw[List.getElem?_replicate] at h2
      split at h2 <;> cases h2
   have ha:vs[i]?=some v:=by
    unfold start at h2
    rw[List.getElem?_append_left (by simpa using hi),List.getElem?_map] at h2
    cases e:vs[i]? with
    | none=>rw[e] at h2;cases h2
    | some a=>rw[e] at h2;cases h2;rfl
   obtain⟨u,hu,rv⟩:=r.get ha
   have hp:ps[i]?=some y:=by
    rw[← S.pre,List.getElem?_take_of_lt (by omega)];exact h1
   have ndP:ps.Nodup:=by rw[← S.pre];exact S.nd.sublist (List.take_sublist _ _)
   refine⟨u,rv,?_⟩
   rcases S.par y (List.mem_of_getElem? hp) with k | k
   · exact .inl ⟨k,QW ndP hp hu k⟩
   · obtain⟨c,e⟩:=uL (n:=s.heap.objs.size+1) k
     refine .inr ⟨.inl k,c,e,?_⟩
     have q:=x.cell y c e
     rw[Q6 ndP hp hu (by show scope.names.lookup y≠_;rw[k];decide)] at q
     exact q
 · exact e0.hok.fresh (Nat.le_of_lt (x.above y c (PySem.mem_of_lookup h)))
 · unfold start
   show _=N.length
   rw[List.length_append,List.length_map,List.length_replicate]
   omega
theorem z6C{CX:JH}{P:Program}{w:World}{K:PySem.W.Frag}{mg:Str→Option Value}{base:Heap}{k:Nat}{f:Addr}{name qual:Str}{params:Arguments}{body:List Stmt}{scope:Scope}{dV kV doc pm cdv ct oc:Value}{an od:Option Addr}
 {osl:Array (Option Value)}{N ps:List Str}{sp:Sp}(lk:K.lookup f=some ⟨oc,od,.func (PySem.W.fnOf name qual params body scope dV kV doc pm an cdv ct),osl⟩) (hcd:PySem.W.codeIn K cdv qual=true) (S:zT N ps scope)
 (len:∀ vs H Q E,sp vs H Q E→vs.length=ps.length)
 (hbody:∀ (A:Around) (outer:List Env) (s:Shared) (H:Hp) (vs:List V) (Q:VK) (E:XK),yQ k (A.deeper (envOfC qual scope s.heap.objs.size f cdv))→sp vs H Q E →
  ∃ t,uY (JE CX P w K mg base N qual scope f cdv A outer s H E) body t∧t { nx:=fun _ H'=>Q .non H',rt:=Q } (start N vs) H) :
 ZY P w K mg base CX (k+1) f (PySem.W.fnOf name qual params body scope dV kV doc pm an cdv ct) ps sp:=by
 refine⟨len,fun A outer s H args us vs Q E hr e0 hb r hsp=>?_⟩
 have hl:=len _ _ _ _ hsp
 have KX:K.In s.heap:=e0.mod.kin.keeps fun b o e=>(e0.bs b o e).1
 have lim:s.heap.NoLimit:=e0.mod.nolimit.keeps fun b o e=>(e0.bs b o e).1
 have hkind:∀ y∈ps.zip us,scope.names.lookup y.1=some .local∨(scope.names.lookup y.1=some .cell∧((cellsFrom (s.heap.objs.size+1) scope.names []).lookup y.1).isSome=true):=fun ⟨n,v⟩ hy=>by
  rcases S.par n (List.of_mem_zip hy).1 with q | q
  · exact .inl q
  · exact .inr ⟨q,PySem.W.cellsFrom_some _ _ _ (.inl q)⟩
 refine codeAny_call_function hr.depth (KX _ _ lk) rfl S.co S.gen rfl (PySem.W.codeRec_of KX hcd) (hb _ _ _ _ ?_)
 refine wpAny_newFunctionEnv_cells S.kind hkind fun env he s1 x=>?_
 subst he
 refine⟨lim.keeps x.toInCall.keep,codeAny_func ?_⟩
 obtain⟨t,ht,hq⟩:=hbody A outer s H vs Q E (hr.deeper _) hsp
 have I:Inv (JE CX P w K mg base N qual scope f cdv A outer s H E) [] (start N vs) H s1:=Jo S hr.hd e0 hl r x
 refine wpAny_mono (ht [] s1 (start N vs) H _ I hq) (fun fl s' hs=>?_) fun e s' hs=>hs
 have fin:∀ {σ':St}{H':Hp}{v:V}{u:Value},Inv (JE CX P w K mg base N qual scope f cdv A outer s H E) [] σ' H' s'→RelV v u→Q v H'→CE outer P w H s Q u s' :=
  fun {σ' H' v u} J rv q=>⟨v,H',J.os,J.bare,J.base,J.hok,rv,q⟩
 cases fl with
 | ret u =>
   obtain⟨v,σ',H',J,rv,q⟩:=hs
   exact fin J rv q
 | next =>
   obtain⟨σ',H',J,q⟩:=hs
   exact fin (v:=V.non) (u:=Value.none) J rfl q
 | brk =>
   obtain⟨_,_,_,q⟩:=hs
   exact False.elim q
 | cont =>
   obtain⟨_,_,_,q⟩:=hs
   exact False.elim q
section
variable{X:Cx}{x:Str}{p pos:Pos}{e:Expr}{es:List Expr}{t:TA}{id T:String}{r:List V→Hp→VK→Prop}
noncomputable def tCB(r:List V→Hp→VK→Prop)(t:TA):TE:=fun σ H Q=>t σ H fun vs H1=>r vs H1 Q
theorem zX(hc:ye X (.builtin id) r)(hg:Gl X x)(hm:X.mg x=none)(hv:bootBuiltins x=some (.builtin id))(ha:PA X (e :: es) t)(hn:x≠"__name__":=by decide)(hdb:(x == ("__debug__":Str))=false:=by decide)
 (he:starEach (e :: es) X.env=(false,eval e X.env) :: starEach es X.env:=by rfl) (hpl:(backTo pos (starEach es X.env)).any (·.1)=false:=by rfl):PE X (.Call (.Name x p) (e :: es) [] pos) (tCB r t):=by
 intro pins s σ H Q I h
 refine wpAny_Call_Name_kw (Yh I hg hm hv ?_ hn hdb)
 exact PyProof.Rows.callWith_builtin1 (Zt (ha pos pins s σ H _ I h) fun us s1 ⟨vs,H1,I1,r1,q1⟩=>hc pins s1 σ H1 vs us Q I1 r1 q1) he hpl
theorem Zd(hc:ye X (.type T) r)(hg:Gl X x)(hm:X.mg x=none)(hv:bootBuiltins x=some (.type T))(ha:PA X (e :: es) t)(hn:x≠"__name__":=by decide)(hdb:(x == ("__debug__":Str))=false:=by decide)
 (he:starEach (e :: es) X.env=(false,eval e X.env) :: starEach es X.env:=by rfl) (hpl:(backTo pos (starEach es X.env)).any (·.1)=false:=by rfl):PE X (.Call (.Name x p) (e :: es) [] pos) (tCB r t):=by
 intro pins s σ H Q I h
 refine wpAny_Call_Name_kw (Yh I hg hm hv ?_ hn hdb)
 exact PyProof.Rows.callWith_type1 (Zt (ha pos pins s σ H _ I h) fun us s1 ⟨vs,H1,I1,r1,q1⟩=>hc pins s1 σ H1 vs us Q I1 r1 q1) he hpl
end
end L2
namespace HT
open PySem PyProof.Rows
section
open PySem.SeqAt
open PySem.AutoSeq1 (wpAny_loadPart')
open PySem.MeetsSeq PySem.MeetsSeq2 PySem.MeetsSeq3
end
section
variable{prog:Program}{w:World}{A:Around}{E:Value→Shared→Prop}{s:Shared}
theorem jZ{t b:Addr}{vs ws:List Value}{Q:Value→Shared→Prop}(ht:IsTup s.heap t vs.toArray)(hb:IsTup s.heap b ws.toArray)(hv:vs≠[])
 (h1:ws=[]→Q (.ref t) s) (h2:ws≠[]→Q (.ref s.heap.objs.size) { s with heap:=s.heap.push { cls:=.type "tuple",data:=.seq (vs ++ ws).toArray } })
 (hsz:vs.length+ws.length≤sizeLine):wpAny (model prog w) A (binaryOp .Add (.ref t) (.ref b)) Q E s:=by
 obtain⟨⟨cls,dd,data,sl⟩,ho,hc,n,hd⟩:=id ht
 obtain⟨⟨cls2,dd2,data2,sl2⟩,ho2,hc2,n2,hd2⟩:=id hb
 simp only at hc hd hc2 hd2
 subst hc hd hc2 hd2
 have e:vs.toArray ++ ws.toArray=(vs ++ ws).toArray:=by simp
 by_cases hw:ws=[]
 · exact concat_meets ⟨_,ho,rfl⟩ ⟨_,ho2,rfl⟩ noFill_tuple_add seq_tuple_add PySem.F.slot_tuple_add PySem.F.entry_tuple_add (PySem.F.args_tuple_add_2 _ _)
    (tuple_addW1 t b vs.toArray ws.toArray n n2 dd dd2 sl sl2 (by simpa using hv) (by simp[hw])) ⟨ho,ho2,h1 hw⟩
 · refine concat_meets ⟨_,ho,rfl⟩ ⟨_,ho2,rfl⟩ noFill_tuple_add seq_tuple_add PySem.F.slot_tuple_add PySem.F.entry_tuple_add (PySem.F.args_tuple_add_2 _ _)
    (tuple_addW2 t b vs.toArray ws.toArray n n2 dd dd2 sl sl2 (by simpa using hv) (by simpa using hw) (by rw[List.size_toArray,List.size_toArray];exact hsz)) ⟨ho,ho2,?_⟩
   rw[e]
   exact h2 hw
noncomputable def Z8(n d:Nat):Option Int→Nat
 | none=>d
 | some v=>if v<0 then (v+(n:Int)).toNat else min v.toNat n
theorem Qq(n d:Nat):Z8 n d none=d:=rfl
theorem vJ(n d k:Nat):Z8 n d (some (k:Int))=min k n:=by
 show (if (k:Int)<0 then ((k:Int)+(n:Int)).toNat else min (k:Int).toNat n)=min k n
 rw[if_neg (by omega),Int.toNat_natCast]
theorem JZ(n d:Nat)(hd:d≤n)(o:Option Int):Z8 n d o≤n:=by
 cases o with
 | none=>exact hd
 | some v =>
   show (if v<0 then (v+(n:Int)).toNat else min v.toNat n)≤n
   by_cases hv:v<0
   · rw[if_pos hv];omega
   · rw[if_neg hv];exact Nat.min_le_right _ _
theorem je(v:Int)(n d:Nat):(if v<0 then max (v+(n:Int)) 0 else min v (n:Int))=((Z8 n d (some v):Nat):Int):=by
 show (if v<0 then max (v+(n:Int)) 0 else min v (n:Int))=(((if v<0 then (v+(n:Int)).toNat else min v.toNat n):Nat):Int)
 by_cases hv:v<0
 · simp only[if_pos hv];omega
 · simp only[if_neg hv];omega
theorem UC(lo hi:Option Int)(n:Nat):Builtin.Slice.sliceAdjust lo hi 1 (n:Int)=(((Z8 n 0 lo:Nat):Int),((Z8 n n hi:Nat):Int)):=by
 have h1:¬ ((1:Int)<0):=by omega
 unfold Builtin.Slice.sliceAdjust
 simp only[h1,if_false]
 refine Prod.ext ?_ ?_
 · cases lo with
   | none=>rfl
   | some v=>exact je v n 0
 · cases hi with
   | none=>rfl
   | some v=>exact je v n n
theorem UQ(i j:Nat):Builtin.Slice.slicePlaces (i:Int) (j:Int) 1=j - i:=by
 unfold Builtin.Slice.slicePlaces
 have h1:(1:Int) > 0:=by omega
 simp only[h1,if_true,Int.ediv_one]
 split <;> omega
theorem Qj{v:Value}{o:Option Int}{Q:Option Int→Shared→Prop}(p:IsPart v o)(h:Q o s):wpAny (model prog w) A (Builtin.Slice.slicePartIndex v) Q E s:=by
 cases p with
 | none=>exact slicePart_none h
 | int i t=>exact slicePart_int h
theorem Yn{sl:Addr}{vl vu:Value}{lo hi:Option Int}{n:Nat}{Q:Int×Int×Nat→Shared→Prop}(hs:s.heap.IsSliceOf sl vl vu .none)(pl:IsPart vl lo)(pu:IsPart vu hi)
 (h:Q (((Z8 n 0 lo:Nat):Int),1,Z8 n n hi - Z8 n 0 lo) s):wpAny (model prog w) A (Builtin.Slice.sliceApplied (.ref sl) (pure (n:Int))) Q E s:=by
 obtain⟨os,hos,hcs,hds⟩:=id hs
 unfold Builtin.Slice.sliceApplied Builtin.Slice.sliceFields
 refine wpAny_bind (wpAny_bind (wpAny_field hos hds (x:=vl) rfl (wpAny_bind (wpAny_field hos hds (x:=vu) rfl (wpAny_bind (wpAny_field hos hds (x:=.none) rfl (wpAny_pure ?_)))))))
 refine wpAny_bind (slicePart_none ?_)
 show wpAny _ _ (if ((1:Int) == 0)=true then _ else _) _ _ s
 rw[if_neg (by decide)]
 refine wpAny_bind (Qj pl (wpAny_bind (Qj pu (wpAny_bind (wpAny_pure ?_)))))
 show wpAny _ _ (match Builtin.Slice.sliceAdjust lo hi 1 (n:Int) with | (lo,hi)=>pure (lo,(1:Int),Builtin.Slice.slicePlaces lo hi 1)) _ _ s
 rw[UC lo hi n]
 show wpAny _ _ (pure (((Z8 n 0 lo:Nat):Int),(1:Int),Builtin.Slice.slicePlaces ((Z8 n 0 lo:Nat):Int) ((Z8 n n hi:Nat):Int) 1)) _ _ s
 rw[UQ]
 exact wpAny_pure h
theorem z0L(xs:Array Value)(i k:Nat):((List.range k).filterMap fun (m:Nat)=>xs[((i:Int)+(m:Int) * 1).toNat]?).toArray=((xs.toList.drop i).take k).toArray:=by
 have e:(fun (m:Nat)=>xs[((i:Int)+(m:Int) * 1).toNat]?)=fun m=>xs[i+m]?:=by
  funext m
  have:((i:Int)+(m:Int) * 1).toNat=i+m:=by omega
  rw[this]
 rw[e]
 have:=pick_run xs i k
 rw[List.filterMap_map] at this
 have e2:((fun x=>xs[x]?) ∘ fun x=>i+x)=fun m=>xs[i+m]?:=rfl
 rw[e2] at this
 rw[this]
theorem x9{t sl:Addr}{items:Array Value}{vl vu:Value}{lo hi:Option Int}{Q:Value→Shared→Prop}(ht:IsTup s.heap t items)(hs:s.heap.IsSliceOf sl vl vu .none)(pl:IsPart vl lo)(pu:IsPart vu hi)
 (hw:¬ (Z8 items.size 0 lo=0∧Z8 items.size items.size hi=items.size))
 (h:Q (.ref s.heap.objs.size) { s with heap:=s.heap.push { cls:=.type "tuple",data:=.seq ((items.toList.drop (Z8 items.size 0 lo)).take (Z8 items.size items.size hi - Z8 items.size 0 lo)).toArray } })
 (hsz:items.size≤sizeLine):wpAny (model prog w) A (getItem (.ref t) (.ref sl)) Q E s:=by
 have htake:sizeOk (.seq ((items.toList.drop (Z8 items.size 0 lo)).take (Z8 items.size items.size hi - Z8 items.size 0 lo)).toArray):=by
  show ((items.toList.drop (Z8 items.size 0 lo)).take (Z8 items.size items.size hi - Z8 items.size 0 lo)).toArray.size≤sizeLine
  rw[List.size_toArray,List.length_take,List.length_drop,Array.length_toList]
  omega
 have hj:Z8 items.size items.size hi≤items.size:=JZ _ _ (Nat.le_refl _) hi
 obtain⟨os,hos,hcs,hds⟩:=id hs
 have hTs:s.TypeIs (.ref sl) "slice":=⟨os,hos,hcs⟩
 unfold getItem
 try with_reducible refine wpAny_holding ?_
 first | refine wpAny_bind (wpAny_pure ?_) | skip
 refine wpAny_bind (wpAny_sequenceKey ht.typeIs (by decide) ?_)
 refine wpAny_bind (wpAny_callSpecial?_slot (name:=Str.ofString "__getitem__") ht.typeIs PyProof.Rows.slot_tuple_getitem
  (wpAny_call_entry PyProof.Rows.slot_tuple_getitem ht.typeIs entry_tuple_getitem ?_ (args_tuple_getitem _ _)))
 show wpAny _ _ (Builtin.Tuple.tupleItemsOf (.ref t) >>= _) _ _ s
 refine wpAny_bind (tupleItemsOf_ ht ?_)
 refine wpAny_bind (wpAny_typeOf hTs ?_)
 rw[if_pos (by decide)]
 refine wpAny_bind (Yn hs pl pu ?_)
 have hno:¬ ((((Z8 items.size 0 lo:Nat):Int) == 0 && (1:Int) == 1 && (Z8 items.size items.size hi - Z8 items.size 0 lo) == items.size)=true):=by
  intro q
  rw[Bool.and_eq_true,Bool.and_eq_true] at q
  have q1:((Z8 items.size 0 lo:Nat):Int)=0:=eq_of_beq q.1.1
  have q2:Z8 items.size items.size hi - Z8 items.size 0 lo=items.size:=eq_of_beq q.2
  exact hw ⟨by omega,by omega⟩
 show wpAny _ _ (if (((Z8 items.size 0 lo:Nat):Int) == 0 && (1:Int) == 1 && (Z8 items.size items.size hi - Z8 items.size 0 lo) == items.size)=true then _ else _) _ _ s
 rw[if_neg hno,z0L]
 first
  | exact wpAny_bind (m:=Builtin.Tuple.tupleExact _) (wpAny_newObj_type (wpAny_pure ⟨_,rfl,wpAny_pure h⟩) htake)
  | exact wpAny_bind (m:=Builtin.Tuple.tupleExact _) (wpAny_newObj_type (wpAny_bind (wpAny_pure (wpAny_pure ⟨_,rfl,wpAny_pure h⟩))) htake)
  | exact wpAny_bind (wpAny_bind (m:=Builtin.Tuple.tupleExact _) (wpAny_newObj_type (wpAny_pure (wpAny_pure ⟨_,rfl,wpAny_pure h⟩)) htake))
  | exact wpAny_bind (wpAny_bind (m:=Builtin.Tuple.tupleExact _) (wpAny_newObj_type (wpAny_pure ⟨_,rfl,wpAny_pure h⟩) htake))
end
end HT
namespace L2
open PySem PySem.Spec PyProof.Rows
noncomputable abbrev TO:=St→Hp→(Option Int→Hp→Prop)→Prop
noncomputable def PO(X:Cx)(e:Option Expr)(t:TO):Prop :=
 ∀ (pins:List (Addr×Obj)) (s:Shared) (σ:St) (H:Hp) (Q:Option Int→Hp→Prop),Inv X pins σ H s→t σ H Q →
   wpAny (model X.prog X.w) X.A (evalPart e X.env) (fun u s'=>∃ o H',Inv X pins σ H' s'∧IsPart u o∧Q o H') X.xe s
noncomputable def z2t:TO:=fun _ H Q=>Q none H
noncomputable def z6a(t:TE):TO:=fun σ H Q=>t σ H fun x H1=>∃ i,x=.int i∧Q (some i) H1
theorem intsAre_of{ns:List Int}:∀ {us:List Value},Vals (ns.map V.int) us→IntsAre us ns:=by
 induction ns with
 | nil=>intro us r;rw[List.map_nil] at r;cases r;exact .nil
 | cons n ns ih =>
   intro us r
   rw[List.map_cons] at r
   cases r with
   | cons r1 r2 =>
     obtain⟨t,e⟩:=r1
     subst e
     exact .cons n t (ih r2)
section
variable{X:Cx}{e:Expr}{te:TE}{lo hi:Option Expr}{tl th:TO}{pos p2:Pos}
theorem X5:PO X none z2t:=by
 intro pins s σ H Q I h
 rw[evalPart_none]
 exact wpAny_pure ⟨none,H,I,.none,h⟩
theorem qg(h:PE X e te):PO X (some e) (z6a te):=by
 intro pins s σ H Q I hw
 rw[evalPart_some]
 refine Zt (h pins s σ H _ I hw) fun u s1 ⟨x,H1,I1,r1,q1⟩=>?_
 obtain⟨i,rfl,q⟩:=q1
 obtain⟨t,rfl⟩:=r1
 exact⟨some i,H1,I1,.int i t,q⟩
noncomputable def SlR(X:Cx)(r:V→Option Int→Option Int→Hp→VK→Prop):Prop :=
 ∀ (pins:List (Addr×Obj)) (s:Shared) (σ:St) (H:Hp) (x:V) (v vl vu:Value) (lo hi:Option Int) (sl:Addr) (Q:VK),Inv X pins σ H s→RelV x v→s.heap.IsSliceOf sl vl vu .none→IsPart vl lo→IsPart vu hi→r x lo hi H Q →
   ∃ T id,typeLookup (.type T) "__getitem__"=pure (some (.builtin id))∧s.TypeIs v T∧wpAny (model X.prog X.w) X.A (getItem v (.ref sl)) (EP X pins σ Q) X.xe s
noncomputable def tSl(r:V→Option Int→Option Int→Hp→VK→Prop)(te:TE)(tl th:TO):TE:=fun σ H Q=>te σ H fun x H1=>tl σ H1 fun l H2=>th σ H2 fun u H3=>r x l u H3 Q
theorem Xl{r:V→Option Int→Option Int→Hp→VK→Prop}(hr:SlR X r)(he:PE X e te)(hl:PO X lo tl)(hu:PO X hi th):PE X (.Subscript e (.Slice lo hi none p2) pos) (tSl r te tl th):=by
 intro pins s σ H Q I h
 refine Subscript_ (Zt (he pins s σ H _ I h) fun v s1 ⟨x,H1,I1,r1,q1⟩=>?_)
 refine wpAny_Slice (Zt (hl pins s1 σ H1 _ I1 q1) fun vl s2 ⟨l,H2,I2,pl,q2⟩=>Zt (hu pins s2 σ H2 _ I2 q2) fun vu s3 ⟨u,H3,I3,pu,q3⟩=>?_)
 rw[evalPart_none]
 refine wpAny_pure ?_
 have I4:Inv X pins σ H3 { s3 with heap:=s3.heap.push { cls:=.type "slice",data:=.fields #[vl,vu,.none] } }:=I3.kept (t':=s3.toks) fun b ob q=>Heap.get?_push_of_some _ q
 obtain⟨T,id,hT,ht,hg⟩:=hr pins { s3 with heap:=s3.heap.push { cls:=.type "slice",data:=.fields #[vl,vu,.none] } } σ H3 x v vl vu l u s3.heap.objs.size Q I4 r1 (Heap.IsSliceOf.new ..) pl pu q3
 show wpAny (model X.prog X.w) X.A (subscriptTail e (.Slice lo hi none p2) v (.ref s3.heap.objs.size)) (EP X pins σ Q) X.xe { s3 with heap:=s3.heap.push { cls:=.type "slice",data:=.fields #[vl,vu,.none] } }
 exact tail_any (ops:=[.ref s3.heap.objs.size,v]) ht hT hg (by with_unfolding_all rfl)
noncomputable def yl(xs:List V)(lo hi:Option Int):List V:=(xs.drop (HT.Z8 xs.length 0 lo)).take (HT.Z8 xs.length xs.length hi - HT.Z8 xs.length 0 lo)
theorem YX(xs:List V)(lo hi:Option Int):(yl xs lo hi).length≤xs.length:=by
 unfold yl
 rw[List.length_take,List.length_drop]
 omega
noncomputable def z7w(K:PySem.W.Frag):V→Option Int→Option Int→Hp→VK→Prop:=fun x lo hi H Q=>∃ a xs,x=.ref a∧z5 K H a xs ∧
 ¬ (HT.Z8 xs.length 0 lo=0∧HT.Z8 xs.length xs.length hi=xs.length)∧∀ p,H p=none→Q (.ref p) (upd H p (.tup (yl xs lo hi)))
theorem z3U:SlR X (z7w X.K):=by
 intro pins s σ H x v vl vu lo hi sl Q I rx hs pl pu h
 obtain⟨a,xs,rfl,hx,hw,q⟩:=h
 cases rx
 obtain⟨its,r,ht,hz⟩:=I.tuple hx
 have hlen:its.toArray.size=xs.length:=by rw[List.size_toArray];exact r.length.symm
 refine⟨"tuple",_,PyProof.Rows.slot_tuple_getitem.lookup,ht.typeIs,?_⟩
 refine HT.x9 ht hs pl pu (by rw[hlen];exact hw) ?_ (by rw[hlen];exact hz)
 rw[hlen]
 refine⟨.ref s.heap.objs.size,_,I.laid (t':=s.toks) (o:=.tup (yl xs lo hi)) (fun b ob q=>Heap.get?_push_of_some _ q) (Nat.le_refl _) ?_,rfl,q _ (I.hok.fresh (Nat.le_refl _))⟩
 exact⟨Nat.le_trans (YX xs lo hi) hz,_,(r.drop (HT.Z8 xs.length 0 lo)).take (HT.Z8 xs.length xs.length hi - HT.Z8 xs.length 0 lo),Zb.new _ _⟩
noncomputable def z6d(K:PySem.W.Frag):R2:=fun x y H Q=>∃ a b xs ys,x=.ref a∧y=.ref b∧z5 K H a xs∧z5 K H b ys∧xs≠[]∧xs.length+ys.length≤sizeLine ∧
 (ys=[]→Q (.ref a) H)∧(ys≠[]→∀ p,H p=none→Q (.ref p) (upd H p (.tup (xs ++ ys))))
theorem Vals.vQ{xs:List V}{us:List Value}(r:Vals xs us):us=[]↔xs=[]:=by
 cases r with
 | nil=>simp
 | cons _ _=>simp
theorem z2j:xw X (binaryOp .Add) (z6d X.K):=by
 intro pins s σ H x y v u Q I rx ry h
 obtain⟨a,b,xs,ys,rfl,rfl,ha,hb,hx,hz,q1,q2⟩:=h
 cases rx
 cases ry
 obtain⟨its,r1,p1,_⟩:=I.tuple ha
 obtain⟨its2,r2,p2,_⟩:=I.tuple hb
 refine HT.jZ p1 p2 (fun z=>hx (r1.vQ.mp z)) (fun z=>⟨.ref a,H,I,rfl,q1 (r2.vQ.mp z)⟩) (fun z=>?_) (by rw[← r1.length,← r2.length];exact hz)
 refine⟨.ref s.heap.objs.size,_,I.laid (t':=s.toks) (o:=.tup (xs ++ ys)) (fun b ob q=>Heap.get?_push_of_some _ q) (Nat.le_refl _) ?_,rfl,q2 (fun w=>z (r2.vQ.mpr w)) _ (I.hok.fresh (Nat.le_refl _))⟩
 exact⟨by rw[List.length_append];exact hz,_,r1.append r2,Zb.new _ _⟩
end
noncomputable def ixN(n:Nat)(i:Int):Option Nat:=if 0≤i then (if i<n then some i.toNat else none) else if -(n:Int)≤i then some (i+n).toNat else none
noncomputable def jt{α:Type}(xs:List α)(i:Int):Option α:=(ixN xs.length i).bind fun j=>xs[j]?
theorem jf{n:Nat}{i:Int}{j:Nat}(h:ixN n i=some j):seqIndex? i n=some j∧j<n∧-(n:Int)≤i∧i<n:=by
 unfold ixN at h
 by_cases h0:0≤i
 · rw[if_pos h0] at h
   by_cases h1:i<n
   · rw[if_pos h1] at h
     have e:i.toNat=j:=Option.some.inj h
     exact⟨by rw[seqIndex_of h0 h1,e],by omega,by omega,h1⟩
   · rw[if_neg h1] at h;cases h
 · rw[if_neg h0] at h
   by_cases h1:-(n:Int)≤i
   · rw[if_pos h1] at h
     have e:(i+n).toNat=j:=Option.some.inj h
     exact⟨by rw[seqIndex_neg (by omega) h1,e],by omega,h1,by omega⟩
   · rw[if_neg h1] at h;cases h
theorem Vd{α:Type}{xs:List α}{i:Int}{v:α}(h:jt xs i=some v):∃ j,seqIndex? i xs.length=some j∧xs[j]?=some v∧j<xs.length∧-(xs.length:Int)≤i∧i<xs.length:=by
 unfold jt at h
 cases e:ixN xs.length i with
 | none=>rw[e] at h;cases h
 | some j =>
   rw[e] at h
   obtain⟨h1,h2,h3,h4⟩:=jf e
   exact⟨j,h1,h,h2,h3,h4⟩
theorem zY{α:Type}{xs:List α}{j:Nat}{v:α}(h:xs[j]?=some v):jt xs (j:Int)=some v:=by
 have hj:j<xs.length:=(List.getElem?_eq_some_iff.mp h).1
 have e:ixN xs.length (j:Int)=some j:=by
  unfold ixN
  rw[if_pos (by omega),if_pos (by omega)];simp
 unfold jt;rw[e];exact h
noncomputable def z3b(b:Expr):Prop:=∀ o i,subscripted b false o i=operate [o,i] (getItem o i)
noncomputable def IxR(X:Cx)(r:R2):Prop :=
 ∀ (value slice:Expr) (pins:List (Addr×Obj)) (s:Shared) (σ:St) (H:Hp) (x y:V) (v u:Value) (Q:VK),Inv X pins σ H s→RelV x v→RelV y u→r x y H Q →
   subscripted slice false v u=operate [v,u] (getItem v u)→wpAny (model X.prog X.w) X.A (subscriptTail value slice v u) (EP X pins σ Q) X.xe s
noncomputable def MtR(X:Cx)(id:String)(r:V→List V→Hp→VK→Prop):Prop :=
 ∀ (pins:List (Addr×Obj)) (s:Shared) (σ:St) (H:Hp) (x:V) (xs:List V) (v:Value) (us:List Value) (Q:VK),Inv X pins σ H s→RelV x v→Vals xs us→r x xs H Q →
   wpAny (model X.prog X.w) X.A (call (.builtin id) (v :: us)) (EP X pins σ Q) X.xe s
section
variable{X:Cx}{a b:Expr}{ta tb:TE}{pos:Pos}
theorem zD{r:R2}(hr:IxR X r)(ha:PE X a ta)(hb:PE X b tb)(hs:z3b b):PE X (.Subscript a b pos) (tOp r ta tb):=by
 intro pins s σ H Q I h
 exact Subscript_ (z4v ha hb I h fun v u s2 x y H2 I2 rx ry q=>hr a b pins s2 σ H2 x y v u Q I2 rx ry q (hs _ _))
noncomputable def z5o(K:PySem.W.Frag):R2:=fun x y H Q=>∃ p xs i v,x=.ref p∧y=.int i∧z7 K H p xs∧jt xs i=some v∧Q v H
noncomputable def z5X(K:PySem.W.Frag):R2:=fun x y H Q=>∃ p xs i v,x=.ref p∧y=.int i∧z5 K H p xs∧jt xs i=some v∧Q v H
theorem z9:IxR X (z5o X.K):=by
 intro value slice pins s σ H x y v u Q I rx ry h hs
 obtain⟨p,xs,i,z,rfl,rfl,hq,he,q⟩:=h
 cases rx
 obtain⟨t,rfl⟩:=ry
 obtain⟨its,r,pl,hz⟩:=I.list hq
 obtain⟨j,h1,h2,h3,h4,h5⟩:=Vd he
 obtain⟨w,ew,rw'⟩:=r.get h2
 have hl:=r.length
 have hn:=XC
 have fin:EP X pins σ Q w s:=⟨z,H,I,rw',q⟩
 by_cases h0:0≤i
 · have hj:i.toNat=j:=by
    rw[seqIndex_of h0 h5] at h1
    exact Option.some.inj h1
   exact item_listR pl.isList h0 (by omega) (by rw[hj];simpa using ew) fin hs
 · have hj:(i+(its.toArray.size:Int)).toNat=j:=by
    rw[seqIndex_neg (by omega) h4] at h1
    rw[List.size_toArray,← hl]
    exact Option.some.inj h1
   exact subscriptTail_builtinR (x:=w) pl.isList.typeIs slot_list_getitem.lookup
    (wpAny_getItem_list_neg (Q:=fun r s'=>r=w∧EP X pins σ Q r s') pl.isList (by omega) (by rw[List.size_toArray] <;> omega) (by omega) (by rw[hj];simpa using ew) ⟨rfl,fin⟩) hs
theorem zN:IxR X (z5X X.K):=by
 intro value slice pins s σ H x y v u Q I rx ry h hs
 obtain⟨p,xs,i,z,rfl,rfl,hq,he,q⟩:=h
 cases rx
 obtain⟨t,rfl⟩:=ry
 obtain⟨its,r,pl,hz⟩:=I.tuple hq
 obtain⟨j,h1,h2,h3,h4,h5⟩:=Vd he
 obtain⟨w,ew,rw'⟩:=r.get h2
 have hl:=r.length
 have hn:=XC
 have fin:EP X pins σ Q w s:=⟨z,H,I,rw',q⟩
 exact subscriptTail_builtinR (x:=w) pl.typeIs slot_tuple_getitem.lookup
  (getItem_tuple (j:=j) (Q:=fun r s'=>r=w∧EP X pins σ Q r s') pl (by omega) (by omega) (by rw[List.size_toArray,← hl];exact h1) (by simpa using ew) ⟨rfl,fin⟩) hs
theorem U1(its:List Value)(n j:Nat)(u:Value):Obj.mapSeq (·.setIfInBounds j u) { cls:=.type "list",data:=.seq its.toArray n }={ cls:=.type "list",data:=.seq (its.set j u).toArray n }:=by
 simp[Obj.mapSeq]
theorem Inv.lst{pins:List (Addr×Obj)}{σ:St}{H:Hp}{s:Shared}{p:Addr}{xs:List V}(I:Inv X pins σ H s)(h:H p=some (.lst xs)) :
 ∃ (its:List Value) (n:Nat),Vals xs its∧s.heap.get? p=some { cls:=.type "list",data:=.seq its.toArray n }∧xs.length≤sizeLine:=by
 obtain⟨z,its,n,r,e⟩:=I.hok p _ h
 exact⟨its,n,r,e,z⟩
theorem Inv.z0u{pins:List (Addr×Obj)}{σ:St}{H:Hp}{s:Shared}{p:Addr}{xs ys:List V}{its its':List Value}{n n':Nat}{f:Obj→Obj}(I:Inv X pins σ H s)(h:H p=some (.lst xs))
 (ho:s.heap.get? p=some { cls:=.type "list",data:=.seq its.toArray n }) (hf:f { cls:=.type "list",data:=.seq its.toArray n }={ cls:=.type "list",data:=.seq its'.toArray n' }) (r:Vals ys its') (hz:ys.length≤sizeLine) (t:Nat) :
 Inv X pins σ (upd H p (.lst ys)) { s with heap:=s.heap.update p f,toks:=t }:=by
 have e:(s.heap.update p f).get? p=some { cls:=.type "list",data:=.seq its'.toArray n' }:=by
  rw[Heap.get?_update_self f ho (by rw[hf] <;> rfl),hf]
 refine I.write (x:=p) (e:=p) (by rw[h];trivial) (.inl rfl) (fun b u hb q=>(Heap.get?_update_other _ _ (Ne.symm hb)).trans q) ⟨_,e⟩ ?_
 exact⟨hz,its',n',r,e⟩
noncomputable def z6u:V→V→V→Hp→(Hp→Prop)→Prop:=fun o i v H Q=>∃ p xs k j,o=.ref p∧i=.int k∧H p=some (.lst xs)∧ixN xs.length k=some j∧Q (upd H p (.lst (xs.set j v)))
theorem set_list:z4U X z6u:=by
 intro pins s σ H o i v ov iv u Q I ro ri rv h
 obtain⟨p,xs,k,j,rfl,rfl,hp,hj,q⟩:=h
 cases ro
 obtain⟨t,rfl⟩:=ri
 obtain⟨its,n,r,ho,hz⟩:=I.lst hp
 obtain⟨h1,h2,h3,h4⟩:=jf hj
 have hl:=r.length
 have hn:=XC
 have I':Inv X pins σ (upd H p (.lst (xs.set j v))) { s with heap:=s.heap.update p (Obj.mapSeq (·.setIfInBounds j u)) } :=
  I.z0u hp ho (U1 its n j u) (r.set rv j) (by rw[List.length_set];exact hz) s.toks
 by_cases h0:0≤k
 · have hk:k.toNat=j:=by
    rw[seqIndex_of h0 h4] at h1
    exact Option.some.inj h1
   exact PySem.W.ki_setAt ho h0 (by omega) (by rw[List.size_toArray,← hl];exact h4) (by rw[hk];exact⟨_,I',q⟩)
 · have hk:(k+(its.toArray.size:Int)).toNat=j:=by
    rw[seqIndex_neg (by omega) h3] at h1
    rw[List.size_toArray,← hl]
    exact Option.some.inj h1
   exact PySem.W.ki_setBack ho (by omega) (by rw[List.size_toArray,← hl];exact h3) (by omega) (by rw[hk];exact⟨_,I',q⟩)
theorem VE(lo hi:Option Int)(n:Nat):(sliceBounds lo hi none n).1=((HT.Z8 n 0 lo:Nat):Int)∧(sliceBounds lo hi none n).2.1=((HT.Z8 n n hi:Nat):Int)∧(sliceBounds lo hi none n).2.2=1:=by
 refine⟨?_,?_,rfl⟩
 · cases lo with
   | none=>simp[sliceBounds,HT.Z8]
   | some i =>
     simp only[sliceBounds,HT.Z8,Option.getD_none,show (1:Int) > 0 by decide,if_true]
     by_cases h:i<0
     · simp only[h,if_true] <;> omega
     · simp only[h,if_false] <;> omega
 · cases hi with
   | none=>simp[sliceBounds,HT.Z8]
   | some i =>
     simp only[sliceBounds,HT.Z8,Option.getD_none,show (1:Int) > 0 by decide,if_true]
     by_cases h:i<0
     · simp only[h,if_true] <;> omega
     · simp only[h,if_false] <;> omega
theorem Qz(its:List Value)(lo hi:Option Int):slicePick its.toArray lo hi none=((its.drop (HT.Z8 its.length 0 lo)).take (HT.Z8 its.length its.length hi - HT.Z8 its.length 0 lo)).toArray:=by
 obtain⟨h1,h2,h3⟩:=VE lo hi its.toArray.size
 unfold slicePick
 rw[h1,h2,h3]
 simp only[sliceRange_one,pick_run,List.size_toArray] <;> rfl
noncomputable def z7k(K:PySem.W.Frag):V→Option Int→Option Int→Hp→VK→Prop:=fun x lo hi H Q=>∃ a xs,x=.ref a∧z7 K H a xs∧∀ p,H p=none→Q (.ref p) (upd H p (.lst (yl xs lo hi)))
theorem z2k:SlR X (z7k X.K):=by
 intro pins s σ H x v vl vu lo hi sl Q I rx hs pl pu h
 obtain⟨a,xs,rfl,hx,q⟩:=h
 cases rx
 obtain⟨its,r,ht,hz⟩:=I.list hx
 have hlen:=r.length
 refine⟨"list",_,slot_list_getitem.lookup,ht.isList.typeIs,?_⟩
 refine wpAny_getItem_list_slice ht.isList hs pl pu .none (by simp) ?_ (by rw[List.size_toArray] <;> omega)
 rw[Qz,← hlen]
 refine⟨.ref s.heap.objs.size,_,I.laid (t':=s.toks) (o:=.lst (yl xs lo hi)) (fun b ob q=>Heap.get?_push_of_some _ q) (Nat.le_refl _) ?_,rfl,q _ (I.hok.fresh (Nat.le_refl _))⟩
 exact⟨Nat.le_trans (YX xs lo hi) hz,_,0,(r.drop (HT.Z8 xs.length 0 lo)).take (HT.Z8 xs.length xs.length hi - HT.Z8 xs.length 0 lo),Heap.get?_push_size _ rfl⟩
noncomputable def z3t:V→Bool
 | .non=>true
 | .bl _=>true
 | .int _=>true
 | .str _=>true
 | _=>false
noncomputable def eqV:V→V→Bool
 | .non,.non=>true
 | .bl a,.bl b=>a == b
 | .bl a,.int b=>(if a then 1 else 0) == b
 | .int a,.bl b=>a == (if b then 1 else 0)
 | .int a,.int b=>a == b
 | .str a,.str b=>a == b
 | _,_=>false
theorem Vx{A:Around}{s:Shared}{y x:V}{u v:Value}(ry:RelV y u)(rx:RelV x v)(fy:z3t y=true)(fx:z3t x=true):SeqAt.EqAt A s u v (eqV y x):=by
 cases y with
 | non =>
   cases ry
   cases x with
   | non=>cases rx;exact SeqAt.EqAt.same _
   | bl b=>cases rx;exact SeqAt.EqAt.none_bool b
   | int b=>obtain⟨t,rfl⟩:=rx;exact SeqAt.EqAt.none_int b t
   | str b=>obtain⟨t,rfl⟩:=rx;exact SeqAt.EqAt.none_str b t
   | _=>exact absurd (show false=true from fx) Bool.false_ne_true
 | bl a =>
   cases ry
   cases x with
   | non=>cases rx;exact SeqAt.EqAt.bool_none a
   | bl b=>cases rx;exact SeqAt.EqAt.bool_bool a b
   | int b=>obtain⟨t,rfl⟩:=rx;exact SeqAt.EqAt.bool_int a b t
   | str b=>obtain⟨t,rfl⟩:=rx;exact SeqAt.EqAt.bool_str a b t
   | _=>exact absurd (show false=true from fx) Bool.false_ne_true
 | int a =>
   obtain⟨t',rfl⟩:=ry
   cases x with
   | non=>cases rx;exact SeqAt.EqAt.int_none a t'
   | bl b=>cases rx;exact SeqAt.EqAt.int_bool a t' b
   | int b=>obtain⟨t,rfl⟩:=rx;exact SeqAt.EqAt.int_int a t' b t
   | str b=>obtain⟨t,rfl⟩:=rx;exact SeqAt.EqAt.int_str a t' b t
   | _=>exact absurd (show false=true from fx) Bool.false_ne_true
 | str a =>
   obtain⟨t',rfl⟩:=ry
   cases x with
   | non=>cases rx;exact SeqAt.EqAt.str_none a t'
   | bl b=>cases rx;exact SeqAt.EqAt.str_bool a t' b
   | int b=>obtain⟨t,rfl⟩:=rx;exact SeqAt.EqAt.str_int a t' b t
   | str b=>obtain⟨t,rfl⟩:=rx;exact SeqAt.EqAt.str_str a t' b t
   | _=>exact absurd (show false=true from fx) Bool.false_ne_true
 | _=>exact absurd (show false=true from fy) Bool.false_ne_true
theorem Zh:ye X (.builtin "len") (fun xs H Q=>∃ p ys,xs=[.ref p]∧(z7 X.K H p ys∨z5 X.K H p ys)∧Q (.int ys.length) H):=by
 intro pins s σ H xs us Q I r h
 obtain⟨p,ys,rfl,hq,q⟩:=h
 obtain⟨u,rfl,rx⟩:=vals1 r
 cases rx
 have hn:=XC
 rcases hq with hq | hq
 · obtain⟨its,r',pl,hz⟩:=I.list hq
   have hlen:=r'.length
   exact Calls.call_len_list pl.isList (by simp only[List.size_toArray] <;> omega) ⟨.int ys.length,H,I.tok _,⟨s.toks+1,by rw[List.size_toArray,hlen]⟩,q⟩
 · obtain⟨its,r',pl,hz⟩:=I.tuple hq
   have hlen:=r'.length
   exact len_tuple pl (by simp only[List.size_toArray] <;> omega) ⟨.int ys.length,H,I.tok _,⟨s.toks+1,by rw[List.size_toArray,hlen]⟩,q⟩
theorem Vu:ye X (.type "list") (fun xs H Q=>∃ p ys,xs=[.ref p]∧(z7 X.K H p ys∨z5 X.K H p ys)∧∀ l,H l=none→Q (.ref l) (upd H l (.lst ys))):=by
 intro pins s σ H xs us Q I r h
 obtain⟨p,ys,rfl,hq,q⟩:=h
 obtain⟨u,rfl,rx⟩:=vals1 r
 cases rx
 have fin:∀ (its:List Value),Vals ys its→ys.length≤sizeLine→∀ (h':Heap) (c':Nat),(∀ b o',s.heap.get? b=some o'→h'.get? b=some o') →
  h'.get? s.heap.objs.size=some { cls:=.type "list",dict:=none,data:=.seq its.toArray c',slots:=#[] }→EP X pins σ Q (.ref s.heap.objs.size) { s with heap:=h' }:=fun its r' hz h' c' kp e =>
  ⟨.ref s.heap.objs.size,_,I.laid (t':=s.toks) kp (Nat.le_refl _) (show Zy X.prog X.w _ h' _ (.lst ys) from ⟨hz,its,c',r',e⟩),rfl,q _ (I.hok.fresh (Nat.le_refl _))⟩
 rcases hq with hq | hq
 · obtain⟨its,r',pl,hz⟩:=I.list hq
   have hlen:=r'.length
   obtain⟨o,ho,hc,n,hd⟩:=pl.isList
   exact call_list_seq p (.inl rfl) ho hc hd (fun h' c' kp e=>fin its r' hz h' c' kp e) (by simp only[List.size_toArray] <;> omega)
 · obtain⟨its,r',pl,hz⟩:=I.tuple hq
   have hlen:=r'.length
   obtain⟨o,ho,hc,n,hd⟩:=pl
   exact call_list_seq p (.inr rfl) ho hc hd (fun h' c' kp e=>fin its r' hz h' c' kp e) (by simp only[List.size_toArray] <;> omega)
theorem Qu:ye X (.type "tuple") (fun xs H Q=>∃ p ys,xs=[.ref p]∧((z7 X.K H p ys∧∀ l,H l=none→Q (.ref l) (upd H l (.tup ys)))∨(z5 X.K H p ys∧Q (.ref p) H))):=by
 intro pins s σ H xs us Q I r h
 obtain⟨p,ys,rfl,h⟩:=h
 obtain⟨u,rfl,rx⟩:=vals1 r
 cases rx
 rcases h with⟨hq,q⟩|⟨hq,q⟩
 · obtain⟨its,r',pl,hz⟩:=I.list hq
   have hlen:=r'.length
   refine call_tuple_list pl.isList (fun h' kp=>?_) (by simp only[List.size_toArray] <;> omega)
   have I1:Inv X pins σ H { s with heap:=h' }:=I.kept (t':=s.toks) kp
   have I2:Inv X pins σ (upd H h'.objs.size (.tup ys)) { s with heap:=h'.push { cls:=.type "tuple",data:=.seq its.toArray } } :=
    I1.laid (t':=s.toks) (fun b o e=>Heap.get?_push_of_some _ e) (Nat.le_refl _) (show Zy X.prog X.w _ _ _ (.tup ys) from ⟨hz,its,r',Zb.new _ _⟩)
   exact⟨.ref h'.objs.size,_,I2,rfl,q _ (I1.hok.fresh (Nat.le_refl _))⟩
 · obtain⟨its,r',pl,hz⟩:=I.tuple hq
   exact call_tuple_same pl ⟨.ref p,H,I,rfl,q⟩
noncomputable def tyV(K:PySem.W.Frag)(T:String)(x:V)(H:Hp):Prop:=match x with
 | .str _=>T="str"
 | .int _=>T="int"
 | .ref p=>(T="list"∧∃ xs,z7 K H p xs)∨(T="tuple"∧∃ o,K.lookup p=some o∧o.cls=.type "tuple"∧o.dict=none) ∨
  (T="dict"∧((∃ kvs,H p=some (.dK kvs))∨∃ kvs,H p=some (.dT kvs)))∨(T="set"∧∃ S n,H p=some (.set S n))
 | _=>False
theorem z5h{pins:List (Addr×Obj)}{σ:St}{H:Hp}{s:Shared}{T:String}{x:V}{v:Value}(I:Inv X pins σ H s)(r:RelV x v)(ty:tyV X.K T x H) :
 s.TypeIs v T∧∀ a,v=.ref a→∃ ob,s.heap.get? a=some ob∧ob.dict=none:=by
 cases x with
 | str z =>
   obtain⟨t,rfl⟩:=r
   cases (show T="str" from ty)
   exact⟨typeIs_str s z t,fun _ e=>nomatch e⟩
 | int i =>
   obtain⟨t,rfl⟩:=r
   cases (show T="int" from ty)
   exact⟨typeIs_int s i t,fun _ e=>nomatch e⟩
 | ref p =>
   cases r
   rcases ty with⟨rfl,xs,hq⟩|⟨rfl,o,hk,hc,hd⟩|⟨rfl,hk⟩|⟨rfl,S,n,hk⟩
   · obtain⟨its,_,pl,_⟩:=I.list hq
     refine⟨pl.isList.typeIs,fun a e=>?_⟩
     cases e
     obtain⟨o,n,e,c,hd,_⟩:=pl
     exact⟨o,e,hd⟩
   · refine⟨⟨o,I.VL p o hk,hc⟩,fun a e=>?_⟩
     cases e
     exact⟨o,I.VL _ o hk,hd⟩
   · have z:∃ o,s.heap.get? p=some o∧o.ExactDict:=by
      rcases hk with⟨kvs,hk⟩|⟨kvs,hk⟩
      · obtain⟨_,_,_,_,o,_,_,e,ex,_⟩:=I.hok p _ hk
        exact⟨o,e,ex⟩
      · obtain⟨_,_,_,_,o,_,_,e,ex,_⟩:=I.hok p _ hk
        exact⟨o,e,ex⟩
     obtain⟨o,e,ex⟩:=z
     refine⟨⟨o,e,ex.1⟩,fun a e2=>?_⟩
     cases e2
     exact⟨o,e,ex.2.1⟩
   · obtain⟨o,_,_,_,e,ex,_⟩:=I.hok p _ hk
     refine⟨⟨o,e,ex.1⟩,fun a e2=>?_⟩
     cases e2
     exact⟨o,e,ex.2.1⟩
 | _=>exact False.elim ty
noncomputable def tBM(K:PySem.W.Frag)(T:String)(r:V→List V→Hp→VK→Prop)(to:TE)(t:TA):TE:=fun σ H Q=>to σ H fun x H1=>tyV K T x H1∧t σ H1 fun xs H2=>r x xs H2 Q
variable{o e:Expr}{es:List Expr}{to:TE}{t:TA}{name:Str}{apos cpos:Pos}{T id:String}{r:V→List V→Hp→VK→Prop}
theorem jR(pa:PlainAttrs T)(slot:Slot T name id)(hty:typeOf (.builtin id)=pure (.type "method_descriptor"))(hm:MtR X id r)(ho:PE X o to)(ha:PA X (e :: es) t)
 (hbase:attributeBase o name X.env (eval o X.env)=eval o X.env:=by rfl)
 (hfew:((backTo cpos (starEach (e :: es) X.env)).all (fun x=>!x.1) && (backToKw cpos (keywordEach [] X.env)).all (fun x=>x.1.isSome)
  && decide ((e :: es).length+([]:List Keyword).length+(if ([]:List Keyword).isEmpty then 0 else 1)<30))=true:=by rfl)
 (hline:(apos.endLine == cpos.line)=true:=by rfl) (hs:starEach (e :: es) X.env=(false,eval e X.env) :: starEach es X.env:=by rfl) (hplain:(backTo cpos (starEach es X.env)).any (·.1)=false:=by rfl) :
 PE X (.Call (.Attribute o name apos) (e :: es) [] cpos) (tBM X.K T r to t):=by
 intro pins s σ H Q I h
 refine wpAny_Call_method_late hbase hfew hline rfl (Zt (ho pins s σ H _ I h) fun v s1 ⟨x,H1,I1,r1,ty,q1⟩=>?_)
 obtain⟨h1,h2⟩:=z5h I1 r1 ty
 refine⟨T,id,pa,slot,hty,h1,h2,?_⟩
 have hA:=ha cpos pins s1 σ H1 _ I1 q1
 rw[hs] at hA ⊢
 refine Calls.callWith_builtin (by show (false || (backTo cpos (starEach es X.env)).any (·.1))=false;rw[hplain] <;> rfl) (Calls.evalArgs_plain ?_)
 exact Zt hA fun us s2 ⟨vs,H2,I2,r2,q2⟩=>hm pins s2 σ H2 x vs v us Q I2 r1 r2 q2
/- xs.append(e),list.index on a module's tuple .. are MtR facts of 06m -/
end
noncomputable def MtM(X:Cx)(id:String)(r:V→List V→Hp→VK→Prop):Prop :=
 ∀ (pins:List (Addr×Obj)) (s:Shared) (σ:St) (H:Hp) (x:V) (xs:List V) (v:Value) (us:List Value) (Q:VK),Inv X pins σ H s→RelV x v→Vals xs us→r x xs H Q →
   wpAny (model X.prog X.w) X.A (call (.builtin id) (v :: us)) (EP X pins σ Q) X.xe s
theorem Vals.one:∀ {x:V}{us:List Value},Vals [x] us→∃ u,us=[u]∧RelV x u
 | _,_,.cons r .nil=>⟨_,rfl,r⟩
theorem Vals.reverse{xs:List V}{us:List Value}(h:Vals xs us):Vals xs.reverse us.reverse:=by
 induction h with
 | nil=>exact .nil
 | cons r t ih=>rw[List.reverse_cons,List.reverse_cons];exact Vals.append ih (.cons r .nil)
theorem Vals.rep{xs:List V}{us:List Value}(h:Vals xs us):∀ k:Nat,Vals (List.replicate k xs).flatten (List.replicate k us).flatten
 | 0=>.nil
 | k+1=>by
   rw[List.replicate_succ,List.replicate_succ,List.flatten_cons,List.flatten_cons]
   exact Vals.append h (Vals.rep h k)
theorem foldl_rep(its:List Value):∀ (k:Nat) (acc:List Value),
 List.foldl (fun x1 x2=>x1 ++ x2) acc.toArray (List.replicate k its.toArray)=(acc ++ (List.replicate k its).flatten).toArray
 | 0,acc=>by simp
 | k+1,acc=>by
   have e:acc.toArray ++ its.toArray=(acc ++ its).toArray:=by simp
   have e2:(acc ++ its) ++ (List.replicate k its).flatten=acc ++ (List.replicate (k+1) its).flatten:=by
    rw[List.replicate_succ,List.flatten_cons,List.append_assoc]
   rw[← e2,← foldl_rep its k (acc ++ its),← e,List.replicate_succ,List.foldl_cons]
section
variable{X:Cx}{pins:List (Addr×Obj)}{σ:St}{H:Hp}{s:Shared}{l b:Addr}{xs ys zs:List V}
theorem Inv.z7B{its its':List Value}{n:Nat}{f:Array Value→Array Value}{t':Nat}(I:Inv X pins σ H s)(hH:H l=some (.lst xs))
 (e:s.heap.get? l=some { cls:=.type "list",data:=.seq its.toArray n }) (hf:f its.toArray=its'.toArray) (hv:Vals ys its') (hz:ys.length≤sizeLine) :
 Inv X pins σ (upd H l (.lst ys)) { s with heap:=s.heap.update l (Obj.mapSeq f),toks:=t' }:=by
 have q:=PySem.IsL.update e f
 rw[hf] at q
 refine I.write (x:=l) (e:=l) (by rw[hH];exact trivial) (.inl rfl) (fun b' u hb hu=>(Heap.get?_update_other s.heap (Obj.mapSeq f) (Ne.symm hb)).trans hu) ⟨_,q⟩ ?_
 exact⟨hz,its',_,hv,q⟩
theorem Inv.z5R{its:List Value}{t':Nat}(I:Inv X pins σ H s)(hv:Vals ys its)(hz:ys.length≤sizeLine) :
 Inv X pins σ (upd H s.heap.objs.size (.lst ys)) { s with heap:=s.heap.push { cls:=.type "list",data:=.seq its.toArray },toks:=t' } :=
 I.laid (fun _ _ q=>Heap.get?_push_of_some _ q) (Nat.le_refl _) ⟨hz,its,0,hv,Heap.get?_push_size _ rfl⟩
theorem Inv.fresh(I:Inv X pins σ H s):H s.heap.objs.size=none:=I.hok.fresh (Nat.le_refl _)
theorem Inv.z2W(I:Inv X pins σ H s)(hH:H l=some (.lst xs)):xs.length≤sizeLine∧∃ (its:List Value) (n:Nat),Vals xs its∧xs.length=its.length∧s.heap.get? l=some { cls:=.type "list",data:=.seq its.toArray n }:=by
 obtain⟨z,its,n,r,e⟩:=I.hok l _ hH
 exact⟨z,its,n,r,r.length,e⟩
theorem z0s{n:Nat}(h:n≤sizeLine):Builtin.List.listTooLong n=false:=by
 unfold Builtin.List.listTooLong
 exact decide_eq_false (by omega)
end
section
variable{X:Cx}
noncomputable def z2g:V→List V→Hp→VK→Prop:=fun x vs H Q=>∃ l xs y,x=.ref l∧vs=[y]∧H l=some (.lst xs)∧xs.length<sizeLine∧Q .non (upd H l (.lst (xs ++ [y])))
theorem ym:MtM X "list.append" z2g:=by
 intro pins s σ H x vs v us Q I rx rv h
 obtain⟨l,xs,y,rfl,rfl,hH,hz,q⟩:=h
 cases rx
 obtain⟨u,rfl,ru⟩:=rv.one
 obtain⟨z,its,n,r,hl,e⟩:=I.z2W hH
 refine call_meets F.slot_list_append ⟨_,e,rfl⟩ F.entry_list_append (F.args_list_append_2 _ _) (PySem.list_append l its.toArray n u (by rw[List.size_toArray];omega)) ⟨e,?_⟩
 refine⟨.non,_,I.z7B (its':=its ++ [u]) hH e (by simp) (r.append (.cons ru .nil)) ?_,rfl,q⟩
 rw[List.length_append,List.length_singleton]
 omega
noncomputable def z7T:R2:=fun x y H Q=>∃ l b xs zs,x=.ref l∧y=.ref b∧H l=some (.lst xs)∧H b=some (.lst zs)∧xs.length+zs.length≤sizeLine∧∀ p,H p=none→Q (.ref p) (upd H p (.lst (xs ++ zs)))
theorem z0h:xw X (binaryOp .Add) z7T:=by
 intro pins s σ H x y v u Q I rx ry h
 obtain⟨l,b,xs,zs,rfl,rfl,hH,hB,hz,q⟩:=h
 cases rx
 cases ry
 obtain⟨z,its,n,r,hl,e⟩:=I.z2W hH
 obtain⟨z2,its2,n2,r2,hl2,e2⟩:=I.z2W hB
 refine PySem.P.add_list e e2 ?_ (by rw[List.size_toArray,List.size_toArray];omega)
 have ea:its.toArray ++ its2.toArray=(its ++ its2).toArray:=by simp
 rw[ea]
 exact⟨.ref _,_,I.z5R (t':=s.toks) (r.append r2) (by rw[List.length_append];omega),rfl,q _ I.fresh⟩
noncomputable def z6Y:R2:=fun x y H Q=>∃ l k xs,x=.ref l∧y=.int k∧H l=some (.lst xs)∧-(2 ^ 63)≤k∧k<2 ^ 63∧xs.length * k.toNat≤sizeLine ∧
 ∀ p,H p=none→Q (.ref p) (upd H p (.lst (List.replicate k.toNat xs).flatten))
theorem len_rep{α:Type}(xs:List α)(k:Nat):(List.replicate k xs).flatten.length=k * xs.length:=by
 induction k with
 | zero=>simp
 | succ k ih=>rw[List.replicate_succ,List.flatten_cons,List.length_append,ih,Nat.succ_mul,Nat.add_comm]
theorem z0w:xw X (binaryOp .Mult) z6Y:=by
 intro pins s σ H x y v u Q I rx ry h
 obtain⟨l,k,xs,rfl,rfl,hH,h1,h2,hz,q⟩:=h
 cases rx
 obtain⟨t,rfl⟩:=ry
 obtain⟨z,its,n,r,hl,e⟩:=I.z2W hH
 have hlen:its.toArray.size * k.toNat≤sizeLine:=by rw[List.size_toArray,← hl];exact hz
 have hcap:¬ its.toArray.size * k.toNat > (2 ^ 63 - 1) / 8:=by
  have:(sizeLine:Nat)≤(2 ^ 63 - 1) / 8:=by decide
  omega
 have hfit:¬ (!Builtin.List.listFitsIndex k)=true:=by
  rw[fitsIndex_both h1 h2]
  exact Bool.false_ne_true
 have hlong:¬ Builtin.List.listTooLong (its.toArray.size * k.toNat)=true:=by
  rw[z0s hlen]
  exact Bool.false_ne_true
 have hnew:List.foldl (fun x1 x2=>x1 ++ x2) #[] (List.replicate (if its.toArray.isEmpty=true then 0 else k.toNat) its.toArray)=(List.replicate k.toNat its).flatten.toArray:=by
  have f0:∀ m:Nat,List.foldl (fun x1 x2=>x1 ++ x2) #[] (List.replicate m its.toArray)=(List.replicate m its).flatten.toArray:=fun m=>by
   have:=foldl_rep its m []
   rw[List.nil_append] at this
   exact this
  rw[f0]
  cases its with
  | nil=>simp
  | cons a r'=>rw[if_neg (by simp)]
 refine wpAny_binaryOp_repeat_ref (T:="list") (U:="int") (by decide) ⟨_,e,rfl⟩ (fun s'=>typeIs_int s' k t) noFill_list_mul F.fills_int_mul F.slot_int_rmul repeat_list F.slot_int_index.lookup
  (call_meets F.slot_int_rmul (typeIs_int s k t) F.entry_int_rmul (F.args_int_rmul_2 _ _) (int___rmul___int_list k t l its.toArray n)
   ⟨e,rfl,⟨_,e,rfl⟩,call_meets F.slot_list_mul ⟨_,e,rfl⟩ F.entry_list_mul (F.args_list_mul_2 _ _) (AutoListH.list___mul___list_int_3 l its.toArray n k t hfit hcap hlong) ⟨e,?_⟩⟩)
 rw[hnew]
 exact⟨.ref _,_,I.z5R (t':=s.toks) (r.rep k.toNat) (by rw[len_rep,Nat.mul_comm];exact hz),rfl,q _ I.fresh⟩
end
section
variable{prog:Program}{w:World}{A:Around}{E:Value→Shared→Prop}{s:Shared}
end
section
variable{X:Cx}
end
end L2
namespace Att
open PySem PySem.W PySem.Calls PyProof.Rows
theorem X0{P:Params}{h:Heap}:∀ (ns:List Int) (vs:List Value),WellAll P h vs (ns.map WData.int)→IntsAre vs ns:=by
 intro ns
 induction ns with
 | nil =>
   intro vs w
   rw[List.map_nil] at w
   cases w
   exact .nil
 | cons n ns ih =>
   intro vs w
   rw[List.map_cons] at w
   cases w with
   | cons a b =>
     cases a
     exact .cons _ _ (ih _ b)
theorem Jz{l:OpenLaw}{n:Nat}(hn:l.most=some n){P:Params}{h:Heap}{args:List WData}{vals:List Value}
 (hpre:l.row.toRowW.claim.pre args=true) (hwl:WellAll P h vals args) :
 ∃ a vs ns,vals=[Value.ref a]∧args=[WData.list (ns.map WData.int)]∧h.get? a=some { cls:=.type "list",data:=.seq vs.toArray }∧IntsAre vs ns∧ns.length≤n:=by
 have hsh:WShape.hasAll [] args [.list .int]=true:=(pre_splitW hpre).1
 have hc:l.pre.holds [] { args:=args }=true:=(pre_splitW hpre).2
 obtain⟨d,r,rfl,h1,h2⟩:=hasAllW_cons hsh
 obtain rfl:=hasAllW_nil h2
 obtain⟨xs,rfl,h3⟩:=hasW_list h1
 obtain⟨ns,rfl⟩:=items_int h3
 have hlen:ns.length≤n:=by
  unfold OpenLaw.pre at hc
  have h4:(WTm.not (.lt (.lit (.int (n:Int))) (.len (.arg 0)))).holds [] { args:=[.list (ns.map .int)] }=true:=by
   have h4:=(holds_andW hc).1
   rw[hn] at h4
   exact h4
  have h5:=condW_of h4 (w_not (w_lt w_lit (w_len_list (w_arg rfl))))
  rw[List.length_map] at h5
  refine Nat.le_of_not_lt fun q=>?_
  have q':(n:Int)<((ns.length:Nat):Int):=by omega
  first
   | (rw[decide_eq_true q'] at h5;exact absurd h5 (by decide))
   | (simp at h5;omega)
 cases hwl with
 | cons w1 w2 =>
   cases w2
   cases w1 with
   | list ho hall=>exact⟨_,_,ns,rfl,rfl,ho,X0 ns _ hall,hlen⟩
theorem j8(l:OpenLaw)(args:List WData):l.row.toRowW.claim.post args (.bool true) args=true :=
 postW_of (r:=l.row.toRowW) (X:=(true == true))
  (show WShape.has [] (.bool true) .bool=true by first | rfl | decide | simp[WShape.has,WShape.arms,WShape.armsAll])
  (show (WTm.eq .res (.lit (.bool true))).value [] { args:=args,res:=some (.bool true),after:=args }=some (.bool (true == true)) from w_eq_bool (w_res rfl) w_lit) rfl
theorem uq{l:OpenLaw}{n:Nat}{q:Program}{loose:List Str}{XP:(Str→Option Value)→Heap→Prop}{YP:World→Heap→Prop}{d:DefRec}
 (hn:l.most=some n) (hdf:d.params.defaults=[])
 (call:∀ (w:World) (s₀ s₁:Shared) (mg mb:Str→Option Value) (fa:Addr) (o:Obj) (pm cd doc:Value) (a:Addr) (vs:List Value) (ns:List Int),
  Ground q loose [] XP w s₀ mg mb s₁.heap→YP w s₁.heap →
  s₁.heap.get? fa=some o→o.data=.func (docDef d.name d.params d.body d.scope pm cd doc)→s₁.heap.CodeRec cd d.name→mg d.name=some (.ref fa) →
  s₁.heap.get? a=some { cls:=.type "list",data:=.seq vs.toArray }→IntsAre vs ns→ns.length≤n→s₁.gens=#[] →
  codeAny (model l.prog w) callerA (.call (.ref fa) ⟨[.ref a],[]⟩) (fun r s'=>r=.ok (.ret (.bool true))∧OldK s₁.heap s'.heap∧s'.os=s₁.os∧AllBare s'.gens) s₁) :
 WalkO q loose XP YP l.row.toRowW d [] (fun f vs=>PySem.call f vs):=by
 intro w s₀ s₁ mg mb G Y fa o pm cd doc dV kV ho hd hcd hD hmg hg args vals as hpre hlay hrd hwl hlo
 obtain rfl:dV=.none:=Dflts.none hD hdf
 obtain rfl:kV=.none:=Dflts.noKw hD
 obtain⟨a,vs,ns,rfl,rfl,hobj,hints,hlen⟩:=Jz hn hpre hwl
 refine enter_call (codeAny_mono (call w s₀ s₁ mg mb fa o pm cd doc a vs ns G Y ho (fd_plain hd) hcd hmg hobj hints hlen hg) fun r s' hq=>?_)
 obtain⟨rfl,h2,h3,h4⟩:=hq
 exact⟨.inl ⟨.bool true,.bool true,[],rfl,fun _=>rfl,.bool true,j8 l _,fun _=>⟨List.Pairwise.nil,fun _ hm=>(nomatch hm)⟩⟩,h2,h3,h4⟩
section
variable{prog:Program}{w:World}{A:Around}{E:Value→Shared→Prop}{s:Shared}{K:Frag}
end
end Att
namespace L2
open PySem PySem.Spec PyProof.Rows
theorem vd:∀ {vs:List Value}{ns:List Int},IntsAre vs ns→Vals (ns.map V.int) vs
 | _,_,.nil=>.nil
 | _,_,.cons n t h=>.cons ⟨t,rfl⟩ (vd h)
noncomputable def z4H(H:Hp):Prop:=∀ b,H b=none∨∃ o xs,H b=some (.frz o (.lst xs))
theorem z1F{P:Program}{w:World}{K:PySem.W.Frag}{mg mb:Str→Option Value}{CX:JH}{k:Nat}{fa a:Addr}{fd:FuncData}{x:Str}{sp:Sp}{s₁:Shared}{vs:List Value}{ns:List Int}
 (KX:K.In s₁.heap) (hns:s₁.heap.Ns mainGlobals mg) (hb:s₁.heap.Ns builtinsNs mb) (hbb:∀ x:Str,x≠"__name__"→mb x=bootBuiltins x) (hlim:s₁.heap.NoLimit) (hg:s₁.gens=#[])
 (ha:s₁.heap.get? a=some { cls:=.type "list",data:=.seq vs.toArray }) (hi:IntsAre vs ns) (hl:ns.length≤sizeLine) (hr:yQ k callerA)
 (F:∀ base:Heap,K.In base→base.Ns mainGlobals mg→ZY P w K mg base CX k fa fd [x] sp) (hbind:∀ (s:Shared) (u:Value),BindsTo s fd ⟨[u],[]⟩ [(x,u)])
 (hsp:∀ H:Hp,z4H H→z7 K H a (ns.map V.int)→sp [.ref a] H (fun v _=>v=.bl true) fun _ _ _=>False)
 (hCX:∀ H e s',CX [] H s₁ (fun _ _ _=>False) e s'→False) :
 codeAny (model P w) callerA (.call (.ref fa) ⟨[.ref a],[]⟩) (fun r s'=>r=.ok (.ret (.bool true))∧OldK s₁.heap s'.heap∧s'.os=s₁.os∧AllBare s'.gens) s₁:=by
 have rv:=vd hi
 have lenV:=hi.length
 have core:∀ H:Hp,z4H H→z7 K H a (ns.map V.int)→XN P w H s₁.heap→(∀ b,H b≠none→b=a)→(H a≠none→K.lookup a=none) →
  codeAny (model P w) callerA (.call (.ref fa) ⟨[.ref a],[]⟩) (fun r s'=>r=.ok (.ret (.bool true))∧OldK s₁.heap s'.heap∧s'.os=s₁.os∧AllBare s'.gens) s₁:=by
  intro H hO hS hok hA hK
  have base_of:∀ {b:Addr}{o:Obj},s₁.heap.get? b=some o→H b=none→(VF s₁.heap H).get? b=some o:=fun e n=>z1H e n
  have noA:∀ {b:Addr}{o:Obj}{es:Array DictEntry}{ep:Nat},s₁.heap.get? b=some o→o.data=.dict es ep→H b=none:=fun {b o es ep} e d=>by
   cases q:H b with
   | none=>rfl
   | some u =>
     have e':b=a:=hA b (by rw[q];simp)
     subst e'
     rw[ha] at e;cases e
     have d':Data.seq vs.toArray _=Data.dict es ep:=d
     cases d'
  have nsK:∀ {b:Addr}{m:Str→Option Value},s₁.heap.Ns b m→(VF s₁.heap H).Ns b m:=fun {b m} ⟨o,es,ep,e,d,r⟩=>⟨o,es,ep,base_of e (noA e d),d,r⟩
  have hKb:K.In (VF s₁.heap H):=fun b o e=>base_of (KX b o e) (by
   cases q:H b with
   | none=>rfl
   | some u =>
     have e':b=a:=hA b (by rw[q];simp)
     subst e'
     rw[hK (by rw[q];simp)] at e;cases e)
  have hM:Mod K mg (VF s₁.heap H):=⟨hKb,nsK hns,⟨mb,nsK hb,hbb⟩,let ⟨mc,h1,h2⟩:=hlim;⟨mc,nsK h1,h2⟩⟩
  have e0:z2r P w K mg (VF s₁.heap H) callerA [] s₁ H:=⟨rfl,hM,fun b o e=>z2p e,Nat.le_of_eq (Ju _ _),trivial,fun b hb=>absurd (show b∈([]:List Addr) from hb) (by simp),hok,.of_eq hg⟩
  refine codeAny_mono ((F _ hKb (nsK hns)).run callerA [] s₁ H ⟨[.ref a],[]⟩ [.ref a] [.ref a] _ _ hr e0 (hbind s₁ (.ref a)) (.cons rfl .nil) (hsp H hO hS)) fun r s' h=>?_
  cases r with
  | error e=>exact (hCX H e s' h).elim
  | ok fl =>
    cases fl with
    | next=>exact False.elim h
    | brk=>exact False.elim h
    | cont=>exact False.elim h
    | ret u =>
      obtain⟨v,H',os,bare,un,hok',r',q⟩:=h
      have q':v=.bl true:=q
      subst q'
      obtain rfl:u=Value.bool true:=r'
      refine⟨rfl,OldK.of_keep fun b o e=>?_,os,bare⟩
      cases q:H b with
      | none=>exact un.keep b o e q (by intro z;exact absurd (show b∈([]:List Addr) from z) (by simp)) (by simp)
      | some u =>
        rcases hO b with z |⟨ob,xs,z⟩
        · rw[q] at z;cases z
        · have z2:=un.frzs b ob _ z
          obtain⟨e1,_⟩:=hok b _ z
          obtain⟨e2,_⟩:=hok' b _ z2
          rw[e] at e1;cases e1
          exact e2
 cases hk:K.lookup a with
 | some o =>
   have e:=KX a o hk
   rw[ha] at e
   cases e
   refine core (fun _=>none) (fun _=>.inl rfl) (.inr ⟨_,vs.toArray,_,hk,rfl,rfl,rfl,by rw[List.size_toArray,lenV];exact hl,by simpa using rv⟩) (fun b u z=>by have z':(none:Option HO)=some u:=z;cases z') (fun b z=>absurd rfl z) fun z=>absurd rfl z
 | none =>
   refine core (fun b=>if b=a then some (.frz { cls:=.type "list",data:=.seq vs.toArray } (.lst (ns.map V.int))) else none) (fun b=>?_) (.inl (.inr ⟨{ cls:=.type "list",data:=.seq vs.toArray },if_pos rfl⟩)) (fun b u z=>?_) (fun b z=>?_) fun _=>hk
   · by_cases hb:b=a
     · exact .inr ⟨_,_,if_pos hb⟩
     · exact .inl (if_neg hb)
   · by_cases hb:b=a
     · have z':=(if_pos hb).symm.trans z
       cases z'
       subst hb
       exact⟨ha,by rw[List.length_map];exact hl,vs,_,rv,ha⟩
     · have z':=(if_neg hb).symm.trans z
       cases z'
   · by_cases hb:b=a
     · exact hb
     · exact absurd (if_neg hb) z
theorem z2T{l:PySem.W.OpenLaw}{n k:Nat}{q:Program}{loose:List Str}{XP:(Str→Option Value)→Heap→Prop}{YP:World→Heap→Prop}{d:DefRec}{K:Params→PySem.W.Frag}{CX:World→JH}{sp:World→Sp}{x:Str}
 (hn:l.most=some n) (hn2:n≤sizeLine) (hdf:d.params.defaults=[]) (hr:yQ k callerA)
 (hY:∀ (w:World) (h:Heap),YP w h→(K w.params).In h)
 (F:∀ (w:World) (mg:Str→Option Value) (fa:Addr) (h:Heap),(K w.params).In h→h.Ns mainGlobals mg→mg d.name=some (.ref fa) →
  ∃ fd:FuncData,(∀ (s:Shared) (u:Value),BindsTo s fd ⟨[u],[]⟩ [(x,u)]) ∧
    ∀ base:Heap,(K w.params).In base→base.Ns mainGlobals mg→ZY l.prog w (K w.params) mg base (CX w) k fa fd [x] (sp w))
 (hsp:∀ (w:World) (H:Hp) (a:Addr) (ns:List Int),ns.length≤n→z4H H→z7 (K w.params) H a (ns.map V.int)→sp w [.ref a] H (fun v _=>v=.bl true) fun _ _ _=>False)
 (hCX:∀ (w:World) (H:Hp) (s:Shared) (e:Value) (s':Shared),CX w [] H s (fun _ _ _=>False) e s'→False) :
 PySem.W.WalkO q loose XP YP l.row.toRowW d [] (fun f vs=>PySem.call f vs):=by
 refine Att.uq hn hdf fun w s₀ s₁ mg mb fa o pm cd doc a vs ns G Y ho hd hcd hmg hobj hints hlen hg=>?_
 have KX:=hY w _ Y
 obtain⟨fd,hb,hF⟩:=F w mg fa _ KX G.T.g hmg
 exact z1F KX G.T.g G.T.b G.T.builtins G.T.nolimit hg hobj hints (Nat.le_trans hlen hn2) hr hF hb (fun H hO hS=>hsp w H a ns hlen hO hS) fun H e s'=>hCX w H s₁ e s'
noncomputable def yZ(s:Stmt):Arguments:=match s with
 | .FunctionDef _ a _ _ _ _ _ _ _ _=>a
 | _=>{ posonlyargs:=[],args:=[],vararg:=none,kwonlyargs:=[],kw_defaults:=[],kwarg:=none,defaults:=[] }
noncomputable def yK(s:Stmt):List Stmt:=match s with
 | .FunctionDef _ _ b _ _ _ _ _ _ _=>b
 | _=>[]
noncomputable def zw(s:Stmt):Scope:=match s with
 | .FunctionDef _ _ _ _ _ _ sc _ _ _=>sc
 | _=>{ kind:=.function,names:=[],isGenerator:=false,isCoroutine:=false }
noncomputable abbrev XR:JH:=fun _ _ _ _ _ _=>False
noncomputable abbrev E0:XK:=fun _ _ _=>False
theorem Z6{X:Cx}:Passes XR X E0:=fun _ _ _ _ _ _ _ h=>h.elim
structure XZ(K:PySem.W.Frag)(x qual:Str)(st:Stmt)(f:Addr)(fd:FuncData):Prop where
 ex:∃ (oc:Value) (od:Option Addr) (kV doc pm:Value) (an:Option Addr) (cdv ct:Value) (osl:Array (Option Value)),
  fd=PySem.W.fnOf x qual (yZ st) (yK st) (zw st) .none kV doc pm an cdv ct∧K.lookup f=some ⟨oc,od,.func fd,osl⟩∧PySem.W.codeIn K cdv qual=true
 kp:PySem.W.keepIn K (.ref f)=true
section
variable{P:Program}{w:World}{K:PySem.W.Frag}{mg:Str→Option Value}{base:Heap}
theorem XZ.ok{x qual:Str}{st:Stmt}{f:Addr}{fd:FuncData}{N ps:List Str}{k:Nat}{sp:Sp}(F:XZ K x qual st f fd)(S:zT N ps (zw st))(len:∀ vs H Q E,sp vs H Q E→vs.length=ps.length)
 (hbody:∀ (cdv:Value) (A:Around) (outer:List Env) (s:Shared) (H:Hp) (vs:List V) (Q:VK) (E:XK),yQ k (A.deeper (envOfC qual (zw st) s.heap.objs.size f cdv))→sp vs H Q E →
  ∃ t,uY (JE XR P w K mg base N qual (zw st) f cdv A outer s H E).nox (yK st) t∧t { nx:=fun _ H'=>Q .non H',rt:=Q } (start N vs) H):ZY P w K mg base XR (k+1) f fd ps sp:=by
 obtain⟨oc,od,kV,doc,pm,an,cdv,ct,osl,rfl,lk,hcd⟩:=F.ex
 refine z6C lk hcd S len fun A outer s H vs Q E hr hsp=>?_
 obtain⟨t,h,q⟩:=hbody cdv A outer s H vs Q E hr hsp
 exact⟨t,h.nox,q⟩
theorem XZ.binds{x qual:Str}{st:Stmt}{f:Addr}{fd:FuncData}{ps:List Str}(F:XZ K x qual st f fd)
 (h:∀ (kV doc pm:Value) (an:Option Addr) (cdv ct:Value) (us:List Value),us.length=ps.length→bindArgs (PySem.W.fnOf x qual (yZ st) (yK st) (zw st) .none kV doc pm an cdv ct) ⟨us,[]⟩=pure (ps.zip us)):Binds K fd ps []:=by
 obtain⟨oc,od,kV,doc,pm,an,cdv,ct,osl,rfl,lk,hcd⟩:=F.ex
 exact .all (h kV doc pm an cdv ct)
theorem z1B{x qual:Str}{st:Stmt}{f:Addr}{oc:Value}{od an:Option Addr}{osl:Array (Option Value)}{kV doc pm cdv ct:Value}(l:K.lookup f=some ⟨oc,od,.func (PySem.W.fnOf x qual (yZ st) (yK st) (zw st) .none kV doc pm an cdv ct),osl⟩)
 (c:PySem.W.codeIn K cdv qual=true) (k:PySem.W.keepIn K (.ref f)=true):XZ K x qual st f (PySem.W.fnOf x qual (yZ st) (yK st) (zw st) .none kV doc pm an cdv ct):=⟨⟨oc,od,kV,doc,pm,an,cdv,ct,osl,rfl,l,c⟩,k⟩
end
theorem zU{n:Nat}(h:n≤1000):n<sizeLine:=Nat.lt_of_le_of_lt h (by decide)
section
variable{X:Cx}
theorem pv(i:Nat){x:Str}{pos:Pos}(hN:X.N[i]?=some x:=by rfl)(hv:Vis X.env.scope x:=by first | exact Or.inl rfl | exact Or.inr (Or.inl rfl) | exact Or.inr (Or.inr rfl))(hd:(x == ("__debug__":Str))=false:=by decide)
 (hcd:(x == ("__classdict__":Str))=false:=by decide):PE X (.Name x pos) (z6i i):=z5e hN hv hd hcd
end
theorem z4f{A B:Prop}(h:B):if false=true then A else B:=by
 rw[if_neg Bool.false_ne_true]
 exact h
theorem z6n{A B:Prop}(h:A):if true=true then A else B:=by
 rw[if_pos rfl]
 exact h
noncomputable def zu(H H':Hp):Prop:=∀ b o,H b=some o→H' b=some o
theorem zu.refl(H:Hp):zu H H:=fun _ _ h=>h
theorem zu.trans{H H1 H2:Hp}(a:zu H H1)(b:zu H1 H2):zu H H2:=fun c o h=>b c o (a c o h)
theorem zu.free{H H':Hp}(e:zu H H'){l:Addr}(h:H' l=Option.none):H l=Option.none:=by
 cases q:H l with
 | none=>rfl
 | some o =>
   rw[e l o q] at h
   cases h
theorem zu.seq{K:PySem.W.Frag}{H H':Hp}{a:Addr}{xs:List V}(e:zu H H')(h:z7 K H a xs):z7 K H' a xs:=by
 rcases h with (h |⟨o,h⟩) | h
 · exact .inl (.inl (e _ _ h))
 · exact .inl (.inr ⟨o,e _ _ h⟩)
 · exact .inr h
section
variable{prog:Program}{w:World}{A:Around}{R:Result→Shared→Prop}{s:Shared}
theorem Yt{elt target iter:Expr}{ifs:List Expr}{scope:Scope}{pos:Pos}{it acc:Value}{env:Env}(I:Nat→Shared→Prop)
 (turn:∀ n s,I n s→wpAny (model prog w) A (pyNext it) (fun r s₁=>match r with
  | none=>R (.ok .next) s₁
  | some v=>wpAny (model prog w) A (letOwnedTupleGo target it v) (fun _ s₁'=>wpAny (model prog w) A (assign target env v) (fun _ s₂ =>
   wpAny (model prog w) A (forIn ifs true fun c r=>if r=true then do let ok ←isTrue c env (eval c env);pure (ForInStep.yield ok) else pure (ForInStep.yield r)) (fun ok s₃ =>
    if ok=true then wpAny (model prog w) A (eval elt env) (fun x s₄ =>
     wpAny (model prog w) A (call (.builtin "list.append") [acc,x]) (fun _ s₅=>∃ m,m<n∧I m s₅) (fun _ _=>False) s₄) (fun _ _=>False) s₃
    else ∃ m,m<n∧I m s₃) (fun _ _=>False) s₂) (fun _ _=>False) s₁') (fun _ _=>False) s₁) (fun _ _=>False) s)
 (n:Nat) (h:I n s) :
 codeAny (model prog w) A (.compLoop (.ListComp elt [⟨target,iter,ifs,0⟩] scope pos) 0 it acc env) R s:=by
 refine codeAny_loop rfl I (fun n s hI=>?_) n h
 show wpAny _ A ((compTurn (.ListComp elt [⟨target,iter,ifs,0⟩] scope pos) 0 it acc env).onRaise (fun x=>do noteFrame x env;theTreesLotGoes x)) _ _ s
 refine wpAny_noted ?_
 rw[compTurn_list]
 have el:∀ {E':Value→Shared→Prop}(x:Value) (s':Shared),False→E' x s':=fun _ _ f=>f.elim
 refine wpAny_bind (wpAny_standAt (wpAny_bind (wpAny_mono (turn n s hI) (fun r s₁ h₁=>?_) fun _ _ f=>f.elim)))
 cases r with
 | none=>exact wpAny_pure h₁
 | some v =>
   refine wpAny_bind (wpAny_mono h₁ (fun _ s₁' h₁'=>?_) fun _ _ f=>f.elim)
   refine wpAny_bind (wpAny_mono h₁' (fun _ s₂ h₂=>wpAny_bind (wpAny_mono h₂ (fun ok s₃ h₃=>?_) fun _ _ f=>f.elim)) fun _ _ f=>f.elim)
   cases ok with
   | false=>exact wpAny_pure ⟨rfl,h₃⟩
   | true =>
     exact wpAny_bind (wpAny_bind (wpAny_mono h₃ (fun x s₄ h₄=>wpAny_bind (wpAny_mono h₄ (fun _ s₅ h₅=>wpAny_pure (wpAny_pure ⟨rfl,h₅⟩)) fun _ _ f=>f.elim)) fun _ _ f=>f.elim))
end
noncomputable def Zw(X:Cx)(N':List Str)(scope:Scope)(cl:List (Str×Addr))(C:Addr)(s:Shared)(H:Hp)(fp:List Addr):Cx where
 prog:=X.prog
 w:=X.w
 K:=X.K
 mg:=X.mg
 base:=X.base
 A:=X.A
 N:=N'
 s₀:=s
 H₀:=H
 env:=compEnvC scope cl C X.env
 outer:=X.stack
 stack:=X.stack
 ex:=fp
 fn:=fun _=>false
 calm:=X.calm
 pn:=[]
 xe:=fun _ _=>False
noncomputable def PTs(X:Cx)(ifs:List Expr)(t:TT):Prop :=
 ∀ (pins:List (Addr×Obj)) (s:Shared) (σ:St) (H:Hp) (Q:Bool→Hp→Prop),Inv X pins σ H s→t σ H Q →
   wpAny (model X.prog X.w) X.A (forIn ifs true fun c r=>if r=true then do let ok ←isTrue c X.env (eval c X.env);pure (ForInStep.yield ok) else pure (ForInStep.yield r)) (TP X pins σ Q) X.xe s
theorem Zz{X:Cx}:PTs X [] (fun _ H Q=>Q true H):=fun _ _ _ H _ I h=>wpAny_pure ⟨H,I,h⟩
theorem YD{X:Cx}{c:Expr}{t:TT}(h:PT X c t):PTs X [c] t:=fun pins s σ H Q I hw=>by
 simp only[List.forIn_cons,List.forIn_nil,if_true]
 exact wpAny_bind (wpAny_bind (wpAny_mono (h pins s σ H Q I hw) (fun b s' hb=>wpAny_pure (wpAny_pure hb)) fun _ _ x=>x))
noncomputable def QV(X:Cx)(sc:Scope):List Str→List (Option Nat)→Prop
 | [],[]=>True
 | _ :: N,none :: ks=>QV X sc N ks
 | x :: N,some k :: ks=>(X.N[k]?=some x∧X.env.scope.names.lookup x=some .cell∧(sc.names.lookup x=some .cell∨sc.names.lookup x=some .free))∧QV X sc N ks
 | _,_=>False
theorem QV.len{X:Cx}{sc:Scope}:∀ {N:List Str}{ks:List (Option Nat)},QV X sc N ks→ks.length=N.length
 | [],[],_=>rfl
 | _ :: N,none :: ks,h=>by simp[QV.len (show QV X sc N ks from h)]
 | _ :: N,some _ :: ks,h=>by simp[QV.len (show QV X sc N ks from h.2)]
 | [],_ :: _,h=>by cases h
 | _ :: _,[],h=>by cases h
theorem QV.get{X:Cx}{sc:Scope}:∀ {N:List Str}{ks:List (Option Nat)}{i k:Nat}{x:Str},QV X sc N ks→N[i]?=some x→ks[i]?=some (some k) →
 X.N[k]?=some x∧X.env.scope.names.lookup x=some .cell∧(sc.names.lookup x=some .cell∨sc.names.lookup x=some .free)
 | [],[],_,_,_,_,e,_=>by simp at e
 | [],_ :: _,_,_,_,h,_,_=>by cases h
 | _ :: _,[],_,_,_,h,_,_=>by cases h
 | _ :: N,none :: ks,0,k,x,h,e1,e2=>by simp at e2
 | _ :: N,none :: ks,i+1,k,x,h,e1,e2=>QV.get (i:=i) (show QV X sc N ks from h) (by simpa using e1) (by simpa using e2)
 | y :: N,some j :: ks,0,k,x,h,e1,e2=>by
   simp at e1 e2
   subst e1 e2
   exact h.1
 | _ :: N,some _ :: ks,i+1,k,x,h,e1,e2=>QV.get (i:=i) (show QV X sc N ks from h.2) (by simpa using e1) (by simpa using e2)
noncomputable def xg(ks:List (Option Nat))(σ:St):St:=ks.map fun o=>match o with
 | none=>none
 | some k=>σ.getD k none
noncomputable def qQ(J:It)(D:Addr)(g:TG)(tt:TT)(te:TE)(Q:VK)(σ0:St)(H0:Hp):Prop :=
 ∃ W:Nat→Nat→List V→St→Hp→Prop,(∃ m,W 0 m [] σ0 H0)∧∀ i m ys σ' H',W i m ys σ' H'→H' D=some (.lst ys) ∧
   ((J.stop i H'∧Q (.ref D) H')∨(J.go i H'∧∀ x H2,J.yld i H' x H2→g x σ' H2 fun σ3 H3=>tt σ3 H3 fun b H4=>if b=true then
     te σ3 H4 fun y H5=>H5 D=some (.lst ys)∧ys.length<sizeLine∧∃ m',m'<m∧W (i+1) m' (ys ++ [y]) σ3 (upd H5 D (.lst (ys ++ [y]))) else ∃ m',m'<m∧W (i+1) m' ys σ3 H4))
noncomputable def Qt(wi:TI)(ks:List (Option Nat))(g:TG)(tt:TT)(te:TE):TE:=fun σ H Q=>wi σ H fun J H1=>∀ D,H1 D=none→qQ J D g tt te Q (xg ks σ) (upd H1 D (.lst []))
section
variable{X:Cx}
theorem z2u{tg iter elt:Expr}{ifs:List Expr}{scope:Scope}{pos:Pos}{N':List Str}{ks:List (Option Nat)}{cl:List (Str×Addr)}{wi:TI}{g:TG}{tt:TT}{te:TE}
 (hcalm:X.calm=true) (hi:PI X tg iter wi) (hclos:closureFor scope X.env=pure cl) (hcl:∀ x c,cl.lookup x=some c→X.env.cells.lookup x=some c)
 (hcell:∀ y∈scope.names,y.2≠.cell) (hkind:scope.kind=.function) (hnames:∀ y∈scope.names,y.2=.local→scope.names.lookup y.1=some .local)
 (hhas:∀ x,((relabel scope X.env).names.lookup x=some .cell∨(relabel scope X.env).names.lookup x=some .free)→∃ c,cl.lookup x=some c)
 (hcap:QV X (relabel scope X.env) N' ks)
 (hg:∀ C s H fp,PG (Zw X N' scope cl C s H fp) tg g) (ht:∀ C s H fp,PTs (Zw X N' scope cl C s H fp) ifs tt) (he:∀ C s H fp,PE (Zw X N' scope cl C s H fp) elt te)
 (hs:∀ x,foldedSetIterable iter X.env x=pure x:=by intro _;rfl):PE X (.ListComp elt [⟨tg,iter,ifs,0⟩] scope pos) (Qt wi ks g tt te):=by
 intro pins s σ H Q I h
 rw[eval_ListComp]
 refine wpAny_comprehension_free (use:=none) rfl hs hclos hkind hnames (Zt (hi pins s σ H _ I h) fun v s1 h1=>Zt h1 fun itv s2 h2=>?_)
 obtain⟨it,fp,tn,J,H2,e,I2,T,st2,f2,R⟩:=h2
 subst e
 refine wpAny_newObj_type (wpAny_newFunctionEnv hcell (by intro y hy;simp at hy) (fun h₁ hns₁ hsb₁=>?_) hkind)
 dsimp only at hns₁ hsb₁ ⊢
 have hD:H2 s2.heap.objs.size=none:=I2.hok.fresh (Nat.le_refl _)
 obtain⟨W,⟨m0,w0⟩,turn⟩:=R _ hD
 generalize hs3:({ s2 with heap:=s2.heap.push { cls:=.type "list",dict:=none,data:=.seq ([]:List Value).toArray } }:Shared)=s3
 have e3:s3.heap=s2.heap.push { cls:=.type "list",dict:=none,data:=.seq ([]:List Value).toArray }:=by rw[← hs3]
 have I3:Inv X pins σ (upd H2 s2.heap.objs.size (.lst [])) s3:=by
  rw[← hs3]
  exact I2.laid (t':=s2.toks) (fun b o e=>Heap.get?_push_of_some _ e) (Nat.le_refl _) ⟨Nat.zero_le _,[],0,.nil,Heap.get?_push_size _ rfl⟩
 generalize hD0:s2.heap.objs.size=D at *
 generalize hH3:upd H2 D (.lst [])=H3 at *
 rw[← e3] at hns₁ hsb₁ ⊢
 have kp:∀ b o,s3.heap.get? b=some o→h₁.get? b=some o:=fun b o e=>hsb₁.extBut b o (Nat.ne_of_lt (Heap.lt_size e)) (Heap.get?_push_of_some _ e)
 have f3:∀ b∈fp,Z7 X pins H3 b∧b<s3.heap.objs.size:=fun b hb=>by
  obtain⟨o,ho,_⟩:=T.obj 0 _ st2 b hb
  have hlt:b<D:=by rw[← hD0];exact Heap.lt_size ho
  refine⟨⟨?_,(f2 b hb).2⟩,?_⟩
  · rw[← hH3,zp (Nat.ne_of_lt hlt)];exact (f2 b hb).1
  · rw[e3,Heap.size_push,hD0];exact Nat.lt_succ_of_lt hlt
 have st3:tn 0 h₁:=T.keep 0 s2.heap h₁ st2 fun b hb o e=>kp b o (by rw[e3];exact Heap.get?_push_of_some _ e)
 have capK:∀ x c,cl.lookup x=some c→X.env.cells.lookup x=some c:=hcl
 have stkne:∀ b∈fp,b∉frs X.stack:=fun b hb z=>by
  rcases List.mem_cons.mp (I3.qG b z) with e | e
  · exact (f3 b hb).1.2.1 e
  · exact (f3 b hb).1.2.2.1 e
 have Cfresh:H3 s3.heap.objs.size=none:=I3.hok.fresh (Nat.le_refl _)
 have ok':(Zw X N' scope cl s3.heap.objs.size s3 H3 fp).Ok:=by
  refine⟨I3.ok.mod,hkind,I3.ok.glob,I3.ok.blt,Nat.le_refl _,fun x y c h1 h2=>I3.ok.inj x y c (capK x c h1) (capK y c h2),fun x hx=>hhas x hx,fun x c hf _=>absurd (show false=true from hf) Bool.false_ne_true,fun z=>I3.ok.hd z,I3.ok.frames,.inl rfl,
   fun b hb=>⟨Nat.ne_of_lt (f3 b hb).2,fun x c e=>(f3 b hb).1.2.2.2.2.1 x c (capK x c e)⟩,I3.bs,Nat.le_trans I3.ok.bsz I3.sz,fun b o e hb=>?_,fun b hb=>stkne b hb,I3.stack,I3.ql⟩
  rcases (f3 b hb).1.2.2.2.1 with z | z
  · exact I3.ok.noex b o e z
  · exact absurd (Nat.lt_of_lt_of_le (Heap.lt_size e) (Nat.le_trans I3.ok.bsz z)) (Nat.lt_irrefl _)
 have I4:Inv (Zw X N' scope cl s3.heap.objs.size s3 H3 fp) [] (xg ks σ) H3 { s3 with heap:=h₁,toks:=s3.toks+([]:List (Str×Value)).length }:=by
  refine⟨ok',rfl,I3.bare,Un.kept kp,⟨_,hns₁,fun i x v e1 e2 e3'=>?_⟩,fun x c e=>?_,Cfresh,fun x c e=>I3.freeC x c (capK x c e),fun p hp=>absurd (show p∈([]:List (Addr×Obj)) from hp) (by simp),I3.hok.kept kp,?_⟩
  · have e2':(xg ks σ)[i]?=some (some v):=e2
    unfold xg at e2'
    rw[List.getElem?_map] at e2'
    cases hk:ks[i]? with
    | none=>rw[hk] at e2';cases e2'
    | some o =>
      rw[hk] at e2'
      cases o with
      | none=>cases e2'
      | some k =>
        have ev:σ.getD k none=some v:=Option.some.inj e2'
        obtain⟨c1,c2,c3⟩:=hcap.get e1 hk
        obtain⟨m,hn,hl⟩:=I3.loc
        have es:σ[k]?=some (some v):=by
         rw[List.getD_eq_getElem?_getD] at ev
         cases q:σ[k]? with
         | none=>rw[q] at ev;cases ev
         | some z=>rw[q] at ev;exact congrArg some ev
        obtain⟨u,r,l⟩:=hl k x v c1 es (.inr (.inl c2))
        refine⟨u,r,.inr ⟨c3,?_⟩⟩
        rcases l with⟨l1,_⟩|⟨_,c,l2,l3⟩
        · have l1':X.env.scope.names.lookup x=some .local:=l1
          rw[c2] at l1';cases l1'
        · obtain⟨c',hc'⟩:=hhas x c3
          have:X.env.cells.lookup x=some c':=capK x c' hc'
          rw[l2] at this
          cases this
          refine⟨c,hc',?_⟩
          obtain⟨o,ho,hd⟩:=l3
          exact⟨o,kp c o ho,hd⟩
  · obtain⟨v,o,ho,hd⟩:=I3.cell x c (capK x c e)
    exact⟨v,o,kp c o ho,hd⟩
  · show (xg ks σ).length=N'.length
    unfold xg
    rw[List.length_map,hcap.len]
 have Cne:∀ p∈X.pn ++ pins,p.1≠s3.heap.objs.size:=fun p hp=>Nat.ne_of_lt (Heap.lt_size (I3.pin p hp).1)
 have back:∀ {σ':St}{H':Hp}{s':Shared},Inv (Zw X N' scope cl s3.heap.objs.size s3 H3 fp) [] σ' H' s'→∀ h'':Heap,Heap.SameBut s3.heap.objs.size s'.heap h''→Inv X pins σ H' { s' with heap:=h'' }:=fun {σ' H' s'} I' h'' sb=>by
  have J1:Inv X pins σ H' s':=I3.jW (ch:=fp) I'.os I'.base I'.hok I'.bare fun b hb=>⟨(f3 b hb).1.2.2.2.1,(f3 b hb).1.2.1,(f3 b hb).1.2.2.2.2.1,(f3 b hb).1.2.2.2.2.2⟩
  refine J1.turned (t':=s'.toks) (it:=s3.heap.objs.size) (fun b o hb e=>(sb.2 b hb).trans e) I'.free (Nat.ne_of_gt I3.lt) (.inr I3.sz) (fun x c e=>?_) Cne
  obtain⟨v,q⟩:=I3.cell x c e
  exact Nat.ne_of_lt q.lt
 have fpok:∀ {H':Hp},(∀ b∈fp,H' b=none)→∀ b∈fp,Z7 (Zw X N' scope cl s3.heap.objs.size s3 H3 fp) [] H' b:=fun hn b hb =>
  ⟨hn b hb,Nat.ne_of_lt (f3 b hb).2,stkne b hb,.inl hb,fun x c e=>(f3 b hb).1.2.2.2.2.1 x c (capK x c e),fun p hp=>absurd (show p∈([]:List (Addr×Obj)) from hp) (by simp)⟩
 have loop:codeAny (model X.prog X.w) X.A (.compLoop (.ListComp elt [⟨tg,iter,ifs,0⟩] scope pos) 0 (.ref it) (.ref D) (compEnvC scope cl s3.heap.objs.size X.env))
  (compPost (model X.prog X.w) X.A X.xe none (EP X pins σ Q) (.ref D) s3.heap.objs.size) { s3 with heap:=h₁,toks:=s3.toks+([]:List (Str×Value)).length }:=by
  refine Yt (fun n s'=>∃ i ys σ' H',Inv (Zw X N' scope cl s3.heap.objs.size s3 H3 fp) [] σ' H' s'∧tn i s'.heap∧(∀ b∈fp,H' b=none)∧W i n ys σ' H') ?_ m0 ⟨0,[],_,_,I4,st3,fun b hb=>(f3 b hb).1.1,w0⟩
  rintro n s5 ⟨i,ys,σ5,H5,I5,st5,fr5,w5⟩
  obtain⟨hD5,tq⟩:=turn i n ys σ5 H5 w5
  rcases tq with⟨stop,q⟩|⟨go,step⟩
  · refine Zt (T.done (Zw X N' scope cl s3.heap.objs.size s3 H3 fp) rfl rfl rfl hcalm i [] s5 σ5 H5 _ I5 (fpok fr5) st5 stop) fun r s6 ⟨hr,I6⟩=>?_
    subst hr
    obtain⟨m,hn,_⟩:=I6.loc
    exact⟨m,hn,fun h'' sb=>⟨.ref D,H5,back I6 h'' sb,rfl,q⟩⟩
  · refine Zt (T.item (Zw X N' scope cl s3.heap.objs.size s3 H3 fp) rfl rfl rfl hcalm i [] s5 σ5 H5 _ I5 (fpok fr5) st5 go) fun r s6 ⟨u,hr,h6⟩=>?_
    subst hr
    refine Zt h6 fun _ s7 ⟨x,H7,I7,r7,y7,st7,fr7⟩=>?_
    have I7':=I7.pinned (fpok fr7) (T.obj _ _ st7)
    refine Zt (hg _ _ _ _ _ s7 σ5 H7 x u _ I7' r7 (step x H7 y7)) fun _ s8 ⟨σ8,H8,I8,q8⟩=>?_
    refine Zt (ht _ _ _ _ _ s8 σ8 H8 _ I8 q8) fun ok s9 ⟨H9,I9,q9⟩=>?_
    have again:∀ {σ':St}{H':Hp}{s':Shared}{ys':List V},Inv (Zw X N' scope cl s3.heap.objs.size s3 H3 fp) ([] ++ xK fp s7.heap) σ' H' s'→(∃ m',m'<n∧W (i+1) m' ys' σ' H') →
     ∃ m',m'<n∧∃ i ys σ' H',Inv (Zw X N' scope cl s3.heap.objs.size s3 H3 fp) [] σ' H' s'∧tn i s'.heap∧(∀ b∈fp,H' b=none)∧W i m' ys σ' H':=fun {σ' H' s' ys'} I' hw=>by
     obtain⟨m',hm,w'⟩:=hw
     refine⟨m',hm,i+1,ys',σ',H',I'.Yo,T.keep _ _ _ st7 fun b hb o e=>(I'.pin (b,o) (List.mem_append_right _ (List.mem_append_right _ (ZS hb e)))).1,fun b hb=>?_,w'⟩
     obtain⟨o,e,d⟩:=T.obj _ _ st7 b hb
     exact (I'.pin (b,o) (List.mem_append_right _ (List.mem_append_right _ (ZS hb e)))).2.1
    cases ok with
    | false =>
      rw[if_neg Bool.false_ne_true] at q9 ⊢
      exact again I9 q9
    | true =>
      rw[if_pos rfl] at q9 ⊢
      refine Zt (he _ _ _ _ _ s9 σ8 H9 _ I9 q9) fun y s10 ⟨yv,H10,I10,r10,q10,z10,w10⟩=>?_
      refine Zt (ym _ s10 σ8 H10 (.ref D) [yv] (.ref D) [y] (fun v H'=>v=.non∧H'=upd H10 D (.lst (ys ++ [yv]))) I10 rfl (.cons r10 .nil) ⟨D,ys,yv,rfl,rfl,q10,z10,rfl,rfl⟩) fun _ s11 ⟨_,H11,I11,_,_,e11⟩=>?_
      subst e11
      exact again I11 w10
 have es:({ s3 with heap:=h₁,toks:=s3.toks+([]:List (Str×Value)).length }:Shared)={ s2 with heap:=h₁,toks:=s2.toks+([]:List (Str×Value)).length }:=by rw[← hs3]
 rw[es] at loop
 exact codeAny_compStart_list loop (T.self _ 0 _ _ _ st3 loop)
end
noncomputable def Sz(n:Nat)(k:Int):Prop:=k.natAbs<2 ^ n
theorem Sz.mono{n m:Nat}{k:Int}(h:Sz n k)(l:n≤m):Sz m k:=Nat.lt_of_lt_of_le h (Nat.pow_le_pow_right (by decide) l)
theorem Sz.mul{n m:Nat}{a b:Int}(h:Sz n a)(h':Sz m b):Sz (n+m) (a * b):=by
 unfold Sz at *
 rw[Int.natAbs_mul,Nat.pow_add]
 exact Nat.mul_lt_mul'' h h'
theorem Sz.add{n:Nat}{a b:Int}(h:Sz n a)(h':Sz n b):Sz (n+1) (a+b):=by
 unfold Sz at *
 rw[Nat.pow_succ]
 omega
theorem Sz.sub{n:Nat}{a b:Int}(h:Sz n a)(h':Sz n b):Sz (n+1) (a - b):=by
 unfold Sz at *
 rw[Nat.pow_succ]
 omega
theorem Sz.neg{n:Nat}{a:Int}(h:Sz n a):Sz n (-a):=by
 unfold Sz at *
 omega
theorem Sz.bits{n:Nat}{k:Int}(h:Sz n k):Builtin.Int.intBits k≤n:=by
 unfold Builtin.Int.intBits
 split
 · exact Nat.zero_le _
 · rename_i hk
   have h0:k.natAbs≠0:=fun z=>hk (by simp at z;simp[z])
   have:=(Nat.log2_lt h0).mpr h
   omega
theorem Sz.log2{n:Nat}{k:Int}(h:Sz n k)(hn:0<n):k.natAbs.log2<n:=by
 by_cases h0:k.natAbs=0
 · rw[h0];exact hn
 · exact (Nat.log2_lt h0).mpr h
noncomputable def z1v(i j:Int):Prop:=Sz 100000 i∧Sz 100000 j
theorem z1v.ok{i j:Int}(h:z1v i j):IntMulOk i j:=by
 have h1:=h.1.bits
 have h2:=h.2.bits
 have e:Builtin.Int.intTooBig ((Builtin.Int.intBits i:Int)+Builtin.Int.intBits j)=false:=by
  unfold Builtin.Int.intTooBig
  refine decide_eq_false ?_
  have:(bitsLine:Nat)=134217728:=rfl
  rw[this]
  omega
 unfold IntMulOk
 simp[e]
noncomputable def z5F(_ j:Int):Prop:=j≠0∧Sz 9000 j
section
variable{X:Cx}
theorem Zo:xw X (binaryOp .Mult) (rI z1v fun i j=>.int (i * j)):=opI fun _ _ _ _ _ _ _ hc q=>mul_int q hc.ok
theorem yP:xw X (binaryOp .FloorDiv) (rI z5F fun i j=>.int (i.fdiv j)):=opI fun _ _ _ _ _ _ _ hc q=>floordiv_int hc.1 q (.inl (PyProof.noPylong_of_log2 (hc.2.log2 (by decide))))
end
inductive Dt where
 | non | bl (b:Bool) | int (i:Int) | str (x:Str) | tup (xs:List Dt) | lst (xs:List Dt)
mutual
def Den(K:PySem.W.Frag)(H:Hp):Dt→V→Prop
 | .non,v=>v=.non
 | .bl b,v=>v=.bl b
 | .int i,v=>v=.int i
 | .str x,v=>v=.str x
 | .tup ds,v=>∃ a xs,v=.ref a∧z5 K H a xs∧Zp K H ds xs
 | .lst ds,v=>∃ a xs,v=.ref a∧z7 K H a xs∧Zp K H ds xs
def Zp(K:PySem.W.Frag)(H:Hp):List Dt→List V→Prop
 | [],xs=>xs=[]
 | d :: ds,xs=>∃ x r,xs=x :: r∧Den K H d x∧Zp K H ds r
end
mutual
def Va:Dt→Dt→Bool
 | .non,.non=>true
 | .bl a,.bl b=>a == b
 | .bl a,.int b=>(if a then 1 else 0) == b
 | .int a,.bl b=>a == (if b then 1 else 0)
 | .int a,.int b=>a == b
 | .str a,.str b=>a == b
 | .tup xs,.tup ys=>yG xs ys
 | .lst xs,.lst ys=>yG xs ys
 | _,_=>false
def yG:List Dt→List Dt→Bool
 | [],[]=>true
 | x :: xs,y :: ys=>Va x y && yG xs ys
 | _,_=>false
end
mutual
def xG:Dt→Nat
 | .tup xs=>yy xs+1
 | .lst xs=>yy xs+1
 | _=>0
def yy:List Dt→Nat
 | []=>0
 | x :: xs=>max (xG x) (yy xs)
end
mutual
theorem Qm:∀ d:Dt,Va d d=true
 | .non=>rfl
 | .bl b=>by simp[Va]
 | .int b=>by simp[Va]
 | .str b=>by simp[Va]
 | .tup xs=>by simp only[Va];exact XF xs
 | .lst xs=>by simp only[Va];exact XF xs
theorem XF:∀ ds:List Dt,yG ds ds=true
 | []=>rfl
 | x :: xs=>by simp only[yG,Qm x,XF xs,Bool.and_self]
end
theorem Zp.length{K:PySem.W.Frag}{H:Hp}:∀ {ds:List Dt}{xs:List V},Zp K H ds xs→xs.length=ds.length
 | [],_,h=>by simp only[Zp] at h;subst h;rfl
 | d :: ds,_,h=>by
   simp only[Zp] at h
   obtain⟨x,r,rfl,_,h⟩:=h
   simp[Zp.length h]
section
variable{X:Cx}{pins:List (Addr×Obj)}{σ:St}{H:Hp}{s:Shared}
theorem XS(I:Inv X pins σ H s){a:Addr}{xs ys:List V}(h:z5 X.K H a xs)(h':z7 X.K H a ys):False:=by
 obtain⟨its,_,⟨o,e,c,_⟩,_⟩:=I.tuple h
 obtain⟨its',_,⟨o',n',e',c',_⟩,_⟩:=I.list h'
 rw[e] at e';cases e'
 rw[c] at c'
 have:("tuple":String)="list":=by injection c'
 exact absurd this (by decide)
mutual
theorem Den.inj(I:Inv X pins σ H s):∀ {d e:Dt}{v:V},Den X.K H d v→Den X.K H e v→d=e
 | .non,e,v,h,h'=>by
   simp only[Den] at h
   subst h
   cases e <;> simp only[Den] at h' <;> first
    | rfl
    | (obtain⟨_,_,z,_⟩:=h';cases z;done)
    | (cases h';done)
 | .bl b,e,v,h,h'=>by
   simp only[Den] at h
   subst h
   cases e <;> simp only[Den] at h' <;> first
    | (obtain⟨_,_,z,_⟩:=h';cases z;done)
    | (cases h';rfl)
    | (cases h';done)
 | .int b,e,v,h,h'=>by
   simp only[Den] at h
   subst h
   cases e <;> simp only[Den] at h' <;> first
    | (obtain⟨_,_,z,_⟩:=h';cases z;done)
    | (cases h';rfl)
    | (cases h';done)
 | .str b,e,v,h,h'=>by
   simp only[Den] at h
   subst h
   cases e <;> simp only[Den] at h' <;> first
    | (obtain⟨_,_,z,_⟩:=h';cases z;done)
    | (cases h';rfl)
    | (cases h';done)
 | .tup ds,e,v,h,h'=>by
   simp only[Den] at h
   obtain⟨a,xs,rfl,hx,hd⟩:=h
   cases e with
   | tup es =>
     simp only[Den] at h'
     obtain⟨b,ys,z,hy,he⟩:=h'
     cases z
     rw[I.XD hy hx] at he
     rw[Zp.inj I hd he]
   | lst es =>
     simp only[Den] at h'
     obtain⟨b,ys,z,hy,he⟩:=h'
     cases z
     exact (XS I hx hy).elim
   | non=>simp only[Den] at h';cases h'
   | bl b=>simp only[Den] at h';cases h'
   | int b=>simp only[Den] at h';cases h'
   | str b=>simp only[Den] at h';cases h'
 | .lst ds,e,v,h,h'=>by
   simp only[Den] at h
   obtain⟨a,xs,rfl,hx,hd⟩:=h
   cases e with
   | lst es =>
     simp only[Den] at h'
     obtain⟨b,ys,z,hy,he⟩:=h'
     cases z
     rw[I.Xd hy hx] at he
     rw[Zp.inj I hd he]
   | tup es =>
     simp only[Den] at h'
     obtain⟨b,ys,z,hy,he⟩:=h'
     cases z
     exact (XS I hy hx).elim
   | non=>simp only[Den] at h';cases h'
   | bl b=>simp only[Den] at h';cases h'
   | int b=>simp only[Den] at h';cases h'
   | str b=>simp only[Den] at h';cases h'
theorem Zp.inj(I:Inv X pins σ H s):∀ {ds es:List Dt}{vs:List V},Zp X.K H ds vs→Zp X.K H es vs→ds=es
 | [],[],_,_,_=>rfl
 | [],e :: es,vs,h,h'=>by
   simp only[Zp] at h h'
   subst h
   obtain⟨_,_,z,_⟩:=h'
   cases z
 | d :: ds,[],vs,h,h'=>by
   simp only[Zp] at h h'
   subst h'
   obtain⟨_,_,z,_⟩:=h
   cases z
 | d :: ds,e :: es,vs,h,h'=>by
   simp only[Zp] at h h'
   obtain⟨x,r,rfl,h1,h2⟩:=h
   obtain⟨y,r',z,h3,h4⟩:=h'
   cases z
   rw[Den.inj I h1 h3,Zp.inj I h2 h4]
end
noncomputable def Yc(ds es:List Dt)(j:Nat):Bool:=match ds[j]?,es[j]? with
 | some d,some e=>Va d e
 | _,_=>true
theorem XG:∀ (ds es:List Dt),ds.length=es.length→(List.range ds.length).all (Yc ds es)=yG ds es
 | [],[],_=>rfl
 | d :: ds,e :: es,h=>by
   have ih:=XG ds es (by simpa using h)
   rw[List.length_cons,List.range_succ_eq_map,List.all_cons,List.all_map]
   have e0:Yc (d :: ds) (e :: es) 0=Va d e:=rfl
   have e1:(Yc (d :: ds) (e :: es)) ∘ Nat.succ=Yc ds es:=by
    funext j
    simp[Yc,Function.comp]
   rw[e0,e1,ih]
   rfl
theorem Qg:∀ (ds es:List Dt),ds.length≠es.length→yG ds es=false
 | [],[],h=>absurd rfl h
 | [],_ :: _,_=>rfl
 | _ :: _,[],_=>rfl
 | d :: ds,e :: es,h=>by
   simp only[yG]
   rw[Qg ds es (by simpa using h),Bool.and_false]
end
end L2
namespace L2
open PySem PySem.Spec PyProof.Rows
section
variable{X:Cx}{pins:List (Addr×Obj)}{σ:St}{H:Hp}{s:Shared}
theorem Zp.get{K:PySem.W.Frag}{H:Hp}:∀ {ds:List Dt}{xs:List V}{j:Nat}{d:Dt},Zp K H ds xs→ds[j]?=some d→∃ x,xs[j]?=some x∧Den K H d x
 | [],_,_,_,_,e=>by simp at e
 | d :: ds,xs,0,d',h,e=>by
   simp only[Zp] at h
   obtain⟨x,r,rfl,h1,_⟩:=h
   simp at e
   subst e
   exact⟨x,rfl,h1⟩
 | d :: ds,xs,j+1,d',h,e=>by
   simp only[Zp] at h
   obtain⟨x,r,rfl,_,h2⟩:=h
   obtain⟨y,h3,h4⟩:=Zp.get (j:=j) h2 (by simpa using e)
   exact⟨y,by simpa using h3,h4⟩
theorem QK:∀ {ds:List Dt}{j:Nat}{d:Dt},ds[j]?=some d→xG d≤yy ds
 | [],_,_,e=>by simp at e
 | d :: ds,0,d',e=>by simp at e;subst e;simp only[yy];exact Nat.le_max_left _ _
 | d :: ds,j+1,d',e=>by
   have:=QK (ds:=ds) (j:=j) (d:=d') (by simpa using e)
   simp only[yy]
   exact Nat.le_trans this (Nat.le_max_right _ _)
theorem Xc{A:Around}(n:Nat)(ih:∀ (A:Around) (d e:Dt) (x y:V) (u v:Value),xG d≤n→A.units+n<cLine→Den X.K H d x→Den X.K H e y→RelV x u→RelV y v→SeqAt.EqAt A s u v (Va d e))
 {ds es:List Dt}{xs ys:List V}{us vs:List Value}(hd:yy ds≤n) (hu:A.units+n+1<cLine) (h1:Zp X.K H ds xs) (h2:Zp X.K H es ys) (r1:Vals xs us) (r2:Vals ys vs) :
 ∀ j (g1:j<us.toArray.size) (g2:j<vs.toArray.size),SeqAt.EqAt A.in1 s us.toArray[j] vs.toArray[j] (Yc ds es j):=by
 intro j g1 g2
 have l1:=h1.length
 have l2:=h2.length
 have l3:=r1.length
 have l4:=r2.length
 have g1':j<us.length:=by simpa using g1
 have g2':j<vs.length:=by simpa using g2
 have j1:j<ds.length:=by rw[← l1,l3];exact g1'
 have j2:j<es.length:=by rw[← l2,l4];exact g2'
 have e1:ds[j]?=some ds[j]:=by simp[j1]
 have e2:es[j]?=some es[j]:=by simp[j2]
 obtain⟨x,ex,dx⟩:=h1.get e1
 obtain⟨y,ey,dy⟩:=h2.get e2
 obtain⟨u,eu,ru⟩:=r1.get ex
 obtain⟨v,ev,rv⟩:=r2.get ey
 have e3:Yc ds es j=Va ds[j] es[j]:=by unfold Yc;rw[e1,e2]
 rw[e3]
 have a1:us.toArray[j]=u:=by
  have:us[j]?=some us[j]:=by simp[g1']
  rw[this] at eu
  simpa using Option.some.inj eu
 have a2:vs.toArray[j]=v:=by
  have:vs[j]?=some vs[j]:=by simp[g2']
  rw[this] at ev
  simpa using Option.some.inj ev
 rw[a1,a2]
 exact ih A.in1 _ _ x y u v (Nat.le_trans (QK e1) hd) (by show A.units+1+n<cLine;omega) dx dy ru rv
theorem VM{A:Around}(I:Inv X pins σ H s)(n:Nat)(ih:∀ (A:Around) (d e:Dt) (x y:V) (u v:Value),xG d≤n→A.units+n<cLine→Den X.K H d x→Den X.K H e y→RelV x u→RelV y v→SeqAt.EqAt A s u v (Va d e))
 {ds es:List Dt}{a b:Addr}{xs ys:List V}(hd:yy ds≤n) (hu:A.units+n+1<cLine) (ha:z5 X.K H a xs) (hb:z5 X.K H b ys) (h1:Zp X.K H ds xs) (h2:Zp X.K H es ys) :
 SeqAt.RcAt A s (.ref a) (.ref b) (yG ds es)∧SeqAt.RcNeAt A s (.ref a) (.ref b) (!yG ds es):=by
 obtain⟨its,r1,p1,_⟩:=I.tuple ha
 obtain⟨its2,r2,p2,_⟩:=I.tuple hb
 have l1:=h1.length
 have l2:=h2.length
 have l3:=r1.length
 have l4:=r2.length
 have hu':A.units<cLine:=by omega
 have q:=SeqAt.RcAt.tuples (A:=A) (s:=s) (e:=Yc ds es) p1 p2 hu' (Xc n ih hd hu h1 h2 r1 r2)
 have q2:=SeqAt.RcNeAt.tuples (A:=A) (s:=s) (e:=Yc ds es) p1 p2 hu' (Xc n ih hd hu h1 h2 r1 r2)
 have e:((List.range (min its.toArray.size its2.toArray.size)).all (Yc ds es) && its.toArray.size == its2.toArray.size)=yG ds es:=by
  simp only[List.size_toArray]
  by_cases hl:ds.length=es.length
  · have:its.length=its2.length:=by rw[← l3,← l4,l1,l2,hl]
    rw[this,Nat.min_self,← l4,l2,← hl,XG ds es hl]
    simp
  · have:its.length≠its2.length:=by rw[← l3,← l4,l1,l2];exact hl
    rw[Qg ds es hl]
    simp[this]
 rw[e] at q q2
 exact⟨q,q2⟩
theorem vM{A:Around}(I:Inv X pins σ H s)(n:Nat)(ih:∀ (A:Around) (d e:Dt) (x y:V) (u v:Value),xG d≤n→A.units+n<cLine→Den X.K H d x→Den X.K H e y→RelV x u→RelV y v→SeqAt.EqAt A s u v (Va d e))
 {ds es:List Dt}{a b:Addr}{xs ys:List V}(hd:yy ds≤n) (hu:A.units+n+1<cLine) (ha:z7 X.K H a xs) (hb:z7 X.K H b ys) (h1:Zp X.K H ds xs) (h2:Zp X.K H es ys) :
 SeqAt.RcAt A s (.ref a) (.ref b) (yG ds es)∧SeqAt.RcNeAt A s (.ref a) (.ref b) (!yG ds es):=by
 obtain⟨its,r1,p1,_⟩:=I.list ha
 obtain⟨its2,r2,p2,_⟩:=I.list hb
 have l1:=h1.length
 have l2:=h2.length
 have l3:=r1.length
 have l4:=r2.length
 have hu':A.units<cLine:=by omega
 by_cases hl:ds.length=es.length
 · have hsz:its.toArray.size=its2.toArray.size:=by simp only[List.size_toArray];rw[← l3,← l4,l1,l2,hl]
   have q:=SeqAt.RcAt.lists (A:=A) (s:=s) (e:=Yc ds es) p1.isList p2.isList hsz hu' (Xc n ih hd hu h1 h2 r1 r2)
   have q2:=SeqAt.RcNeAt.lists (A:=A) (s:=s) (e:=Yc ds es) p1.isList p2.isList hsz hu' (Xc n ih hd hu h1 h2 r1 r2)
   have e:(List.range its.toArray.size).all (Yc ds es)=yG ds es:=by
    simp only[List.size_toArray]
    rw[← l3,l1,XG ds es hl]
   rw[e] at q q2
   exact⟨q,q2⟩
 · have hsz:(its.toArray.size != its2.toArray.size)=true:=by
    simp only[List.size_toArray]
    rw[← l3,← l4,l1,l2]
    simpa using hl
   rw[Qg ds es hl]
   exact⟨SeqAt.RcAt.lists_lengths p1.isList p2.isList hsz hu',SeqAt.RcNeAt.lists_lengths p1.isList p2.isList hsz hu'⟩
theorem Vv(I:Inv X pins σ H s):∀ (n:Nat) (A:Around) (d e:Dt) (x y:V) (u v:Value),xG d≤n→A.units+n<cLine→Den X.K H d x→Den X.K H e y→RelV x u→RelV y v→SeqAt.EqAt A s u v (Va d e):=by
 intro n
 induction n with
 | zero =>
   intro A d e x y u v hd hu h1 h2 rx ry
   have hu':A.units<cLine:=by omega
   cases d with
   | tup ds=>simp only[xG] at hd;omega
   | lst ds=>simp only[xG] at hd;omega
   | non =>
     simp only[Den] at h1
     subst h1
     cases e with
     | tup es =>
       simp only[Den] at h2
       obtain⟨b,ys,rfl,hy,_⟩:=h2
       cases rx;cases ry
       obtain⟨its,_,p,_⟩:=I.tuple hy
       exact SeqAt.EqAt.none_tuple p hu'
     | lst es =>
       simp only[Den] at h2
       obtain⟨b,ys,rfl,hy,_⟩:=h2
       cases rx;cases ry
       obtain⟨its,_,p,_⟩:=I.list hy
       exact SeqAt.EqAt.none_list p.isList hu'
     | _=>simp only[Den] at h2;subst h2;exact Vx rx ry rfl rfl
   | bl i =>
     simp only[Den] at h1
     subst h1
     cases e with
     | tup es =>
       simp only[Den] at h2
       obtain⟨b,ys,rfl,hy,_⟩:=h2
       cases rx;cases ry
       obtain⟨its,_,p,_⟩:=I.tuple hy
       exact SeqAt.EqAt.bool_tuple _ p hu'
     | lst es =>
       simp only[Den] at h2
       obtain⟨b,ys,rfl,hy,_⟩:=h2
       cases rx;cases ry
       obtain⟨its,_,p,_⟩:=I.list hy
       exact SeqAt.EqAt.bool_list _ p.isList hu'
     | _=>simp only[Den] at h2;subst h2;exact Vx rx ry rfl rfl
   | int i =>
     simp only[Den] at h1
     subst h1
     cases e with
     | tup es =>
       simp only[Den] at h2
       obtain⟨b,ys,rfl,hy,_⟩:=h2
       obtain⟨t,rfl⟩:=rx
       cases ry
       obtain⟨its,_,p,_⟩:=I.tuple hy
       exact SeqAt.EqAt.int_tuple _ _ p hu'
     | lst es =>
       simp only[Den] at h2
       obtain⟨b,ys,rfl,hy,_⟩:=h2
       obtain⟨t,rfl⟩:=rx
       cases ry
       obtain⟨its,_,p,_⟩:=I.list hy
       exact SeqAt.EqAt.int_list _ _ p.isList hu'
     | _=>simp only[Den] at h2;subst h2;exact Vx rx ry rfl rfl
   | str i =>
     simp only[Den] at h1
     subst h1
     cases e with
     | tup es =>
       simp only[Den] at h2
       obtain⟨b,ys,rfl,hy,_⟩:=h2
       obtain⟨t,rfl⟩:=rx
       cases ry
       obtain⟨its,_,p,_⟩:=I.tuple hy
       exact SeqAt.EqAt.str_tuple _ _ p hu'
     | lst es =>
       simp only[Den] at h2
       obtain⟨b,ys,rfl,hy,_⟩:=h2
       obtain⟨t,rfl⟩:=rx
       cases ry
       obtain⟨its,_,p,_⟩:=I.list hy
       exact SeqAt.EqAt.str_list _ _ p.isList hu'
     | _=>simp only[Den] at h2;subst h2;exact Vx rx ry rfl rfl
 | succ n ih =>
   intro A d e x y u v hd hu h1 h2 rx ry
   have hu':A.units<cLine:=by omega
   by_cases hle:xG d≤n
   · exact ih A d e x y u v hle (by omega) h1 h2 rx ry
   cases d with
   | tup ds =>
     simp only[xG] at hd
     have h1':=h1
     simp only[Den] at h1
     obtain⟨a,xs,rfl,hx,hds⟩:=h1
     cases rx
     have hT:=I.tuple hx
     obtain⟨its,r1,p1,_⟩:=hT
     cases e with
     | tup es =>
       have h2':=h2
       simp only[Den] at h2
       obtain⟨b,ys,rfl,hy,hes⟩:=h2
       cases ry
       by_cases hab:a=b
       · subst hab
         rw[Den.inj I h1' h2',Qm]
         exact SeqAt.EqAt.same _
       · simp only[Va]
         exact SeqAt.EqAt.of_refs hab (VM I n ih (by omega) (by omega) hx hy hds hes).1
     | lst es =>
       simp only[Den] at h2
       obtain⟨b,ys,rfl,hy,_⟩:=h2
       cases ry
       obtain⟨its',_,p,_⟩:=I.list hy
       exact SeqAt.EqAt.tuple_list p1 p.isList hu'
     | non=>simp only[Den] at h2;subst h2;cases ry;exact SeqAt.EqAt.tuple_none p1 hu'
     | bl i=>simp only[Den] at h2;subst h2;cases ry;exact SeqAt.EqAt.tuple_bool _ p1 hu'
     | int i=>simp only[Den] at h2;subst h2;obtain⟨t,rfl⟩:=ry;exact SeqAt.EqAt.tuple_int _ _ p1 hu'
     | str i=>simp only[Den] at h2;subst h2;obtain⟨t,rfl⟩:=ry;exact SeqAt.EqAt.tuple_str _ _ p1 hu'
   | lst ds =>
     simp only[xG] at hd
     have h1':=h1
     simp only[Den] at h1
     obtain⟨a,xs,rfl,hx,hds⟩:=h1
     cases rx
     have hT:=I.list hx
     obtain⟨its,r1,p1,_⟩:=hT
     cases e with
     | lst es =>
       have h2':=h2
       simp only[Den] at h2
       obtain⟨b,ys,rfl,hy,hes⟩:=h2
       cases ry
       by_cases hab:a=b
       · subst hab
         rw[Den.inj I h1' h2',Qm]
         exact SeqAt.EqAt.same _
       · simp only[Va]
         exact SeqAt.EqAt.of_refs hab (vM I n ih (by omega) (by omega) hx hy hds hes).1
     | tup es =>
       simp only[Den] at h2
       obtain⟨b,ys,rfl,hy,_⟩:=h2
       cases ry
       obtain⟨its',_,p,_⟩:=I.tuple hy
       exact SeqAt.EqAt.list_tuple p1.isList p hu'
     | non=>simp only[Den] at h2;subst h2;cases ry;exact SeqAt.EqAt.list_none p1.isList hu'
     | bl i=>simp only[Den] at h2;subst h2;cases ry;exact SeqAt.EqAt.list_bool _ p1.isList hu'
     | int i=>simp only[Den] at h2;subst h2;obtain⟨t,rfl⟩:=ry;exact SeqAt.EqAt.list_int _ _ p1.isList hu'
     | str i=>simp only[Den] at h2;subst h2;obtain⟨t,rfl⟩:=ry;exact SeqAt.EqAt.list_str _ _ p1.isList hu'
   | _=>simp only[xG] at hle;omega
end
section
variable{X:Cx}
noncomputable def j6(K:PySem.W.Frag)(neg:Bool):R2:=fun x y H Q=>∃ a b xs ys ds es,x=.ref a∧y=.ref b∧((z5 K H a xs∧z5 K H b ys)∨(z7 K H a xs∧z7 K H b ys))∧Zp K H ds xs∧Zp K H es ys∧yy ds≤20 ∧
 Q (.bl (if neg then !yG ds es else yG ds es)) H
theorem qN{k:Nat}(hr:yQ k X.A):xw X (compareOp .Eq) (j6 X.K false):=by
 intro pins s σ H x y v u Q I rx ry h
 obtain⟨a,b,xs,ys,ds,es,rfl,rfl,hk,h1,h2,hd,q⟩:=h
 cases rx
 cases ry
 have hu:=hr.units
 rcases hk with⟨ha,hb⟩|⟨ha,hb⟩
 · exact (VM (A:=X.A) I 20 (Vv I 20) hd (by omega) ha hb h1 h2).1 _ _ _ _ ⟨.bl _,H,I,rfl,q⟩
 · exact (vM (A:=X.A) I 20 (Vv I 20) hd (by omega) ha hb h1 h2).1 _ _ _ _ ⟨.bl _,H,I,rfl,q⟩
theorem z5m{k:Nat}(hr:yQ k X.A):xw X (compareOp .NotEq) (j6 X.K true):=by
 intro pins s σ H x y v u Q I rx ry h
 obtain⟨a,b,xs,ys,ds,es,rfl,rfl,hk,h1,h2,hd,q⟩:=h
 cases rx
 cases ry
 have hu:=hr.units
 rcases hk with⟨ha,hb⟩|⟨ha,hb⟩
 · exact (VM (A:=X.A) I 20 (Vv I 20) hd (by omega) ha hb h1 h2).2 _ _ _ _ ⟨.bl _,H,I,rfl,q⟩
 · exact (vM (A:=X.A) I 20 (Vv I 20) hd (by omega) ha hb h1 h2).2 _ _ _ _ ⟨.bl _,H,I,rfl,q⟩
noncomputable def z7C(K:PySem.W.Frag):List V→Hp→VK→Prop:=fun xs H Q=>∃ x T t b,xs=[x,.ty T]∧Yq K H x t∧PySem.W.kitOne K t (.type T)=some b∧Q (.bl b) H
theorem uM:ye X (.builtin "isinstance") (z7C X.K):=by
 intro pins s σ H xs us Q I r h
 obtain⟨x,T,t,b,rfl,ty,e,q⟩:=h
 obtain⟨u,w',rfl,ru,rw'⟩:=vals2 r
 cases rw'
 exact Q5 I ru ty e fun tk=>⟨.bl b,H,I.tok tk,rfl,q⟩
theorem xH(K:PySem.W.Frag):PySem.W.kitOne K (.type "tuple") (.type "tuple")=some true:=rfl
theorem z0f(K:PySem.W.Frag):PySem.W.kitOne K (.type "int") (.type "tuple")=some false:=by rfl
theorem z1j(K:PySem.W.Frag):PySem.W.kitOne K (.type "int") (.type "int")=some true:=by rfl
theorem JX(K:PySem.W.Frag):PySem.W.kitOne K (.type "int") (.type "bool")=some false:=by rfl
theorem z1g(K:PySem.W.Frag):PySem.W.kitOne K (.type "bool") (.type "int")=some true:=by rfl
theorem UH(K:PySem.W.Frag):PySem.W.kitOne K (.type "bool") (.type "bool")=some true:=by rfl
end
end L2
namespace L2
open PySem PySem.Spec PyProof.Rows
section
variable{prog:Program}{w:World}{A:Around}{E:Value→Shared→Prop}{s:Shared}
theorem qO{M:Model}{a:Addr}{Q:Option Obj→Shared→Prop}(h:Q (s.heap.get? a) s):wpAny M A (loadIfAlive a) Q E s:=fun Γ p hΓ=>by
 unfold loadIfAlive
 rw[Sem.wp_loadIfAlive]
 exact wpAny_pure h Γ p hΓ
noncomputable abbrev qA(h:Heap)(e it:Addr)(i:Int)(f1:Bool)(old:Value)(a:Addr):Prop :=
 h.get? e=some { cls:=.type "enumerate",dict:=none,data:=.fields #[rawInt a,.bool f1,.ref it,rawInt i,.none,old],slots:=#[] }
noncomputable def V7(h:Heap)(e it:Addr)(i:Int):Prop:=(∃ old,IsEnum h e it i old)∨∃ f1 old a o,qA h e it i f1 old a∧h.get? a=some o∧a≠e∧a≠it
theorem QC{e it a:Addr}{f1:Bool}{o:Obj}{fp:List Addr}{n i:Nat}{P:Nat→Value→Prop}{St:Nat→Heap→Prop}{old:Value}{Q:Value→Shared→Prop}
 (D:Draws prog w A it fp n P St) (he:qA s.heap e it i f1 old a) (ha:s.heap.get? a=some o) (hae:a≠e) (hai:a≠it) (hst:St i s.heap) (hlt:i<n) (hne:e≠it) (hef:e∉fp)
 (hQ:∀ x h' tk,P i x→V7 h' e it ((i:Int)+1)→St (i+1) h' →
  h'.get? s.heap.objs.size=some { cls:=.type "tuple",data:=.seq #[.int i tk,x] } →
  (∀ b o,b≠e→b≠it→s.heap.get? b=some o→h'.get? b=some o)→Q (.ref s.heap.objs.size) { s with heap:=h',toks:=tk+1 }) :
 wpAny (model prog w) A (Builtin.«enumerate.__next__» ⟨[.ref e],[]⟩) (fun fin s'=>∃ v,fin=.done (.ret v)∧Q v s') E s:=by
 obtain⟨hp,g,d,tk₀,os⟩:=s
 show wpAny _ _ (field (.ref e) 2 >>= _) _ _ _
 refine wpAny_bind (wpAny_field he rfl (x:=.ref it) rfl ?_)
 refine wpAny_bind (D.item i _ _ _ hlt hst fun x h₁ tk hPx hit₁ hs₁=>?_)
 replace hs₁:Heap.SameBut it hp h₁:=hs₁
 have he₁:qA h₁ e it i f1 old a:=(hs₁.2 e hne).trans he
 show wpAny _ _ (field (.ref e) 3 >>= _) _ _ ⟨h₁,g,d,tk,os⟩
 refine wpAny_bind (wpAny_field he₁ rfl (x:=rawInt i) rfl ?_)
 show wpAny _ _ (field (.ref e) 4 >>= _) _ _ ⟨h₁,g,d,tk,os⟩
 refine wpAny_bind (wpAny_field he₁ rfl (x:=.none) rfl ?_)
 show wpAny _ _ (mkInt i >>= _) _ _ ⟨h₁,g,d,tk,os⟩
 refine wpAny_bind (wpAny_mkInt ?_)
 show wpAny _ _ (setField (.ref e) 3 (rawInt ((i:Int)+1)) >>= _) _ _ ⟨h₁,g,d,tk+1,os⟩
 refine wpAny_bind (wpAny_setField_rec he₁ (by simp) fun h₂ he₂ hs₂=>?_)
 replace hs₂:Heap.SameBut e h₁ h₂:=hs₂
 replace he₂:qA h₂ e it ((i:Int)+1) f1 old a:=he₂
 show wpAny _ _ (setField (.ref e) 4 .none >>= _) _ _ ⟨h₂,g,d,tk+1,os⟩
 refine wpAny_bind (wpAny_setField_rec he₂ (by simp) fun h₃ he₃ hs₃=>?_)
 replace hs₃:Heap.SameBut e h₂ h₃:=hs₃
 replace he₃:qA h₃ e it ((i:Int)+1) f1 old a:=he₃
 show wpAny _ _ (newTuple [.int i tk,x] >>= _) _ _ ⟨h₃,g,d,tk+1,os⟩
 refine wpAny_bind (wpAny_newTuple ?_)
 have he₄:qA (h₃.push { cls:=.type "tuple",data:=.seq #[.int i tk,x] }) e it ((i:Int)+1) f1 old a:=Heap.get?_push_of_some _ he₃
 generalize hh₄:h₃.push { cls:=.type "tuple",data:=.seq #[.int i tk,x] }=h₄ at he₄
 have hsz:h₃.objs.size=hp.objs.size:=by rw[hs₃.1,hs₂.1,hs₁.1]
 have hel:e<hp.objs.size:=Heap.lt_size he
 have ht₄:h₄.get? hp.objs.size=some { cls:=.type "tuple",data:=.seq #[.int i tk,x] }:=by rw[← hh₄,← hsz];exact Heap.get?_push_size _ rfl
 have hk₄:∀ b o,b≠e→b≠it→hp.get? b=some o→h₄.get? b=some o:=fun b o hbe hbi hb=>by
  rw[← hh₄];exact Heap.get?_push_of_some _ (hs₃.extBut b o hbe (hs₂.extBut b o hbe (hs₁.extBut b o hbi hb)))
 have hit₄:St (i+1) h₄:=D.frame _ _ _ hit₁ fun b hb o y=>by
  have hbe:b≠e:=fun q=>hef (q ▸ hb)
  rw[← hh₄];exact Heap.get?_push_of_some _ (hs₃.extBut b o hbe (hs₂.extBut b o hbe y))
 have ha₄:h₄.get? a=some o:=hk₄ a o hae hai ha
 show wpAny _ _ (Builtin.SmallTypes.ownedTupleIsFree (.ref e) >>= _) _ _ ⟨h₄,g,d,tk+1,os⟩
 rw[hsz]
 clear hh₄ he₃ hs₃ he₂ hs₂ he₁ hs₁ hit₁ hsz h₃ h₂ h₁
 refine wpAny_bind ?_
 unfold Builtin.SmallTypes.ownedTupleIsFree
 refine wpAny_bind (wpAny_field he₄ rfl (x:=rawInt a) rfl ?_)
 show wpAny _ _ (loadIfAlive ((a:Int).toNat) >>= _) _ _ _
 refine wpAny_bind (qO ?_)
 have ea:h₄.get? ((a:Int).toNat)=some o:=by rw[Int.toNat_natCast];exact ha₄
 dsimp only
 rw[ea]
 simp only[Option.isNone_some,Bool.false_eq_true,if_false]
 refine wpAny_bind (wpAny_field he₄ rfl (x:=.bool f1) rfl ?_)
 cases f1 with
 | true =>
   rw[if_neg (by simp)]
   refine wpAny_pure ?_
   simp only[Bool.false_eq_true,if_false]
   refine wpAny_pure ⟨_,rfl,hQ x h₄ tk hPx (.inr ⟨_,_,a,o,he₄,ha₄,hae,hai⟩) hit₄ ht₄ hk₄⟩
 | false =>
   rw[if_pos (by decide)]
   refine wpAny_bind (wpAny_setField_rec he₄ (by simp) fun h₅ he₅ hs₅=>?_)
   replace hs₅:Heap.SameBut e h₄ h₅:=hs₅
   replace he₅:qA h₅ e it ((i:Int)+1) true old a:=he₅
   refine wpAny_pure ?_
   simp only[Bool.false_eq_true,if_false]
   refine wpAny_pure ⟨_,rfl,hQ x h₅ tk hPx (.inr ⟨_,_,a,o,he₅,hs₅.extBut a o hae ha₄,hae,hai⟩) ?_ ?_ ?_⟩
   · exact D.frame _ _ _ hit₄ fun b hb o y=>hs₅.extBut b o (fun q=>hef (q ▸ hb)) y
   · exact hs₅.extBut _ _ (Nat.ne_of_gt hel) ht₄
   · exact fun b o hbe hbi hb=>hs₅.extBut b o hbe (hk₄ b o hbe hbi hb)
theorem V7.typeIs{e it:Addr}{i:Int}(h:V7 s.heap e it i):s.TypeIs (.ref e) "enumerate":=by
 rcases h with⟨_,h⟩|⟨_,_,_,_,h,_⟩
 · exact⟨_,h,rfl⟩
 · exact⟨_,h,rfl⟩
theorem Je{e it:Addr}{fp:List Addr}{n i:Nat}{P:Nat→Value→Prop}{St:Nat→Heap→Prop}{Q:Option Value→Shared→Prop}
 (D:Draws prog w A.in1 it fp n P St) (he:V7 s.heap e it i) (hst:St i s.heap) (hlt:i<n) (hne:e≠it) (hef:e∉fp)
 (hQ:∀ x h' tk,P i x→V7 h' e it ((i:Int)+1)→St (i+1) h' →
  h'.get? s.heap.objs.size=some { cls:=.type "tuple",data:=.seq #[.int i tk,x] } →
  (∀ b o,b≠e→b≠it→s.heap.get? b=some o→h'.get? b=some o)→Q (some (.ref s.heap.objs.size)) { s with heap:=h',toks:=tk+1 }) :
 wpAny (model prog w) A (pyNext (.ref e)) Q E s:=by
 have hT:=he.typeIs
 have hel:e<s.heap.objs.size:=by
  rcases he with⟨_,h⟩|⟨_,_,_,_,h,_⟩
  · exact Heap.lt_size h
  · exact Heap.lt_size h
 have hil:it<s.heap.objs.size:=by obtain⟨_,y⟩:=D.live _ _ hst;exact Heap.lt_size y
 unfold pyNext
 refine wpAny_bind (wpAny_attempt (wpAny_callSpecial?_slot (name:=Str.ofString "__next__") hT F.slot_enumerate_next
  (wpAny_call_entry F.slot_enumerate_next hT F.entry_enumerate_next ?_ (F.args_enumerate_next_1 _))))
 rcases he with⟨old,h⟩|⟨f1,old,a,o,h,ha,hae,hai⟩
 · exact enumerate_next_itemD D h hst hlt hne hef fun x h' tk p q r t _ k=>wpAny_pure (hQ x h' tk p (.inr ⟨_,_,_,_,q,t,Nat.ne_of_gt hel,Nat.ne_of_gt hil⟩) r t k)
 · exact QC D h ha hae hai hst hlt hne hef fun x h' tk p q r t k=>wpAny_pure (hQ x h' tk p q r t k)
theorem JF{e it:Addr}{fp:List Addr}{n:Nat}{P:Nat→Value→Prop}{St:Nat→Heap→Prop}{i:Int}{Q:Option Value→Shared→Prop}
 (D:Draws prog w A.in1 it fp n P St) (he:V7 s.heap e it i) (hst:St n s.heap)
 (hQ:∀ h',Heap.ExtBut it s.heap h'→Q none { s with heap:=h' }):wpAny (model prog w) A (pyNext (.ref e)) Q E s:=by
 have hT:=he.typeIs
 unfold pyNext
 refine wpAny_bind (wpAny_attempt (wpAny_callSpecial?_slot (name:=Str.ofString "__next__") hT F.slot_enumerate_next
  (wpAny_call_entry F.slot_enumerate_next hT F.entry_enumerate_next ?_ (F.args_enumerate_next_1 _))))
 show wpAny _ _ (field (.ref e) 2 >>= _) _ _ _
 have go:wpAny (model prog w) A.in1 (Builtin.SmallTypes.nextOf (.ref it)) (fun _ _=>False) (fun e' s'=>∃ h' ,s'={ s with heap:=h' }∧Heap.ExtBut it s.heap h'∧∃ a o,e'=.ref a∧h'.get? a=some o∧o.cls=.type "StopIteration") s:=by
  refine D.done _ _ _ hst fun h' x he' hx'=>?_
  obtain⟨o,ho,hc⟩:=hx'
  exact⟨h',rfl,he',x,o,rfl,ho,hc⟩
 have f2:wpAny (model prog w) A.in1 (field (.ref e) 2) (fun v s'=>v=.ref it∧s'=s) (fun _ _=>False) s:=by
  rcases he with⟨_,h⟩|⟨_,_,_,_,h,_⟩
  · exact wpAny_field h rfl (x:=.ref it) rfl ⟨rfl,rfl⟩
  · exact wpAny_field h rfl (x:=.ref it) rfl ⟨rfl,rfl⟩
 refine wpAny_bind (wpAny_mono f2 (fun v s' hv=>?_) fun _ _ f=>f.elim)
 obtain⟨rfl,rfl⟩:=hv
 refine wpAny_bind (wpAny_mono go (fun _ _ f=>f.elim) fun e' s'' he'=>?_)
 obtain⟨h',rfl,hx,a,o,rfl,ho,hc⟩:=he'
 refine wpAny_bind (wpAny_isInstance (T:="StopIteration") (b:=true) ⟨o,ho,hc⟩ isSubtype_stop ?_)
 exact wpAny_pure (hQ _ hx)
end
end L2
namespace L2
open PySem PySem.Spec PyProof.Rows
section
variable{X:Cx}{pins:List (Addr×Obj)}{σ:St}{H:Hp}{s:Shared}{h':Heap}
theorem Inv.JG{e it T:Addr}{o:HO}{t':Nat}(I:Inv X pins σ H s)(k:∀ b ob,b≠e→b≠it→s.heap.get? b=some ob→h'.get? b=some ob)(fe:Z7 X pins H e)(fi:Z7 X pins H it)
 (hT:s.heap.objs.size≤T) (new:Zy X.prog X.w (upd H T o) h' T o):Inv X pins σ (upd H T o) { s with heap:=h',toks:=t' }:=by
 have hn:H T=none:=I.hok.fresh hT
 have ne2:∀ b,b∉[e,it]→b≠e∧b≠it:=fun b hb=>⟨fun z=>hb (by simp[z]),fun z=>hb (by simp[z])⟩
 have neT:∀ b ob,s.heap.get? b=some ob→b≠T:=fun b ob q=>Nat.ne_of_lt (Nat.lt_of_lt_of_le (Heap.lt_size q) hT)
 have nit:∀ b u,H b=some u→b≠e∧b≠it:=fun b u q=>⟨fun z=>(by rw[z,fe.1] at q;cases q),fun z=>(by rw[z,fi.1] at q;cases q)⟩
 refine I.step (g':=s.gens) (d':=s.drawn) (ch:=[e,it]) (fun b hb=>?_) (fun b ob _ _ hc q _=>k b ob (ne2 b hc).1 (ne2 b hc).2 q) (fun b ob _ _ hc q _=>⟨ob.slots,k b ob (ne2 b hc).1 (ne2 b hc).2 q⟩)
  (fun b ob _ q n=>by rw[zp (neT b ob q)];exact n) (fun b ob hc q=>⟨ob,k b ob (ne2 b hc).1 (ne2 b hc).2 q⟩)
  (fun b xs q=>by rw[zp (zh q hn)];exact q) (fun b ob u q=>by rw[zp (zh q hn)];exact q) (fun b ps q=>⟨#[],by rw[zp (zh q hn),q];simp⟩) (fun m hm=>?_) (fun b u q=>?_) I.bare
 · rcases List.mem_cons.mp hb with z | z
   · subst z;exact⟨fe.2.2.2.1,fe.2.1,fe.2.2.2.2.1,fe.2.2.2.2.2⟩
   · have z:=List.mem_singleton.mp z
     subst z;exact⟨fi.2.2.2.1,fi.2.1,fi.2.2.2.2.1,fi.2.2.2.2.2⟩
 · obtain⟨ob,es,ep,ho,r⟩:=hm
   exact⟨ob,es,ep,k _ ob (Ne.symm fe.2.1) (Ne.symm fi.2.1) ho,r⟩
 · by_cases hb:b=T
   · subst hb;rw[zj] at q;cases q;exact new
   · rw[zp hb] at q
     refine (I.hok b u q).stay (fun c v hc z=>?_) (fun c z=>by rw[zp (zh z hn)];exact z) fun c xs z=>by rw[zp (zh z hn)];exact z
     rcases hc with e1 | e1
     · subst e1;exact k _ v (nit _ u q).1 (nit _ u q).2 z
     · exact k c v (nit c _ e1).1 (nit c _ e1).2 z
noncomputable def z1a(H:Hp)(xs ts:List V):Prop:=∀ (j:Nat) (t:V),ts[j]?=some t→∃ x T,xs[j]?=some x∧t=.ref T∧H T=some (.tup [.int j,x])
theorem Jv{A:Around}{R:Result→Shared→Prop}{e it l S:Addr}{xs:List V}{res:Value}(hh:A.handled=none)(hz:xs.length≤sizeLine)(hei:e≠it)(hel:e≠l)(hil:l≠it)(H0:Hp) :
 ∀ (k i:Nat) (s:Shared) (H:Hp) (ts:List V),xs.length - i=k→i≤xs.length→Inv X pins σ H s→V7 s.heap e it i→s.heap.IsListIter it l i→z7 X.K H l xs→H S=some (.lst ts)→ts.length=i→z1a H xs ts →
   Z7 X pins H e→Z7 X pins H it→l≠S→(∀ b o,H0 b=some o→b≠S∧H b=some o) →
   (∀ (s':Shared) (H':Hp) (ts':List V),Inv X pins σ H' s'→(∀ b o,H0 b=some o→H' b=some o)→H' S=some (.lst ts')→ts'.length=xs.length→z1a H' xs ts'→R (.ok (.ret res)) s') →
   codeAny (model X.prog X.w) A (.builtin "list.extend.loop" ⟨[.ref S,.ref e,res],[]⟩) R s:=by
 intro k
 induction k with
 | zero =>
   intro i s H ts hk hi I he hit hl hS hts hok fe fi hlS h0 hR
   have hin:i=xs.length:=by omega
   subst hin
   obtain⟨its,rv,pl,_⟩:=I.list hl
   have hlen:xs.length=its.toArray.size:=by rw[List.size_toArray];exact rv.length
   refine codeAny_builtin F.entry_extend_loop ?_
   rw[Around.under_plainId F.plain_extend_loop _]
   show wpAny _ A.in1 (pyNext (.ref e) >>= _) _ _ s
   have D:=Draws.list (prog:=X.prog) (w:=X.w) (A:=A.in1.in1) hh it l hil its.toArray
   rw[hlen] at hit
   refine wpAny_bind (JF D he ⟨hit,pl.isList⟩ fun h' hx=>?_)
   have I':Inv X pins σ H { s with heap:=h' }:=I.turned (t':=s.toks) (fun b o hb q=>hx b o hb q) fi.1 fi.2.1 fi.2.2.2.1 fi.2.2.2.2.1 fi.2.2.2.2.2
   exact wpAny_pure (hR _ H ts I' (fun b o q=>(h0 b o q).2) hS hts hok)
 | succ k ih =>
   intro i s H ts hk hi I he hit hl hS hts hok fe fi hlS h0 hR
   have hlt:i<xs.length:=by omega
   obtain⟨its,rv,pl,_⟩:=I.list hl
   have hlen:xs.length=its.toArray.size:=by rw[List.size_toArray];exact rv.length
   refine codeAny_builtin F.entry_extend_loop ?_
   rw[Around.under_plainId F.plain_extend_loop _]
   show wpAny _ A.in1 (pyNext (.ref e) >>= _) _ _ s
   have D:=Draws.list (prog:=X.prog) (w:=X.w) (A:=A.in1.in1) hh it l hil its.toArray
   refine wpAny_bind (Je D he ⟨hit,pl.isList⟩ (by rw[← hlen];exact hlt) hei (fun hm=>?_) fun x h' tk hP hen hst' hT hkp=>?_)
   · rcases List.mem_cons.mp hm with z | z
     · exact hei z
     · exact hel (List.mem_singleton.mp z)
   obtain⟨xv,hxv⟩:∃ xv,xs[i]?=some xv:=⟨xs[i],by simp[hlt]⟩
   obtain⟨u,hu,ru⟩:=rv.get hxv
   have hux:u=x:=by
    have:its.toArray[i]?=some x:=hP
    have h2:its[i]?=some x:=by simpa using this
    rw[hu] at h2
    exact Option.some.inj h2
   subst hux
   have hnT:H s.heap.objs.size=none:=I.hok.fresh (Nat.le_refl _)
   have I1:Inv X pins σ (upd H s.heap.objs.size (.tup [.int i,xv])) { s with heap:=h',toks:=tk+1 } :=
    I.JG hkp fe fi (Nat.le_refl _) ⟨by show 2≤sizeLine;decide,[.int i tk,u],.cons ⟨_,rfl⟩ (.cons ru .nil),⟨_,hT,rfl,0,rfl⟩⟩
   have hS1:upd H s.heap.objs.size (.tup [.int i,xv]) S=some (.lst ts):=by rw[zp (zh hS hnT)];exact hS
   obtain⟨its1,n1,r1,hS2,hz1⟩:=I1.lst hS1
   have hl1:=r1.length
   show wpAny _ A.in1 (updateSeq S (·.push (.ref s.heap.objs.size)) >>= _) _ _ _
   refine wpAny_bind ?_
   have hsz:its1.toArray.size≤sizeLine:=by rw[List.size_toArray,← hl1];omega
   refine wpAny_updateSeq hS2 rfl (wpAny_pure ⟨plainId_quiet F.plain_extend_loop _,?_⟩) hsz (by show (its1.toArray.push _).size≤sizeLine+1;rw[Array.size_push];omega)
   have I2:=I1.z0u (f:=Obj.mapSeq (·.push (.ref s.heap.objs.size))) (ys:=ts ++ [.ref s.heap.objs.size]) (its':=its1 ++ [.ref s.heap.objs.size]) (n':=(match (Obj.mapSeq (·.push (.ref s.heap.objs.size)) { cls:=.type "list",data:=.seq its1.toArray n1 }).data with | .seq _ n=>n | _=>0)) hS1 hS2
    (by simp[Obj.mapSeq]) (r1.append (.cons rfl .nil)) (by rw[List.length_append,List.length_singleton];omega) (tk+1)
   have hdel:S≠e:=fun z=>by rw[z,fe.1] at hS;cases hS
   have hdil:S≠it:=fun z=>by rw[z,fi.1] at hS;cases hS
   have hk2:∀ b o,b≠S→h'.get? b=some o→(h'.update S (Obj.mapSeq (·.push (.ref s.heap.objs.size)))).get? b=some o:=fun b o hb q=>(Heap.get?_update_other _ _ (Ne.symm hb)).trans q
   have hen2:V7 (h'.update S (Obj.mapSeq (·.push (.ref s.heap.objs.size)))) e it ((i+1:Nat):Int):=by
    have ec:((i+1:Nat):Int)=(i:Int)+1:=by push_cast;rfl
    rw[ec]
    rcases hen with⟨old,q⟩|⟨f1,old,a,o,q,qa,q1,q2⟩
    · exact .inl ⟨old,hk2 e _ (Ne.symm hdel) q⟩
    · by_cases hAS:a=S
      · subst hAS
        exact .inr ⟨f1,old,a,_,hk2 e _ (Ne.symm hdel) q,Heap.get?_update_self _ hS2 (by simp[Obj.mapSeq,Obj.isFreed]),q1,q2⟩
      · exact .inr ⟨f1,old,a,o,hk2 e _ (Ne.symm hdel) q,hk2 a o hAS qa,q1,q2⟩
   have hit2:(h'.update S (Obj.mapSeq (·.push (.ref s.heap.objs.size)))).IsListIter it l (i+1):=hst'.1.at fun o q=>hk2 it o (Ne.symm hdil) q
   have neN:∀ b,(∃ o,H b=some o)→b≠s.heap.objs.size:=fun b ⟨o,q⟩=>zh q hnT
   have fp2:∀ b,b≠S→b<s.heap.objs.size→Z7 X pins H b→Z7 X pins (upd (upd H s.heap.objs.size (.tup [.int i,xv])) S (.lst (ts ++ [.ref s.heap.objs.size]))) b:=fun b hb hb2 f=>by
    refine⟨?_,f.2⟩
    rw[zp hb,zp (Nat.ne_of_lt hb2)]
    exact f.1
   have hel2:e<s.heap.objs.size:=by
    rcases he with⟨_,q⟩|⟨_,_,_,_,q,_⟩
    · exact Heap.lt_size q
    · exact Heap.lt_size q
   have hil2:it<s.heap.objs.size:=by obtain⟨o,q,_⟩:=hit;exact Heap.lt_size q
   refine ih (i+1) _ _ (ts ++ [.ref s.heap.objs.size]) (by omega) hlt I2 hen2 hit2 ?_ zj (by rw[List.length_append,List.length_singleton,hts]) ?_ (fp2 e (Ne.symm hdel) hel2 fe) (fp2 it (Ne.symm hdil) hil2 fi) hlS ?_ hR
   · rcases hl with (q |⟨o,q⟩) | q
     · exact .inl (.inl (by rw[zp hlS,zp (zh q hnT)];exact q))
     · exact .inl (.inr ⟨o,by rw[zp hlS,zp (zh q hnT)];exact q⟩)
     · exact .inr q
   · intro j t hj
     by_cases hji:j<ts.length
     · rw[List.getElem?_append_left hji] at hj
       obtain⟨x',T,a1,a2,a3⟩:=hok j t hj
       refine⟨x',T,a1,a2,?_⟩
       rw[zp (by intro z;rw[z,hS] at a3;cases a3),zp (zh a3 hnT)]
       exact a3
     · have hj2:j<(ts ++ [V.ref s.heap.objs.size]).length:=(List.getElem?_eq_some_iff.mp hj).1
       rw[List.length_append,List.length_singleton] at hj2
       have ej:j=ts.length:=by omega
       subst ej
       rw[List.getElem?_append_right (Nat.le_refl _),Nat.sub_self] at hj
       have ht:t=V.ref s.heap.objs.size:=by
        have:([V.ref s.heap.objs.size]:List V)[0]?=some (V.ref s.heap.objs.size):=rfl
        rw[this] at hj
        exact (Option.some.inj hj).symm
       refine⟨xv,s.heap.objs.size,by rw[hts];exact hxv,ht,?_⟩
       rw[zp (Ne.symm (zh hS hnT)),zj,hts]
   · intro b o q
     obtain⟨q1,q2⟩:=h0 b o q
     exact⟨q1,by rw[zp q1,zp (zh q2 hnT)];exact q2⟩
end
end L2
namespace L2
open PySem PySem.Spec PyProof.Rows
theorem uT:typeLookup (.type "enumerate") "__len__"=pure none:=by rw[typeLookup_type,builtinLookup_eq_fast];kernel_rfl
theorem VN:typeLookup (.type "enumerate") "__length_hint__"=pure none:=by rw[typeLookup_type,builtinLookup_eq_fast];kernel_rfl
section
variable{X:Cx}{pins:List (Addr×Obj)}{σ:St}{H:Hp}{s:Shared}
theorem qT{e it l:Addr}{xs:List V}{Q:VK}(hc:X.calm=true)(I:Inv X pins σ H s)(he:IsEnum s.heap e it 0 .none)(hit:s.heap.IsListIter it l 0)(hl:z7 X.K H l xs)(hei:e≠it)(hel:e≠l)(hil:l≠it)
 (fe:Z7 X pins H e) (fi:Z7 X pins H it)
 (q:∀ (H':Hp) (L:Addr) (ts:List V),(∀ b o,H b=some o→H' b=some o)→H L=none→H' L=some (.lst ts)→ts.length=xs.length→z1a H' xs ts→Q (.ref L) H') :
 wpAny (model X.prog X.w) X.A (call (.type "list") [.ref e]) (EP X pins σ Q) X.xe s:=by
 have hh:X.A.handled=none:=I.ok.hd hc
 obtain⟨its,rv,pl,hz⟩:=id (I.list hl)
 have hll:l<s.heap.objs.size:=by obtain⟨o,z,_⟩:=pl.isList;exact Heap.lt_size z
 refine callType_codes (Q₁:=fun obj s₁=>obj=.ref s.heap.objs.size∧s₁={ s with heap:=s.heap.push { cls:=.type "list",data:=.seq #[] } }) F.called_list (F.typeCall_list_1 _) F.entry_list_init
  (code_list_new _ ⟨rfl,rfl⟩) fun obj s₁ h₁=>?_
 obtain⟨rfl,rfl⟩:=h₁
 have hS:(s.heap.push { cls:=.type "list",data:=.seq #[] }).get? s.heap.objs.size=some { cls:=.type "list",data:=.seq #[] }:=Heap.get?_push_size _ rfl
 refine⟨⟨_,hS,rfl⟩,F.args_list_init_2 _ _,?_⟩
 generalize hSd:s.heap.objs.size=S at *
 have hSe:S≠e:=by rw[← hSd];exact Nat.ne_of_gt (Heap.lt_size he)
 have hSl:S≠l:=Nat.ne_of_gt hll
 have hSi:S≠it:=by obtain⟨o,z,_⟩:=hit;rw[← hSd];exact Nat.ne_of_gt (Heap.lt_size z)
 have up:∀ b o,s.heap.get? b=some o→b≠S∧(s.heap.push { cls:=.type "list",data:=.seq #[] }).get? b=some o:=fun b o z=>⟨by rw[← hSd];exact Nat.ne_of_lt (Heap.lt_size z),Heap.get?_push_of_some _ z⟩
 have key:∀ (h:Heap) (c:Nat),(∀ b o,s.heap.get? b=some o→h.get? b=some o)→h.get? S=some { cls:=.type "list",dict:=none,data:=.seq #[] c,slots:=#[] } →
  codeAny (model X.prog X.w) X.A.in1 (.builtin "list.extend.loop" ⟨[.ref S,.ref e,.none],[]⟩) (wants (fun r s₂=>r=.none∧EP X pins σ Q (.ref S) s₂) X.xe) { s with heap:=h }:=by
  intro h c kp hS'
  have hn:H S=none:=I.hok.fresh (by rw[hSd];exact Nat.le_refl _)
  have I1:Inv X pins σ (upd H S (.lst [])) { s with heap:=h }:=I.laid (t':=s.toks) kp (by rw[hSd];exact Nat.le_refl _) ⟨Nat.zero_le _,[],c,.nil,hS'⟩
  have fp:∀ b,b≠S→Z7 X pins H b→Z7 X pins (upd H S (.lst [])) b:=fun b hb f=>⟨by rw[zp hb];exact f.1,f.2⟩
  have hl1:z7 X.K (upd H S (.lst [])) l xs:=by
   rcases hl with (z |⟨o,z⟩) | z
   · exact .inl (.inl (by rw[zp (Ne.symm hSl)];exact z))
   · exact .inl (.inr ⟨o,by rw[zp (Ne.symm hSl)];exact z⟩)
   · exact .inr z
  refine Jv (A:=X.A.in1) (S:=S) (xs:=xs) (H0:=H) hh hz hei hel hil _ 0 _ _ [] rfl (Nat.zero_le _) I1 (.inl ⟨_,kp _ _ he⟩) (hit.at fun o z=>kp _ o z) hl1 zj rfl (fun j t z=>by simp at z)
   (fp e (Ne.symm hSe) fe) (fp it (Ne.symm hSi) fi) (Ne.symm hSl) (fun b o z=>⟨zh z hn,by rw[zp (zh z hn)];exact z⟩) fun s' H' ts' I' k' hL' hlen' hts'=>?_
  exact⟨rfl,.ref S,H',I',rfl,q H' S ts' k' hn hL' hlen' hts'⟩
 show wpAny _ X.A.in1.in1 (do let old ←Builtin.List.listItems (.ref S);Builtin.List.listUpdate (.ref S) (fun _=>#[]);letGo old.toList.reverse;Builtin.List.listExtendWith (.ref S) (.ref e) .none) _ _ _
 refine wpAny_bind ?_
 unfold Builtin.List.listItems
 refine wpAny_bind (wpAny_seqItems hS rfl (wpAny_pure ?_))
 show wpAny _ X.A.in1.in1 (updateSeq S (fun _=>#[]) >>= fun _=>letGo (#[]:Array Value).toList.reverse >>= fun _=>Builtin.List.listExtendWith (.ref S) (.ref e) .none) _ _ _
 refine wpAny_bind (wpAny_updateSeq hS rfl ?_)
 have hS₂:=Heap.get?_update_self (Obj.mapSeq (fun _=>(#[]:Array Value))) hS rfl
 generalize hh1:(s.heap.push { cls:=.type "list",data:=.seq #[] }).update S (Obj.mapSeq (fun _=>(#[]:Array Value)))=h1 at hS₂
 have up1:∀ b o,s.heap.get? b=some o→h1.get? b=some o:=fun b o z=>by rw[← hh1];exact (Heap.get?_update_other _ _ (Ne.symm (up b o z).1)).trans (up b o z).2
 refine wpAny_bind (wpAny_letGo ?_)
 unfold Builtin.List.listExtendWith
 have hT1:Shared.TypeIs { s with heap:=h1 } (.ref e) "enumerate":=⟨_,up1 _ _ he,rfl⟩
 refine wpAny_bind (wpAny_typeOf hT1 ?_)
 have g1:Builtin.List.listSameRef (.ref S) (.ref e)=false:=by simp[Builtin.List.listSameRef,hSe]
 have g2:(Value.type "enumerate" == Value.type "list")=false:=by decide
 have g3:(Value.type "enumerate" == Value.type "tuple")=false:=by decide
 simp only[g1,g2,g3,Bool.or_false,Bool.false_eq_true,if_false]
 refine wpAny_bind (wpAny_pyIter_enum (s:={ s with heap:=h1 }) (up1 _ _ he) ?_)
 refine wpAny_bind (wpAny_holding ?_)
 unfold Builtin.List.listLengthHint
 refine wpAny_bind (wpAny_specialOf hT1 uT ?_)
 show wpAny _ X.A.in1.in1 (specialOf (Value.ref e) (Str.ofString "__length_hint__") >>= _) _ _ _
 refine wpAny_bind (wpAny_specialOf hT1 VN ?_)
 refine wpAny_pure ?_
 show wpAny _ X.A.in1.in1 (rule "list.extend.makes-room" >>= fun _=>Builtin.List.listTouch (.ref S) >>= fun _ =>
  again (.builtin "list.extend.loop" ⟨[.ref S,.ref e,.none],[]⟩)) _ _ _
 refine wpAny_bind (wpAny_rule ?_)
 refine wpAny_bind ?_
 show wpAny _ X.A.in1.in1 (updateSeq S (·.push .none) >>= fun _=>updateSeq S (·.pop)) _ _ _
 refine wpAny_bind (wpAny_updateSeq hS₂ rfl ?_)
 have hS₃:=Heap.get?_update_self (Obj.mapSeq (·.push Value.none)) hS₂ rfl
 refine wpAny_updateSeq (hz:=by seq_fits) hS₃ rfl ?_
 have hS₄:=Heap.get?_update_self (Obj.mapSeq (·.pop)) hS₃ rfl
 refine wpAny_pure ⟨plainId_quiet F.plain_extend_loop _,key _ _ (fun b o z=>?_) hS₄⟩
 exact (Heap.get?_update_other _ _ (Ne.symm (up b o z).1)).trans ((Heap.get?_update_other _ _ (Ne.symm (up b o z).1)).trans (up1 b o z))
end
section
variable{X:Cx}
noncomputable def z4I(K:PySem.W.Frag)(ta:TA):TE:=fun σ H Q=>ta σ H fun vs H1=>∃ l xs,vs=[.ref l]∧z7 K H1 l xs ∧
 ∀ (H':Hp) (L:Addr) (ts:List V),(∀ b o,H1 b=some o→H' b=some o)→H1 L=none→H' L=some (.lst ts)→ts.length=xs.length→z1a H' xs ts→Q (.ref L) H'
theorem z0D{a:Expr}{ta:TA}{p p' pos pos':Pos}(hc:X.calm=true)(hgL:Gl X "list")(hmL:X.mg "list"=none)(hgE:Gl X "enumerate")(hmE:X.mg "enumerate"=none)(ha:PA X [a] ta)
 (hs:starEach [.Call (.Name "enumerate" p') [a] [] pos'] X.env=[(false,eval (.Call (.Name "enumerate" p') [a] [] pos') X.env)]:=by rfl) (hs2:starEach [a] X.env=[(false,eval a X.env)]:=by rfl) :
 PE X (.Call (.Name "list" p) [.Call (.Name "enumerate" p') [a] [] pos'] [] pos) (z4I X.K ta):=by
 intro pins s σ H Q I h
 refine wpAny_Call_Name_kw (Yh I hgL hmL boot_list ?_ (by decide) (by decide))
 refine PyProof.Rows.callWith_type1 ?_ hs rfl
 rw[hs]
 show wpAny _ _ (spliced ((false,eval (.Call (.Name "enumerate" p') [a] [] pos') X.env) :: backTo pos [])) _ _ s
 refine Calls.spliced_cons ?_
 refine wpAny_Call_Name_kw (Yh I hgE hmE boot_enumerate ?_ (by decide) (by decide))
 refine PyProof.Rows.callWith_type1 (Zt (ha pos' pins s σ H _ I h) fun us s1 ⟨vs,H1,I1,r1,q1⟩=>?_) hs2 rfl
 obtain⟨l,xs,rfl,hl,q⟩:=q1
 obtain⟨u,rfl,ru⟩:=vals1 r1
 cases ru
 obtain⟨its,rv,pl,hz⟩:=id (I1.list hl)
 have hll:l<s1.heap.objs.size:=by obtain⟨o,z,_⟩:=pl.isList;exact Heap.lt_size z
 refine call_enumerate_list pl.isList fun h' he hit hsz hk=>?_
 have I2:Inv X pins σ H1 { s1 with heap:=h' }:=I1.kept (t':=s1.toks) hk
 refine Calls.spliced_nil ?_
 have nx:∀ b,s1.heap.objs.size≤b→Z7 X pins H1 b:=fun b hb=>I1.V2 hb (I1.hok.fresh hb)
 exact qT hc I2 he hit hl (Nat.succ_ne_self _) (Nat.ne_of_gt (Nat.lt_succ_of_lt hll)) (Nat.ne_of_lt hll) (nx _ (Nat.le_succ _)) (nx _ (Nat.le_refl _)) q
end
end L2
namespace Pw
noncomputable def mk(a b:Int):Int×Int:=if b<0 then (a.fdiv (-(Int.gcd a b:Int)),b.fdiv (-(Int.gcd a b:Int))) else (a.fdiv (Int.gcd a b:Int),b.fdiv (Int.gcd a b:Int))
noncomputable def Canon(p:Int×Int):Prop:=0<p.2∧Int.gcd p.1 p.2=1
theorem z0k{a b:Int}(h:b≠0):0<(Int.gcd a b:Int):=by
 have:0<Int.gcd a b:=Nat.pos_of_ne_zero fun z=>h (Int.gcd_eq_zero_iff.mp z).2
 omega
theorem Yr{k m n:Int}(h:k∣m * n)(c:Int.gcd m k=1):k∣n:=by
 have h1:k.natAbs∣m.natAbs * n.natAbs:=by rw[← Int.natAbs_mul];exact Int.natAbs_dvd_natAbs.mpr h
 have h2:Nat.Coprime k.natAbs m.natAbs:=by
  show Nat.gcd _ _=1
  rw[Nat.gcd_comm];exact c
 exact Int.natAbs_dvd_natAbs.mp (Nat.Coprime.dvd_of_dvd_mul_left h2 h1)
theorem ZV{a b:Int}(h:b≠0):Canon (mk a b)∧(mk a b).1 * b=a * (mk a b).2:=by
 have hg:=z0k (a:=a) h
 obtain⟨x,hx⟩:((Int.gcd a b:Nat):Int)∣a:=Int.gcd_dvd_left ..
 obtain⟨y,hy⟩:((Int.gcd a b:Nat):Int)∣b:=Int.gcd_dvd_right ..
 generalize hG:(Int.gcd a b:Int)=g at *
 have hgn:g≠0:=by omega
 have cop:Int.gcd x y=1:=by
  have h1:Int.gcd a b=Int.gcd (g * x) (g * y):=by rw[← hx,← hy]
  rw[Int.gcd_mul_left] at h1
  have h2:(g.natAbs:Int)=g:=by omega
  have h3:(Int.gcd a b:Int)=g.natAbs:=by rw[hG,h2]
  have h4:Int.gcd a b=g.natAbs:=by omega
  have h5:g.natAbs * Int.gcd x y=g.natAbs * 1:=by rw[← h1,h4];simp
  exact Nat.eq_of_mul_eq_mul_left (by omega) h5
 have e1:a.fdiv g=x:=by rw[hx];exact Int.mul_fdiv_cancel_left _ hgn
 have e2:b.fdiv g=y:=by rw[hy];exact Int.mul_fdiv_cancel_left _ hgn
 have e3:a.fdiv (-g)=-x:=by
  have:a=(-g) * (-x):=by rw[Int.neg_mul_neg];exact hx
  rw[this];exact Int.mul_fdiv_cancel_left _ (by omega)
 have e4:b.fdiv (-g)=-y:=by
  have:b=(-g) * (-y):=by rw[Int.neg_mul_neg];exact hy
  rw[this];exact Int.mul_fdiv_cancel_left _ (by omega)
 unfold mk
 rw[hG]
 by_cases hb:b<0
 · rw[if_pos hb,e3,e4]
   have hy0:y<0:=by
    refine Int.not_le.mp fun hy0=>?_
    have:=Int.mul_nonneg (Int.le_of_lt hg) hy0
    omega
   refine⟨⟨by show 0 < -y;omega,by show Int.gcd (-x) (-y)=1;rw[Int.neg_gcd,Int.gcd_neg];exact cop⟩,?_⟩
   show -x * b=a * -y
   rw[hx,hy];grind
 · rw[if_neg hb,e1,e2]
   have hy0:0<y:=by
    refine Int.not_le.mp fun hy0=>?_
    have:=Int.mul_nonneg (Int.le_of_lt hg) (show 0≤-y by omega)
    rw[Int.mul_neg,← hy] at this
    omega
   refine⟨⟨hy0,cop⟩,?_⟩
   show x * b=a * y
   rw[hx,hy];grind
theorem Xs{p q:Int×Int}(hp:Canon p)(hq:Canon q)(h:p.1 * q.2=q.1 * p.2):p=q:=by
 obtain⟨p1,p2⟩:=p
 obtain⟨q1,q2⟩:=q
 obtain⟨a1,a2⟩:=hp
 obtain⟨b1,b2⟩:=hq
 simp only at *
 have d1:p2∣q2:=by
  have:p2∣p1 * q2:=⟨q1,by rw[h];grind⟩
  exact Yr this a2
 have d2:q2∣p2:=by
  have:q2∣q1 * p2:=⟨p1,by rw[← h];grind⟩
  exact Yr this b2
 have e:p2=q2:=Int.dvd_antisymm (by omega) (by omega) d1 d2
 subst e
 have:p1=q1:=Int.eq_of_mul_eq_mul_right (by omega) h
 rw[this]
theorem z2C{a b:Int}{p:Int×Int}(h:b≠0)(hp:Canon p)(hw:p.1 * b=a * p.2):mk a b=p:=by
 obtain⟨c,w⟩:=ZV (a:=a) h
 refine Xs c hp (Int.eq_of_mul_eq_mul_right h ?_)
 grind
theorem uc{p:Int×Int}(h:Canon p):mk p.1 p.2=p:=z2C (by have:=h.1;omega) h (by grind)
theorem mk_le{a b:Int}(h:b≠0):(mk a b).1.natAbs≤a.natAbs∧(mk a b).2.natAbs≤b.natAbs:=by
 obtain⟨⟨c1,c2⟩,w⟩:=ZV (a:=a) h
 generalize mk a b=p at *
 obtain⟨x,y⟩:=p
 simp only at *
 have d1:y∣b:=by
  have:y∣x * b:=⟨a,by rw[w];grind⟩
  exact Yr this c2
 have d2:x∣a:=by
  have:x∣y * a:=⟨b,by rw[w];grind⟩
  exact Yr this (by rw[Int.gcd_comm];exact c2)
 refine⟨?_,Nat.le_of_dvd (by omega) (Int.natAbs_dvd_natAbs.mpr d1)⟩
 by_cases ha:a=0
 · subst ha
   have:x * b=0:=by rw[w,Int.zero_mul]
   rcases Int.mul_eq_zero.mp this with z | z
   · rw[z];simp
   · exact absurd z h
 · exact Nat.le_of_dvd (by omega) (Int.natAbs_dvd_natAbs.mpr d2)
theorem V0{x y:Int}(hx:0≤x)(hy:0<y):Int.gcd y (x % y)=Int.gcd x y:=by
 obtain⟨m,rfl⟩:=Int.eq_ofNat_of_zero_le hx
 obtain⟨n,rfl⟩:=Int.eq_ofNat_of_zero_le (Int.le_of_lt hy)
 show Nat.gcd n (((m:Int) % (n:Int)).natAbs)=Nat.gcd m n
 have e:((m:Int) % (n:Int)).natAbs=m % n:=by rw[← Int.natCast_emod,Int.natAbs_natCast]
 rw[e,Nat.gcd_comm m n,Nat.gcd_comm n (m % n),← Nat.gcd_rec]
end Pw
namespace L2
open PySem PySem.Spec PyProof.Rows
theorem YN{b:Bool}{A B:Prop}(e:b=true)(a:A):if b=true then A else B:=by rw[if_pos e];exact a
theorem yH{b:Bool}{A B:Prop}(e:b=false)(h:B):if b=true then A else B:=by rw[e];exact z4f h
theorem if2{b:Bool}{A B:Prop}(h1:b=true→A)(h2:b=false→B):if b=true then A else B:=by
 cases b with
 | true=>exact z6n (h1 rfl)
 | false=>exact z4f (h2 rfl)
theorem vne{i j:Int}(h:i≠j):(!decide (V.int i=V.int j))=true:=by
 rw[decide_eq_false (fun z=>h (V.int.inj z))];rfl
theorem veq{i j:Int}(h:i=j):(!decide (V.int i=V.int j))=false:=by
 rw[decide_eq_true (congrArg V.int h)];rfl
theorem zR{k:Int}(n:Nat){m:Nat}(h:k.natAbs<2 ^ n)(l:n≤m:=by decide):Sz m k:=Sz.mono h l
noncomputable def Wt(Pv:Nat→List V→St→Hp→Prop)(n:Nat):Nat→Nat→List V→St→Hp→Prop:=fun i m ys σ H=>m=n - i∧i≤n∧Pv i ys σ H
theorem Wt.next{Pv:Nat→List V→St→Hp→Prop}{n i:Nat}{ys:List V}{σ:St}{H:Hp}(h:i<n)(p:Pv (i+1) ys σ H):∃ m',m'<n - i∧Wt Pv n (i+1) m' ys σ H:=⟨n - (i+1),by omega,rfl,h,p⟩
section
variable{K:PySem.W.Frag}{a D:Addr}{xs:List V}{g:TG}{tt:TT}{te:TE}{σ0:St}{H0:Hp}{Q:VK}
theorem yC(Pv:Nat→List V→St→Hp→Prop)(h0:Pv 0 [] σ0 H0)(hl:∀ i ys σ H,Pv i ys σ H→z5 K H a xs∧H D=some (.lst ys))
 (hs:∀ i x ys σ H,xs[i]?=some x→i<xs.length→Pv i ys σ H→g x σ H fun σ3 H3=>tt σ3 H3 fun b H4=>if b=true then
  te σ3 H4 fun y H5=>H5 D=some (.lst ys)∧ys.length<sizeLine∧∃ m',m'<xs.length - i∧Wt Pv xs.length (i+1) m' (ys ++ [y]) σ3 (upd H5 D (.lst (ys ++ [y]))) else ∃ m',m'<xs.length - i∧Wt Pv xs.length (i+1) m' ys σ3 H4)
 (hd:∀ ys σ H,Pv xs.length ys σ H→Q (.ref D) H) :
 qQ (Itt K a) D g tt te Q σ0 H0:=by
 refine⟨Wt Pv xs.length,⟨xs.length,rfl,Nat.zero_le _,h0⟩,?_⟩
 rintro i m ys σ' H' ⟨rfl,hi,p⟩
 obtain⟨hq,hD⟩:=hl i ys σ' H' p
 refine⟨hD,?_⟩
 by_cases hlt:i<xs.length
 · refine .inr ⟨⟨xs,xs[i],hq,by simp[hlt]⟩,fun x H2 y=>?_⟩
   obtain⟨e,y⟩:=y
   subst e
   exact hs i x ys σ' _ (y xs hq) hlt p
 · have e:i=xs.length:=by omega
   subst e
   exact .inl ⟨⟨xs,hq,Nat.le_refl _⟩,hd ys σ' H' p⟩
theorem Yk(Pv:Nat→List V→St→Hp→Prop)(h0:Pv 0 [] σ0 H0)(hl:∀ i ys σ H,Pv i ys σ H→z7 K H a xs∧H D=some (.lst ys))
 (hs:∀ i x ys σ H,xs[i]?=some x→i<xs.length→Pv i ys σ H→g x σ H fun σ3 H3=>tt σ3 H3 fun b H4=>if b=true then
  te σ3 H4 fun y H5=>H5 D=some (.lst ys)∧ys.length<sizeLine∧∃ m',m'<xs.length - i∧Wt Pv xs.length (i+1) m' (ys ++ [y]) σ3 (upd H5 D (.lst (ys ++ [y]))) else ∃ m',m'<xs.length - i∧Wt Pv xs.length (i+1) m' ys σ3 H4)
 (hd:∀ ys σ H,Pv xs.length ys σ H→Q (.ref D) H) :
 qQ (Itl K a) D g tt te Q σ0 H0:=by
 refine⟨Wt Pv xs.length,⟨xs.length,rfl,Nat.zero_le _,h0⟩,?_⟩
 rintro i m ys σ' H' ⟨rfl,hi,p⟩
 obtain⟨hq,hD⟩:=hl i ys σ' H' p
 refine⟨hD,?_⟩
 by_cases hlt:i<xs.length
 · refine .inr ⟨⟨xs,xs[i],hq,by simp[hlt]⟩,fun x H2 y=>?_⟩
   obtain⟨e,y⟩:=y
   subst e
   exact hs i x ys σ' _ (y xs hq) hlt p
 · have e:i=xs.length:=by omega
   subst e
   exact .inl ⟨⟨xs,hq,Nat.le_refl _⟩,hd ys σ' H' p⟩
end
section
variable{X:Cx}{K:PySem.W.Frag}
theorem Jm(e:X.K=K):ye X (.builtin "len") (fun xs H Q=>∃ p ys,xs=[.ref p]∧(z7 K H p ys∨z5 K H p ys)∧Q (.int ys.length) H):=e ▸ Zh
theorem ZG(e:X.K=K):IxR X (z5o K):=e ▸ z9
theorem qh(e:X.K=K):IxR X (z5X K):=e ▸ zN
end
theorem XJ(K:PySem.W.Frag)(H:Hp):∀ ns:List Int,Zp K H (ns.map Dt.int) (ns.map V.int)
 | []=>by simp only[List.map_nil,Zp]
 | n :: ns=>by
   simp only[List.map_cons,Zp]
   exact⟨_,_,rfl,by simp only[Den],XJ K H ns⟩
theorem VP:∀ ns:List Int,yy (ns.map Dt.int)=0
 | []=>rfl
 | n :: ns=>by simp only[List.map_cons,yy,xG,VP ns];rfl
theorem vf:∀ ns ms:List Int,yG (ns.map Dt.int) (ms.map Dt.int)=decide (ns=ms)
 | [],[]=>rfl
 | [],_ :: _=>rfl
 | _ :: _,[]=>rfl
 | n :: ns,m :: ms=>by
   simp only[List.map_cons,yG,Va]
   rw[vf ns ms]
   by_cases h:n=m
   · subst h;simp
   · simp[h]
theorem uX(K:PySem.W.Frag)(H:Hp)(x y:Int):Zp K H [Dt.int x,Dt.int y] [V.int x,V.int y]:=XJ K H [x,y]
theorem z5S(x y:Int):yy [Dt.int x,Dt.int y]≤20:=by simp only[yy,xG];decide
theorem z0v(x y z u:Int):yG [Dt.int x,Dt.int y] [Dt.int z,Dt.int u]=decide ((x,y)=(z,u)):=by
 rw[show ([Dt.int x,Dt.int y]:List Dt)=[x,y].map Dt.int from rfl,show ([Dt.int z,Dt.int u]:List Dt)=[z,u].map Dt.int from rfl,vf]
 simp
noncomputable def z4(H:Hp)(p:Addr):Prop:=∃ a b:Int,H p=some (.lst [.int a,.int b])∧0≤a∧0≤b∧b<2147483587
theorem z4.new{H:Hp}{p q:Addr}{o:HO}(h:z4 H p)(hq:H q=none):z4 (upd H q o) p:=by
 obtain⟨a,b,e,r⟩:=h
 exact⟨a,b,by rw[zp (zh e hq)];exact e,r⟩
theorem z4.ne{H:Hp}{p q:Addr}(h:z4 H p)(hq:H q=none):q≠p:=by
 obtain⟨a,b,e,r⟩:=h
 exact (zh e hq).symm
noncomputable def Kp(p:Addr)(H H':Hp):Prop:=∀ b o,H b=some o→b≠p→H' b=some o
theorem Kp.trans{p:Addr}{H H1 H2:Hp}(a:Kp p H H1)(b:Kp p H1 H2):Kp p H H2:=fun c o h n=>b c o (a c o h n) n
theorem Kp.new{p q:Addr}{H:Hp}{o:HO}(hq:H q=none):Kp p H (upd H q o):=fun b u h _=>by rw[zp (zh h hq)];exact h
theorem Kp.set{p:Addr}{H:Hp}{o:HO}:Kp p H (upd H p o):=fun b u h n=>by rw[zp n];exact h
theorem Kp.same{p:Addr}{H H1:Hp}(h:H p=none)(k:Kp p H H1):zu H H1:=fun b o e=>k b o e (zh e h)
theorem zu.kp{p:Addr}{H H1:Hp}(k:zu H H1):Kp p H H1:=fun b o e _=>k b o e
theorem zu.new{q:Addr}{H:Hp}{o:HO}(hq:H q=none):zu H (upd H q o):=fun b u h=>by rw[zp (zh h hq)];exact h
theorem zu.V9{K:PySem.W.Frag}{H H':Hp}{a:Addr}{xs:List V}(e:zu H H')(h:z5 K H a xs):z5 K H' a xs:=by
 rcases h with (h |⟨o,h⟩) | h
 · exact .inl (.inl (e _ _ h))
 · exact .inl (.inr ⟨o,e _ _ h⟩)
 · exact .inr h
noncomputable def AllInt(xs:List V):Prop:=∀ (j:Nat) (x:V),xs[j]?=some x→∃ i:Int,x=.int i
noncomputable def Yl:Sp:=fun vs H Q _=>∃ x y:Int,vs=[.int x,.int y]∧0≤x∧0≤y∧Q (.int (Int.gcd x y:Int)) H
noncomputable def z4b:Sp:=fun vs H Q _=>∃ x y:Int,vs=[.int x,.int y]∧y≠0∧Sz 8000 x∧Sz 8000 y∧∀ p,H p=none→Q (.ref p) (upd H p (.tup [.int (Pw.mk x y).1,.int (Pw.mk x y).2]))
noncomputable def z0O:Sp:=fun vs H Q _=>∃ x y:Int,vs=[.int x,.int y]∧0<y∧Sz 8000 x∧Sz 8000 y∧∀ p,H p=none→Q (.ref p) (upd H p (.tup [.int (Pw.mk x y).1,.int (Pw.mk x y).2]))
noncomputable def UX:Sp:=fun vs H Q _=>∃ c k:Int,vs=[.int c,.int k]∧0≤k∧k<1000∧∀ p H',H p=none→z4 H' p→zu H H'→Q (.ref p) H'
noncomputable def XE:Sp:=fun vs H Q _=>∃ (p:Addr) (lim:Int),vs=[.ref p,.int lim]∧0<lim∧lim<2 ^ 60∧z4 H p∧∀ (v:Int) (H':Hp),0≤v→v<lim→z4 H' p→Kp p H H'→Q (.int v) H'
noncomputable def Vb(K:PySem.W.Frag):Sp:=fun vs H Q _=>∃ (a:Addr) (m:Int) (ns:List Int),vs=[.ref a,.int m]∧z7 K H a (ns.map V.int)∧ns.length≤63 ∧
 ∀ (H':Hp) (L:Addr) (xs ts:List V),zu H H'→H L=none→H' L=some (.lst ts)→ts.length=xs.length→z1a H' xs ts→AllInt xs→xs.length≤64→Q (.ref L) H'
noncomputable def jl(K:PySem.W.Frag):Sp:=fun vs H Q _=>∃ (a:Addr) (ns:List Int),vs=[.ref a]∧z7 K H a (ns.map V.int)∧ns.length≤63∧∀ H',Q (.bl true) H'
end L2
namespace Pw
noncomputable def ZI(p q:Int×Int):Int×Int:=mk (p.1 * q.2+q.1 * p.2) (p.2 * q.2)
noncomputable def XT(p q:Int×Int):Int×Int:=mk (p.1 * q.2 - q.1 * p.2) (p.2 * q.2)
noncomputable def Zm(p q:Int×Int):Int×Int:=mk (p.1 * q.1) (p.2 * q.2)
structure Fr(A:Int×Int)(n d:Int):Prop where
 canon:Canon A
 ne:d≠0
 w:A.1 * d=n * A.2
theorem Fr.pos{A:Int×Int}{n d:Int}(h:Fr A n d):A.2≠0:=by have:=h.canon.1;omega
theorem Fr.made{n d:Int}(h:d≠0):Fr (Pw.mk n d) n d:=⟨(ZV h).1,h,(ZV h).2⟩
theorem Fr.of{A:Int×Int}(h:Canon A):Fr A A.1 A.2:=⟨h,by have:=h.1;omega,rfl⟩
end Pw
namespace L2
open PySem PySem.Spec PyProof.Rows
section
variable{X:Cx}
theorem z4D:xw X (compareOp .Is) (fun x y H Q=>∃ a b,x=.bl a∧y=.bl b∧Q (.bl (a == b)) H):=by
 intro pins s σ H x y v u Q I rx ry h
 obtain⟨a,b,rfl,rfl,q⟩:=h
 cases rx
 cases ry
 refine wpAny_is_plain rfl ⟨.bl (a == b),H,I,?_,q⟩
 cases a <;> cases b <;> rfl
theorem Xf:xw X (compareOp .IsNot) (fun x y H Q=>∃ a b,x=.bl a∧y=.bl b∧Q (.bl (!(a == b))) H):=by
 intro pins s σ H x y v u Q I rx ry h
 obtain⟨a,b,rfl,rfl,q⟩:=h
 cases rx
 cases ry
 refine wpAny_isNot_plain rfl ⟨.bl (!(a == b)),H,I,?_,q⟩
 cases a <;> cases b <;> rfl
end
noncomputable def z7S(t u:TS):TS:=fun D σ H=>∃ R:St→Hp→Prop,t { D with nx:=R } σ H∧∀ σ' H',R σ' H'→u D σ' H'
theorem Xj{X:Cx}{st:Stmt}{rest:List Stmt}{t u:TS}(h1:PS X st t)(h2:uY X rest u):uY X (st :: rest) (z7S t u):=by
 intro pins s σ H D I h
 obtain⟨R,h,hR⟩:=h
 refine wpAny_execs_cons (Zt (h1 pins s σ H { D with nx:=R } I h) fun f s1 q=>?_)
 cases f with
 | next =>
   obtain⟨σ',H',I',q⟩:=q
   exact h2 pins s1 σ' H' D I' (hR σ' H' q)
 | ret v=>exact q
 | brk=>exact q
 | cont=>exact q
noncomputable def z5I(t:TA):TE:=fun σ H Q=>t σ H fun xs H1=>xs.length≤sizeLine∧∀ (p:Addr) (H':Hp),zu H1 H'→H1 p=none→H' p=some (.tup xs)→Q (.ref p) H'
noncomputable def z6w(t:TA):TE:=fun σ H Q=>t σ H fun xs H1=>xs.length≤sizeLine∧∀ (p:Addr) (H':Hp),zu H1 H'→H1 p=none→H' p=some (.lst xs)→Q (.ref p) H'
section
variable{X:Cx}{es:List Expr}{t:TA}{pos:Pos}
theorem zq{x1}(h:PA X es t):PE X (.Tuple es x1 pos) (z5I t):=by
 intro pins s σ H Q I hq
 refine wpAny_Tuple_spliced (Zt (h pos pins s σ H _ I hq) fun us s1 ⟨xs,H1,I1,r,z,q⟩=>⟨by rw[← r.length];exact z,?_⟩)
 have hf:H1 s1.heap.objs.size=none:=I1.hok.fresh (Nat.le_refl _)
 refine⟨.ref s1.heap.objs.size,upd H1 s1.heap.objs.size (.tup xs),I1.laid (t':=s1.toks) (fun b u e=>Heap.get?_push_of_some _ e) (Nat.le_refl _) ?_,rfl,q _ _ (zu.new hf) hf zj⟩
 exact⟨z,us,r,⟨_,Heap.get?_push_size _ rfl,rfl,_,rfl⟩⟩
theorem Ze(h:PA X es t):PE X (.List es pos) (z6w t):=by
 intro pins s σ H Q I hq
 refine wpAny_List_spliced (Zt (h pos pins s σ H _ I hq) fun us s1 ⟨xs,H1,I1,r,z,q⟩=>⟨by rw[← r.length];exact z,?_⟩)
 have hf:H1 s1.heap.objs.size=none:=I1.hok.fresh (Nat.le_refl _)
 refine⟨.ref s1.heap.objs.size,upd H1 s1.heap.objs.size (.lst xs),I1.laid (t':=s1.toks) (fun b u e=>Heap.get?_push_of_some _ e) (Nat.le_refl _) ?_,rfl,q _ _ (zu.new hf) hf zj⟩
 exact⟨z,us,0,r,Heap.get?_push_size _ rfl⟩
end
noncomputable def Yd:Sp:=fun vs H Q _=>∃ x y:Int,vs=[.int x,.int y]∧0<y∧Sz 8000 x∧Sz 8000 y∧∀ (p:Addr) (H':Hp),zu H H'→H p=none→H' p=some (.tup [.int (Pw.mk x y).1,.int (Pw.mk x y).2])→Q (.ref p) H'
theorem z0r{P:Program}{w:World}{K:PySem.W.Frag}{mg:Str→Option Value}{base:Heap}{CX:JH}{k:Nat}{f:Addr}{fd:FuncData}{ps:List Str}(F:ZY P w K mg base CX k f fd ps z0O):ZY P w K mg base CX k f fd ps Yd :=
 F.imp fun vs H Q E ⟨x,y,e,h1,h2,h3,h4⟩=>⟨x,y,e,h1,h2,h3,fun p hp=>h4 p _ (zu.new hp) hp zj⟩
noncomputable def Z9(n:Nat)(A:Int×Int):Prop:=Sz n A.1∧Sz n A.2
theorem Z9.mono{n m:Nat}{A:Int×Int}(h:Z9 n A)(l:n≤m):Z9 m A:=⟨h.1.mono l,h.2.mono l⟩
theorem xq{n:Nat}{x y:Int}(hy:y≠0)(sx:Sz n x)(sy:Sz n y):Z9 n (Pw.mk x y) :=
 ⟨Nat.lt_of_le_of_lt (Pw.mk_le hy).1 sx,Nat.lt_of_le_of_lt (Pw.mk_le hy).2 sy⟩
theorem z0K{n m:Nat}{A B:Int×Int}(a:Z9 n A)(b:Z9 m B)(ha:A.2≠0)(hb:B.2≠0):Z9 (n+m+1) (Pw.ZI A B) :=
 xq (Int.mul_ne_zero ha hb) ((a.1.mul b.2).add ((b.1.mul a.2).mono (by omega))) ((a.2.mul b.2).mono (by omega))
theorem V4{n m:Nat}{A B:Int×Int}(a:Z9 n A)(b:Z9 m B)(ha:A.2≠0)(hb:B.2≠0):Z9 (n+m+1) (Pw.XT A B) :=
 xq (Int.mul_ne_zero ha hb) ((a.1.mul b.2).sub ((b.1.mul a.2).mono (by omega))) ((a.2.mul b.2).mono (by omega))
theorem yo{n m:Nat}{A B:Int×Int}(a:Z9 n A)(b:Z9 m B)(ha:A.2≠0)(hb:B.2≠0):Z9 (n+m+1) (Pw.Zm A B) :=
 xq (Int.mul_ne_zero ha hb) ((a.1.mul b.1).mono (by omega)) ((a.2.mul b.2).mono (by omega))
noncomputable abbrev xB(_:PySem.W.Frag)(H:Hp)(p:Addr)(A:Int×Int):Prop:=H p=some (.tup [.int A.1,.int A.2])
theorem uP{K:PySem.W.Frag}{H:Hp}{p q:Addr}{A B:Int×Int}{Q:VK}(h1:xB K H p A)(h2:xB K H q B)(k:Q (.bl (decide (A=B))) H):j6 K false (.ref p) (.ref q) H Q :=
 ⟨p,q,_,_,_,_,rfl,rfl,.inl ⟨z5.of h1,z5.of h2⟩,uX _ _ _ _,uX _ _ _ _,z5S _ _,by rw[if_neg Bool.false_ne_true,z0v];exact k⟩
theorem Kp.frA{K:PySem.W.Frag}{h p:Addr}{H H':Hp}{A:Int×Int}(k:Kp h H H')(n:p≠h)(f:xB K H p A):xB K H' p A:=k _ _ f n
theorem xB.ne{K:PySem.W.Frag}{h p:Addr}{H:Hp}{A:Int×Int}(f:xB K H p A)(hh:z4 H h):p≠h:=by
 obtain⟨a,b,e,_⟩:=hh
 exact z3I f e (by intro z;cases z)
end L2
namespace Srt
open PySem PySem.W PyProof.Rows
noncomputable def run{α:Type}(lt:Nat→Nat→Bool):KasT α→α
 | .ret a=>a
 | .ask i j k=>run lt (k (lt i j))
theorem run_bind{α β:Type}(lt:Nat→Nat→Bool)(f:α→KasT β):∀ t:KasT α,run lt (t.bind f)=run lt (f (run lt t))
 | .ret _=>rfl
 | .ask i j k=>by
   show run lt ((k (lt i j)).bind f)=_
   rw[run_bind lt f (k (lt i j))]
   rfl
noncomputable def e(p:Array Nat)(k:Nat):Nat:=p.getD k 0
theorem z1b{p q:Array Nat}{i k:Nat}(h:p[i]?=q[k]?):e p i=e q k:=by
 have h1:p.getD i 0=(p[i]?).getD 0:=by simp[Array.getD_eq_getD_getElem?]
 have h2:q.getD k 0=(q[k]?).getD 0:=by simp[Array.getD_eq_getD_getElem?]
 show p.getD i 0=q.getD k 0
 rw[h1,h2,h]
theorem yw{p:Array Nat}{i j k:Nat}(hj:j≤p.size)(h1:i≤k)(h2:k<j):e (kas_rev p i j) k=e p (i+j - 1 - k):=by
 unfold kas_rev
 refine z1b ?_
 rw[getElem?_mirror hj ((j - i) / 2) (by omega) k]
 split
 · rfl
 · rename_i h
   have:i+j - 1 - k=k:=by omega
   rw[this]
theorem yM{p:Array Nat}{i j k:Nat}(hj:j≤p.size)(h:k<i∨j≤k):e (kas_rev p i j) k=e p k:=by
 unfold kas_rev
 refine z1b ?_
 rw[getElem?_mirror hj ((j - i) / 2) (by omega) k]
 split
 · omega
 · rfl
theorem z3u{p:Array Nat}{k l i:Nat}(hk:k<p.size)(hl:l≤k):e (bubble p k (k - l)) i=if i=l then e p k else if l<i∧i≤k then e p (i - 1) else e p i:=by
 have h:=getElem?_bubble hk (k - l) (by omega) i
 have h3:k - (k - l)=l:=by omega
 rw[h3] at h
 split
 · rename_i hi
   rw[if_pos hi] at h
   exact z1b h
 · rename_i hi
   rw[if_neg hi] at h
   split
   · rename_i h2
     rw[if_pos h2] at h
     exact z1b h
   · rename_i h2
     rw[if_neg h2] at h
     exact z1b h
theorem x8(p:Array Nat)(i j:Nat):(kas_rev p i j).size=p.size:=mirror_size _ _ _ _
theorem yE(p:Array Nat)(i j:Nat):(kas_rev p i j).Perm p:=mirror_perm _ _ _ _
structure Ord(lt:Nat→Nat→Bool):Prop where
 asym:∀ i j,lt i j=true→lt j i=false
 trans:∀ i j k,lt j i=false→lt k j=false→lt k i=false
section
variable{lt:Nat→Nat→Bool}(O:Ord lt)
noncomputable def Up(lt:Nat→Nat→Bool)(p:Array Nat)(b:Nat):Prop:=∀ k,1≤k→k<b→lt (e p k) (e p (k - 1))=false
noncomputable def Down(lt:Nat→Nat→Bool)(p:Array Nat)(b:Nat):Prop:=∀ k,1≤k→k<b→lt (e p (k - 1)) (e p k)=false
noncomputable def Alike(lt:Nat→Nat→Bool)(p:Array Nat)(a b:Nat):Prop:=∀ i j,a≤i→i<b→a≤j→j<b→lt (e p i) (e p j)=false
include O
theorem irr(i:Nat):lt i i=false:=by
 cases h:lt i i with
 | false=>rfl
 | true=>rw[O.asym i i h] at h;cases h
theorem Up.pair{p:Array Nat}{b:Nat}(h:Up lt p b):∀ d i,i+d<b→lt (e p (i+d)) (e p i)=false
 | 0,i,_=>irr O _
 | d+1,i,hb=>O.trans _ _ _ (Up.pair h d i (by omega)) (by
     have:=h (i+(d+1)) (by omega) hb
     rw[show i+(d+1) - 1=i+d by omega] at this
     exact this)
theorem Up.le{p:Array Nat}{b i j:Nat}(h:Up lt p b)(hij:i≤j)(hj:j<b):lt (e p j) (e p i)=false:=by
 have:=Up.pair O h (j - i) i (by omega)
 rw[show i+(j - i)=j by omega] at this
 exact this
theorem UM{p:Array Nat}:∀ (f n:Nat),1≤n→Up lt p n→n≤run lt (kas_asc p f n)∧run lt (kas_asc p f n)≤n+f∧Up lt p (run lt (kas_asc p f n))∧(run lt (kas_asc p f n)<n+f→lt (e p (run lt (kas_asc p f n))) (e p (run lt (kas_asc p f n) - 1))=true)
 | 0,n,h1,h=>⟨Nat.le_refl _,Nat.le_refl _,h,fun z=>absurd z (Nat.lt_irrefl _)⟩
 | f+1,n,h1,h=>by
   have er:run lt (kas_asc p (f+1) n)=run lt (if lt (e p n) (e p (n - 1))=true then KasT.ret n else kas_asc p f (n+1)):=rfl
   cases c:lt (e p n) (e p (n - 1)) with
   | true =>
     rw[er,c,if_pos rfl]
     exact⟨Nat.le_refl _,Nat.le_add_right _ _,h,fun _=>c⟩
   | false =>
     rw[er,c,if_neg Bool.false_ne_true]
     obtain⟨a1,a2,a3,a4⟩:=UM (p:=p) f (n+1) (by omega) (fun k k1 k2=>by
      by_cases hk:k<n
      · exact h k k1 hk
      · have:k=n:=by omega
        subst this;exact c)
     exact⟨by omega,by omega,a3,fun z=>a4 (by omega)⟩
theorem Down.rev{p:Array Nat}{a b n:Nat}(hn:n≤p.size)(hb:b≤n)(h:Down lt p n)(al:Alike lt p a b):Down lt (kas_rev p a b) n:=by
 intro k k1 k2
 have hj:b≤p.size:=Nat.le_trans hb hn
 by_cases i1:a≤k∧k<b
 · by_cases i0:a≤k - 1∧k - 1<b
   · rw[yw hj i1.1 i1.2,yw hj i0.1 i0.2]
     exact al _ _ (by omega) (by omega) (by omega) (by omega)
   · rw[yw (k:=k) hj i1.1 i1.2,yM (k:=k - 1) hj (by omega)]
     have ek:k=a:=by omega
     have h1:=h k k1 k2
     have h2:=al (a+b - 1 - k) k (by omega) (by omega) i1.1 i1.2
     have h3:=al k (a+b - 1 - k) i1.1 i1.2 (by omega) (by omega)
     exact O.trans _ _ _ h3 h1
 · by_cases i0:a≤k - 1∧k - 1<b
   · rw[yM (k:=k) hj (by omega),yw (k:=k - 1) hj i0.1 i0.2]
     have h1:=h k k1 k2
     have h2:=al (a+b - 1 - (k - 1)) (k - 1) (by omega) (by omega) i0.1 i0.2
     exact O.trans _ _ _ h1 h2
   · rw[yM (k:=k) hj (by omega),yM (k:=k - 1) hj (by omega)]
     exact h k k1 k2
theorem qe:∀ (f:Nat) (p:Array Nat) (n q:Nat),n+f≤p.size→q+1≤n→Down lt p n→Alike lt p (n - (q+1)) n →
 (run lt (kas_desc f p n q)).1.size=p.size∧(run lt (kas_desc f p n q)).1.Perm p∧n≤(run lt (kas_desc f p n q)).2.1∧(run lt (kas_desc f p n q)).2.1≤n+f∧(run lt (kas_desc f p n q)).2.2+1≤(run lt (kas_desc f p n q)).2.1 ∧
 Down lt (run lt (kas_desc f p n q)).1 (run lt (kas_desc f p n q)).2.1∧Alike lt (run lt (kas_desc f p n q)).1 ((run lt (kas_desc f p n q)).2.1 - ((run lt (kas_desc f p n q)).2.2+1)) (run lt (kas_desc f p n q)).2.1
 | 0,p,n,q,hz,hq,hd,ha=>⟨rfl,Array.Perm.refl _,Nat.le_refl _,Nat.le_refl _,hq,hd,ha⟩
 | f+1,p,n,q,hz,hq,hd,ha=>by
   have er:run lt (kas_desc (f+1) p n q)=run lt (if lt (e p n) (e p (n - 1))=true then (if q > 0 then kas_desc f (kas_rev p (n - (q+1)) n) (n+1) 0 else kas_desc f p (n+1) 0)
    else .ask (e p (n - 1)) (e p n) fun d=>if d=true then .ret (p,n,q) else kas_desc f p (n+1) (q+1)):=rfl
   have one:∀ (p':Array Nat),Alike lt p' (n+1 - (0+1)) (n+1):=fun p' i j i1 i2 j1 j2=>by
    have e1:i=n:=by omega
    have e2:j=n:=by omega
    subst e1 e2;exact irr O _
   cases c:lt (e p n) (e p (n - 1)) with
   | true =>
     rw[er,c,if_pos rfl]
     by_cases q0:q > 0
     · rw[if_pos q0]
       have hs:=x8 p (n - (q+1)) n
       have d1:Down lt (kas_rev p (n - (q+1)) n) n:=Down.rev O (by omega) (Nat.le_refl _) hd ha
       have d2:Down lt (kas_rev p (n - (q+1)) n) (n+1):=fun k k1 k2=>by
        by_cases hk:k<n
        · exact d1 k k1 hk
        · have ek:k=n:=by omega
          subst ek
          rw[yM (k:=k) (by omega) (Or.inr (Nat.le_refl _)),yw (k:=k - 1) (by omega) (by omega) (by omega)]
          have h1:=ha (k - 1) (k - (q+1)+k - 1 - (k - 1)) (by omega) (by omega) (by omega) (by omega)
          have h2:=ha (k - (q+1)+k - 1 - (k - 1)) (k - 1) (by omega) (by omega) (by omega) (by omega)
          exact O.trans _ _ _ (O.asym _ _ c) h2
       obtain⟨a1,a2,a3,a4,a5,a6,a7⟩:=qe f (kas_rev p (n - (q+1)) n) (n+1) 0 (by omega) (by omega) d2 (one _)
       exact⟨a1.trans hs,a2.trans (yE ..),by omega,by omega,a5,a6,a7⟩
     · rw[if_neg q0]
       have d2:Down lt p (n+1):=fun k k1 k2=>by
        by_cases hk:k<n
        · exact hd k k1 hk
        · have ek:k=n:=by omega
          subst ek
          exact O.asym _ _ c
       obtain⟨a1,a2,a3,a4,a5,a6,a7⟩:=qe f p (n+1) 0 (by omega) (by omega) d2 (one _)
       exact⟨a1,a2,by omega,by omega,a5,a6,a7⟩
   | false =>
     rw[er,c,if_neg Bool.false_ne_true]
     have er2:run lt (KasT.ask (e p (n - 1)) (e p n) fun d=>if d=true then KasT.ret (p,n,q) else kas_desc f p (n+1) (q+1))=run lt (if lt (e p (n - 1)) (e p n)=true then KasT.ret (p,n,q) else kas_desc f p (n+1) (q+1)):=rfl
     rw[er2]
     cases c2:lt (e p (n - 1)) (e p n) with
     | true =>
       rw[if_pos rfl]
       exact⟨rfl,Array.Perm.refl _,Nat.le_refl _,Nat.le_add_right _ _,hq,hd,ha⟩
     | false =>
       rw[if_neg Bool.false_ne_true]
       have d2:Down lt p (n+1):=fun k k1 k2=>by
        by_cases hk:k<n
        · exact hd k k1 hk
        · have ek:k=n:=by omega
          subst ek
          exact c2
       have al2:Alike lt p (n+1 - (q+1+1)) (n+1):=fun i j i1 i2 j1 j2=>by
        by_cases hi:i<n
        · by_cases hj:j<n
          · exact ha i j (by omega) hi (by omega) hj
          · have ej:j=n:=by omega
            subst ej
            exact O.trans _ _ _ c2 (ha i (j - 1) (by omega) hi (by omega) (by omega))
        · have ei:i=n:=by omega
          subst ei
          by_cases hj:j<i
          · exact O.trans _ _ _ (ha (i - 1) j (by omega) (by omega) (by omega) hj) c
          · have ej:j=i:=by omega
            subst ej;exact irr O _
       obtain⟨a1,a2,a3,a4,a5,a6,a7⟩:=qe f p (n+1) (q+1) (by omega) (by omega) d2 al2
       exact⟨a1,a2,by omega,by omega,a5,a6,a7⟩
theorem Down.up{p:Array Nat}{n:Nat}(hn:n≤p.size)(h:Down lt p n):Up lt (kas_rev p 0 n) n:=fun k k1 k2=>by
 rw[yw (k:=k) hn (Nat.zero_le _) k2,yw (k:=k - 1) hn (Nat.zero_le _) (by omega)]
 have:=h (0+n - 1 - (k - 1)) (by omega) (by omega)
 rw[show 0+n - 1 - (k - 1) - 1=0+n - 1 - k by omega] at this
 exact this
theorem uU{p:Array Nat}{n nrem:Nat}(h1:1≤n)(hn:n≤nrem)(hz:nrem≤p.size)(h:Down lt p n) :
 (run lt (kas_tail3 n nrem p)).2.size=p.size∧(run lt (kas_tail3 n nrem p)).2.Perm p∧1≤(run lt (kas_tail3 n nrem p)).1∧(run lt (kas_tail3 n nrem p)).1≤nrem∧Up lt (run lt (kas_tail3 n nrem p)).2 (run lt (kas_tail3 n nrem p)).1:=by
 have er:run lt (kas_tail3 n nrem p)=(run lt (kas_asc (kas_rev p 0 n) (nrem - n) n),kas_rev p 0 n):=by
  unfold kas_tail3
  rw[run_bind];rfl
 rw[er]
 obtain⟨a1,a2,a3,_⟩:=UM O (p:=kas_rev p 0 n) (nrem - n) n h1 (Down.up O (by omega) h)
 exact⟨x8 ..,yE ..,by show 1≤run lt _;omega,by show run lt _≤nrem;omega,a3⟩
theorem XQ{p:Array Nat}{n nrem:Nat}(h1:1≤n)(hn:n+1≤nrem)(hz:nrem≤p.size)(h:Down lt p (n+1)) :
 (run lt (kas_descPart n nrem p)).2.size=p.size∧(run lt (kas_descPart n nrem p)).2.Perm p∧1≤(run lt (kas_descPart n nrem p)).1∧(run lt (kas_descPart n nrem p)).1≤nrem∧Up lt (run lt (kas_descPart n nrem p)).2 (run lt (kas_descPart n nrem p)).1:=by
 have one:Alike lt p (n+1 - (0+1)) (n+1):=fun i j i1 i2 j1 j2=>by
  have e1:i=n:=by omega
  have e2:j=n:=by omega
  subst e1 e2;exact irr O _
 obtain⟨a1,a2,a3,a4,a5,a6,a7⟩:=qe O (nrem - (n+1)) p (n+1) 0 (by omega) (by omega) h one
 have er:run lt (kas_descPart n nrem p)=run lt (if (run lt (kas_desc (nrem - (n+1)) p (n+1) 0)).2.2 > 0 then kas_tail3 (run lt (kas_desc (nrem - (n+1)) p (n+1) 0)).2.1 nrem (kas_rev (run lt (kas_desc (nrem - (n+1)) p (n+1) 0)).1 ((run lt (kas_desc (nrem - (n+1)) p (n+1) 0)).2.1 - ((run lt (kas_desc (nrem - (n+1)) p (n+1) 0)).2.2+1)) (run lt (kas_desc (nrem - (n+1)) p (n+1) 0)).2.1)
  else kas_tail3 (run lt (kas_desc (nrem - (n+1)) p (n+1) 0)).2.1 nrem (run lt (kas_desc (nrem - (n+1)) p (n+1) 0)).1):=by
  unfold kas_descPart
  rw[run_bind]
 rw[er]
 generalize run lt (kas_desc (nrem - (n+1)) p (n+1) 0)=r at *
 split
 · have hs:=x8 r.1 (r.2.1 - (r.2.2+1)) r.2.1
   obtain⟨b1,b2,b3,b4,b5⟩:=uU O (p:=kas_rev r.1 (r.2.1 - (r.2.2+1)) r.2.1) (n:=r.2.1) (nrem:=nrem) (by omega) (by omega) (by rw[hs,a1];exact hz) (Down.rev O (by omega) (Nat.le_refl _) a6 a7)
   exact⟨b1.trans (hs.trans a1),b2.trans ((yE ..).trans a2),b3,b4,b5⟩
 · obtain⟨b1,b2,b3,b4,b5⟩:=uU O (p:=r.1) (n:=r.2.1) (nrem:=nrem) (by omega) (by omega) (by rw[a1];exact hz) a6
   exact⟨b1.trans a1,b2.trans a2,b3,b4,b5⟩
theorem z1i{p:Array Nat}{nrem:Nat}(h2:1≤nrem)(hz:nrem≤p.size) :
 (run lt (kas_count nrem p)).2.size=p.size∧(run lt (kas_count nrem p)).2.Perm p∧1≤(run lt (kas_count nrem p)).1∧(run lt (kas_count nrem p)).1≤nrem∧Up lt (run lt (kas_count nrem p)).2 (run lt (kas_count nrem p)).1:=by
 obtain⟨a1,a2,a3,a4⟩:=UM O (p:=p) (nrem - 1) 1 (Nat.le_refl _) (fun k k1 k2=>by omega)
 have er:run lt (kas_count nrem p)=run lt (if (run lt (kas_asc p (nrem - 1) 1) == nrem)=true then KasT.ret (run lt (kas_asc p (nrem - 1) 1),p) else if run lt (kas_asc p (nrem - 1) 1) > 1 then
  .ask (e p 0) (e p (run lt (kas_asc p (nrem - 1) 1) - 1)) fun c=>if c=true then .ret (run lt (kas_asc p (nrem - 1) 1),p) else kas_descPart (run lt (kas_asc p (nrem - 1) 1)) nrem (kas_rev p 0 (run lt (kas_asc p (nrem - 1) 1)))
  else kas_descPart (run lt (kas_asc p (nrem - 1) 1)) nrem p):=by
  unfold kas_count
  rw[run_bind]
  rfl
 rw[er]
 generalize run lt (kas_asc p (nrem - 1) 1)=n at *
 split
 · exact⟨rfl,Array.Perm.refl _,a1,by show n≤nrem;omega,a3⟩
 · rename_i hne
   have hne':n≠nrem:=fun z=>hne (by simp[z])
   have hlt:=a4 (by omega)
   split
   · rename_i hn1
     have er2:run lt (KasT.ask (e p 0) (e p (n - 1)) fun c=>if c=true then KasT.ret (n,p) else kas_descPart n nrem (kas_rev p 0 n))=run lt (if lt (e p 0) (e p (n - 1))=true then KasT.ret (n,p) else kas_descPart n nrem (kas_rev p 0 n)):=rfl
     rw[er2]
     cases c:lt (e p 0) (e p (n - 1)) with
     | true =>
       rw[if_pos rfl]
       exact⟨rfl,Array.Perm.refl _,a1,by show n≤nrem;omega,a3⟩
     | false =>
       rw[if_neg Bool.false_ne_true]
       have al:Alike lt p 0 n:=fun i j _ i2 _ j2=>by
        have h1:=Up.le O a3 (Nat.zero_le j) j2
        have h2:=Up.le O a3 (show i≤n - 1 by omega) (by omega)
        have h3:=Up.le O a3 (show j≤n - 1 by omega) (by omega)
        have h4:=Up.le O a3 (Nat.zero_le i) i2
        exact O.trans _ _ _ (O.trans _ _ _ h3 c) h4
       have hs:=x8 p 0 n
       have dn:Down lt p n:=fun k k1 k2=>al _ _ (Nat.zero_le _) (by omega) (Nat.zero_le _) k2
       have d1:Down lt (kas_rev p 0 n) (n+1):=fun k k1 k2=>by
        by_cases hk:k<n
        · exact Down.rev O (by omega) (Nat.le_refl _) dn al k k1 hk
        · have ek:k=n:=by omega
          subst ek
          rw[yM (k:=k) (by omega) (Or.inr (Nat.le_refl _)),yw (k:=k - 1) (by omega) (Nat.zero_le _) (by omega)]
          have h1:=al (0+k - 1 - (k - 1)) (k - 1) (Nat.zero_le _) (by omega) (Nat.zero_le _) (by omega)
          exact O.trans _ _ _ (O.asym _ _ hlt) h1
       obtain⟨b1,b2,b3,b4,b5⟩:=XQ O (p:=kas_rev p 0 n) (n:=n) (nrem:=nrem) a1 (by omega) (by rw[hs];exact hz) d1
       exact⟨b1.trans hs,b2.trans (yE ..),b3,b4,b5⟩
   · have en:n=1:=by omega
     subst en
     have d1:Down lt p 2:=fun k k1 k2=>by
      have ek:k=1:=by omega
      subst ek
      exact O.asym _ _ hlt
     exact XQ O (p:=p) (n:=1) (nrem:=nrem) (Nat.le_refl _) (by omega) hz d1
theorem qC{p:Array Nat}{k:Nat}(h:Up lt p k):∀ (f l r:Nat),r≤l+f→l≤r→r≤k→(∀ i,i<l→lt (e p k) (e p i)=false)→(∀ i,r≤i→i<k→lt (e p k) (e p i)=true) →
 run lt (kas_place p k f l r)≤k∧(∀ i,i<run lt (kas_place p k f l r)→lt (e p k) (e p i)=false)∧(∀ i,run lt (kas_place p k f l r)≤i→i<k→lt (e p k) (e p i)=true)
 | 0,l,r,h1,h2,h3,h4,h5=>by
   have:r=l:=by omega
   subst this
   exact⟨h3,h4,h5⟩
 | f+1,l,r,h1,h2,h3,h4,h5=>by
   have er:run lt (kas_place p k (f+1) l r)=run lt (if l ≥ r then KasT.ret l else KasT.ask (e p k) (e p ((l+r) / 2)) fun c=>if c=true then kas_place p k f l ((l+r) / 2) else kas_place p k f ((l+r) / 2+1) r):=rfl
   rw[er]
   by_cases hlr:l ≥ r
   · rw[if_pos hlr]
     have:r=l:=by omega
     subst this
     exact⟨h3,h4,h5⟩
   · rw[if_neg hlr]
     have er2:run lt (KasT.ask (e p k) (e p ((l+r) / 2)) fun c=>if c=true then kas_place p k f l ((l+r) / 2) else kas_place p k f ((l+r) / 2+1) r)=run lt (if lt (e p k) (e p ((l+r) / 2))=true then kas_place p k f l ((l+r) / 2) else kas_place p k f ((l+r) / 2+1) r):=rfl
     rw[er2]
     cases c:lt (e p k) (e p ((l+r) / 2)) with
     | true =>
       rw[if_pos rfl]
       refine qC h f l ((l+r) / 2) (by omega) (by omega) (by omega) h4 fun i i1 i2=>?_
       cases d:lt (e p k) (e p i) with
       | true=>rfl
       | false =>
         have:=O.trans _ _ _ (Up.le O h i1 i2) d
         rw[c] at this
         cases this
     | false =>
       rw[if_neg Bool.false_ne_true]
       refine qC h f ((l+r) / 2+1) r (by omega) (by omega) h3 (fun i i1=>?_) h5
       exact O.trans _ _ _ (Up.le O h (show i≤(l+r) / 2 by omega) (by omega)) c
theorem z0n:∀ (f:Nat) (p:Array Nat) (k:Nat),k+f≤p.size→1≤k→Up lt p k→(run lt (kas_bin f p k)).Perm p∧Up lt (run lt (kas_bin f p k)) (k+f)
 | 0,p,k,_,_,h=>⟨Array.Perm.refl _,h⟩
 | f+1,p,k,hz,h1,h=>by
   have er:run lt (kas_bin (f+1) p k)=run lt (kas_bin f (bubble p k (k - run lt (kas_place p k k 0 k))) (k+1)):=by
    show run lt ((kas_place p k k 0 k).bind fun l=>kas_bin f (bubble p k (k - l)) (k+1))=_
    rw[run_bind]
   rw[er]
   obtain⟨a1,a2,a3⟩:=qC O h k 0 k (by omega) (Nat.zero_le _) (Nat.le_refl _) (fun i hi=>absurd hi (Nat.not_lt_zero _)) (fun i h1 h2=>by omega)
   generalize run lt (kas_place p k k 0 k)=l at *
   have hk:k<p.size:=by omega
   have up:Up lt (bubble p k (k - l)) (k+1):=fun j j1 j2=>by
    rw[z3u hk a1,z3u hk a1]
    by_cases c1:j=l
    · rw[if_pos c1,if_neg (by omega),if_neg (by omega)]
      exact a2 _ (by omega)
    · rw[if_neg c1]
      by_cases c2:j - 1=l
      · rw[if_pos c2,if_pos (by omega)]
        exact O.asym _ _ (a3 _ (by omega) (by omega))
      · rw[if_neg c2]
        by_cases c3:l<j - 1∧j - 1≤k
        · rw[if_pos c3,if_pos (by omega)]
          exact h (j - 1) (by omega) (by omega)
        · rw[if_neg c3,if_neg (by omega)]
          exact h j j1 (by omega)
   obtain⟨b1,b2⟩:=z0n f (bubble p k (k - l)) (k+1) (by rw[bubble_size];omega) (by omega) up
   refine⟨b1.trans (bubble_perm ..),?_⟩
   rw[show k+(f+1)=k+1+f by omega]
   exact b2
theorem z1T{n:Nat}(hn:1≤n):(run lt (kas_sort n)).toList.Perm (List.range n)∧Up lt (run lt (kas_sort n)) n:=by
 have hz:n≤(List.toArray (List.range n)).size:=by simp
 obtain⟨a1,a2,a3,a4,a5⟩:=z1i O (p:=List.toArray (List.range n)) hn hz
 have er:run lt (kas_sort n)=run lt (if (run lt (kas_count n (List.toArray (List.range n)))).1<n then kas_bin (n - max (run lt (kas_count n (List.toArray (List.range n)))).1 1) (run lt (kas_count n (List.toArray (List.range n)))).2 (max (run lt (kas_count n (List.toArray (List.range n)))).1 1) else .ret (run lt (kas_count n (List.toArray (List.range n)))).2):=by
  unfold kas_sort
  rw[run_bind]
 rw[er]
 generalize run lt (kas_count n (List.toArray (List.range n)))=r at *
 have hm:max r.1 1=r.1:=by omega
 rw[hm]
 have hsz:r.2.size=n:=by rw[a1];simp
 split
 · obtain⟨b1,b2⟩:=z0n O (n - r.1) r.2 r.1 (by omega) a3 a5
   refine⟨(b1.trans a2).toList,?_⟩
   rw[show r.1+(n - r.1)=n by omega] at b2
   exact b2
 · have e1:r.1=n:=by omega
   refine⟨a2.toList,?_⟩
   rw[e1] at a5
   exact a5
end
end Srt
namespace Srt
open PySem PySem.W PyProof.Rows
noncomputable def Z0{α:Type}(n:Nat):KasT α→(α→Prop)→Prop
 | .ret a,Q=>Q a
 | .ask i j k,Q=>i<n∧j<n∧∀ b,Z0 n (k b) Q
theorem Z0.bind{α β:Type}{n:Nat}{f:α→KasT β}{Q:β→Prop}:∀ {t:KasT α},Z0 n t (fun a=>Z0 n (f a) Q)→Z0 n (t.bind f) Q
 | .ret _,h=>h
 | .ask _ _ _,h=>⟨h.1,h.2.1,fun b=>Z0.bind (h.2.2 b)⟩
theorem jw{α:Type}{n:Nat}(lt:Nat→Nat→Bool){cmp:Nat→Nat→(Bool→Shared→Prop)→Shared→Prop}{P:Shared→Prop}(h:∀ i j (C:Bool→Shared→Prop) s,i<n→j<n→P s→(∀ s',P s'→C (lt i j) s')→cmp i j C s)
 {Q:α→Shared→Prop}{T:α→Prop}:∀ (t:KasT α) (s:Shared),Z0 n t T→P s→(∀ s',P s'→Q (run lt t) s')→t.kasWp cmp Q s
 | .ret a,s,_,p,q=>q s p
 | .ask i j k,s,a,p,q=>h i j _ s a.1 a.2.1 p fun s' p'=>jw lt h (k (lt i j)) s' (a.2.2 _) p' q
noncomputable def AllLt(n:Nat)(p:Array Nat):Prop:=∀ k,p.getD k 0<n
theorem AllLt.perm{n:Nat}{p q:Array Nat}(hn:0<n)(h:AllLt n p)(pm:q.Perm p):AllLt n q:=fun k=>by
 by_cases hk:k<q.size
 · have e1:q.getD k 0=q[k]:=by simp[Array.getD,hk]
   rw[e1]
   have hm:q[k]∈q:=Array.getElem_mem hk
   have hm2:q[k]∈p:=by
    have:=pm.toList.mem_iff (a:=q[k])
    simpa using this.mp (by simpa using hm)
   obtain⟨j,hj,e2⟩:=Array.mem_iff_getElem.mp hm2
   have:=h j
   have e3:p.getD j 0=p[j]:=by simp[Array.getD,hj]
   rw[e3,e2] at this
   exact this
 · have e1:q.getD k 0=0:=by simp[Array.getD,hk]
   rw[e1];exact hn
section
variable{n:Nat}(hn:0<n)
include hn
theorem qU{p:Array Nat}(h:AllLt n p):∀ f m,Z0 n (kas_asc p f m) (fun _=>True)
 | 0,_=>trivial
 | f+1,m=>⟨h _,h _,fun b=>by
     cases b with
     | true=>exact trivial
     | false=>exact qU h f (m+1)⟩
theorem Y3:∀ (f:Nat) (p:Array Nat) (m q:Nat),AllLt n p→Z0 n (kas_desc f p m q) (fun r=>AllLt n r.1)
 | 0,p,_,_,h=>h
 | f+1,p,m,q,h=>⟨h _,h _,fun b=>by
     cases b with
     | true =>
       show Z0 n (if true=true then (if q > 0 then kas_desc f (kas_rev p (m - (q+1)) m) (m+1) 0 else kas_desc f p (m+1) 0) else _) _
       rw[if_pos rfl]
       split
       · exact Y3 f _ _ _ (h.perm hn (yE ..))
       · exact Y3 f _ _ _ h
     | false =>
       show Z0 n (if false=true then _ else KasT.ask (p.getD (m - 1) 0) (p.getD m 0) fun d=>if d=true then KasT.ret (p,m,q) else kas_desc f p (m+1) (q+1)) _
       rw[if_neg Bool.false_ne_true]
       refine⟨h _,h _,fun d=>?_⟩
       cases d with
       | true=>exact h
       | false=>exact Y3 f _ _ _ h⟩
theorem Z0.mono{α:Type}{Q Q':α→Prop}(hq:∀ a,Q a→Q' a):∀ {t:KasT α},Z0 n t Q→Z0 n t Q'
 | .ret a,h=>hq a h
 | .ask _ _ _,h=>⟨h.1,h.2.1,fun b=>Z0.mono hq (h.2.2 b)⟩
theorem qw{p:Array Nat}(h:AllLt n p)(m r:Nat):Z0 n (kas_tail3 m r p) (fun x=>AllLt n x.2):=by
 have h':=h.perm hn (yE p 0 m)
 exact Z0.bind (Z0.mono hn (fun _ _=>h') (qU hn h' _ _))
theorem xm{p:Array Nat}(h:AllLt n p)(m r:Nat):Z0 n (kas_descPart m r p) (fun x=>AllLt n x.2):=by
 refine Z0.bind (Z0.mono hn (fun x hx=>?_) (Y3 hn _ _ _ _ h))
 split
 · exact qw hn (hx.perm hn (yE ..)) _ _
 · exact qw hn hx _ _
theorem UG{p:Array Nat}(h:AllLt n p)(r:Nat):Z0 n (kas_count r p) (fun x=>AllLt n x.2):=by
 refine Z0.bind (Z0.mono hn (fun m _=>?_) (qU hn h _ _))
 split
 · exact h
 · split
   · refine⟨h _,h _,fun b=>?_⟩
     cases b with
     | true=>exact h
     | false=>exact xm hn (h.perm hn (yE ..)) _ _
   · exact xm hn h _ _
theorem xQ{p:Array Nat}(h:AllLt n p)(k:Nat):∀ f l r,Z0 n (kas_place p k f l r) (fun _=>True)
 | 0,_,_=>trivial
 | f+1,l,r=>by
   show Z0 n (if l ≥ r then KasT.ret l else KasT.ask (p.getD k 0) (p.getD ((l+r) / 2) 0) fun c=>if c=true then kas_place p k f l ((l+r) / 2) else kas_place p k f ((l+r) / 2+1) r) _
   split
   · exact trivial
   · refine⟨h _,h _,fun b=>?_⟩
     cases b with
     | true=>exact xQ h k f _ _
     | false=>exact xQ h k f _ _
theorem uy:∀ (f:Nat) (p:Array Nat) (k:Nat),AllLt n p→Z0 n (kas_bin f p k) (fun _=>True)
 | 0,_,_,_=>trivial
 | f+1,p,k,h=>Z0.bind (Z0.mono hn (fun l _=>uy f _ _ (h.perm hn (bubble_perm ..))) (xQ hn h k _ _ _))
theorem Jd:Z0 n (kas_sort n) (fun _=>True):=by
 have h0:AllLt n (List.toArray (List.range n)):=fun k=>by
  by_cases hk:k<n
  · simp[Array.getD,hk]
  · simp[Array.getD,hk];exact hn
 refine Z0.bind (Z0.mono hn (fun r hr=>?_) (UG hn h0 n))
 split
 · exact uy hn _ _ _ hr
 · exact trivial
end
end Srt
namespace L2
open PySem PySem.Spec PyProof.Rows PySem.W
section
variable{prog:Program}{w:World}{A:Around}{E:Value→Shared→Prop}{s:Shared}
theorem z2S(vs:List Value):(vs.toArray.zip vs.toArray).map (·.2)=vs.toArray:=by
 apply Array.toList_inj.mp
 simp[List.map_snd_zip]
set_option maxHeartbeats 2000000 in
theorem vY{l:Addr}{vs:List Value}{Q:Value→Shared→Prop}(hl:s.heap.IsList l vs.toArray)(h2:vs.length<2)
 (h:∀ (h':Heap) (c:Nat),(∀ b o,s.heap.get? b=some o→h'.get? b=some o)→h'.get? (s.heap.objs.size+1)=some (seqObj "list" vs.toArray c)→Q (.ref (s.heap.objs.size+1)) { s with heap:=h' }) :
 wpAny (model prog w) A (call (.builtin "sorted") [.ref l]) Q E s:=by
 refine Calls.call_function_entry kind_sorted plain_sorted entry_sorted (args_sorted1 _) ?_
 unfold Builtin.«sorted»
 refine wpAny_bind (m:=checkCount "sorted" 1 1 _) (wpAny_pure ?_)
 refine wpAny_bind (collect_list hl ?_ (by rw[sizeLine_eq];omega))
 refine wpAny_bind (wpAny_newList ?_ (by rw[sizeLine_eq];omega))
 have hsz:((s.heap.push (seqObj "list" #[] 0)).update s.heap.objs.size (Obj.mapSeq (· ++ vs.toArray))).objs.size=s.heap.objs.size+1:=by
  rw[Heap.size_update,size_push']
 have hoL:(((s.heap.push (seqObj "list" #[] 0)).update s.heap.objs.size (Obj.mapSeq (· ++ vs.toArray))).push (seqObj "list" vs.toArray 0)).get? (s.heap.objs.size+1)=some (seqObj "list" vs.toArray 0):=by
  rw[← hsz];exact Heap.get?_push_size _ rfl
 have keep:∀ b o,s.heap.get? b=some o→(((s.heap.push (seqObj "list" #[] 0)).update s.heap.objs.size (Obj.mapSeq (· ++ vs.toArray))).push (seqObj "list" vs.toArray 0)).get? b=some o:=fun b o q=>by
  have hlt:b<s.heap.objs.size:=Heap.lt_size q
  rw[Heap.get?_push_ne _ _ _ (by rw[hsz];exact Nat.ne_of_lt (Nat.lt_succ_of_lt hlt)),Heap.get?_update_ne _ _ _ _ (Nat.ne_of_lt hlt),Heap.get?_push_ne _ _ _ (Nat.ne_of_lt hlt)]
  exact q
 show wpAny _ _ _ _ _ { s with heap:=((s.heap.push (seqObj "list" #[] 0)).update s.heap.objs.size (Obj.mapSeq (· ++ vs.toArray))).push (seqObj "list" vs.toArray 0) }
 rw[hsz]
 generalize ((s.heap.push (seqObj "list" #[] 0)).update s.heap.objs.size (Obj.mapSeq (· ++ vs.toArray))).push (seqObj "list" vs.toArray 0)=g at *
 generalize hD:s.heap.objs.size+1=D at *
 have hDs:∀ b o,s.heap.get? b=some o→b≠D:=fun b o q=>by rw[← hD];exact Nat.ne_of_lt (Nat.lt_succ_of_lt (Heap.lt_size q))
 refine wpAny_bind (wpAny_holding (wpAny_call_entry slot_list_sort ⟨_,hoL,rfl⟩ entry_list_sort ?body (args_list_sort _)))
 case body =>
  obtain⟨e1,ho1⟩:∃ e1,(g.update D (Obj.mapSeq fun _=>(#[]:Array Value))).get? D=some (seqObj "list" #[] e1):=⟨_,get?_update_seq hoL fun _=>#[]⟩
  rw[list_sort_plain]
  refine wpAny_bind (listItems_at hoL rfl ?_)
  refine wpAny_bind (listUpdate_at hoL rfl ?_ (by rw[List.size_toArray,sizeLine_eq];omega) (Nat.zero_le _))
  refine wpAny_bind (seqEpoch_at ho1 rfl ?_)
  refine wpAny_bind (wpAny_newTuple ?_ (by show vs.length≤_;rw[sizeLine_eq];omega))
  refine wpAny_bind (wpAny_newList ?_ (Nat.zero_le _))
  refine wpAny_holding ?_
  show wpAny (model prog w) _ _ _ E { s with heap:=((g.update D (Obj.mapSeq fun _=>(#[]:Array Value))).push (seqObj "tuple" vs.toArray 0)).push (seqObj "list" #[] 0) }
  dsimp only
  have hn2:vs.toArray.size<2:=by rw[List.size_toArray];exact h2
  rw[if_pos hn2,if_pos hn2]
  refine wpAny_bind (wpAny_pure ?_)
  refine wpAny_bind (wpAny_pure ?_)
  dsimp only
  have ho6:(((g.update D (Obj.mapSeq fun _=>(#[]:Array Value))).push (seqObj "tuple" vs.toArray 0)).push (seqObj "list" #[] 0)).get? D=some (seqObj "list" #[] e1):=Heap.get?_push_of_some _ (Heap.get?_push_of_some _ ho1)
  have harr:(arrOf (SortSt.mk' general' (vs.toArray.zip vs.toArray) #[] 7 none)).map (·.2)=vs.toArray:=by
   exact z2S vs
  rw[harr]
  refine wpAny_bind (seqEpoch_at ho6 rfl ?_)
  refine wpAny_bind (listUpdate_at ho6 rfl ?_ (Nat.zero_le _) (by show vs.toArray.size≤_;rw[List.size_toArray,sizeLine_eq];omega))
  simp only[bne_self_eq_false,Bool.false_eq_true,if_false]
  obtain⟨c2,hc2⟩:∃ c2,((((g.update D (Obj.mapSeq fun _=>(#[]:Array Value))).push (seqObj "tuple" vs.toArray 0)).push (seqObj "list" #[] 0)).update D (Obj.mapSeq fun _=>vs.toArray)).get? D=some (seqObj "list" vs.toArray c2):=⟨_,get?_update_seq ho6 fun _=>vs.toArray⟩
  refine wpAny_pure ⟨_,rfl,wpAny_pure ⟨_,rfl,?_⟩⟩
  refine h _ c2 (fun b o q=>?_) hc2
  have hb:=hDs b o q
  exact (Heap.get?_update_other _ _ (Ne.symm hb)).trans (Heap.get?_push_of_some _ (Heap.get?_push_of_some _ ((Heap.get?_update_other _ _ (Ne.symm hb)).trans (keep b o q))))
end
end L2
namespace L2
open PySem PySem.Spec PyProof.Rows PySem.W
theorem z5t{h:Heap}{a:Addr}{m m':Str→Option Value}(x:h.Ns a m)(y:h.Ns a m'):m=m':=by
 obtain⟨o,es,ep,ho,hd,_,hm⟩:=x
 obtain⟨o',es',ep',ho',hd',_,hm'⟩:=y
 rw[ho] at ho';cases ho'
 rw[hd] at hd';cases hd'
 funext z
 rw[← hm z,← hm' z]
theorem Zy.there{P:Program}{w:World}{H:Hp}{h:Heap}{a:Addr}{o:HO}(x:Zy P w H h a o):∃ u,h.get? a=some u:=by
 cases o with
 | lst xs=>obtain⟨_,_,_,_,e⟩:=x;exact⟨_,e⟩
 | tup xs=>obtain⟨_,_,_,ob,e,_⟩:=x;exact⟨_,e⟩
 | dK kvs=>obtain⟨_,_,_,_,o,_,_,e,_⟩:=x;exact⟨_,e⟩
 | dT kvs=>obtain⟨_,_,_,_,o,_,_,e,_⟩:=x;exact⟨_,e⟩
 | set S n=>obtain⟨o,_,_,_,e,_⟩:=x;exact⟨_,e⟩
 | ins C dx fs=>obtain⟨_,_,_,e,_⟩:=x;exact⟨_,e⟩
 | own y=>obtain⟨_,e⟩:=x;exact⟨_,e⟩
 | xd fs=>obtain⟨_,⟨_,_,_,e,_⟩,_⟩:=x;exact⟨_,e⟩
 | rng lo hi=>obtain⟨_,_,_,e⟩:=x;exact⟨_,e⟩
 | frz ob u=>obtain⟨e,_⟩:=x;exact⟨_,e⟩
 | tbl ps=>exact⟨_,(show h.get? a=some _ from x)⟩
 | met f y=>exact⟨_,(show h.get? a=some _ from x)⟩
 | ext φ=>obtain⟨_,⟨_,e⟩,_⟩:=x;exact⟨_,e⟩
theorem JD:∀ (xs:List V),xs.length<2→(List.range xs.length).map (fun i=>xs.getD i V.non)=xs
 | [],_=>rfl
 | [_],_=>rfl
 | _ :: _ :: _,h=>by simp at h;omega
section
variable{X:Cx}{pins:List (Addr×Obj)}{σ:St}{H:Hp}{s:Shared}
theorem Inv.z5l{h':Heap}{m:Str→Option Value}{D:Addr}{ws:List V}{out:List Value}{c:Nat}{t':Nat}(I:Inv X pins σ H s)(hn:s.heap.Ns X.env.locals m)(F:Fr X.base X.env.locals h' m)
 (k:∀ b o,b≠X.env.locals→s.heap.get? b=some o→h'.get? b=some o) (hD:H D=none) (hDs:∀ o,s.heap.get? D≠some o) (ho:h'.get? D=some { cls:=.type "list",data:=.seq out.toArray c }) (r:Vals ws out) (hz:ws.length≤sizeLine) :
 Inv X pins σ (upd H D (.lst ws)) { s with heap:=h',toks:=t' }:=by
 have nD:∀ b o,s.heap.get? b=some o→b≠D:=fun b o e z=>by subst z;exact hDs o e
 have nL:∀ b u,H b=some u→b≠X.env.locals:=fun b u e z=>by rw[z,I.free] at e;cases e
 refine I.step (g':=s.gens) (d':=s.drawn) (ch:=[]) (fun _ z=>nomatch z) (fun b o hL _ _ e _=>k b o hL e) (fun b o hL _ _ e _=>⟨o.slots,k b o hL e⟩) (fun b o _ e n=>by rw[zp (nD b o e)];exact n) (fun b o _ e=>?_)
  (fun b xs e=>by rw[zp (zh e hD)];exact e) (fun b o u e=>by rw[zp (zh e hD)];exact e) (fun b ps e=>⟨#[],by rw[zp (zh e hD),e];simp⟩) (fun m' hm=>?_) (fun b u e=>?_) I.bare
 · by_cases hb:b=X.env.locals
   · obtain⟨o',_,_,e',_⟩:=F.ns
     exact⟨o',by rw[hb];exact e'⟩
   · exact⟨o,k b o hb e⟩
 · rw[← z5t hn hm];exact F.ns
 · by_cases hb:b=D
   · subst hb
     rw[zj] at e;cases e
     exact⟨hz,out,c,r,ho⟩
   · rw[zp hb] at e
     refine (I.hok b u e).stay (fun x v hx q=>k x v ?_ q) (fun x q=>by rw[zp (zh q hD)];exact q) fun x xs q=>by rw[zp (zh q hD)];exact q
     rcases hx with z | z
     · rw[z];exact nL b u e
     · exact nL x _ z
theorem z1l(p:Array Nat)(j:Nat):p.toList.getD j 0=Srt.e p j:=by
 unfold Srt.e
 simp[List.getD_eq_getElem?_getD]
set_option maxHeartbeats 2000000 in
theorem Jk{l:Addr}{xs:List V}{Q:VK}(I:Inv X pins σ H s)(hl:z7 X.K H l xs)(h64:xs.length<64)(lt:Nat→Nat→Bool)(O:Srt.Ord lt)
 (hkind:∀ (vs:List Value) (s':Shared),Vals xs vs→2≤vs.length→(∀ b o,b≠X.env.locals→s.heap.get? b=some o→s'.heap.get? b=some o)→∃ κ:SortKind,(∀ (R:SortKind→Shared→Prop),R κ s'→wpAny (model X.prog X.w) X.A.in1.in1 (keyKind' vs.toArray) R (fun _ _=>False) s') ∧
  ∀ (i j:Nat) (C:Bool→Shared→Prop) (s2:Shared),i<vs.length→j<vs.length→(∀ b o,b≠X.env.locals→s.heap.get? b=some o→s2.heap.get? b=some o)→C (lt i j) s2→kas_ask X.prog X.w X.A.in1.in1 κ vs i j C s2)
 (q:∀ (p:List Nat) (D:Addr),p.Perm (List.range xs.length)→(∀ k,1≤k→k<xs.length→lt (p.getD k 0) (p.getD (k - 1) 0)=false)→H D=none→Q (.ref D) (upd H D (.lst (p.map fun i=>xs.getD i .non)))) :
 wpAny (model X.prog X.w) X.A (call (.builtin "sorted") [.ref l]) (EP X pins σ Q) X.xe s:=by
 obtain⟨its,rv,pl,hz⟩:=id (I.list hl)
 have hlen:=rv.length
 by_cases h2:its.length<2
 · refine vY pl.isList h2 fun h' c kp ho=>?_
   have hf:H (s.heap.objs.size+1)=none:=I.hok.fresh (Nat.le_succ _)
   have I':Inv X pins σ (upd H (s.heap.objs.size+1) (.lst xs)) { s with heap:=h' }:=I.laid (t':=s.toks) kp (Nat.le_succ _) ⟨hz,its,c,rv,ho⟩
   have hq:=q (List.range xs.length) (s.heap.objs.size+1) (List.Perm.refl _) (fun k k1 k2=>by omega) hf
   have ex:(List.range xs.length).map (fun i=>xs.getD i .non)=xs:=by
    exact JD xs (by omega)
   rw[ex] at hq
   exact⟨.ref (s.heap.objs.size+1),_,I',rfl,hq⟩
 · obtain⟨m,hn,_⟩:=id I.loc
   have F:Fr X.base X.env.locals s.heap m:=⟨hn,I.bk,Nat.le_trans I.ok.bsz I.ok.above⟩
   have N:News X.base X.env.locals s.heap (Xr X.base s.heap X.env.locals):=z1n
   have keepN:∀ {h':Heap}{r:List (Addr×Obj)},Fr X.base X.env.locals h' m→News X.base X.env.locals h' r→(∀ p∈Xr X.base s.heap X.env.locals,p∈r)→∀ b o,b≠X.env.locals→s.heap.get? b=some o→h'.get? b=some o:=fun {h' r} F' N' sub b o hb e=>by
    cases z:X.base.get? b with
    | some u =>
      have:=I.bk b u z
      rw[e] at this;cases this
      exact F'.keep b _ z
    | none=>exact (N' (b,o) (sub _ (XU hb z e))).1
   have h2':2≤its.length:=by omega
   refine kat_sorted F N pl.isList h2' (by omega) fun D e1 h' F' N' hD=>?_
   have kp:=keepN F' N' (fun p hp=>List.mem_cons_of_mem _ hp)
   have nDD:=N' (D,seqObj "list" #[] e1) List.mem_cons_self
   have hDs:∀ o,s.heap.get? D≠some o:=fun o e=>Nat.lt_irrefl _ (hD (D,o) (XU nDD.2.1 nDD.2.2 e))
   have hHD:H D=none:=by
    cases z:H D with
    | none=>rfl
    | some u =>
      obtain⟨o,e⟩:=Zy.there (I.hok D u z)
      exact absurd e (hDs o)
   obtain⟨κ,hκ,hask⟩:=hkind its { s with heap:=h' } rv h2' kp
   refine hκ _ ?_
   have hn1:0<its.length:=by omega
   refine Srt.jw (n:=its.length) (P:=fun s'=>s'={ s with heap:=h' }) lt (fun i j C s2 hi hj p2 hc=>by subst p2;exact hask i j C _ hi hj kp (hc _ rfl)) (kas_sort its.length) _ (Srt.Jd hn1) rfl fun s2 p2=>?_
   subst p2
   obtain⟨pm,up⟩:=Srt.z1T O (n:=its.length) (by omega)
   generalize Srt.run lt (kas_sort its.length)=p at *
   refine KasFin.intro F' N' (.head fun x hx=>Nat.ne_of_lt (hD x hx)) fun h3 c F3 N3=>?_
   have kp3:=keepN F3 N3 (fun p hp=>List.mem_cons_of_mem _ hp)
   have hD3:=(N3 (D,listOf (List.toArray (p.toList.map fun i=>its.getD i Value.none)) c) List.mem_cons_self).1
   have rel:Vals (p.toList.map fun i=>xs.getD i .non) (p.toList.map fun i=>its.getD i Value.none):=by
    have key:∀ (l:List Nat),(∀ i∈l,i<its.length)→Vals (l.map fun i=>xs.getD i .non) (l.map fun i=>its.getD i Value.none):=by
     intro l
     induction l with
     | nil=>intro _;exact .nil
     | cons a l ih =>
       intro hl'
       have ha:=hl' a List.mem_cons_self
       have ha2:a<xs.length:=by omega
       obtain⟨u,hu,ru⟩:=rv.get (i:=a) (x:=xs[a]) (by simp[ha2])
       have e1:xs.getD a .non=xs[a]:=by simp[ha2]
       have e2:its.getD a Value.none=u:=by rw[List.getD_eq_getElem?_getD,hu];rfl
       rw[List.map_cons,List.map_cons,e1,e2]
       exact .cons ru (ih fun i hi=>hl' i (List.mem_cons_of_mem _ hi))
    exact key _ fun i hi=>List.mem_range.mp (pm.mem_iff.mp hi)
   have hq:=q p.toList D (by rw[hlen];exact pm) (fun k k1 k2=>by
    have:=up k k1 (by omega)
    rw[z1l,z1l];exact this) hHD
   refine⟨.ref D,_,I.z5l (t':=s.toks) hn F3 kp3 hHD hDs hD3 rel ?_,rfl,hq⟩
   rw[List.length_map,pm.length_eq,List.length_range,← hlen]
   exact hz
end
end L2
namespace L2
open PySem PySem.Spec PyProof.Rows PySem.W
theorem YJ{α:Type}{R:α→α→Prop}(tr:∀ a b c,R a b→R b c→R a c):∀ l:List α,(∀ k a b,l[k]?=some a→l[k+1]?=some b→R a b)→l.Pairwise R
 | [],_=>.nil
 | [a],_=>by simp
 | a :: b :: l,h=>by
   have ih:=YJ tr (b :: l) fun k x y hx hy=>h (k+1) x y (by simpa using hx) (by simpa using hy)
   refine List.pairwise_cons.mpr ⟨fun c hc=>?_,ih⟩
   rcases List.mem_cons.mp hc with rfl | hc
   · exact h 0 a c rfl rfl
   · exact tr a b c (h 0 a b rfl rfl) ((List.pairwise_cons.mp ih).1 c hc)
theorem range_getD{α:Type}(l:List α)(d:α):(List.range l.length).map (fun i=>l.getD i d)=l:=by
 refine List.ext_getElem (by simp) fun i h1 h2=>?_
 simp[h2]
theorem JI{α:Type}{l:List α}{d:α}{p:List Nat}(h:p.Perm (List.range l.length)):(p.map fun i=>l.getD i d).Perm l:=by
 have:=h.map (fun i=>l.getD i d)
 rw[range_getD] at this
 exact this
theorem Jh{xs:List V}{vs:List Value}(r:Vals xs vs){i:Nat}(h:i<vs.length):RelV (xs.getD i .non) (vs.getD i Value.none):=by
 have h':i<xs.length:=by rw[r.length];exact h
 obtain⟨u,hu,ru⟩:=r.get (i:=i) (x:=xs[i]) (by simp[h'])
 have e1:xs.getD i .non=xs[i]:=by simp[h']
 have e2:vs.getD i Value.none=u:=by rw[List.getD_eq_getElem?_getD,hu];rfl
 rw[e1,e2];exact ru
noncomputable def qF(p q:Int×Int):Bool:=decide (p.1<q.1∨(p.1=q.1∧p.2<q.2))
noncomputable def qW(p q:Int×Int):Prop:=p.1<q.1∨(p.1=q.1∧p.2≤q.2)
theorem z2K{p q:Int×Int}(h:qF q p=false):qW p q:=by
 simp only[qF,qW,decide_eq_false_iff_not] at *
 omega
theorem UI(a b c:Int×Int)(h1:qW a b)(h2:qW b c):qW a c:=by
 simp only[qW] at *
 omega
noncomputable def ltP(ps:List (Int×Int))(i j:Nat):Bool:=qF (ps.getD i (0,0)) (ps.getD j (0,0))
theorem z2o(ps:List (Int×Int)):Srt.Ord (ltP ps):=by
 refine⟨fun i j h=>?_,fun i j k h1 h2=>?_⟩ <;> simp only[ltP,qF,decide_eq_true_eq,decide_eq_false_iff_not] at * <;> omega
theorem VR{α:Type}{R:α→α→Prop}(tr:∀ a b c,R a b→R b c→R a c){l:List α}{d:α}{p:List Nat}(h:p.Perm (List.range l.length)){lt:Nat→Nat→Bool}
 (up:∀ k,1≤k→k<l.length→lt (p.getD k 0) (p.getD (k - 1) 0)=false) (hR:∀ i j,lt j i=false→R (l.getD i d) (l.getD j d)):(p.map fun i=>l.getD i d).Pairwise R:=by
 refine YJ tr _ fun k a b ha hb=>?_
 have hl:p.length=l.length:=by rw[h.length_eq,List.length_range]
 rw[List.getElem?_map] at ha hb
 cases e1:p[k]? with
 | none=>rw[e1] at ha;cases ha
 | some i =>
   cases e2:p[k+1]? with
   | none=>rw[e2] at hb;cases hb
   | some j =>
     rw[e1] at ha;rw[e2] at hb
     have ha:l.getD i d=a:=Option.some.inj ha
     have hb:l.getD j d=b:=Option.some.inj hb
     subst ha hb
     have hk:k+1<p.length:=(List.getElem?_eq_some_iff.mp e2).1
     have:=up (k+1) (by omega) (by omega)
     have g1:p.getD (k+1) 0=j:=by rw[List.getD_eq_getElem?_getD,e2];rfl
     have g2:p.getD (k+1 - 1) 0=i:=by rw[List.getD_eq_getElem?_getD,Nat.add_sub_cancel,e1];rfl
     rw[g1,g2] at this
     exact hR i j this
noncomputable def dtP(p:Int×Int):Dt:=.tup [.int p.1,.int p.2]
noncomputable def xT(K:PySem.W.Frag)(H:Hp)(ps:List (Int×Int))(vs:List V):Prop:=Zp K H (ps.map dtP) vs
theorem QO{K:PySem.W.Frag}{H:Hp}{α:Type}{f:α→Dt}{l:List α}{d:α}{vs:List V}(h:Zp K H (l.map f) vs):∀ {p:List Nat},(∀ i∈p,i<l.length)→Zp K H ((p.map fun i=>l.getD i d).map f) (p.map fun i=>vs.getD i .non)
 | [],_=>by simp only[List.map_nil,Zp]
 | i :: p,hp=>by
   have hi:=hp i List.mem_cons_self
   simp only[List.map_cons,Zp]
   obtain⟨x,hx,dx⟩:=h.get (j:=i) (d:=f l[i]) (by simp[hi])
   refine⟨_,_,rfl,?_,QO h fun j hj=>hp j (List.mem_cons_of_mem _ hj)⟩
   have e1:l.getD i d=l[i]:=by simp[hi]
   have e2:vs.getD i .non=x:=by rw[List.getD_eq_getElem?_getD,hx];rfl
   rw[e1,e2];exact dx
theorem z0e{K:PySem.W.Frag}{H:Hp}{ps:List (Int×Int)}{vs:List V}(h:xT K H ps vs){i:Nat}(hi:i<ps.length):∃ a,vs.getD i .non=.ref a∧z5 K H a [.int (ps.getD i (0,0)).1,.int (ps.getD i (0,0)).2]:=by
 obtain⟨x,hx,dx⟩:=Zp.get (j:=i) (d:=dtP ps[i]) h (by simp[hi])
 have e1:ps.getD i (0,0)=ps[i]:=by simp[hi]
 have e2:vs.getD i .non=x:=by rw[List.getD_eq_getElem?_getD,hx];rfl
 rw[e1,e2]
 simp only[dtP,Den,Zp] at dx
 obtain⟨a,xs,rfl,hq,y,r,rfl,rfl,y2,r2,rfl,rfl,rfl⟩:=dx
 exact⟨a,rfl,hq⟩
section
variable{X:Cx}{pins:List (Addr×Obj)}{σ:St}{H:Hp}{s:Shared}
theorem Inv.z6p{a:Addr}{xs:List V}(I:Inv X pins σ H s)(h:z5 X.K H a xs):a≠X.env.locals:=by
 rintro rfl
 obtain⟨its,_,⟨o,e,c,n,d⟩,_⟩:=I.tuple h
 obtain⟨m,⟨o',es,ep,ho,hd,_⟩,_⟩:=I.loc
 rw[e] at ho;cases ho
 rw[d] at hd;cases hd
noncomputable def z4w(K:PySem.W.Frag):List V→Hp→VK→Prop:=fun xs H Q=>∃ (l:Addr) (vs:List V) (ps:List (Int×Int)),xs=[.ref l]∧z7 K H l vs∧xT K H ps vs∧ps.length<64∧∀ (us:List V) (ms:List (Int×Int)) (D:Addr),ms.Perm ps→ms.Pairwise qW→xT K H ms us→H D=none→Q (.ref D) (upd H D (.lst us))
theorem VG:ye X (.builtin "sorted") (z4w X.K):=by
 intro pins s σ H xs us Q I r h
 obtain⟨l,xs,ps,rfl,hl,hp,h64,q⟩:=h
 obtain⟨u,rfl,rfl⟩:=vals1 r
 have hlen:xs.length=ps.length:=by have:=Zp.length hp;rw[List.length_map] at this;exact this
 refine Jk I hl (by omega) (ltP ps) (z2o ps) (fun vs s' rv h2 kp=>?_) fun p D pm up hD=>?_
 · have hv:vs.length=ps.length:=by rw[← rv.length,hlen]
   have tup:∀ {s2:Shared},(∀ b o,b≠X.env.locals→s.heap.get? b=some o→s2.heap.get? b=some o)→∀ {i:Nat},i<vs.length→∃ a o n t1 t2,vs.getD i Value.none=.ref a∧s2.heap.get? a=some o∧o.cls=.type "tuple"∧o.data=.seq #[.int (ps.getD i (0,0)).1 t1,.int (ps.getD i (0,0)).2 t2] n:=fun {s2} k {i} hi=>by
    obtain⟨a,e,hq⟩:=z0e hp (show i<ps.length by omega)
    have rr:=Jh rv hi
    rw[e] at rr
    obtain⟨its,ri,⟨o,ho,hc,n,hd⟩,_⟩:=I.tuple hq
    obtain⟨u1,u2,rfl,⟨t1,rfl⟩,⟨t2,rfl⟩⟩:=vals2 ri
    exact⟨a,o,n,t1,t2,rr,k a o (I.z6p hq) ho,hc,by simpa using hd⟩
   refine⟨tuples' true,fun R hR=>?_,fun i j C s2 hi hj k hc=>?_⟩
   · have build:∀ (ws:List Value),(∀ v∈ws,∃ a o n x t1 y t2,v=.ref a∧s'.heap.get? a=some o∧o.cls=.type "tuple"∧o.data=.seq #[.int x t1,.int y t2] n)→∃ fs:List Value,fs.length=ws.length∧KatTups s'.heap ws fs∧∀ v∈fs,∃ x t,v=.int x t:=by
      intro ws
      induction ws with
      | nil=>intro _;exact⟨[],rfl,KatTups.nil,fun v h=>by simp at h⟩
      | cons w ws ih =>
        intro h
        obtain⟨fs,e,t,a⟩:=ih fun v hv=>h v (List.mem_cons_of_mem _ hv)
        obtain⟨b,o,n,x,t1,y,t2,rfl,ho,hc,hd⟩:=h w List.mem_cons_self
        refine⟨.int x t1 :: fs,by simp[e],KatTups.cons ho hc hd rfl t,fun v hv=>?_⟩
        rcases List.mem_cons.mp hv with rfl | hv
        · exact⟨_,_,rfl⟩
        · exact a v hv
     obtain⟨fs,e,kt,fa⟩:=build vs fun v hv=>by
      obtain⟨i,hi,rfl⟩:=List.mem_iff_getElem.mp hv
      obtain⟨a,o,n,t1,t2,e,ho,hc,hd⟩:=tup kp hi
      have:vs.getD i Value.none=vs[i]:=by simp[hi]
      rw[this] at e
      exact⟨a,o,n,_,t1,_,t2,e,ho,hc,hd⟩
     refine kat_kind (T:=.type "int") kt (by omega) (fun v hv=>?_) (by decide) hR
     obtain⟨x,t,rfl⟩:=fa v hv
     exact Looks.of_pure rfl
   · unfold kas_ask
     obtain⟨a,o,n,t1,t2,e,ho,_,hd⟩:=tup k hi
     obtain⟨a',o',n',t1',t2',e',ho',_,hd'⟩:=tup k hj
     rw[e,e']
     refine kat_lt ho hd ho' hd' (kat_cons ?_)
     have hc':C (qF (ps.getD i (0,0)) (ps.getD j (0,0))) s2:=hc
     generalize ps.getD i (0,0)=x at *
     generalize ps.getD j (0,0)=y at *
     refine wpAny_eqBool_int ?_
     by_cases h1:x.1=y.1
     · rw[show (x.1 == y.1)=true by simp[h1]]
       refine kat_yes (kat_cons (wpAny_eqBool_int ?_))
       by_cases h2:x.2=y.2
       · rw[show (x.2 == y.2)=true by simp[h2]]
         refine kat_yes (kat_nil ?_)
         have:qF x y=false:=by simp only[qF,decide_eq_false_iff_not];omega
         rw[this] at hc'
         simpa using hc'
       · rw[show (x.2 == y.2)=false by simp[h2]]
         refine kat_no (kat_one _ _ ?_)
         have:qF x y=decide (x.2<y.2):=by simp only[qF,decide_eq_decide];omega
         rw[this] at hc'
         exact lt_int hc'
     · rw[show (x.1 == y.1)=false by simp[h1]]
       refine kat_no (oneLt_int ?_)
       have:qF x y=decide (x.1<y.1):=by simp only[qF,decide_eq_decide];omega
       rw[this] at hc'
       exact hc'
 · rw[hlen] at pm up
   have hb:∀ i∈p,i<ps.length:=fun i hi=>List.mem_range.mp (pm.mem_iff.mp hi)
   exact q _ _ D (JI pm) (VR UI pm up fun i j h=>z2K h) (QO hp hb) hD
end
end L2
namespace L2
open PySem PySem.Spec PyProof.Rows PySem.W
theorem Yv(env:Env):∀ (names:List (Str×NameKind)) (cs:List (Str×Addr)),(∀ y∈names,y.2=.free→∃ c,env.cells.lookup y.1=some c)→(∀ p∈cs,env.cells.lookup p.1=some p.2) →
 ∃ cl:List (Str×Addr),(forIn names cs fun x cs=>(match x with | (name,kind)=>if (kind == .free)=true then do let __do_lift ←cellOf env name;pure (ForInStep.yield ((name,__do_lift) :: cs)) else pure (ForInStep.yield cs):Sem (ForInStep (List (Str×Addr)))))=pure cl ∧
   (∀ p∈cl,env.cells.lookup p.1=some p.2)∧(∀ p∈cs,p∈cl)∧∀ x,(x,NameKind.free)∈names→∃ c,(x,c)∈cl
 | [],cs,_,hc=>⟨cs,by rw[List.forIn_nil],hc,fun _ h=>h,fun x h=>by simp at h⟩
 | (n,k) :: names,cs,h,hc=>by
   have h':=fun y hy=>h y (List.mem_cons_of_mem _ hy)
   rw[List.forIn_cons]
   by_cases hk:k=.free
   · subst hk
     obtain⟨c,e⟩:=h (n,.free) List.mem_cons_self rfl
     obtain⟨cl,e1,e2,e3,e4⟩:=Yv env names ((n,c) :: cs) h' fun p hp=>by
      rcases List.mem_cons.mp hp with rfl | hp
      · exact e
      · exact hc p hp
     refine⟨cl,?_,e2,fun p hp=>e3 p (List.mem_cons_of_mem _ hp),fun x hx=>?_⟩
     · have ec:cellOf env n=pure c:=by unfold cellOf;rw[e]
       simp only[ec,beq_self_eq_true,if_true,pure_bind]
       exact e1
     · rcases List.mem_cons.mp hx with z | hx
       · cases z;exact⟨c,e3 _ List.mem_cons_self⟩
       · exact e4 x hx
   · obtain⟨cl,e1,e2,e3,e4⟩:=Yv env names cs h' hc
     refine⟨cl,?_,e2,e3,fun x hx=>?_⟩
     · have:(k == NameKind.free)=false:=by simpa using hk
       simp only[this,Bool.false_eq_true,if_false,pure_bind]
       exact e1
     · rcases List.mem_cons.mp hx with z | hx
       · cases z;exact absurd rfl hk
       · exact e4 x hx
theorem yR{x:Str}{c:Addr}:∀ {l:List (Str×Addr)},(x,c)∈l→∃ c',l.lookup x=some c'
 | [],h=>by simp at h
 | (n,d) :: l,h=>by
   rw[List.lookup_cons]
   cases e:x == n with
   | true=>exact⟨d,rfl⟩
   | false =>
     rcases List.mem_cons.mp h with z | h
     · cases z;simp at e
     · exact yR h
theorem xF{scope:Scope}{env:Env}(h:∀ y∈scope.names,y.2=.free→∃ c,env.cells.lookup y.1=some c) :
 ∃ cl,closureFor scope env=pure cl∧(∀ x c,cl.lookup x=some c→env.cells.lookup x=some c)∧∀ x,(x,NameKind.free)∈scope.names→∃ c,cl.lookup x=some c:=by
 obtain⟨cl,e1,e2,_,e4⟩:=Yv env scope.names [] h (fun p hp=>by simp at hp)
 refine⟨cl,?_,fun x c hx=>e2 (x,c) (PySem.mem_of_lookup hx),fun x hx=>?_⟩
 · unfold closureFor
   refine Eq.trans (congrArg (fun t=>t >>= fun cs=>pure cs) ?_) (bind_pure _)
   exact e1
 · obtain⟨c,hc⟩:=e4 x hx
   exact yR hc
section
variable{X:Cx}
theorem Zg{tg iter elt:Expr}{ifs:List Expr}{scope:Scope}{pos:Pos}(N':List Str)(ks:List (Option Nat)){wi:TI}{g:TG}{tt:TT}{te:TE}
 (hcalm:X.calm=true) (hi:PI X tg iter wi) (hfree:∀ y∈scope.names,y.2=.free→X.env.scope.names.lookup y.1=some .cell)
 (hcell:∀ y∈scope.names,y.2≠.cell) (hkind:scope.kind=.function) (hnames:∀ y∈scope.names,y.2=.local→scope.names.lookup y.1=some .local)
 (hcap:QV X (relabel scope X.env) N' ks)
 (hg:∀ cl C s H fp,PG (Zw X N' scope cl C s H fp) tg g) (ht:∀ cl C s H fp,PTs (Zw X N' scope cl C s H fp) ifs tt) (he:∀ cl C s H fp,PE (Zw X N' scope cl C s H fp) elt te)
 (hs:∀ x,foldedSetIterable iter X.env x=pure x:=by intro _;rfl):PE X (.ListComp elt [⟨tg,iter,ifs,0⟩] scope pos) (Qt wi ks g tt te):=by
 intro pins s σ H Q I h
 obtain⟨cl,e1,e2,e3⟩:=xF (scope:=scope) (env:=X.env) fun y hy hf=>I.ok.has y.1 (.inl (hfree y hy hf))
 refine z2u hcalm hi e1 e2 hcell hkind hnames (fun x hx=>?_) hcap (hg cl) (ht cl) (he cl) hs pins s σ H Q I h
 have key:∀ k,(x,k)∈(relabel scope X.env).names→k=.cell∨k=.free→(x,NameKind.free)∈scope.names:=fun k hm hk=>by
  unfold relabel at hm
  obtain⟨⟨n,k'⟩,hy,e⟩:=List.mem_map.mp hm
  dsimp only at e
  split at e
  · rename_i hc
    cases e
    have:k'=.free:=by simp at hc;exact hc.1.1
    rw[← this];exact hy
  · cases e
    rcases hk with rfl | rfl
    · exact absurd rfl (hcell _ hy)
    · exact hy
 rcases hx with hx | hx
 · exact e3 x (key _ (PySem.mem_of_lookup hx) (.inl rfl))
 · exact e3 x (key _ (PySem.mem_of_lookup hx) (.inr rfl))
theorem Z1{lo:Int}{n:Nat}{D:Addr}{g:TG}{tt:TT}{te:TE}{σ0:St}{H0:Hp}{Q:VK}(Pv:Nat→List V→St→Hp→Prop)(h0:Pv 0 [] σ0 H0)(hl:∀ i ys σ H,Pv i ys σ H→H D=some (.lst ys))
 (hs:∀ i ys σ H,i<n→Pv i ys σ H→g (.int (lo+i)) σ H fun σ3 H3=>tt σ3 H3 fun b H4=>if b=true then
  te σ3 H4 fun y H5=>H5 D=some (.lst ys)∧ys.length<sizeLine∧∃ m',m'<n - i∧Wt Pv n (i+1) m' (ys ++ [y]) σ3 (upd H5 D (.lst (ys ++ [y]))) else ∃ m',m'<n - i∧Wt Pv n (i+1) m' ys σ3 H4)
 (hd:∀ ys σ H,Pv n ys σ H→Q (.ref D) H) :
 qQ (Itr lo n) D g tt te Q σ0 H0:=by
 refine⟨Wt Pv n,⟨n,rfl,Nat.zero_le _,h0⟩,?_⟩
 rintro i m ys σ' H' ⟨rfl,hi,p⟩
 refine⟨hl i ys σ' H' p,?_⟩
 by_cases hlt:i<n
 · refine .inr ⟨hlt,fun x H2 y=>?_⟩
   obtain⟨e,y⟩:=y
   subst e y
   exact hs i ys σ' _ hlt p
 · have e:i=n:=by omega
   subst e
   exact .inl ⟨Nat.le_refl _,hd ys σ' H' p⟩
theorem qt{K:PySem.W.Frag}{es:List Expr}{k:Nat}{t:TGs}{pos:Pos}(n:Nat)(e:X.K=K)(hc:X.calm=true)(h:PGs X es t)
 (hn:(assignEach es X.env).length=n:=by rfl) (hst:(assignEach es X.env).findIdx? (·.1)=none:=by rfl):PG X (.Tuple es k pos) (z6q K n t):=e ▸ Xx hc h hn hst
noncomputable def z5N(K:PySem.W.Frag):List V→Hp→VK→Prop:=fun xs H Q=>∃ (l:Addr) (ns:List Int),xs=[.ref l]∧z7 K H l (ns.map V.int)∧Q (.int ns.sum) H
theorem uN(hc:X.calm=true):ye X (.builtin "sum") (z5N X.K):=by
 intro pins s σ H xs us Q I r h
 obtain⟨l,ns,rfl,hl,q⟩:=h
 obtain⟨u,rfl,rfl⟩:=vals1 r
 obtain⟨its,rv,pl,_⟩:=I.list hl
 have hi:=intsAre_of rv
 obtain⟨xs,hx⟩:=hi.allInts.items
 have hl':s.heap.IsList l (intItems xs):=hx ▸ pl.isList
 refine sum_intListG (I.ok.hd hc) hl' fun h' tk t' hk=>?_
 have e1:ns=xs.toList.map (·.1):=by
  rw[← nums_intItems,← hx]
  exact (show numsOf its.toArray.toList=ns from hi.numsOf).symm
 have e2:preSum (numAt xs) xs.size=ns.sum:=by
  rw[preSum_eq,List.take_of_length_le (by simp),e1]
 rw[e2]
 exact⟨.int ns.sum,H,I.kept (t':=tk) hk,⟨_,rfl⟩,q⟩
end
theorem z1t{H:Hp}{Q:VK}{o:HO}(h:∀ (p:Addr) (H':Hp),zu H H'→H p=none→H' p=some o→Q (.ref p) H'):∀ p,H p=none→Q (.ref p) (upd H p o):=fun p hp=>h p _ (zu.new hp) hp zj
noncomputable def KL(H H':Hp):Prop:=∀ b o,H b=some o→(∀ xs,o≠.lst xs)→H' b=some o
theorem KL.trans{H H1 H2:Hp}(a:KL H H1)(b:KL H1 H2):KL H H2:=fun c o h n=>b c o (a c o h n) n
theorem zu.kl{H H':Hp}(s:zu H H'):KL H H':=fun b o h _=>s b o h
theorem KL.set{H:Hp}{l:Addr}{xs ys:List V}(h:H l=some (.lst xs)):KL H (upd H l (.lst ys)):=fun b o e n=>by
 have:b≠l:=by rintro rfl;rw[h] at e;cases e;exact n xs rfl
 rw[zp this];exact e
theorem Kp.kl{H H':Hp}{l:Addr}{xs:List V}(k:Kp l H H')(h:H l=some (.lst xs)):KL H H':=fun b o e n=>k b o e (by rintro rfl;rw[h] at e;cases e;exact n xs rfl)
theorem z4.kl{H H':Hp}{l:Addr}(h:z4 H l)(k:Kp l H H'):KL H H':=by
 obtain⟨a,b,e,_⟩:=h
 exact k.kl e
theorem KL.tup{H H':Hp}{b:Addr}{xs:List V}(k:KL H H')(h:H b=some (.tup xs)):H' b=some (.tup xs):=k b _ h fun _ z=>by cases z
theorem KL.V9{K:PySem.W.Frag}{H H':Hp}{a:Addr}{xs:List V}(e:KL H H')(h:z5 K H a xs):z5 K H' a xs:=by
 rcases h with (h |⟨o,h⟩) | h
 · exact .inl (.inl (e _ _ h fun _ z=>by cases z))
 · exact .inl (.inr ⟨o,e _ _ h fun _ z=>by cases z⟩)
 · exact .inr h
theorem Xh{K:PySem.W.Frag}{H:Hp}:xT K H [] []:=by simp only[xT,List.map_nil,Zp]
theorem qK{K:PySem.W.Frag}{H:Hp}{a:Addr}{p:Int×Int}{ps:List (Int×Int)}{vs:List V}(h:z5 K H a [.int p.1,.int p.2])(r:xT K H ps vs):xT K H (p :: ps) (.ref a :: vs):=by
 simp only[xT,List.map_cons,Zp,dtP,Den]
 exact⟨_,_,rfl,⟨a,_,rfl,h,_,_,rfl,rfl,_,_,rfl,rfl,rfl⟩,r⟩
theorem qI{K:PySem.W.Frag}{H:Hp}{p:Int×Int}{ps:List (Int×Int)}{vs:List V}(h:xT K H (p :: ps) vs):∃ a r,vs=.ref a :: r∧z5 K H a [.int p.1,.int p.2]∧xT K H ps r:=by
 simp only[xT,List.map_cons,Zp,dtP,Den] at h
 obtain⟨x,r,rfl,⟨a,xs,rfl,hq,y,r1,rfl,rfl,y2,r2,rfl,rfl,rfl⟩,hr⟩:=h
 exact⟨a,r,rfl,hq,hr⟩
theorem xT.kl{K:PySem.W.Frag}{H H':Hp}(k:KL H H'):∀ {ps:List (Int×Int)}{vs:List V},xT K H ps vs→xT K H' ps vs
 | [],vs,h=>by
   simp only[xT,List.map_nil,Zp] at h
   subst h
   exact Xh
 | p :: ps,vs,h=>by
   obtain⟨a,r,rfl,hq,hr⟩:=qI h
   exact qK (k.V9 hq) (xT.kl k hr)
theorem xT.snoc{K:PySem.W.Frag}{H:Hp}{a:Addr}{p:Int×Int}(hp:z5 K H a [.int p.1,.int p.2]):∀ {ps:List (Int×Int)}{vs:List V},xT K H ps vs→xT K H (ps ++ [p]) (vs ++ [.ref a])
 | [],vs,h=>by
   simp only[xT,List.map_nil,Zp] at h
   subst h
   exact qK hp Xh
 | q :: ps,vs,h=>by
   obtain⟨b,r,rfl,hq,hr⟩:=qI h
   exact qK hq (xT.snoc hp hr)
theorem xT.len{K:PySem.W.Frag}{H:Hp}{ps:List (Int×Int)}{vs:List V}(h:xT K H ps vs):vs.length=ps.length:=by
 have:=Zp.length h
 rw[List.length_map] at this
 exact this
theorem xT.get{K:PySem.W.Frag}{H:Hp}{ps:List (Int×Int)}{vs:List V}(h:xT K H ps vs){i:Nat}{v:V}(hv:vs[i]?=some v):∃ a p,ps[i]?=some p∧v=.ref a∧z5 K H a [.int p.1,.int p.2]:=by
 have hi:i<ps.length:=by rw[← h.len];exact (List.getElem?_eq_some_iff.mp hv).1
 obtain⟨a,e,q⟩:=z0e h hi
 have e1:vs.getD i .non=v:=by rw[List.getD_eq_getElem?_getD,hv];rfl
 have e2:ps.getD i (0,0)=ps[i]:=by simp[hi]
 rw[e1] at e
 rw[e2] at q
 exact⟨a,ps[i],by simp[hi],e,q⟩
theorem Qn:∀ ps qs:List (Int×Int),yG (ps.map dtP) (qs.map dtP)=decide (ps=qs)
 | [],[]=>rfl
 | [],_ :: _=>rfl
 | _ :: _,[]=>rfl
 | p :: ps,q :: qs=>by
   have e:Va (dtP p) (dtP q)=decide (p=q):=by
    simp only[dtP,Va]
    exact z0v p.1 p.2 q.1 q.2
   simp only[List.map_cons,yG,e,Qn ps qs]
   by_cases h:p=q <;> simp[h]
noncomputable def z5B:R2:=fun x y H Q=>∃ l b xs zs,x=.ref l∧y=.ref b∧H l=some (.lst xs)∧H b=some (.lst zs)∧xs.length+zs.length≤sizeLine∧∀ (p:Addr) (H':Hp),zu H H'→H p=none→H' p=some (.lst (xs ++ zs))→Q (.ref p) H'
noncomputable def z6l:R2:=fun x y H Q=>∃ l k xs,x=.ref l∧y=.int k∧H l=some (.lst xs)∧-(2 ^ 63)≤k∧k<2 ^ 63∧xs.length * k.toNat≤sizeLine ∧
 ∀ (p:Addr) (H':Hp),zu H H'→H p=none→H' p=some (.lst (List.replicate k.toNat xs).flatten)→Q (.ref p) H'
noncomputable def z2F(K:PySem.W.Frag):List V→Hp→VK→Prop:=fun xs H Q=>∃ (l:Addr) (vs:List V) (ps:List (Int×Int)),xs=[.ref l]∧z7 K H l vs∧xT K H ps vs∧ps.length<64∧∀ (us:List V) (ms:List (Int×Int)) (D:Addr) (H':Hp),ms.Perm ps→ms.Pairwise qW→xT K H' ms us→zu H H'→H D=none→H' D=some (.lst us)→Q (.ref D) H'
noncomputable def z4p(K:PySem.W.Frag):List V→Hp→VK→Prop:=fun xs H Q=>∃ (p:Addr) (ys:List V),xs=[.ref p]∧z7 K H p ys∧∀ (t:Addr) (H':Hp),zu H H'→H t=none→H' t=some (.tup ys)→Q (.ref t) H'
section
variable{X:Cx}
theorem Xn:xw X (binaryOp .Add) z5B:=fun pins s σ H x y v u Q I rx ry ⟨l,b,xs,zs,e1,e2,h1,h2,h3,q⟩=>z0h pins s σ H x y v u Q I rx ry ⟨l,b,xs,zs,e1,e2,h1,h2,h3,z1t q⟩
theorem jG:xw X (binaryOp .Mult) z6l:=fun pins s σ H x y v u Q I rx ry ⟨l,k,xs,e1,e2,h1,h2,h3,h4,q⟩=>z0w pins s σ H x y v u Q I rx ry ⟨l,k,xs,e1,e2,h1,h2,h3,h4,z1t q⟩
theorem Qx:ye X (.builtin "sorted") (z2F X.K):=fun pins s σ H xs us Q I r ⟨l,vs,ps,e,h1,h2,h3,q⟩=>VG pins s σ H xs us Q I r ⟨l,vs,ps,e,h1,h2,h3,fun us ms D a b c hD=>q us ms D _ a b (c.kl (zu.new hD).kl) (zu.new hD) hD zj⟩
theorem ZK:ye X (.type "tuple") (z4p X.K):=fun pins s σ H xs us Q I r ⟨p,ys,e,h1,q⟩=>Qu pins s σ H xs us Q I r ⟨p,ys,e,.inl ⟨h1,z1t q⟩⟩
end
end L2
namespace Pw
noncomputable def outs(ps:List (Int×Int))(page:Int):List Int:=(ps.filter fun p=>decide (p.1=page)).map (·.2)
theorem Y5(ps:List (Int×Int))(p:Int×Int)(page:Int):outs (ps ++ [p]) page=outs ps page ++ (if p.1=page then [p.2] else []):=by
 unfold outs
 rw[List.filter_append,List.map_append]
 by_cases h:p.1=page <;> simp[h]
theorem ZO(ps:List (Int×Int))(page:Int):(outs ps page).length≤ps.length:=by
 unfold outs
 rw[List.length_map]
 exact List.length_filter_le ..
structure z0E(pages:Int)(ps:List (Int×Int)):Prop where
 lo:1≤pages
 hi:pages≤12
 few:ps.length≤60
 up:ps.Pairwise L2.qW
 lk:∀ p∈ps,0≤p.1∧p.1<pages∧0≤p.2∧p.2<pages
end Pw
namespace L2
open PySem PySem.Spec PyProof.Rows PySem.W
theorem z4.same{H H':Hp}{p:Addr}(h:z4 H p)(s:zu H H'):z4 H' p:=by
 obtain⟨a,b,e,r⟩:=h
 exact⟨a,b,s _ _ e,r⟩
theorem z4.set{H:Hp}{p q:Addr}{o:HO}(h:z4 H p)(n:p≠q):z4 (upd H q o) p:=by
 obtain⟨a,b,e,r⟩:=h
 exact⟨a,b,by rw[zp n];exact e,r⟩
theorem Kp.free{H H':Hp}{p l:Addr}(k:Kp p H H')(h:z4 H' p)(hl:H' l=none):H l=none:=by
 have n:=h.ne hl
 cases e:H l with
 | none=>rfl
 | some o=>rw[k l o e n] at hl;cases hl
theorem Xu{ns:List Int}{i:Int}(h0:0≤i)(h1:i<ns.length):∃ z∈ns,jt (ns.map V.int) i=some (.int z):=by
 obtain⟨n,rfl⟩:∃ n:Nat,i=n:=⟨i.toNat,by omega⟩
 have hn:n<ns.length:=by omega
 exact⟨ns[n],List.getElem_mem hn,zY (by simp[hn])⟩
noncomputable def YS(K:PySem.W.Frag)(H:Hp)(w:Addr)(pages:Int)(ps:List (Int×Int)):Prop:=∃ (ws:Addr) (us:List V),H w=some (.tup [.int pages,.ref ws])∧H ws=some (.tup us)∧xT K H ps us
theorem YS.kl{K:PySem.W.Frag}{H H':Hp}{w:Addr}{pages:Int}{ps:List (Int×Int)}(h:YS K H w pages ps)(k:KL H H'):YS K H' w pages ps:=by
 obtain⟨ws,us,a,b,c⟩:=h
 exact⟨ws,us,k.tup a,k.tup b,c.kl k⟩
theorem YS.same{K:PySem.W.Frag}{H H':Hp}{w:Addr}{pages:Int}{ps:List (Int×Int)}(h:YS K H w pages ps)(k:zu H H'):YS K H' w pages ps:=h.kl k.kl
noncomputable def X9(K:PySem.W.Frag)(f:List (Int×Int)→Int→List Int):Sp:=fun vs H Q _=>∃ (w:Addr) (pages page:Int) (ps:List (Int×Int)),vs=[.ref w,.int page]∧YS K H w pages ps∧ps.length≤100 ∧
 ∀ (p:Addr) (H':Hp),zu H H'→H p=none→H' p=some (.lst ((f ps page).map V.int))→Q (.ref p) H'
noncomputable def vG(K:PySem.W.Frag):Sp:=fun vs H Q _=>∃ (a:Addr) (ns:List Int),vs=[.ref a]∧z7 K H a (ns.map V.int)∧∀ b,Q (.bl b) H
noncomputable def z0Y(K:PySem.W.Frag):Sp:=fun vs H Q _=>∃ (p:Addr) (great:Bool),vs=[.ref p,.bl great]∧z4 H p ∧
 ∀ (w:Addr) (H':Hp) (pages:Int) (ps:List (Int×Int)),Pw.z0E pages ps→YS K H' w pages ps→z4 H' p→Kp p H H'→Q (.ref w) H'
end L2
namespace L2
open PySem PySem.Spec PyProof.Rows PySem.W
open Builtin in
theorem xU(a:Int)(t:Tok)(l:Addr)(items:Array Value)(n:Nat)(dd:Option Addr)(sl:Array (Option Value)) :
 Meets (Builtin.«int.__rmul__» ⟨[.int a t,.ref l],[]⟩) (fun _ R s=>s.heap.get? l=some { cls:=.type "tuple",dict:=dd,data:=.seq items n,slots:=sl }∧R (.ok (.ret Value.notImplemented)) s) :=
 .of_wp fun prog w A R s h=>by obtain⟨hp,g,d,tk,os⟩:=s;obtain⟨hl,h⟩:=h;wp_walk;exact⟨_,rfl,h⟩
theorem YQ:fillsNumberSlot (.type "tuple") "mul"=pure false :=
 PySem.fillsNumberSlot_seq (id:="tuple.__mul__") (r:=some (.builtin "tuple.__rmul__")) F.slot_tuple_mul.lookup (by decide +kernel) F.slot_tuple_rmul.lookup (by decide +kernel)
theorem Qf:seqRepeat? (.type "tuple")=pure (some (.builtin "tuple.__mul__")):=by
 unfold seqRepeat?
 rw[PySem.seqSlot_of (T:="tuple") (name:="__mul__") (id:="tuple.__mul__") F.slot_tuple_mul.lookup (by decide +kernel),PySem.seqSlot_of (T:="tuple") (name:="__rmul__") (id:="tuple.__rmul__") F.slot_tuple_rmul.lookup (by decide +kernel)]
 rfl
open Builtin in
theorem V8(l:Addr)(items:Array Value)(n:Nat)(dd:Option Addr)(sl:Array (Option Value))(u:Tok) :
 Meets (Builtin.«tuple.__mul__» ⟨[.ref l,.int 1 u],[]⟩) (fun _ R s=>s.heap.get? l=some { cls:=.type "tuple",dict:=dd,data:=.seq items n,slots:=sl }∧R (.ok (.ret (.ref l))) s) :=
 .of_wp fun prog w A R s h=>by obtain⟨hp,g,d,tk,os⟩:=s;obtain⟨hl,h⟩:=h;have f1:=AutoSeq1.idx_int;have f2:=AutoSeq1.sub_tuple_tuple;wp_walk using wpAny_loadPart' hl;exact⟨_,rfl,h⟩
open Builtin in
theorem vR(l:Addr)(items:Array Value)(n:Nat)(dd:Option Addr)(sl:Array (Option Value))(x:Int)(u:Tok)(h1:(decide (x < -(2 ^ 63)) || decide (x ≥ 2 ^ 63))=false)(h2:(items.isEmpty || x == 1)=false)(h3:(decide (x≤0) || items.isEmpty)=false)
 (h4:¬ (items.size * x > (2 ^ 63 - 1) / 8)) (h5:Builtin.Tuple.tupleTooMany (items.size * x)=false) (hz:sizeOk (.seq ((List.replicate x.toNat items).foldl (· ++ ·) #[]))) :
 Meets (Builtin.«tuple.__mul__» ⟨[.ref l,.int x u],[]⟩) (fun _ R s=>s.heap.get? l=some { cls:=.type "tuple",dict:=dd,data:=.seq items n,slots:=sl }∧R (.ok (.ret (.ref s.heap.objs.size))) { s with heap:=s.heap.push { cls:=.type "tuple",data:=.seq ((List.replicate x.toNat items).foldl (· ++ ·) #[]) } }) :=
 .of_wp fun prog w A R s h=>by obtain⟨hp,g,d,tk,os⟩:=s;obtain⟨hl,h⟩:=h;have f1:=AutoSeq1.idx_int;have f2:=AutoSeq1.sub_tuple_tuple;wp_walk using wpAny_loadPart' hl;refine wpAny_ite_false (by simpa using h1) ?_;wp_walk using wpAny_loadPart' hl;refine wpAny_ite_false (decide_eq_false h4) ?_;wp_walk using wpAny_loadPart' hl;refine wpAny_ite_false (decide_eq_false (Nat.not_lt.mpr hz)) ?_;wp_walk using wpAny_loadPart' hl;exact⟨_,rfl,h⟩
section
variable{X:Cx}
noncomputable def z5E:R2:=fun x y H Q=>∃ l k xs,x=.ref l∧y=.int k∧H l=some (.tup xs)∧xs≠[]∧1≤k∧k<2 ^ 60∧xs.length * k.toNat≤sizeLine ∧
 ∀ (p:Addr) (H':Hp),zu H H'→H' p=some (.tup (List.replicate k.toNat xs).flatten)→Q (.ref p) H'
theorem qP(its:List Value)(m:Nat):List.foldl (fun x1 x2=>x1 ++ x2) #[] (List.replicate m its.toArray)=(List.replicate m its).flatten.toArray:=by
 have:∀ (m:Nat) (a:List Value),List.foldl (fun x1 x2=>x1 ++ x2) a.toArray (List.replicate m its.toArray)=(a ++ (List.replicate m its).flatten).toArray:=fun m=>by
  induction m with
  | zero=>intro a;simp
  | succ m ih=>intro a;rw[List.replicate_succ,List.foldl_cons,List.replicate_succ,List.flatten_cons,show a.toArray ++ its.toArray=(a ++ its).toArray by simp,ih (a ++ its),List.append_assoc]
 have:=this m []
 rw[List.nil_append] at this
 exact this
theorem qm:xw X (binaryOp .Mult) z5E:=by
 intro pins s σ H x y v u Q I rx ry h
 obtain⟨l,k,xs,rfl,rfl,hH,hne,h1,h2,hz,q⟩:=h
 cases rx
 obtain⟨t,rfl⟩:=ry
 obtain⟨z,its,r,p⟩:xs.length≤sizeLine∧∃ its:List Value,Vals xs its∧Zb s.heap l its.toArray:=I.hok l _ hH
 have p:=p.tup
 obtain⟨⟨cls,dd,data,sl⟩,ho,hc,n,hd⟩:=id p
 simp only at hc hd
 subst hc hd
 have hlen:its.toArray.size=xs.length:=by rw[List.size_toArray];exact r.length.symm
 have hpos:0<xs.length:=List.length_pos_iff.mpr hne
 by_cases hk:k=1
 · subst hk
   refine wpAny_binaryOp_repeat_ref (T:="tuple") (U:="int") (by decide) ⟨_,ho,rfl⟩ (fun s'=>typeIs_int s' 1 t) YQ F.fills_int_mul F.slot_int_rmul Qf F.slot_int_index.lookup
    (call_meets F.slot_int_rmul (typeIs_int s 1 t) F.entry_int_rmul (F.args_int_rmul_2 _ _) (xU 1 t l its.toArray n dd sl)
     ⟨ho,rfl,⟨_,ho,rfl⟩,call_meets F.slot_tuple_mul ⟨_,ho,rfl⟩ F.entry_tuple_mul (F.args_tuple_mul_2 _ _) (V8 l its.toArray n dd sl t) ⟨ho,?_⟩⟩)
   refine⟨.ref l,H,I,rfl,q l H (zu.refl _) ?_⟩
   have:(List.replicate (1:Int).toNat xs).flatten=xs:=by
    show (List.replicate 1 xs).flatten=xs
    simp
   rw[this]
   exact hH
 · have hz2:(List.replicate k.toNat its).flatten.length≤sizeLine:=by
    rw[len_rep,← r.length,Nat.mul_comm];exact hz
   have e1:((its.toArray.size:Nat):Int) * k=((xs.length * k.toNat:Nat):Int):=by
    rw[hlen,Int.natCast_mul,Int.toNat_of_nonneg (by omega)]
   have hsl:((sizeLine:Nat):Int)≤(2 ^ 63 - 1) / 8:=by decide
   have hzi:((xs.length * k.toNat:Nat):Int)≤((sizeLine:Nat):Int):=Int.ofNat_le.mpr hz
   have hem:its.toArray.isEmpty=false:=by
    rw[Bool.eq_false_iff]
    intro h
    have:=Array.isEmpty_iff.mp h
    have h2:its.toArray.size=0:=by rw[this];rfl
    omega
   refine wpAny_binaryOp_repeat_ref (T:="tuple") (U:="int") (by decide) ⟨_,ho,rfl⟩ (fun s'=>typeIs_int s' k t) YQ F.fills_int_mul F.slot_int_rmul Qf F.slot_int_index.lookup
    (call_meets F.slot_int_rmul (typeIs_int s k t) F.entry_int_rmul (F.args_int_rmul_2 _ _) (xU k t l its.toArray n dd sl)
     ⟨ho,rfl,⟨_,ho,rfl⟩,call_meets F.slot_tuple_mul ⟨_,ho,rfl⟩ F.entry_tuple_mul (F.args_tuple_mul_2 _ _)
      (vR l its.toArray n dd sl k t (by rw[decide_eq_false (by omega),decide_eq_false (by omega)];rfl) (by rw[hem];simpa using hk) (by rw[hem,decide_eq_false (by omega)];rfl)
       (by rw[e1];omega) (by unfold Builtin.Tuple.tupleTooMany;rw[e1];exact decide_eq_false (by omega)) (by rw[qP];show (List.replicate k.toNat its).flatten.toArray.size≤sizeLine;rw[List.size_toArray];exact hz2)) ⟨ho,?_⟩⟩)
   rw[qP]
   refine⟨.ref s.heap.objs.size,_,I.laid (t':=s.toks) (o:=.tup (List.replicate k.toNat xs).flatten) (fun b ob q=>Heap.get?_push_of_some _ q) (Nat.le_refl _) ?_,rfl,q _ _ (zu.new I.fresh) zj⟩
   exact⟨by rw[len_rep,Nat.mul_comm];exact hz,_,r.rep k.toNat,Zb.new _ _⟩
theorem Qa:∀ {bs:List Bool}{its:List Value},Vals (bs.map V.bl) its→LSm.BoolsAre its bs
 | [],_,.nil=>.nil
 | b :: bs,_,.cons r t=>by
   cases r
   exact .cons b (Qa t)
noncomputable def z7F(K:PySem.W.Frag):List V→Hp→VK→Prop:=fun xs H Q=>∃ (l:Addr) (bs:List Bool),xs=[.ref l]∧z7 K H l (bs.map V.bl)∧Q (.bl (bs.all id)) H
theorem JQ(hc:X.calm=true):ye X (.builtin "all") (z7F X.K):=by
 intro pins s σ H xs us Q I r h
 obtain⟨l,bs,rfl,hl,q⟩:=h
 obtain⟨u,rfl,rfl⟩:=vals1 r
 obtain⟨its,rv,pl,_⟩:=I.list hl
 have hb:=Qa rv
 have hl':=pl.isList
 have hh:=I.ok.hd hc
 have hlt:l<s.heap.objs.size:=by obtain⟨_,e,_⟩:=hl';exact Heap.lt_size e
 refine call_all_walk (wpAny_pyIter_list hl' ?_)
 refine⟨s.heap.objs.size,[s.heap.objs.size,l],[s.heap.objs.size],its.toArray.size,_,_,fun i=>(bs[i]?).getD true,rfl,Walks.list (A:=X.A.in1) hh _ l (Nat.ne_of_lt hlt) its.toArray,
  ⟨⟨_,Heap.get?_push_size _ rfl,rfl,rfl⟩,hl'.push _⟩,fun i v s' Q' E' hP hQ=>?_,fun h' tk hk=>?_⟩
 · obtain⟨b,e,rfl⟩:=hb.get i v (by simpa using hP)
   simp only[e,Option.getD_some] at hQ
   exact wpAny_truthy_bool hQ
 · have e:((List.range its.toArray.size).all fun i=>(bs[i]?).getD true)=bs.all id:=by
    rw[List.size_toArray,hb.length];exact LSm.range_all bs
   rw[e]
   exact⟨.bl (bs.all id),H,I.kept (t':=tk) (LSm.kept_iter hk),rfl,q⟩
end
end L2
namespace Pw
theorem mk_pos{a b:Int}(hb:0<b)(ha:0<a):0<(mk a b).1:=by
 obtain⟨⟨c1,_⟩,w⟩:=ZV (a:=a) (b:=b) (by omega)
 have h:0<(mk a b).1 * b:=by rw[w];exact Int.mul_pos ha c1
 exact Int.pos_of_mul_pos_left h hb
theorem Q2{a b:Int}(hb:0<b)(ha:0≤a):0≤(mk a b).1:=by
 obtain⟨⟨c1,_⟩,w⟩:=ZV (a:=a) (b:=b) (by omega)
 have h:0≤(mk a b).1 * b:=by rw[w];exact Int.mul_nonneg ha (by omega)
 exact Int.nonneg_of_mul_nonneg_left h hb
theorem z1y{a b:Int}(hb:0<b)(ha:a≤b):(mk a b).1≤(mk a b).2:=by
 obtain⟨⟨c1,_⟩,w⟩:=ZV (a:=a) (b:=b) (by omega)
 have h:(mk a b).1 * b≤(mk a b).2 * b:=by
  rw[w,Int.mul_comm (mk a b).2 b]
  exact Int.mul_le_mul_of_nonneg_right ha (by omega)
 exact Int.le_of_mul_le_mul_right h hb
theorem Uh:∀ {l:List Int},(∀ n∈l,0≤n)→0≤l.sum
 | [],_=>by simp
 | a :: l,h=>by
   have:=Uh fun n hn=>h n (List.mem_cons_of_mem _ hn)
   have:=h a List.mem_cons_self
   rw[List.sum_cons];omega
theorem Vy:∀ {l:List Int}{m:Int},(∀ n∈l,0≤n)→m∈l→0<m→0<l.sum
 | a :: l,m,h,hm,p=>by
   have h1:=Uh fun n hn=>h n (List.mem_cons_of_mem _ hn)
   have h2:=h a List.mem_cons_self
   rw[List.sum_cons]
   rcases List.mem_cons.mp hm with rfl | hm
   · omega
   · have:=Vy (fun n hn=>h n (List.mem_cons_of_mem _ hn)) hm p
     omega
theorem qv{B:Int}:∀ {l:List Int},(∀ n∈l,n≤B)→l.sum≤l.length * B
 | [],_=>by simp
 | a :: l,h=>by
   have h1:=qv fun n hn=>h n (List.mem_cons_of_mem _ hn)
   have h2:=h a List.mem_cons_self
   rw[List.sum_cons,List.length_cons,Int.natCast_add,Int.add_mul]
   omega
theorem z7R{n:Int}(hn:0<n):mk 1 n=(1,n):=uc (p:=(1,n)) ⟨hn,by simp[Canon]⟩
end Pw
namespace L2
open PySem PySem.Spec PyProof.Rows
theorem z1D{X:Cx}:z6J X (z5o X.K):=by
 intro pins s σ H x y v u Q I rx ry h
 obtain⟨p,xs,i,z,rfl,rfl,hq,he,q⟩:=h
 cases rx
 obtain⟨t,rfl⟩:=ry
 obtain⟨its,r,pl,hz⟩:=I.list hq
 obtain⟨j,h1,h2,h3,h4,h5⟩:=Vd he
 obtain⟨w,ew,rw'⟩:=r.get h2
 have hl:=r.length
 have hn:=XC
 have fin:EP X pins σ Q w s:=⟨z,H,I,rw',q⟩
 by_cases h0:0≤i
 · have hj:i.toNat=j:=by
    rw[seqIndex_of h0 h5] at h1
    exact Option.some.inj h1
   exact getItem_listL pl.isList h0 (by omega) (by rw[hj];exact ew) fin
 · have hj:(i+(its.toArray.size:Int)).toNat=j:=by
    rw[seqIndex_neg (by omega) h4] at h1
    rw[List.size_toArray,← hl]
    exact Option.some.inj h1
   exact wpAny_getItem_list_neg pl.isList (by omega) (by rw[List.size_toArray] <;> omega) (by omega) (by rw[hj];simpa using ew) fin
noncomputable def Zl(K:PySem.W.Frag)(H:Hp):List (Int×Int)→List V→Prop
 | [],vs=>vs=[]
 | A :: As,vs=>∃ p r,vs=.ref p :: r∧xB K H p A∧Zl K H As r
noncomputable def uF(A:Int×Int):Dt:=.tup [.int A.1,.int A.2]
theorem Zl.same{K:PySem.W.Frag}{H H':Hp}(s:zu H H'):∀ {As:List (Int×Int)}{vs:List V},Zl K H As vs→Zl K H' As vs
 | [],_,h=>h
 | _ :: _,_,⟨p,r,e,f,h⟩=>⟨p,r,e,s _ _ f,Zl.same s h⟩
theorem Zl.set{K:PySem.W.Frag}{H:Hp}{l:Addr}{o:HO}{xs:List V}(hl:H l=some (.lst xs)):∀ {As:List (Int×Int)}{vs:List V},Zl K H As vs→Zl K (upd H l o) As vs
 | [],_,h=>h
 | _ :: _,_,⟨p,r,e,f,h⟩=>⟨p,r,e,by rw[xB,zp (z3I f hl (by intro z;cases z))];exact f,Zl.set hl h⟩
theorem Zl.snoc{K:PySem.W.Frag}{H:Hp}{p:Addr}{A:Int×Int}(f:xB K H p A):∀ {As:List (Int×Int)}{vs:List V},Zl K H As vs→Zl K H (As ++ [A]) (vs ++ [.ref p])
 | [],_,h=>by
   have h:_=([]:List V):=h
   subst h
   exact⟨p,[],rfl,f,rfl⟩
 | _ :: _,_,⟨q,r,e,g,h⟩=>⟨q,r ++ [.ref p],by rw[e];rfl,g,Zl.snoc f h⟩
theorem Zl.z1E{K:PySem.W.Frag}{H:Hp}:∀ {As:List (Int×Int)}{vs:List V},Zl K H As vs→Zp K H (As.map uF) vs
 | [],_,h=>by simp only[List.map_nil,Zp];exact h
 | A :: As,_,⟨p,r,e,f,h⟩=>by
   simp only[List.map_cons,Zp]
   refine⟨.ref p,r,e,?_,Zl.z1E h⟩
   unfold uF
   simp only[Den]
   exact⟨p,_,rfl,z5.of f,uX K H A.1 A.2⟩
theorem Zl.dep:∀ As:List (Int×Int),yy (As.map uF)≤20
 | []=>by simp only[List.map_nil,yy];decide
 | A :: As=>by
   have:=Zl.dep As
   simp only[List.map_cons,yy,uF,xG]
   omega
theorem Zl.len{K:PySem.W.Frag}{H:Hp}:∀ {As:List (Int×Int)}{vs:List V},Zl K H As vs→vs.length=As.length
 | [],_,h=>by
   have h:_=([]:List V):=h
   subst h;rfl
 | _ :: _,_,⟨p,r,e,f,h⟩=>by rw[e];simp[Zl.len h]
theorem Zl.kp{K:PySem.W.Frag}{H H':Hp}(k:KL H H'):∀ {As:List (Int×Int)}{vs:List V},Zl K H As vs→Zl K H' As vs
 | [],_,h=>h
 | _ :: _,_,⟨p,r,e,f,h⟩=>⟨p,r,e,k.tup f,Zl.kp k h⟩
theorem Zl.at{K:PySem.W.Frag}{H:Hp}{As:List (Int×Int)}{vs:List V}(h:Zl K H As vs){j:Nat}{A:Int×Int}(e:As[j]?=some A):∃ p,vs[j]?=some (.ref p)∧xB K H p A:=by
 induction As generalizing vs j with
 | nil=>simp at e
 | cons B As ih =>
   obtain⟨p,r,rfl,f,h⟩:=h
   cases j with
   | zero=>simp at e;subst e;exact⟨p,by simp,f⟩
   | succ j =>
     obtain⟨q,a,b⟩:=ih h (j:=j) (by simpa using e)
     exact⟨q,by simpa using a,b⟩
theorem Zl.jt{K:PySem.W.Frag}{H:Hp}{As:List (Int×Int)}{vs:List V}(h:Zl K H As vs){i:Int}(h0:0≤i)(h1:i<As.length):∃ p A,A∈As∧xB K H p A∧L2.jt vs i=some (.ref p):=by
 obtain⟨n,rfl⟩:∃ n:Nat,i=n:=⟨i.toNat,by omega⟩
 have hn:n<As.length:=by omega
 obtain⟨p,e,f⟩:=h.at (j:=n) (A:=As[n]) (by simp[hn])
 exact⟨p,As[n],List.getElem_mem hn,f,zY e⟩
theorem Zl.rep{K:PySem.W.Frag}{H:Hp}{p:Addr}{A:Int×Int}(f:xB K H p A):∀ n:Nat,Zl K H (List.replicate n A) (List.replicate n [V.ref p]).flatten
 | 0=>rfl
 | n+1=>by
   rw[List.replicate_succ,List.replicate_succ,List.flatten_cons]
   exact⟨p,_,rfl,f,Zl.rep f n⟩
noncomputable def U0(K:PySem.W.Frag):Sp:=fun vs H Q _=>∃ h:Addr,vs=[.ref h]∧z4 H h∧∀ (p:Addr) (H':Hp) (A:Int×Int),Pw.Canon A→0<A.1→A.1≤A.2→Z9 41 A→z4 H' h→xB K H' p A→Kp h H H'→Q (.ref p) H'
structure JW(pages:Int)(ws:List Int):Prop where
 len:(ws.length:Int)=pages
 nn:∀ w∈ws,0≤w∧w<2 ^ 37
 pos:0<ws.sum
noncomputable def Uo(ws:List Int):List (Int×Int):=ws.map fun w=>Pw.mk w ws.sum
noncomputable def VI(K:PySem.W.Frag):Sp:=fun vs H Q _=>∃ (h:Addr) (pages:Int),vs=[.ref h,.int pages]∧1≤pages∧pages≤12∧z4 H h ∧
 ∀ (p:Addr) (H':Hp) (ws:List Int) (us:List V),JW pages ws→z4 H' h→H' p=some (.tup us)→Zl K H' (Uo ws) us→Kp h H H'→Q (.ref p) H'
section
variable{X:Cx}
theorem QT{K:PySem.W.Frag}(e:X.K=K)(hc:X.calm=true):ye X (.builtin "sum") (z5N K):=e ▸ uN hc
theorem za{e:Expr}{es:List Expr}{te:TE}{t:TA}(hs:starEach (e :: es) X.env=(false,eval e X.env) :: starEach es X.env)(h1:PE X e te)(h2:PA X es t):PA X (e :: es) (JN te t):=zP h1 h2 hs
theorem zK{pos:Pos}{i:Nat}{x:Str}{e:Expr}{te:TE}{pos':Pos}(hs:swapsWith e (some (.Name x pos')) pos.line X.env=pure false)(hf:X.fn x=true∨X.env.scope.names.lookup x=some .local)(hN:X.N.Nodup)(hi:X.N[i]?=some x)(hx:Loc X.env.scope x)(he:PE X e te) :
 PS X (.Assign [.Name x pos'] e pos) (z1x te (ZU i)):=ZQ hN hi hx he hs hf
end
end L2
namespace L2
open PySem PySem.Spec PyProof.Rows PySem.W
noncomputable def z6y(K:PySem.W.Frag)(neg:Bool):R2:=fun x y H Q=>∃ a b xs,x=.ref a∧y=.ref b∧((z5 K H a xs∧z5 K H b [])∨(z7 K H a xs∧z7 K H b []))∧Q (.bl (if neg then !xs.isEmpty else xs.isEmpty)) H
section
variable{X:Cx}{pins:List (Addr×Obj)}{σ:St}{H:Hp}{s:Shared}
theorem jD{A:Around}{a b:Addr}{xs:List V}(I:Inv X pins σ H s)(hu:A.units<cLine)(ha:z5 X.K H a xs)(hb:z5 X.K H b []) :
 SeqAt.RcAt A s (.ref a) (.ref b) xs.isEmpty∧SeqAt.RcNeAt A s (.ref a) (.ref b) (!xs.isEmpty):=by
 obtain⟨its,r1,p1,_⟩:=I.tuple ha
 obtain⟨its2,r2,p2,_⟩:=I.tuple hb
 cases r2
 have l3:=r1.length
 have q:=SeqAt.RcAt.tuples (A:=A) (s:=s) (e:=fun _=>true) p1 p2 hu (fun j h1 h2=>absurd h2 (Nat.not_lt_zero j))
 have q2:=SeqAt.RcNeAt.tuples (A:=A) (s:=s) (e:=fun _=>true) p1 p2 hu (fun j h1 h2=>absurd h2 (Nat.not_lt_zero j))
 have e:((List.range (min its.toArray.size ([]:List Value).toArray.size)).all (fun _=>true) && its.toArray.size == ([]:List Value).toArray.size)=xs.isEmpty:=by
  cases xs <;> cases its <;> simp at l3 ⊢
 rw[e] at q q2
 exact⟨q,q2⟩
theorem jN{A:Around}{a b:Addr}{xs:List V}(I:Inv X pins σ H s)(hu:A.units<cLine)(ha:z7 X.K H a xs)(hb:z7 X.K H b []) :
 SeqAt.RcAt A s (.ref a) (.ref b) xs.isEmpty∧SeqAt.RcNeAt A s (.ref a) (.ref b) (!xs.isEmpty):=by
 obtain⟨its,r1,p1,_⟩:=I.list ha
 obtain⟨its2,r2,p2,_⟩:=I.list hb
 cases r2
 have l3:=r1.length
 cases xs with
 | nil =>
   cases r1
   exact⟨SeqAt.RcAt.lists (A:=A) (s:=s) (e:=fun _=>true) p1.isList p2.isList rfl hu (fun j h1 h2=>absurd h2 (Nat.not_lt_zero j)),SeqAt.RcNeAt.lists (A:=A) (s:=s) (e:=fun _=>true) p1.isList p2.isList rfl hu (fun j h1 h2=>absurd h2 (Nat.not_lt_zero j))⟩
 | cons x xs =>
   have hsz:(its.toArray.size != ([]:List Value).toArray.size)=true:=by
    cases its <;> simp at l3 ⊢
   exact⟨SeqAt.RcAt.lists_lengths p1.isList p2.isList hsz hu,SeqAt.RcNeAt.lists_lengths p1.isList p2.isList hsz hu⟩
end
section
variable{X:Cx}
theorem Qp{k:Nat}(hr:yQ k X.A):xw X (compareOp .Eq) (z6y X.K false):=by
 intro pins s σ H x y v u Q I rx ry h
 obtain⟨a,b,xs,rfl,rfl,hk,q⟩:=h
 cases rx
 cases ry
 have hu:=hr.units
 rcases hk with⟨ha,hb⟩|⟨ha,hb⟩
 · exact (jD (A:=X.A) I (by omega) ha hb).1 _ _ _ _ ⟨.bl _,H,I,rfl,q⟩
 · exact (jN (A:=X.A) I (by omega) ha hb).1 _ _ _ _ ⟨.bl _,H,I,rfl,q⟩
theorem VZ{k:Nat}(hr:yQ k X.A):xw X (compareOp .NotEq) (z6y X.K true):=by
 intro pins s σ H x y v u Q I rx ry h
 obtain⟨a,b,xs,rfl,rfl,hk,q⟩:=h
 cases rx
 cases ry
 have hu:=hr.units
 rcases hk with⟨ha,hb⟩|⟨ha,hb⟩
 · exact (jD (A:=X.A) I (by omega) ha hb).2 _ _ _ _ ⟨.bl _,H,I,rfl,q⟩
 · exact (jN (A:=X.A) I (by omega) ha hb).2 _ _ _ _ ⟨.bl _,H,I,rfl,q⟩
end
noncomputable def KTy(H H':Hp):Prop:=∀ b o,H b=some o→H' b=some o∨∃ xs ys,o=.lst xs∧H' b=some (.lst ys)
theorem zu.kt{H H':Hp}(s:zu H H'):KTy H H':=fun b o h=>.inl (s b o h)
theorem KTy.kl{H H':Hp}(k:KTy H H'):KL H H':=fun b o e n=>by
 rcases k b o e with h |⟨xs,ys,rfl,h⟩
 · exact h
 · exact absurd rfl (n xs)
theorem z4.kt{H H':Hp}{p:Addr}(h:z4 H p)(h':z4 H' p)(k:Kp p H H'):KTy H H':=fun b o e=>by
 by_cases z:b=p
 · subst z
   obtain⟨x,y,e1,_⟩:=h
   obtain⟨x',y',e2,_⟩:=h'
   rw[e1] at e
   cases e
   exact .inr ⟨_,_,rfl,e2⟩
 · exact .inl (k b o e z)
theorem Yq.kt{K:PySem.W.Frag}{H H':Hp}(k:KTy H H'){v:V}{t:Value}(h:Yq K H v t):Yq K H' v t:=by
 cases h with
 | non=>exact .non
 | bl x=>exact .bl x
 | int i=>exact .int i
 | str x=>exact .str x
 | flt x=>exact .flt x
 | lst e =>
   rcases k _ _ e with h |⟨_,_,_,h⟩
   · exact .lst h
   · exact .lst h
 | frz e=>exact .frz (k.kl _ _ e fun _ z=>by cases z)
 | tup e=>exact .tup (k.kl _ _ e fun _ z=>by cases z)
 | dK e=>exact .dK (k.kl _ _ e fun _ z=>by cases z)
 | dT e=>exact .dT (k.kl _ _ e fun _ z=>by cases z)
 | ins e cl ha hn htk hm=>exact .ins (k.kl _ _ e fun _ z=>by cases z) cl ha hn htk hm
end L2
namespace HT
open PySem PyProof.Rows
section
variable{prog:Program}{w:World}{A:Around}{E:Value→Shared→Prop}{s:Shared}
theorem XI{sl:Addr}{t:Tok}{n:Nat}{Q:Int×Int×Nat→Shared→Prop}(hs:s.heap.IsSliceOf sl .none .none (.int (-1) t))
 (h:Q ((n:Int) - 1,-1,n) s):wpAny (model prog w) A (Builtin.Slice.sliceApplied (.ref sl) (pure (n:Int))) Q E s:=by
 obtain⟨os,hos,hcs,hds⟩:=id hs
 unfold Builtin.Slice.sliceApplied Builtin.Slice.sliceFields
 refine wpAny_bind (wpAny_bind (wpAny_field hos hds (x:=.none) rfl (wpAny_bind (wpAny_field hos hds (x:=.none) rfl (wpAny_bind (wpAny_field hos hds (x:=.int (-1) t) rfl (wpAny_pure ?_)))))))
 refine wpAny_bind (slicePart_int ?_)
 show wpAny _ _ (if ((-1:Int) == 0)=true then _ else _) _ _ s
 rw[if_neg (by decide)]
 refine wpAny_bind (slicePart_none (wpAny_bind (slicePart_none (wpAny_bind (wpAny_pure ?_)))))
 show wpAny _ _ (match Builtin.Slice.sliceAdjust none none (-1) (n:Int) with | (lo,hi)=>pure (lo,(-1:Int),Builtin.Slice.slicePlaces lo hi (-1))) _ _ s
 have e1:Builtin.Slice.sliceAdjust none none (-1) (n:Int)=((n:Int) - 1,-1):=rfl
 rw[e1]
 show wpAny _ _ (pure ((n:Int) - 1,(-1:Int),Builtin.Slice.slicePlaces ((n:Int) - 1) (-1) (-1))) _ _ s
 have e2:Builtin.Slice.slicePlaces ((n:Int) - 1) (-1) (-1)=n:=by
  unfold Builtin.Slice.slicePlaces
  rw[if_neg (by decide)]
  by_cases h0:n=0
  · subst h0;rfl
  · rw[if_pos (by omega)]
    have:((n:Int) - 1 - -1 - 1) / (- -1)+1=n:=by
     rw[show (- -1:Int)=1 from rfl,Int.ediv_one];omega
    rw[this];exact Int.toNat_natCast n
 rw[e2]
 exact wpAny_pure h
theorem z1I{α β:Type}(f:α→Option β)(g:α→β):∀ (l:List α),(∀ x∈l,f x=some (g x))→l.filterMap f=l.map g
 | [],_=>rfl
 | x :: l,h=>by rw[List.filterMap_cons_some (h x List.mem_cons_self),List.map_cons,z1I f g l fun y hy=>h y (List.mem_cons_of_mem _ hy)]
theorem z0P(xs:List Value):((List.range xs.toArray.size).filterMap fun (k:Nat)=>xs.toArray[(((xs.toArray.size:Nat):Int) - 1+(k:Int) * -1).toNat]?).toArray=xs.reverse.toArray:=by
 congr 1
 rw[List.size_toArray]
 refine List.ext_getElem? fun i=>?_
 by_cases hi:i<xs.length
 · have e:(List.range xs.length).filterMap (fun (k:Nat)=>xs.toArray[((xs.length:Int) - 1+(k:Int) * -1).toNat]?)=(List.range xs.length).map (fun (k:Nat)=>(xs[xs.length - 1 - k]?).getD .none):=by
    refine z1I _ _ _ fun k hk=>?_
    have hk:=List.mem_range.mp hk
    have:((xs.length:Int) - 1+(k:Int) * -1).toNat=xs.length - 1 - k:=by omega
    rw[this,List.getElem?_toArray]
    have:xs.length - 1 - k<xs.length:=by omega
    simp[this]
   rw[e,List.getElem?_map,List.getElem?_range hi,List.getElem?_reverse hi]
   have:xs.length - 1 - i<xs.length:=by omega
   simp[this]
 · rw[List.getElem?_eq_none (l:=xs.reverse) (by rw[List.length_reverse];omega)]
   refine List.getElem?_eq_none ?_
   have:=List.length_filterMap_le (fun (k:Nat)=>xs.toArray[((xs.length:Int) - 1+(k:Int) * -1).toNat]?) (List.range xs.length)
   rw[List.length_range] at this
   omega
theorem Xa{tp sl:Addr}{xs:List Value}{t:Tok}{Q:Value→Shared→Prop}(ht:IsTup s.heap tp xs.toArray)(hs:s.heap.IsSliceOf sl .none .none (.int (-1) t))
 (h:Q (.ref s.heap.objs.size) { s with heap:=s.heap.push { cls:=.type "tuple",data:=.seq xs.reverse.toArray } })
 (hsz:xs.length≤sizeLine):wpAny (model prog w) A (getItem (.ref tp) (.ref sl)) Q E s:=by
 have htake:sizeOk (.seq xs.reverse.toArray):=by
  show xs.reverse.toArray.size≤sizeLine
  rw[List.size_toArray,List.length_reverse]
  exact hsz
 obtain⟨os,hos,hcs,hds⟩:=id hs
 have hTs:s.TypeIs (.ref sl) "slice":=⟨os,hos,hcs⟩
 unfold getItem
 try with_reducible refine wpAny_holding ?_
 first | refine wpAny_bind (wpAny_pure ?_) | skip
 refine wpAny_bind (wpAny_sequenceKey ht.typeIs (by decide) ?_)
 refine wpAny_bind (wpAny_callSpecial?_slot (name:=Str.ofString "__getitem__") ht.typeIs PyProof.Rows.slot_tuple_getitem
  (wpAny_call_entry PyProof.Rows.slot_tuple_getitem ht.typeIs entry_tuple_getitem ?_ (args_tuple_getitem _ _)))
 show wpAny _ _ (Builtin.Tuple.tupleItemsOf (.ref tp) >>= _) _ _ s
 refine wpAny_bind (tupleItemsOf_ ht ?_)
 refine wpAny_bind (wpAny_typeOf hTs ?_)
 rw[if_pos (by decide)]
 refine wpAny_bind (XI hs ?_)
 show wpAny _ _ (if ((((xs.toArray.size:Nat):Int) - 1 == 0) && (-1:Int) == 1 && xs.toArray.size == xs.toArray.size)=true then _ else _) _ _ s
 rw[if_neg (by simp),z0P]
 first
  | exact wpAny_bind (m:=Builtin.Tuple.tupleExact _) (wpAny_newObj_type (wpAny_pure ⟨_,rfl,wpAny_pure h⟩) htake)
  | exact wpAny_bind (m:=Builtin.Tuple.tupleExact _) (wpAny_newObj_type (wpAny_bind (wpAny_pure (wpAny_pure ⟨_,rfl,wpAny_pure h⟩))) htake)
  | exact wpAny_bind (wpAny_bind (m:=Builtin.Tuple.tupleExact _) (wpAny_newObj_type (wpAny_pure (wpAny_pure ⟨_,rfl,wpAny_pure h⟩)) htake))
  | exact wpAny_bind (wpAny_bind (m:=Builtin.Tuple.tupleExact _) (wpAny_newObj_type (wpAny_pure ⟨_,rfl,wpAny_pure h⟩) htake))
theorem uu{t b:Addr}{ws:List Value}{Q:Value→Shared→Prop}(ht:IsTup s.heap t ([]:List Value).toArray)(hb:IsTup s.heap b ws.toArray)(h:Q (.ref b) s):wpAny (model prog w) A (binaryOp .Add (.ref t) (.ref b)) Q E s:=by
 obtain⟨⟨cls,dd,data,sl⟩,ho,hc,n,hd⟩:=id ht
 obtain⟨⟨cls2,dd2,data2,sl2⟩,ho2,hc2,n2,hd2⟩:=id hb
 simp only at hc hd hc2 hd2
 subst hc hd hc2 hd2
 exact concat_meets ⟨_,ho,rfl⟩ ⟨_,ho2,rfl⟩ noFill_tuple_add seq_tuple_add PySem.F.slot_tuple_add PySem.F.entry_tuple_add (PySem.F.args_tuple_add_2 _ _)
  (tuple_addW0 t b _ ws.toArray n n2 dd dd2 sl sl2 rfl) ⟨ho,ho2,h⟩
end
end HT
namespace L2
open PySem PySem.Spec PyProof.Rows PySem.W
section
variable{X:Cx}
noncomputable def z4a:R2:=fun x y H Q=>∃ a b xs ys,x=.ref a∧y=.ref b∧H a=some (.tup xs)∧H b=some (.tup ys)∧xs.length+ys.length≤sizeLine∧∀ (p:Addr) (H':Hp),zu H H'→H' p=some (.tup (xs ++ ys))→Q (.ref p) H'
theorem qM:xw X (binaryOp .Add) z4a:=by
 intro pins s σ H x y v u Q I rx ry h
 obtain⟨a,b,xs,ys,rfl,rfl,ha,hb,hz,q⟩:=h
 cases hx:xs with
 | nil =>
   subst hx
   cases rx
   cases ry
   obtain⟨_,its,r1,p1⟩:([]:List V).length≤sizeLine∧∃ its:List Value,Vals [] its∧Zb s.heap a its.toArray:=I.hok a _ ha
   obtain⟨_,its2,r2,p2⟩:ys.length≤sizeLine∧∃ its:List Value,Vals ys its∧Zb s.heap b its.toArray:=I.hok b _ hb
   cases r1
   exact HT.uu p1.tup p2.tup ⟨.ref b,H,I,rfl,q b H (zu.refl _) hb⟩
 | cons z zs =>
   refine z2j pins s σ H _ _ v u Q I rx ry ⟨a,b,xs,ys,rfl,rfl,z5.of ha,z5.of hb,by rw[hx];simp,hz,fun e=>?_,fun _ p hp=>q p _ (zu.new hp) zj⟩
   subst e
   exact q a H (zu.refl _) (by rw[List.append_nil];exact ha)
noncomputable def z5H(K:PySem.W.Frag):V→Option Int→Option Int→Hp→VK→Prop:=fun x lo hi H Q=>∃ a xs,x=.ref a∧z5 K H a xs ∧
 ¬ (HT.Z8 xs.length 0 lo=0∧HT.Z8 xs.length xs.length hi=xs.length)∧∀ (p:Addr) (H':Hp),zu H H'→H p=none→H' p=some (.tup (yl xs lo hi))→Q (.ref p) H'
theorem z2y:SlR X (z5H X.K):=fun pins s σ H x v vl vu lo hi sl Q I rx hs pl pu ⟨a,xs,e,h1,h2,q⟩=>z3U pins s σ H x v vl vu lo hi sl Q I rx hs pl pu ⟨a,xs,e,h1,h2,z1t q⟩
noncomputable def z4C(K:PySem.W.Frag):List V→Hp→VK→Prop:=fun xs H Q=>∃ (p:Addr) (ys:List V),xs=[.ref p]∧(z7 K H p ys∨z5 K H p ys)∧∀ (l:Addr) (H':Hp),zu H H'→H l=none→H' l=some (.lst ys)→Q (.ref l) H'
theorem yk:ye X (.type "list") (z4C X.K):=fun pins s σ H xs us Q I r ⟨p,ys,e,h1,q⟩=>Vu pins s σ H xs us Q I r ⟨p,ys,e,h1,z1t q⟩
noncomputable def z7e(te:TE):TE:=fun σ H Q=>te σ H fun x H1=>∃ a xs,x=.ref a∧H1 a=some (.tup xs)∧∀ (p:Addr) (H':Hp),zu H1 H'→H1 p=none→H' p=some (.tup xs.reverse)→Q (.ref p) H'
theorem z4e{e st:Expr}{te:TE}{pos p2:Pos}(he:PE X e te)(hst:PE X st (tC (.int (-1)))):PE X (.Subscript e (.Slice none none (some st) p2) pos) (z7e te):=by
 intro pins s σ H Q I h
 refine Subscript_ (Zt (he pins s σ H _ I h) fun v s1 ⟨x,H1,I1,r1,q1⟩=>?_)
 refine wpAny_Slice ?_
 rw[evalPart_none]
 refine wpAny_pure ?_
 refine wpAny_pure ?_
 rw[evalPart_some]
 refine Zt (hst pins s1 σ H1 (fun y H'=>y=.int (-1)∧H1=H') I1 ⟨rfl,rfl⟩) fun u s3 ⟨y,H3,I3,ry,e1,e2⟩=>?_
 subst e1 e2
 obtain⟨t,rfl⟩:=ry
 obtain⟨a,xs,rfl,ha,q⟩:=q1
 cases r1
 have I4:Inv X pins σ H1 { s3 with heap:=s3.heap.push { cls:=.type "slice",data:=.fields #[.none,.none,.int (-1) t] } }:=I3.kept (t':=s3.toks) fun b ob q=>Heap.get?_push_of_some _ q
 obtain⟨hz,its,r,p⟩:xs.length≤sizeLine∧∃ its:List Value,Vals xs its∧Zb _ a its.toArray:=I4.hok a _ ha
 have p:=p.tup
 show wpAny (model X.prog X.w) X.A (subscriptTail e (.Slice none none (some st) p2) (.ref a) (.ref s3.heap.objs.size)) (EP X pins σ Q) X.xe { s3 with heap:=s3.heap.push { cls:=.type "slice",data:=.fields #[.none,.none,.int (-1) t] } }
 refine tail_any (ops:=[.ref a,.ref s3.heap.objs.size]) p.typeIs PyProof.Rows.slot_tuple_getitem.lookup ?_ (by with_unfolding_all rfl)
 refine HT.Xa p (Heap.IsSliceOf.new ..) ?_ (by rw[← r.length];exact hz)
 refine⟨.ref _,_,I4.laid (t':=s3.toks) (o:=.tup xs.reverse) (fun b ob q=>Heap.get?_push_of_some _ q) (Nat.le_refl _) ?_,rfl,q _ _ (zu.new I4.fresh) I4.fresh zj⟩
 exact⟨by rw[List.length_reverse];exact hz,its.reverse,r.reverse,Zb.new _ _⟩
end
end L2
namespace L2
open PySem PySem.Spec PyProof.Rows
section
variable{κ:Type}[DecidableEq κ]
end
section
variable{P:Program}{w:World}{H:Hp}{h:Heap}{a:Addr}
theorem z5D{u:HO}(ok:XN P w H h)(e:Rd H a u):Zy P w H h a u:=e.ok ok
theorem z6r{kvs:List (Key×V)}(ok:XN P w H h)(e:Rd H a (.dK kvs)):kvs.length≤sizeLine∧(a == sysModules)=false∧∃ vs,KV kvs vs∧h.DictOf (xY P w) a vs :=
 show Zy P w H h a (.dK kvs) from z5D ok e
theorem z5Y{kvs:List (Key×V)}(ok:XN P w H h)(e:H a=some (.dK kvs)):kvs.length≤sizeLine∧(a == sysModules)=false∧∃ vs,KV kvs vs∧h.DictOf (xY P w) a vs:=z6r ok (.inl e)
end
section
variable{X:Cx}{pins:List (Addr×Obj)}{σ:St}{H:Hp}{s:Shared}{a:Addr}{y v:V}{u r:Value}{o:Option V}{A:Around}{E:Value→Shared→Prop}
theorem Inv.big(I:Inv X pins σ H s):sysModules<s.heap.objs.size:=by
 have h:mainGlobals<s.heap.objs.size:=(I.mod.glob.keeps I.bk).lt
 exact Nat.lt_trans (by decide) h
theorem z3e{h':Heap}{t':Nat}{ob:HO}(I:Inv X pins σ H s)(mu:Mut (H a))(hs:Heap.SameBut a s.heap h')(he:∃ q,h'.get? a=some q)(new:Zy X.prog X.w (upd H a ob) h' a ob) :
 Inv X pins σ (upd H a ob) { s with heap:=h',toks:=t' } :=
 I.write (x:=a) (e:=a) mu (.inl rfl) (fun b q hb z=>(hs.2 b hb).trans z) he new
end
section
variable{X:Cx}{pins:List (Addr×Obj)}{σ:St}{H:Hp}{s:Shared}{a:Addr}{kvs:List (Key×V)}{k:Key}{u:Value}{A:Around}{E:Value→Shared→Prop}
end
section
variable{X:Cx}{o i e value:Expr}{pos pos' tpos:Pos}{td ty tv:TE}
end
theorem z0a{P:Program}{w:World}{H:Hp}(h:Heap)(hb:sysModules<h.objs.size):Zy P w H (h.push { cls:=.type "dict",data:=.dict #[] }) h.objs.size (.dK []) :=
 ⟨Nat.zero_le _,beq_eq_false_iff_ne.mpr (Ne.symm (Nat.ne_of_lt hb)),[],.nil,Heap.DictOf.new h⟩
section
variable{X:Cx}{pos:Pos}
end
noncomputable def Uu:List (TE×TE)→St→Hp→(List (V×V)→Hp→Prop)→Prop
 | [],_,H,Q=>Q [] H
 | (tk,tv) :: r,σ,H,Q=>tk σ H fun x H1=>tv σ H1 fun y H2=>Uu r σ H2 fun ps H3=>Q ((x,y) :: ps) H3
noncomputable abbrev VV:List (V×V)→List (Value×Value)→Prop:=Paired fun p q=>RelV p.1 q.1∧RelV p.2 q.2
noncomputable def PPs(X:Cx)(pos:Pos)(keys:List (Option Expr))(values:List Expr)(trs:List (TE×TE)):Prop :=
 ∀ (pins:List (Addr×Obj)) (s:Shared) (σ:St) (H:Hp) (Q:List (V×V)→Hp→Prop),Inv X pins σ H s→Uu trs σ H Q →
   wpAny (model X.prog X.w) X.A (evalPairs (pairTrees keys values X.env pos)) (fun vs s'=>∃ ps H',Inv X pins σ H' s'∧VV ps vs∧Q ps H') X.xe s
theorem j0{X:Cx}{pos:Pos}:PPs X pos [] [] []:=fun pins s σ H Q I h=>pairTrees_nil_walk ⟨[],H,I,.nil,h⟩
theorem qV{X:Cx}{pos:Pos}{k v:Expr}{ks:List (Option Expr)}{vs:List Expr}{tk tv:TE}{trs:List (TE×TE)}(hk:PE X k tk)(hv:PE X v tv)(hr:PPs X pos ks vs trs) :
 PPs X pos (some k :: ks) (v :: vs) ((tk,tv) :: trs):=fun pins s σ H Q I h =>
 pairTrees_cons_walk (Zt (hk pins s σ H _ I h) fun u s1 ⟨x,H1,I1,rx,q1⟩=>Zt (hv pins s1 σ H1 _ I1 q1) fun w2 s2 ⟨y,H2,I2,ry,q2⟩ =>
  Zt (hr pins s2 σ H2 _ I2 q2) fun ws s3 ⟨ps,H3,I3,rel,q3⟩=>⟨(x,y) :: ps,H3,I3,.cons ⟨rx,ry⟩ rel,q3⟩)
end L2
namespace L2
open PySem PySem.Spec PyProof.Rows PySem.W
theorem qo{X:Cx}{j:Nat}{pos pos':Pos}:PE X (.UnaryOp .USub (.Constant (.int 1) j pos') pos) (tC (.int (-1))):=fun pins s σ H Q I h=>z3i z0F zg pins s σ H Q I ⟨_,rfl,h⟩
theorem z3z(K:PySem.W.Frag):PySem.W.kitOne K (.type "NoneType") (.type "tuple")=some false:=by rfl
theorem z6x(K:PySem.W.Frag):PySem.W.kitOne K (.type "bool") (.type "tuple")=some false:=by rfl
theorem jM(K:PySem.W.Frag):PySem.W.kitOne K (.type "str") (.type "tuple")=some false:=by rfl
theorem jb(K:PySem.W.Frag):PySem.W.kitOne K (.type "list") (.type "tuple")=some false:=by rfl
theorem z0x(K:PySem.W.Frag):PySem.W.kitOne K (.type "dict") (.type "tuple")=some false:=by rfl
theorem z3p(K:PySem.W.Frag):PySem.W.kitOne K (.type "NoneType") (.type "int")=some false:=by rfl
theorem z5V(K:PySem.W.Frag):PySem.W.kitOne K (.type "str") (.type "int")=some false:=by rfl
theorem z5K(K:PySem.W.Frag):PySem.W.kitOne K (.type "tuple") (.type "int")=some false:=by rfl
section
variable{K:PySem.W.Frag}{H H':Hp}{n m:Nat}{v:V}
end
end L2
namespace L2
open PySem PySem.Spec PyProof.Rows PySem.W
section
variable{X:Cx}
theorem ZW{tg iter:Expr}{body:List Stmt}{wi:TI}{g:TG}{tb:TS}{pos:Pos}(hs:∀ x:Value,foldedSetIterable iter X.env x=pure x)(h1:PassesOwn (model X.prog X.w) X.A X.env X.xe)(h2:X.calm=true)(hi:PI X tg iter wi)(hg:PG X tg g)(hb:uY X body tb) :
 PS X (.For tg iter body [] pos) (z5P wi g tb):=JV h1 h2 hi hg hb hs
end
end L2
namespace Pw
noncomputable def qs:Nat→(Nat→Rat)→Rat
 | 0,_=>0
 | n+1,f=>qs n f+f n
theorem zJ{f g:Nat→Rat}:∀ {n:Nat},(∀ i,i<n→f i=g i)→qs n f=qs n g
 | 0,_=>rfl
 | n+1,h=>by
   show qs n f+f n=qs n g+g n
   rw[zJ (n:=n) fun i hi=>h i (by omega),h n (by omega)]
theorem ZN(f g:Nat→Rat):∀ n,qs n (fun i=>f i+g i)=qs n f+qs n g
 | 0=>by show (0:Rat)=0+0;grind
 | n+1=>by
   show qs n _+(f n+g n)=(qs n f+f n)+(qs n g+g n)
   rw[ZN f g n];grind
theorem Za(c:Rat)(f:Nat→Rat):∀ n,qs n (fun i=>c * f i)=c * qs n f
 | 0=>by show (0:Rat)=c * 0;grind
 | n+1=>by
   show qs n _+c * f n=c * (qs n f+f n)
   rw[Za c f n];grind
theorem Xp:∀ n,qs n (fun _=>0)=0
 | 0=>rfl
 | n+1=>by show qs n _+0=(0:Rat);rw[Xp n];grind
theorem Xm(f:Nat→Nat→Rat)(m:Nat):∀ n,qs n (fun i=>qs m (fun j=>f i j))=qs m (fun j=>qs n (fun i=>f i j))
 | 0=>(Xp m).symm
 | n+1=>by
   show qs n _+qs m _=qs m (fun j=>qs n (fun i=>f i j)+f n j)
   rw[ZN,Xm f m n]
theorem Xw{f:Nat→Rat}:∀ {n:Nat},(∀ i,i<n→0≤f i)→0≤qs n f
 | 0,_=>by show (0:Rat)≤0;grind
 | n+1,h=>by
   have h1:=Xw (n:=n) fun i hi=>h i (by omega)
   have h2:=h n (by omega)
   show 0≤qs n f+f n
   grind
theorem YV{f g:Nat→Rat}:∀ {n:Nat},(∀ i,i<n→f i≤g i)→qs n f≤qs n g
 | 0,_=>by show (0:Rat)≤0;grind
 | n+1,h=>by
   have h1:=YV (n:=n) fun i hi=>h i (by omega)
   have h2:=h n (by omega)
   show qs n f+f n≤qs n g+g n
   grind
theorem Yj{f:Nat→Rat}{k:Nat}:∀ {n:Nat},k<n→(∀ i,i<n→i≠k→f i=0)→qs n f=f k
 | n+1,hk,h=>by
   show qs n f+f n=f k
   by_cases e:k=n
   · subst e
     rw[zJ (g:=fun _=>0) fun i hi=>h i (by omega) (by omega),Xp];grind
   · rw[Yj (n:=n) (by omega) fun i hi hn=>h i (by omega) hn,h n (by omega) (by omega)];grind
noncomputable def val(A:Int×Int):Rat:=(A.1:Rat) / (A.2:Rat)
theorem Zi{d:Int}(h:d≠0):(d:Rat)≠0:=by simpa using h
theorem div_eq{a b c d:Rat}(hb:b≠0)(hd:d≠0):a / b=c / d↔a * d=c * b:=by
 constructor
 · intro h;grind
 · intro h;grind
end Pw
namespace Pw
theorem z4c{A:Int×Int}{n d:Int}(h:Fr A n d):val A=(n:Rat) / (d:Rat):=by
 unfold val
 rw[div_eq (Zi h.pos) (Zi h.ne)]
 exact_mod_cast h.w
theorem val_inj{A B:Int×Int}(a:Canon A)(b:Canon B)(h:val A=val B):A=B:=by
 have ha:=(Fr.of a).pos
 have hb:=(Fr.of b).pos
 unfold val at h
 rw[div_eq (Zi ha) (Zi hb)] at h
 exact Xs a b (by exact_mod_cast h)
theorem val_mk{a b:Int}(h:b≠0):val (mk a b)=(a:Rat) / (b:Rat):=z4c (Fr.made h)
theorem ZF{a b:Int}(h:b≠0):Canon (mk a b):=(ZV h).1
theorem QG{A B:Int×Int}(ha:A.2≠0)(hb:B.2≠0):val (ZI A B)=val A+val B:=by
 unfold ZI
 rw[val_mk (Int.mul_ne_zero ha hb)]
 unfold val
 have h1:=Zi ha
 have h2:=Zi hb
 rw[Rat.intCast_add,Rat.intCast_mul,Rat.intCast_mul,Rat.intCast_mul]
 grind
theorem QY{A B:Int×Int}(ha:A.2≠0)(hb:B.2≠0):val (XT A B)=val A - val B:=by
 unfold XT
 rw[val_mk (Int.mul_ne_zero ha hb)]
 unfold val
 have h1:=Zi ha
 have h2:=Zi hb
 rw[Rat.intCast_sub,Rat.intCast_mul,Rat.intCast_mul,Rat.intCast_mul]
 grind
theorem yN{A B:Int×Int}(ha:A.2≠0)(hb:B.2≠0):val (Zm A B)=val A * val B:=by
 unfold Zm
 rw[val_mk (Int.mul_ne_zero ha hb)]
 unfold val
 have h1:=Zi ha
 have h2:=Zi hb
 rw[Rat.intCast_mul,Rat.intCast_mul]
 grind
theorem YO{A B:Int×Int}(ha:A.2≠0)(hb:B.2≠0):Canon (ZI A B):=ZF (Int.mul_ne_zero ha hb)
theorem ZR{A B:Int×Int}(ha:A.2≠0)(hb:B.2≠0):Canon (XT A B):=ZF (Int.mul_ne_zero ha hb)
theorem Zc{A B:Int×Int}(ha:A.2≠0)(hb:B.2≠0):Canon (Zm A B):=ZF (Int.mul_ne_zero ha hb)
theorem zE{A:Int×Int}(h:Canon A):A.2≠0:=by have:=h.1;omega
theorem z1S:Canon (0,1):=⟨by decide,by decide⟩
theorem uE:val (1,1)=1:=by unfold val;show ((1:Int):Rat) / ((1:Int):Rat)=1;rw[Rat.intCast_one];grind
noncomputable def YF(A B:Int×Int)(c m:Int):Int×Int:=ZI (Zm A B) (Zm (XT (1,1) A) (mk c m))
noncomputable def z6s(A B:Int×Int)(c m:Int):Int×Int:=ZI (Zm A B) (Zm (A.2 - A.1,A.2) (c,m))
theorem xX{A B:Int×Int}{c m:Int}(a:Canon A)(b:Canon B)(hm:m≠0):val (YF A B c m)=val A * val B+(1 - val A) * ((c:Rat) / (m:Rat)):=by
 have ha:=zE a
 have hb:=zE b
 unfold YF
 rw[QG (zE (Zc ha hb)) (zE (Zc (zE (ZR (by decide) ha)) (zE (ZF hm)))),yN ha hb,yN (zE (ZR (by decide) ha)) (zE (ZF hm)),QY (by decide) ha,uE,val_mk hm]
theorem xP{A B:Int×Int}{c m:Int}(a:Canon A)(b:Canon B)(hm:m≠0):Canon (YF A B c m):=by
 have ha:=zE a
 have hb:=zE b
 exact YO (zE (Zc ha hb)) (zE (Zc (zE (ZR (by decide) ha)) (zE (ZF hm))))
theorem z2c{A B:Int×Int}{c m:Int}(a:Canon A)(b:Canon B)(hm:m≠0):z6s A B c m=YF A B c m:=by
 have ha:=zE a
 have hb:=zE b
 unfold z6s YF
 have e:Zm (A.2 - A.1,A.2) (c,m)=Zm (XT (1,1) A) (mk c m):=by
  refine val_inj (Zc (by exact ha) (by exact hm)) (Zc (zE (ZR (by decide) ha)) (zE (ZF hm))) ?_
  rw[yN (by exact ha) (by exact hm),yN (zE (ZR (by decide) ha)) (zE (ZF hm)),QY (by decide) ha,uE,val_mk hm]
  unfold val
  have h1:=Zi ha
  have h2:=Zi hm
  dsimp only
  rw[Rat.intCast_sub]
  grind
 rw[e]
noncomputable def zG(ps:List (Int×Int))(A:Int×Int)(Bs:List (Int×Int))(page:Int):List (Int×Int) :=
 if outs ps page=[] then Bs else (List.range Bs.length).map fun t=>YF A (Bs.getD t (0,1)) ((outs ps page).count (t:Int):Nat) ((outs ps page).length:Nat)
theorem ZX(ps:List (Int×Int))(A:Int×Int)(Bs:List (Int×Int))(page:Int):(zG ps A Bs page).length=Bs.length:=by
 unfold zG
 split <;> simp
noncomputable def zW(Bs:List (Int×Int)):Prop:=∀ B∈Bs,Canon B
theorem zW.getD{Bs:List (Int×Int)}(h:zW Bs)(t:Nat):Canon (Bs.getD t (0,1)):=by
 rw[List.getD_eq_getElem?_getD]
 cases e:Bs[t]? with
 | none=>exact z1S
 | some B=>exact h B (List.mem_of_getElem? e)
theorem yz{ps:List (Int×Int)}{page:Int}(h:outs ps page≠[]):(((outs ps page).length:Nat):Int)≠0:=by
 have:=List.length_pos_iff.mpr h
 omega
theorem ZJ{ps:List (Int×Int)}{A:Int×Int}{Bs:List (Int×Int)}{page:Int}(a:Canon A)(b:zW Bs):zW (zG ps A Bs page):=by
 unfold zG
 split
 · exact b
 · rename_i h
   intro B hB
   obtain⟨t,_,rfl⟩:=List.mem_map.mp hB
   exact xP a (b.getD t) (yz h)
theorem XH{n:Nat}:∀ {l:List Int},(∀ x∈l,0≤x∧x<n)→qs n (fun t=>((l.count (t:Int):Nat):Rat))=((l.length:Nat):Rat)
 | [],_=>by
   rw[zJ (g:=fun _=>0) fun i _=>by simp,Xp];simp
 | x :: l,h=>by
   have ih:=XH (n:=n) (l:=l) fun y hy=>h y (List.mem_cons_of_mem _ hy)
   have hx:=h x List.mem_cons_self
   rw[zJ (g:=fun t=>((l.count (t:Int):Nat):Rat)+(if (t:Int)=x then 1 else 0)) fun t _=>?_,ZN,ih,Yj (k:=x.toNat) (by omega) fun i _ hi=>?_]
   · rw[if_pos (by omega)]
     simp
   · rw[if_neg (by omega)]
   · rw[List.count_cons]
     by_cases c:(t:Int)=x
     · rw[if_pos c,if_pos (by simp[c])];simp
     · rw[if_neg c,if_neg (by simpa using fun z=>c z.symm)];simp;grind
theorem yS{n t:Nat}{f:Nat→Int×Int}{d:Int×Int}(h:t<n):((List.range n).map f).getD t d=f t:=by
 rw[List.getD_eq_getElem?_getD,List.getElem?_map,List.getElem?_range h];rfl
theorem VX{pages:Int}{ps:List (Int×Int)}(ok:∀ p∈ps,0≤p.2∧p.2<pages){page x:Int}(h:x∈outs ps page):0≤x∧x<pages:=by
 unfold outs at h
 obtain⟨p,hp,rfl⟩:=List.mem_map.mp h
 exact ok p (List.mem_filter.mp hp).1
theorem Ym{n:Nat}{ps:List (Int×Int)}{A:Int×Int}{Bs:List (Int×Int)}{page:Int}(ok:∀ p∈ps,0≤p.2∧p.2<(n:Int))(a:Canon A)(b:zW Bs)(hn:Bs.length=n)(h1:qs n (fun t=>val (Bs.getD t (0,1)))=1) :
 qs n (fun t=>val ((zG ps A Bs page).getD t (0,1)))=1:=by
 unfold zG
 split
 · exact h1
 · rename_i h
   have hm:=yz h
   have hs:=XH (n:=n) (l:=outs ps page) fun x hx=>VX ok hx
   have hm':=Zi hm
   rw[zJ (g:=fun t=>val A * val (Bs.getD t (0,1))+((1 - val A) / ((((outs ps page).length:Nat):Int):Rat)) * (((outs ps page).count (t:Int):Nat):Rat)) fun t ht=>?_,ZN,Za,Za,hs,h1]
   · have e:((((outs ps page).length:Nat):Int):Rat)=(((outs ps page).length:Nat):Rat):=rfl
     rw[e] at hm' ⊢
     grind
   · rw[yS (by omega),xX a (b.getD t) hm]
     have e:((((outs ps page).count (t:Int):Nat):Int):Rat)=(((outs ps page).count (t:Int):Nat):Rat):=rfl
     rw[e]
     grind
theorem X6:∀ ws:List Int,qs ws.length (fun t=>((ws.getD t 0:Int):Rat))=((ws.sum:Int):Rat):=by
 intro ws
 have key:∀ k,k≤ws.length→qs k (fun t=>((ws.getD t 0:Int):Rat))=(((ws.take k).sum:Int):Rat):=by
  intro k
  induction k with
  | zero=>intro _;simp[qs]
  | succ k ih =>
    intro hk
    show qs k _+_=_
    have e:ws[k]?=some ws[k]:=by simp
    rw[ih (by omega),List.take_succ,List.sum_append,Rat.intCast_add,e]
    show _+((ws.getD k 0:Int):Rat)=_
    rw[List.getD_eq_getElem?_getD,e]
    simp
 have:=key ws.length (Nat.le_refl _)
 rwa [List.take_of_length_le (Nat.le_refl _)] at this
end Pw
namespace L2
theorem U6(ws:List Int):(Uo ws).length=ws.length:=by unfold Uo;simp
theorem Jw{pages:Int}{ws:List Int}(h:JW pages ws):Pw.zW (Uo ws):=by
 intro B hB
 obtain⟨x,_,rfl⟩:=List.mem_map.mp hB
 have:=h.pos
 exact Pw.ZF (by omega)
theorem z4r{pages:Int}{ws:List Int}(h:JW pages ws)(hp:pages≤12):∀ B∈Uo ws,Z9 41 B:=by
 intro B hB
 obtain⟨x,hx,rfl⟩:=List.mem_map.mp hB
 have hl:=h.len
 have hb:=h.nn x hx
 have hsum:ws.sum≤12 * 2 ^ 37:=by
  have h1:=Pw.qv (B:=2 ^ 37) fun n hn=>Int.le_of_lt (h.nn n hn).2
  have h2:(ws.length:Int) * 2 ^ 37≤12 * 2 ^ 37:=Int.mul_le_mul_of_nonneg_right (by omega) (by decide)
  omega
 have:=h.pos
 exact xq (by omega) (zR 41 (by omega)) (zR 41 (by omega))
theorem z4Y{pages:Int}{ws:List Int}(h:JW pages ws):∀ B∈Uo ws,0≤B.1:=by
 intro B hB
 obtain⟨x,hx,rfl⟩:=List.mem_map.mp hB
 exact Pw.Q2 h.pos (h.nn x hx).1
theorem z2z{pages:Int}{ws:List Int}(h:JW pages ws):Pw.qs ws.length (fun t=>Pw.val ((Uo ws).getD t (0,1)))=1:=by
 have hp:=h.pos
 have h0:ws.sum≠0:=by omega
 have h0':=Pw.Zi h0
 rw[Pw.zJ (g:=fun t=>(1 / (ws.sum:Rat)) * ((ws.getD t 0:Int):Rat)) fun t ht=>?_,Pw.Za,Pw.X6]
 · grind
 · have e:ws[t]?=some ws[t]:=by simp
   rw[List.getD_eq_getElem?_getD,List.getD_eq_getElem?_getD]
   unfold Uo
   rw[List.getElem?_map,e]
   show Pw.val (Pw.mk ws[t] ws.sum)=_
   rw[Pw.val_mk h0]
   simp only[Option.getD_some]
   grind
end L2
namespace L2
open PySem PySem.Spec PyProof.Rows
section
variable{X:Cx}{pins:List (Addr×Obj)}{σ:St}{H:Hp}{s:Shared}{h':Heap}
theorem Inv.z3a{ch:List Addr}{t':Nat}(I:Inv X pins σ H s)(k:∀ b ob,b∉ch→s.heap.get? b=some ob→h'.get? b=some ob)(fe:∀ b∈ch,Z7 X pins H b):Inv X pins σ H { s with heap:=h',toks:=t' }:=by
 have nit:∀ b u,H b=some u→b∉ch:=fun b u q z=>by rw[(fe b z).1] at q;cases q
 refine I.step (g':=s.gens) (d':=s.drawn) (ch:=ch) (fun b hb=>?_) (fun b ob _ _ hc q _=>k b ob hc q) (fun b ob _ _ hc q _=>⟨ob.slots,k b ob hc q⟩) (fun _ _ _ _ n=>n)
  (fun b ob hc q=>⟨ob,k b ob hc q⟩) (fun _ _ q=>q) (fun _ _ _ q=>q) (fun b ps q=>⟨#[],by rw[q];simp⟩) (fun m hm=>?_) (fun b u q=>?_) I.bare
 · have z:=fe b hb
   exact⟨z.2.2.2.1,z.2.1,z.2.2.2.2.1,z.2.2.2.2.2⟩
 · obtain⟨ob,es,ep,ho,r⟩:=hm
   exact⟨ob,es,ep,k _ ob (fun z=>(fe _ z).2.1 rfl) ho,r⟩
 · refine (I.hok b u q).stay (fun c v hc z=>k c v ?_ z) (fun _ z=>z) fun _ _ z=>z
   rcases hc with z | z
   · rw[z];exact nit b u q
   · exact nit c _ z
theorem Inv.Ua{ch:List Addr}{T:Addr}{o:HO}{t':Nat}(I:Inv X pins σ H s)(k:∀ b ob,b∉ch→s.heap.get? b=some ob→h'.get? b=some ob)(fe:∀ b∈ch,Z7 X pins H b)
 (hT:s.heap.objs.size≤T) (new:Zy X.prog X.w (upd H T o) h' T o):Inv X pins σ (upd H T o) { s with heap:=h',toks:=t' }:=by
 have hn:H T=none:=I.hok.fresh hT
 have neT:∀ b ob,s.heap.get? b=some ob→b≠T:=fun b ob q=>Nat.ne_of_lt (Nat.lt_of_lt_of_le (Heap.lt_size q) hT)
 have nit:∀ b u,H b=some u→b∉ch:=fun b u q z=>by rw[(fe b z).1] at q;cases q
 refine I.step (g':=s.gens) (d':=s.drawn) (ch:=ch) (fun b hb=>?_) (fun b ob _ _ hc q _=>k b ob hc q) (fun b ob _ _ hc q _=>⟨ob.slots,k b ob hc q⟩)
  (fun b ob _ q n=>by rw[zp (neT b ob q)];exact n) (fun b ob hc q=>⟨ob,k b ob hc q⟩)
  (fun b xs q=>by rw[zp (zh q hn)];exact q) (fun b ob u q=>by rw[zp (zh q hn)];exact q) (fun b ps q=>⟨#[],by rw[zp (zh q hn),q];simp⟩) (fun m hm=>?_) (fun b u q=>?_) I.bare
 · have z:=fe b hb
   exact⟨z.2.2.2.1,z.2.1,z.2.2.2.2.1,z.2.2.2.2.2⟩
 · obtain⟨ob,es,ep,ho,r⟩:=hm
   exact⟨ob,es,ep,k _ ob (fun z=>(fe _ z).2.1 rfl) ho,r⟩
 · by_cases hb:b=T
   · subst hb;rw[zj] at q;cases q;exact new
   · rw[zp hb] at q
     refine (I.hok b u q).stay (fun c v hc z=>?_) (fun c z=>by rw[zp (zh z hn)];exact z) fun c xs z=>by rw[zp (zh z hn)];exact z
     rcases hc with e1 | e1
     · subst e1;exact k _ v (nit _ u q) z
     · exact k c v (nit c _ e1) z
end
noncomputable def z0J(prog:Program)(w:World)(A:Around)(I:Addr)(wr:List Addr)(n:Nat)(Pt:Nat→Array Value→Prop)(St:Nat→Heap→Prop)(Mid:Nat→Addr→Heap→Prop):Prop :=
 ∀ (i:Nat) (s:Shared) (Q:Option Value→Shared→Prop) (E:Value→Shared→Prop),i<n→St i s.heap →
   (∀ (T:Addr) (x y:Value) (h':Heap) (tk:Nat),Pt i #[x,y]→s.heap.objs.size≤T→h'.get? T=some { cls:=.type "tuple",data:=.seq #[x,y] }→Mid i T h'→(∀ b o,b∉wr→s.heap.get? b=some o→h'.get? b=some o)→Q (some (.ref T)) { s with heap:=h',toks:=tk }) →
   wpAny (model prog w) A (pyNext (.ref I)) Q E s
theorem UZ{prog:Program}{w:World}{A:Around}{it:Addr}{fp:List Addr}{n:Nat}{Pp:Nat→Value→Prop}{St:Nat→Heap→Prop}(D:Draws prog w A.in1 it fp n Pp St)(e:Addr)(hei:e≠it)(hef:e∉fp) :
 z0J prog w A e [e,it] n (fun i vals=>∃ t x,Pp i x∧vals=#[.int i t,x]) (fun i h=>(∃ old,IsEnum h e it i old)∧St i h) (fun i T h=>(∃ x,IsEnumOut h e it ((i:Int)+1) x T)∧St (i+1) h∧T≠e∧T≠it):=fun i s Q E hi hst q=>by
 obtain⟨⟨old,he⟩,hs⟩:=hst
 refine wpAny_pyNext_enum_itemD D he hs hi hei hef fun x hp tk hP ho hs' hT hsz hk=>?_
 have l1:e<s.heap.objs.size:=Heap.lt_size he
 have l2:it<s.heap.objs.size:=by obtain⟨_,y⟩:=D.live _ _ hs;exact Heap.lt_size y
 exact q _ _ _ hp (tk+1) ⟨_,_,hP,rfl⟩ (Nat.le_refl _) hT ⟨⟨_,ho⟩,hs',Nat.ne_of_gt l1,Nat.ne_of_gt l2⟩ fun b o hb y=>hk b o (fun z=>hb (by simp[z])) (fun z=>hb (by simp[z])) y
theorem Jp{prog:Program}{w:World}{A:Around}(z TI TO i1 i2 l1 l2:Addr)(D:ZipApart z TI TO i1 i2 l1 l2)(xs ys:Array Value) :
 z0J prog w A z [z,TO,i1,i2] (min xs.size ys.size) (fun i vals=>∃ x y,xs[i]?=some x∧ys[i]?=some y∧vals=#[x,y])
  (fun i h=>IsZip h z TI TO .none∧IsPair h TI (.ref i1) (.ref i2)∧(∃ a b,IsPair h TO a b)∧h.IsListIter i1 l1 i∧h.IsListIter i2 l2 i∧h.IsList l1 xs∧h.IsList l2 ys)
  (fun i T h=>IsZip h z TI TO (rawInt T)∧IsPair h TI (.ref i1) (.ref i2)∧(∃ a b,IsPair h TO a b)∧h.IsListIter i1 l1 (i+1)∧h.IsListIter i2 l2 (i+1)∧h.IsList l1 xs∧h.IsList l2 ys ∧
   T≠z∧T≠TO∧T≠i1∧T≠i2):=fun i s Q E hi hst q=>by
 obtain⟨g1,g2,⟨a,b,g3⟩,g4,g5,g6,g7⟩:=hst
 have e1:i<xs.size:=Nat.lt_of_lt_of_le hi (Nat.min_le_left ..)
 have e2:i<ys.size:=Nat.lt_of_lt_of_le hi (Nat.min_le_right ..)
 refine wpAny_pyNext_zip_item D g1 g2 g3 g4 g5 g6 g7 (Array.getElem?_eq_getElem e1) (Array.getElem?_eq_getElem e2) fun hp a1 a2 a3 a4 a5 a6 hk=>?_
 have gt:∀ {c:Addr}{o:Obj},s.heap.get? c=some o→s.heap.objs.size≠c:=fun e=>Nat.ne_of_gt (Heap.lt_size e)
 exact q _ _ _ hp s.toks ⟨_,_,Array.getElem?_eq_getElem e1,Array.getElem?_eq_getElem e2,rfl⟩ (Nat.le_refl _) a5
  ⟨a1,hk _ _ D.TIz D.TITO D.TIi1 D.TIi2 g2,⟨_,_,a2⟩,a3,a4,g6.at fun o e=>hk _ o D.l1z D.l1TO D.l1i1 D.l1i2 e,g7.at fun o e=>hk _ o D.l2z D.l2TO D.l2i1 D.l2i2 e,gt g1,gt g3,(by obtain⟨_,e,_⟩:=g4;exact gt e),(by obtain⟨_,e,_⟩:=g5;exact gt e)⟩
  fun c o hc e=>hk c o (fun y=>hc (by simp[y])) (fun y=>hc (by simp[y])) (fun y=>hc (by simp[y])) (fun y=>hc (by simp[y])) e
noncomputable def ItP(go:Nat→Hp→Prop)(pr:Nat→Hp→V→V→Prop)(stop:Nat→Hp→Prop):It:=⟨go,fun i H x H'=>∃ T u v,x=.ref T∧H T=none∧H'=upd H T (.tup [u,v])∧pr i H u v,stop⟩
section
variable{P:Program}{w:World}{K:PySem.W.Frag}
theorem qD{elts:List Expr}{ek:Nat}{epos:Pos}{go:Nat→Hp→Prop}{pr:Nat→Hp→V→V→Prop}{stop:Nat→Hp→Prop}{I:Addr}{fp wr:List Addr}{tn:Nat→Heap→Prop}
 (hI:I∈fp) (hw:∀ b∈wr,b∈fp) (obj:∀ i h,tn i h→∀ b∈fp,∃ o,h.get? b=some o∧∀ v,o.data≠.cell v)
 (keep:∀ i h h',tn i h→(∀ b∈fp,∀ o,h.get? b=some o→h'.get? b=some o)→tn i h')
 (self:∀ (A:Around) (i:Nat) (s:Shared) (Q:Value→Shared→Prop) (E:Value→Shared→Prop),tn i s.heap→Q (.ref I) s→wpAny (model P w) A (pyIter (.ref I)) Q E s)
 (it:∀ (X:Cx),X.prog=P→X.w=w→X.K=K→X.calm=true→∀ (i:Nat) (pins:List (Addr×Obj)) (s:Shared) (σ:St) (H:Hp),Inv X pins σ H s→(∀ b∈fp,Z7 X pins H b)→tn i s.heap→go i H →
  ∃ fp' n Pt St Mid,(WalksT P w X.A I fp' wr n Pt St Mid∧z0J P w X.A I wr n Pt St Mid)∧i<n∧St i s.heap∧(∀ h',St (i+1) h'→tn (i+1) h')∧∀ vals,Pt i vals→∃ u v x y,vals=#[x,y]∧RelV u x∧RelV v y∧pr i H u v)
 (dn:∀ (X:Cx),X.prog=P→X.w=w→X.K=K→X.calm=true→∀ (i:Nat) (pins:List (Addr×Obj)) (s:Shared) (σ:St) (H:Hp),Inv X pins σ H s→(∀ b∈fp,Z7 X pins H b)→tn i s.heap→stop i H →
  ∃ fp' n Pt St Mid,WalksT P w X.A I fp' wr n Pt St Mid∧St n s.heap) :
 Turn P w K (.Tuple elts ek epos) (ItP go pr stop) fp I tn where
 mem:=hI
 obj:=obj
 keep:=keep
 self:=self
 item:=by
  intro X hP hw' hK hc i pins s σ H E I0 hf st hg
  obtain⟨fp',n,Pt,St,Mid,⟨W,WN⟩,hi,hst,hnx,hpt⟩:=it X hP hw' hK hc i pins s σ H I0 hf st hg
  subst hP hw' hK
  refine WN i s _ _ hi hst fun T x0 y0 h1 tk hv hT hIT hmid hk1=>⟨.ref T,rfl,?_⟩
  refine W.go elts ek epos i T _ _ _ hmid fun h2 hs2 hk2=>?_
  obtain⟨u,v,x,y,exy,ru,rv,hpr⟩:=hpt _ hv
  cases exy
  have fe:∀ b∈wr,Z7 X pins H b:=fun b hb=>hf b (hw b hb)
  have hTw:T∉wr:=W.apart i T _ hmid
  have hn:H T=none:=I0.hok.fresh hT
  have I2:Inv X pins σ (upd H T (.tup [u,v])) { s with heap:=h2,toks:=tk } :=
   I0.Ua (ch:=wr) (fun b ob hb q=>hk2 b ob hb (hk1 b ob hb q)) fe hT ⟨by show 2≤sizeLine;decide,[x0,y0],.cons ru (.cons rv .nil),⟨_,hk2 T _ hTw hIT,rfl,_,rfl⟩⟩
  refine⟨.ref T,_,I2,rfl,⟨T,u,v,rfl,hn,rfl,hpr⟩,hnx _ hs2,fun b hb=>?_⟩
  obtain⟨ob,eb,_⟩:=obj i _ st b hb
  rw[zp (Nat.ne_of_lt (Nat.lt_of_lt_of_le (Heap.lt_size eb) hT))]
  exact (hf b hb).1
 done:=by
  intro X hP hw' hK hc i pins s σ H E I0 hf st hg
  obtain⟨fp',n,Pt,St,Mid,W,hst⟩:=dn X hP hw' hK hc i pins s σ H I0 hf st hg
  subst hP hw' hK
  exact W.done s _ _ hst fun h1 tk hk=>⟨rfl,I0.z3a hk fun b hb=>hf b (hw b hb)⟩
end
section
variable{prog:Program}{w:World}{A:Around}
theorem UD{j t:Addr}{i:Nat}{its:Array Value}{y:Value}{s:Shared}{E Q:Value→Shared→Prop}(hj:s.heap.IsTupleIter j t i)(hs:s.heap.IsTuple t its)(hy:its[i]?=some y)(q:∀ hp,hp.IsTupleIter j t (i+1)→Heap.SameBut j s.heap hp→Q y { s with heap:=hp }):wpAny (model prog w) A (Builtin.SmallTypes.nextOf (.ref j)) Q E s:=by
 obtain⟨oj,gj,cj,dj⟩:=id hj
 obtain⟨ot,gt,ct,nt,dt⟩:=hs
 unfold Builtin.SmallTypes.nextOf;refine wpAny_bind (wpAny_callSpecial?_slot (name:=Str.ofString "__next__") hj.typeIs slot_tupleiter_next (wpAny_call_entry slot_tupleiter_next hj.typeIs entry_tupleiter_next ?_ (args_tupleiter_next _)))
 show wpAny _ _ (field (.ref j) 0 >>= _) _ _ s;refine wpAny_bind (wpAny_field gj dj (x:=.ref t) rfl ?_)
 show wpAny _ _ (if (Value.ref t == Value.none)=true then _ else _) _ _ s;rw[if_neg (show ¬ ((Value.ref t == Value.none)=true) from Bool.false_ne_true)]
 show wpAny _ _ (field (.ref j) 1 >>= _) _ _ s;refine wpAny_bind (wpAny_field gj dj (x:=.int i 0) rfl ?_)
 show wpAny _ _ (seqItems? (.ref t) >>= _) _ _ s;refine wpAny_bind (wpAny_seqItems gt dt ?_)
 simp only[Int.toNat_natCast,hy];refine wpAny_bind (wpAny_setField gj dj (by simp) (wpAny_pure ⟨y,rfl,wpAny_pure (q _ ?_ (Heap.SameBut.update ..))⟩))
 exact⟨_,Heap.get?_update_self _ gj (Obj.isFreed_of_fields (Obj.data_mapFields dj _)),(Obj.cls_mapFields ..).trans cj,by rw[Obj.data_mapFields dj];simp[rawInt]⟩
theorem U5{j t:Addr}{i:Nat}{its:Array Value}{s:Shared}{E Q:Value→Shared→Prop}(hh:A.handled=none)(hj:s.heap.IsTupleIter j t i)(hs:s.heap.IsTuple t its)(hy:its[i]?=none)(q:∀ hp e,Heap.ExtBut j s.heap hp→(∃ o,hp.get? e=some o∧o.cls=.type "StopIteration")→E (.ref e) { s with heap:=hp }):wpAny (model prog w) A (Builtin.SmallTypes.nextOf (.ref j)) Q E s:=by
 obtain⟨oj,gj,cj,dj⟩:=id hj
 obtain⟨ot,gt,ct,nt,dt⟩:=hs
 unfold Builtin.SmallTypes.nextOf;refine wpAny_bind (wpAny_callSpecial?_slot (name:=Str.ofString "__next__") hj.typeIs slot_tupleiter_next (wpAny_call_entry slot_tupleiter_next hj.typeIs entry_tupleiter_next ?_ (args_tupleiter_next _)))
 show wpAny _ _ (field (.ref j) 0 >>= _) _ _ s;refine wpAny_bind (wpAny_field gj dj (x:=.ref t) rfl ?_)
 show wpAny _ _ (if (Value.ref t == Value.none)=true then _ else _) _ _ s;rw[if_neg (show ¬ ((Value.ref t == Value.none)=true) from Bool.false_ne_true)]
 show wpAny _ _ (field (.ref j) 1 >>= _) _ _ s;refine wpAny_bind (wpAny_field gj dj (x:=.int i 0) rfl ?_)
 show wpAny _ _ (seqItems? (.ref t) >>= _) _ _ s;refine wpAny_bind (wpAny_seqItems gt dt ?_)
 simp only[Int.toNat_natCast,hy];refine wpAny_bind (wpAny_rule (wpAny_bind (wpAny_setField gj dj (by simp) ?_)))
 show wpAny _ _ (newExc (.type "StopIteration") [] >>= _) _ _ _;refine wpAny_bind ?_;simp only[newExc,newTuple]
 refine wpAny_bind (wpAny_newObj_type ?_ (by size_fits));refine wpAny_bind (m:=firstArgMember _ _) (wpAny_of_eq (a:=Value.none) (by first | rfl | (simp only[firstArgMember];rfl)) ?_)
 refine wpAny_newObj_type ?_ (by size_fits);simp only[raiseNew];refine wpAny_bind (wpAny_handled ?_)
 first | rw[show A.in1.handled=none from hh] | rw[hh]
 refine wpAny_bind (wpAny_pure (wpAny_throw ?_));exact q _ _ (((Heap.SameBut.update ..).extBut.push _).push _) ⟨_,Heap.get?_push_size _ rfl,rfl⟩
theorem UU(hh:A.handled=none)(it l:Addr)(hne:l≠it)(its:Array Value) :
 Draws prog w A it [it,l] its.size (fun i v=>its[i]?=some v) (fun i h=>h.IsTupleIter it l i∧h.IsTuple l its) where
 live:=fun _ _ st=>by
  obtain⟨o,ho,_⟩:=st.1
  exact⟨o,ho⟩
 frame:=fun _ _ _ st hk=>by
  obtain⟨o,ho,r⟩:=st.2
  exact⟨st.1.at fun o e=>hk it (by simp) o e,o,hk l (by simp) o ho,r⟩
 item:=fun i s Q E hi st hQ=>by
  obtain⟨s1,o,ho,r⟩:=st
  exact UD s1 ⟨o,ho,r⟩ (y:=its[i]) (by simp[hi]) fun hp a b=>hQ _ hp s.toks (by simp[hi]) ⟨a,o,b.extBut l o hne ho,r⟩ b
 done:=fun s Q E st hE=>U5 hh st.1 st.2 (by simp) hE
theorem Jf(l:Addr)(items:Array Value)(n:Nat)(dct:Option Addr)(sl:Array (Option Value)) :
 Meets (Builtin.«enumerate.__new__» ⟨[.type "enumerate",.ref l],[]⟩) (fun _ R s=>s.heap.get? l=some { cls:=.type "tuple",dict:=dct,data:=.seq items n,slots:=sl } ∧
  R (.ok (.ret (.ref (s.heap.push { cls:=.type "tuple_iterator",data:=.fields #[.ref l,.int 0 0] }).objs.size)))
    { s with heap:=(s.heap.push { cls:=.type "tuple_iterator",data:=.fields #[.ref l,.int 0 0] }).push { cls:=.type "enumerate",data:=.fields #[.none,.bool false,.ref s.heap.objs.size,rawInt 0,.none,.none] } }) :=
 .of_wp fun prog w A R s h=>by
  obtain⟨hp,g,d,tk,os⟩:=s;obtain⟨hl,h⟩:=h;have hsub:=sub_enumerate
  have hT:Heap.IsTuple (Shared.heap ⟨hp,g,d,tk,os⟩) l items:=⟨_,hl,rfl,n,rfl⟩
  wp_walk using AutoSeq1.wpAny_loadPart' hl
  refine wpAny_stack_any fun st=>wpAny_pure ?_
  split
  · rename_i c _ _ _ _ _
    cases (c == Value.type "enumerate") <;> (wp_walk using AutoSeq1.wpAny_loadPart' hl,wpAny_pyIter_tuple hT;exact⟨_,rfl,h⟩)
  · wp_walk using AutoSeq1.wpAny_loadPart' hl,wpAny_pyIter_tuple hT;exact⟨_,rfl,h⟩
theorem Ur{l:Addr}{its:Array Value}{s:Shared}{E Q:Value→Shared→Prop}(hL:s.heap.IsTuple l its)
 (q:∀ hp,IsEnum hp (s.heap.objs.size+1) s.heap.objs.size 0 .none→hp.IsTupleIter s.heap.objs.size l 0→(∀ b o,s.heap.get? b=some o→hp.get? b=some o)→Q (.ref (s.heap.objs.size+1)) { s with heap:=hp }) :
 wpAny (model prog w) A (call (.type "enumerate") [.ref l]) Q E s:=by
 obtain⟨⟨c,dct,dt,sl⟩,hl,hc,n,hd⟩:=hL
 have hc:c=.type "tuple":=hc
 have hd:dt=.seq its n:=hd
 subst hc hd
 refine callType_new F.called_enumerate (by decide) (F.typeCall_enumerate_1 _) (F.newCall_enumerate_1 _) (fun ob=>F.args_object_init_2 ob _) F.entry_enumerate_new (Jf l its n dct sl) ⟨hl,?_⟩
 have z:(s.heap.push { cls:=.type "tuple_iterator",data:=.fields #[.ref l,.int 0 0] }).objs.size=s.heap.objs.size+1:=Heap.size_push ..
 show _∧_
 rw[z]
 have g:IsEnum ((s.heap.push { cls:=.type "tuple_iterator",data:=.fields #[.ref l,.int 0 0] }).push { cls:=.type "enumerate",data:=.fields #[.none,.bool false,.ref s.heap.objs.size,rawInt 0,.none,.none] }) (s.heap.objs.size+1) s.heap.objs.size 0 .none:=by
  have:=Heap.get?_push_size (s.heap.push { cls:=.type "tuple_iterator",data:=.fields #[.ref l,.int 0 0] }) (o:={ cls:=.type "enumerate",data:=.fields #[.none,.bool false,.ref s.heap.objs.size,rawInt 0,.none,.none] }) rfl
  rw[z] at this;exact this
 exact⟨⟨_,g,rfl⟩,q _ g ⟨_,Heap.get?_push_of_some _ (Heap.get?_push_size _ rfl),rfl,rfl⟩ fun b o x=>Heap.get?_push_of_some _ (Heap.get?_push_of_some _ x)⟩
end
noncomputable def z3Q(K:PySem.W.Frag)(a:Addr):It:=ItP (fun i H=>∃ xs x,z5 K H a xs∧xs[i]?=some x) (fun i H u v=>u=.int i∧∀ xs,z5 K H a xs→xs[i]?=some v) (fun i H=>∃ xs,z5 K H a xs∧xs.length=i)
noncomputable def ItZ(K:PySem.W.Frag)(a b:Addr):It:=ItP (fun i H=>∃ xs ys x y,z7 K H a xs∧z7 K H b ys∧xs[i]?=some x∧ys[i]?=some y) (fun i H u v=>(∀ xs,z7 K H a xs→xs[i]?=some u)∧∀ ys,z7 K H b ys→ys[i]?=some v) (fun i H=>∃ xs ys,z7 K H a xs∧z7 K H b ys∧xs.length=i∧ys.length=i)
section
variable{P:Program}{w:World}{K:PySem.W.Frag}{elts:List Expr}{ek:Nat}{epos:Pos}
theorem Ue{a e it:Addr}(hei:e≠it)(hae:a≠e)(hai:a≠it):Turn P w K (.Tuple elts ek epos) (z3Q K a) [e,it] e (fun i h=>(∃ old,IsEnum h e it i old)∧h.IsTupleIter it a i):=by
 have hef:e∉[it,a]:=fun z=>by
  rcases List.mem_cons.mp z with z | z
  · exact hei z
  · exact hae (List.mem_singleton.mp z).symm
 refine qD (wr:=[e,it]) (by simp) (fun b hb=>hb) (fun i h st b hb=>?_) (fun i h h' st k=>?_) (fun A i s Q E st q=>?_) ?_ ?_
 · obtain⟨⟨old,g⟩,o,ho,oc,od⟩:=st
   rcases List.mem_cons.mp hb with z | z
   · subst z;exact⟨_,g,fun v z=>by cases z⟩
   · have z:=List.mem_singleton.mp z
     subst z;exact⟨o,ho,fun v z=>by rw[od] at z;cases z⟩
 · obtain⟨⟨old,g⟩,g2⟩:=st
   exact⟨⟨old,k e (by simp) _ g⟩,g2.at fun o z=>k it (by simp) o z⟩
 · obtain⟨⟨old,g⟩,g2⟩:=st
   exact wpAny_pyIter_enum g q
 · intro X hP hw' hK hc i pins s σ H I0 hf st hg
   obtain⟨xs,x,hq,hx⟩:=hg
   rw[← hK] at hq
   obtain⟨its,rv,p,hz⟩:=I0.tuple hq
   obtain⟨u,hu,ru⟩:=rv.get hx
   have hl:=rv.length
   have hix:i<xs.length:=(List.getElem?_eq_some_iff.mp hx).1
   refine⟨_,_,_,_,_,⟨WalksT.enumerateD (UU (prog:=P) (w:=w) (A:=X.A.in1) (I0.ok.hd hc) it a hai its.toArray) e hei hef (by simp),UZ (UU (prog:=P) (w:=w) (A:=X.A.in1) (I0.ok.hd hc) it a hai its.toArray) e hei hef⟩,by rw[List.size_toArray];omega,⟨st.1,st.2,p⟩,fun h' z=>⟨z.1,z.2.1⟩,?_⟩
   rintro vals ⟨t,y,hy,rfl⟩
   refine⟨.int i,x,_,y,rfl,⟨t,rfl⟩,?_,rfl,fun ys hys=>?_⟩
   · have:its[i]?=some y:=by simpa using hy
     rw[hu] at this
     cases this
     exact ru
   · have hys':z5 X.K H a ys:=by rw[hK];exact hys
     rw[I0.XD hys' hq];exact hx
 · intro X hP hw' hK hc i pins s σ H I0 hf st hg
   obtain⟨xs,hq,hx⟩:=hg
   rw[← hK] at hq
   obtain⟨its,rv,p,hz⟩:=I0.tuple hq
   have hl:=rv.length
   have e1:its.toArray.size=i:=by rw[List.size_toArray];omega
   refine⟨_,_,_,_,_,WalksT.enumerateD (UU (prog:=P) (w:=w) (A:=X.A.in1) (I0.ok.hd hc) it a hai its.toArray) e hei hef (by simp),?_⟩
   rw[e1]
   exact⟨st.1,st.2,p⟩
theorem z0I{z TI TO i1 i2 l1 l2:Addr}(D:ZipApart z TI TO i1 i2 l1 l2):Turn P w K (.Tuple elts ek epos) (ItZ K l1 l2) [z,TI,TO,i1,i2] z (fun i h=>IsZip h z TI TO .none∧IsPair h TI (.ref i1) (.ref i2)∧(∃ a b,IsPair h TO a b)∧h.IsListIter i1 l1 i∧h.IsListIter i2 l2 i):=by
 refine qD (wr:=[z,TO,i1,i2]) (by simp) (fun b hb=>?_) (fun i h st b hb=>?_) (fun i h h' st k=>?_) (fun A i s Q E st q=>?_) ?_ ?_
 · simp at hb ⊢
   rcases hb with rfl | rfl | rfl | rfl <;> simp
 · obtain⟨g1,g2,⟨x,y,g3⟩,⟨o1,h1,c1,d1⟩,⟨o2,h2,c2,d2⟩⟩:=st
   simp at hb
   rcases hb with rfl | rfl | rfl | rfl | rfl
   · exact⟨_,g1,fun v z=>by cases z⟩
   · exact⟨_,g2,fun v z=>by cases z⟩
   · exact⟨_,g3,fun v z=>by cases z⟩
   · exact⟨_,h1,fun v z=>by rw[d1] at z;cases z⟩
   · exact⟨_,h2,fun v z=>by rw[d2] at z;cases z⟩
 · obtain⟨g1,g2,⟨x,y,g3⟩,g4,g5⟩:=st
   exact⟨k z (by simp) _ g1,k TI (by simp) _ g2,⟨x,y,k TO (by simp) _ g3⟩,g4.at fun o e=>k i1 (by simp) o e,g5.at fun o e=>k i2 (by simp) o e⟩
 · exact wpAny_pyIter_zip st.1 q
 · intro X hP hw' hK hc i pins s σ H I0 hf st hg
   obtain⟨xs,ys,x,y,hq,hq',hx,hy⟩:=hg
   rw[← hK] at hq hq'
   obtain⟨its,rv,p,hz⟩:=I0.list hq
   obtain⟨its',rv',p',hz'⟩:=I0.list hq'
   obtain⟨u,hu,ru⟩:=rv.get hx
   obtain⟨u',hu',ru'⟩:=rv'.get hy
   have hl:=rv.length
   have hl':=rv'.length
   have hix:i<xs.length:=(List.getElem?_eq_some_iff.mp hx).1
   have hiy:i<ys.length:=(List.getElem?_eq_some_iff.mp hy).1
   obtain⟨g1,g2,g3,g4,g5⟩:=st
   refine⟨_,_,_,_,_,⟨WalksT.zip2 (prog:=P) (w:=w) (A:=X.A) (I0.ok.hd hc) z TI TO i1 i2 l1 l2 D its.toArray its'.toArray,Jp z TI TO i1 i2 l1 l2 D its.toArray its'.toArray⟩,by rw[List.size_toArray,List.size_toArray];omega,⟨g1,g2,g3,g4,g5,p.isList,p'.isList⟩,fun h' q=>⟨q.1,q.2.1,q.2.2.1,q.2.2.2.1,q.2.2.2.2.1⟩,?_⟩
   rintro vals ⟨v,v',hv,hv',rfl⟩
   have e1:its[i]?=some v:=by simpa using hv
   have e2:its'[i]?=some v':=by simpa using hv'
   rw[hu] at e1
   rw[hu'] at e2
   cases e1
   cases e2
   exact⟨x,y,_,_,rfl,ru,ru',fun ys hys=>by
    have hys':z7 X.K H l1 ys:=by rw[hK];exact hys
    rw[I0.Xd hys' hq];exact hx,fun ys hys=>by
    have hys':z7 X.K H l2 ys:=by rw[hK];exact hys
    rw[I0.Xd hys' hq'];exact hy⟩
 · intro X hP hw' hK hc i pins s σ H I0 hf st hg
   obtain⟨xs,ys,hq,hq',hx,hy⟩:=hg
   rw[← hK] at hq hq'
   obtain⟨its,rv,p,hz⟩:=I0.list hq
   obtain⟨its',rv',p',hz'⟩:=I0.list hq'
   have hl:=rv.length
   have hl':=rv'.length
   obtain⟨g1,g2,g3,g4,g5⟩:=st
   have e1:min its.toArray.size its'.toArray.size=i:=by rw[List.size_toArray,List.size_toArray];omega
   refine⟨_,_,_,_,_,WalksT.zip2 (prog:=P) (w:=w) (A:=X.A) (I0.ok.hd hc) z TI TO i1 i2 l1 l2 D its.toArray its'.toArray,?_⟩
   rw[e1]
   exact⟨g1,g2,g3,g4,g5,p.isList,p'.isList⟩
end
section
variable{X:Cx}{elts:List Expr}{ek:Nat}{epos:Pos}
noncomputable def z5Q(K:PySem.W.Frag)(ta:TA):TI:=fun σ H R=>ta σ H fun vs H1=>∃ a xs,vs=[.ref a]∧z5 K H1 a xs∧R (z3Q K a) H1
noncomputable def z6o(K:PySem.W.Frag)(ta:TA):TI:=fun σ H R=>ta σ H fun vs H1=>∃ a b xs ys,vs=[.ref a,.ref b]∧z7 K H1 a xs∧z7 K H1 b ys∧R (ItZ K a b) H1
theorem z4F{a:Expr}{ta:TA}{p pos:Pos}(hg:Gl X "enumerate")(hm:X.mg "enumerate"=none)(ha:PA X [a] ta)(hs:starEach [a] X.env=[(false,eval a X.env)]:=by rfl):PI X (.Tuple elts ek epos) (.Call (.Name "enumerate" p) [a] [] pos) (z5Q X.K ta):=by
 intro pins s σ H R I h
 refine Call_ (Yh I hg hm boot_enumerate (PyProof.Rows.callWith_type1 (Zt (ha pos pins s σ H _ I h) fun us s1 ⟨vs,H1,I1,r1,q1⟩=>?_) hs rfl))
 obtain⟨l,xs,rfl,hl,q⟩:=q1
 obtain⟨u,rfl,ru⟩:=vals1 r1
 cases ru
 obtain⟨its,rv,pl,hz⟩:=id (I1.tuple hl)
 have pl':s1.heap.IsTuple l its.toArray:=pl
 have hll:l<s1.heap.objs.size:=by obtain⟨o,z,_⟩:=pl';exact Heap.lt_size z
 refine Ur pl' fun hp he hit hk=>?_
 have I2:Inv X pins σ H1 { s1 with heap:=hp }:=I1.kept (t':=s1.toks) hk
 have nx:∀ b,s1.heap.objs.size≤b→Z7 X pins H1 b:=fun b hb=>I1.V2 hb (I1.hok.fresh hb)
 refine wpAny_pyIter_enum he ⟨_,[s1.heap.objs.size+1,s1.heap.objs.size],_,_,H1,rfl,I2,Ue (Nat.succ_ne_self _) (Nat.ne_of_lt (Nat.lt_succ_of_lt hll)) (Nat.ne_of_lt hll),⟨⟨_,he⟩,hit⟩,fun b hb=>?_,q⟩
 rcases List.mem_cons.mp hb with z | z
 · subst z;exact nx _ (Nat.le_succ _)
 · have z:=List.mem_singleton.mp z
   subst z;exact nx _ (Nat.le_refl _)
theorem z5d{a b:Expr}{ta:TA}{p pos:Pos}(hg:Gl X "zip")(hm:X.mg "zip"=none)(ha:PA X [a,b] ta)(hs:starEach [a,b] X.env=[(false,eval a X.env),(false,eval b X.env)]:=by rfl)(hs2:starEach [b] X.env=[(false,eval b X.env)]:=by rfl) :
 PI X (.Tuple elts ek epos) (.Call (.Name "zip" p) [a,b] [] pos) (z6o X.K ta):=by
 intro pins s σ H R I h
 refine Call_ (Yh I hg hm boot_zip (PyProof.Rows.callWith_type1 (Zt (ha pos pins s σ H _ I h) fun us s1 ⟨vs,H1,I1,r1,q1⟩=>?_) (by rw[hs,hs2]) (by rw[hs2];rfl)))
 obtain⟨l,l',xs,ys,rfl,hl,hl',q⟩:=q1
 obtain⟨u,v,rfl,ru,rv'⟩:=vals2 r1
 cases ru
 cases rv'
 obtain⟨its,rv,pl,hz⟩:=id (I1.list hl)
 obtain⟨its',rv',pl',hz'⟩:=id (I1.list hl')
 have hll:l<s1.heap.objs.size:=by obtain⟨o,z,_⟩:=pl.isList;exact Heap.lt_size z
 have hll':l'<s1.heap.objs.size:=by obtain⟨o,z,_⟩:=pl'.isList;exact Heap.lt_size z
 refine call_zip_2 pl.isList pl'.isList fun hp g1 g2 g3 g4 g5 hsz hk=>?_
 have I2:Inv X pins σ H1 { s1 with heap:=hp }:=I1.kept (t':=s1.toks) hk
 have nx:∀ b,s1.heap.objs.size≤b→Z7 X pins H1 b:=fun b hb=>I1.V2 hb (I1.hok.fresh hb)
 generalize s1.heap.objs.size=n at *
 have D:ZipApart (n+4) (n+2) (n+3) n (n+1) l l':=zipApart_new hll hll'
 refine wpAny_pyIter_zip g1 ⟨_,[n+4,n+2,n+3,n,n+1],_,_,H1,rfl,I2,z0I D,⟨g1,g2,⟨_,_,g3⟩,g4,g5⟩,fun b hb=>?_,q⟩
 have le:∀ m,n≤n+m:=fun m=>Nat.le_add_right n m
 simp at hb
 rcases hb with rfl | rfl | rfl | rfl | rfl
 · exact nx _ (le 4)
 · exact nx _ (le 2)
 · exact nx _ (le 3)
 · exact nx _ (Nat.le_refl _)
 · exact nx _ (le 1)
end
section
variable{X:Cx}
theorem QF:∀ {ns:List Int}{its:List Value},Vals (ns.map V.int) its→IntsAre its ns
 | [],_,h=>by cases h;exact .nil
 | n :: ns,_,h=>by
   cases h with
   | cons r rr =>
     obtain⟨t,rfl⟩:=r
     exact .cons n t (QF rr)
noncomputable def z3G(K:PySem.W.Frag):V→List V→Hp→VK→Prop:=fun o xs H Q=>∃ (l:Addr) (ns:List Int) (k:Int),o=.ref l∧xs=[.int k]∧z7 K H l (ns.map V.int)∧Q (.int ((ns.count k:Nat):Int)) H
theorem QX:MtM X "list.count" (z3G X.K):=by
 intro pins s σ H x vs v us Q I rx rv h
 obtain⟨l,ns,k,rfl,rfl,hq,q⟩:=h
 cases rx
 obtain⟨u,rfl,t,rfl⟩:=rv.one
 obtain⟨its,r,pl,hz⟩:=I.list hq
 exact count_list_ints pl.isList (QF r) ⟨.int _,H,I.tok _,⟨_,rfl⟩,q⟩
theorem U3{K:PySem.W.Frag}(e:X.K=K):MtM X "list.count" (z3G K):=e ▸ QX
end
end L2
namespace L2
open PySem PySem.Spec PyProof.Rows
noncomputable def yW(K:PySem.W.Frag)(mg:Str→Option Value)(nm:Str)(st:Stmt)(ps:List Str):Prop:=∃ (f:Addr) (fd:FuncData),XZ K nm nm st f fd∧mg nm=some (.ref f)∧Binds K fd ps []
noncomputable def Def(P:Program)(w:World)(K:PySem.W.Frag)(mg:Str→Option Value)(base:Heap)(k:Nat)(nm:Str)(ps:List Str)(sp:Sp):Prop :=
 ∃ (f:Addr) (fd:FuncData),PySem.W.keepIn K (.ref f)=true∧mg nm=some (.ref f)∧Binds K fd ps []∧ZY P w K mg base XR k f fd ps sp
theorem yW.def{P:Program}{w:World}{K:PySem.W.Frag}{mg:Str→Option Value}{base:Heap}{k:Nat}{nm:Str}{st:Stmt}{ps:List Str}{sp:Sp}(S:yW K mg nm st ps)(h:∀ f fd,XZ K nm nm st f fd→ZY P w K mg base XR k f fd ps sp):Def P w K mg base k nm ps sp:=by
 obtain⟨f,fd,F,m,b⟩:=S
 exact⟨f,fd,F.kp,m,b,h f fd F⟩
section
variable{X:Cx}
theorem zH{k:Nat}{nm:Str}{ps:List Str}{sp:Sp}{e:Expr}{es:List Expr}{t:TA}{p pos:Pos}(hg:Gl X nm)(he:starEach (e :: es) X.env=(false,eval e X.env) :: starEach es X.env)(hpl:(backTo pos (starEach es X.env)).any (·.1)=false)(hdb:(nm == ("__debug__":Str))=false)
 (D:Def X.prog X.w X.K X.mg X.base k nm ps sp) (hr:yQ k X.A) (ha:PA X (e :: es) t) :
 PE X (.Call (.Name nm p) (e :: es) [] pos) (z3s sp [] E0 t):=by
 obtain⟨f,fd,a,b,c,F⟩:=D
 exact Zs F hr hg b a c .nil Z6 ha hdb he hpl
theorem Ji{a:Expr}{ta:TE}(he:∀ whole,isTrue a X.env whole=(do let v ←whole;standAt a.pos;holding [v] (truthy v)))(ha:PE X a ta):PT X a (fun σ H Q=>ta σ H fun x H'=>∃ k,z4A X.K x H' k∧Q k H'):=z0U ha he
theorem uZ{K:PySem.W.Frag}{o e:Expr}{es:List Expr}{to:TE}{t:TA}{name:Str}{apos cpos:Pos}{T id:String}{r:V→List V→Hp→VK→Prop}(hX:X.K=K)(hbase:attributeBase o name X.env (eval o X.env)=eval o X.env)
 (hfew:((backTo cpos (starEach (e :: es) X.env)).all (fun x=>!x.1) && (backToKw cpos (keywordEach [] X.env)).all (fun x=>x.1.isSome) && decide ((e :: es).length+([]:List Keyword).length+(if ([]:List Keyword).isEmpty then 0 else 1)<30))=true)
 (hline:(apos.endLine == cpos.line)=true) (hs:starEach (e :: es) X.env=(false,eval e X.env) :: starEach es X.env) (hplain:(backTo cpos (starEach es X.env)).any (·.1)=false)
 (pa:PlainAttrs T) (slot:Slot T name id) (hty:typeOf (.builtin id)=pure (.type "method_descriptor")) (hm:MtR X id r) (ho:PE X o to) (ha:PA X (e :: es) t):PE X (.Call (.Attribute o name apos) (e :: es) [] cpos) (tBM K T r to t):=by
 subst hX
 exact jR pa slot hty hm ho ha hbase hfew hline hs hplain
theorem z2Q{K:PySem.W.Frag}{elts:List Expr}{ek:Nat}{epos:Pos}{a:Expr}{ta:TA}{p pos:Pos}(hg:Gl X "enumerate")(hs:starEach [a] X.env=[(false,eval a X.env)])(e:X.K=K)(hm:X.mg "enumerate"=none)(ha:PA X [a] ta):PI X (.Tuple elts ek epos) (.Call (.Name "enumerate" p) [a] [] pos) (z5Q K ta):=e ▸ z4F hg hm ha hs
theorem z2I{K:PySem.W.Frag}{elts:List Expr}{ek:Nat}{epos:Pos}{a b:Expr}{ta:TA}{p pos:Pos}(hg:Gl X "zip")(hs:starEach [a,b] X.env=[(false,eval a X.env),(false,eval b X.env)])(hs2:starEach [b] X.env=[(false,eval b X.env)])(e:X.K=K)(hm:X.mg "zip"=none)(ha:PA X [a,b] ta) :
 PI X (.Tuple elts ek epos) (.Call (.Name "zip" p) [a,b] [] pos) (z6o K ta):=e ▸ z5d hg hm ha hs hs2
end
section
variable{K:PySem.W.Frag}{a b D:Addr}{xs zs:List V}{g:TG}{tt:TT}{te:TE}{σ0:St}{H0:Hp}{Q:VK}
theorem z0M(Pv:Nat→List V→St→Hp→Prop)(h0:Pv 0 [] σ0 H0)(hl:∀ i ys σ H,Pv i ys σ H→z5 K H a xs∧H D=some (.lst ys))
 (hs:∀ i x ys σ H T G,xs[i]?=some x→i<xs.length→Pv i ys σ H→H T=none→zu H G→G T=some (.tup [.int i,x])→g (.ref T) σ G fun σ3 H3=>tt σ3 H3 fun b H4=>if b=true then
  te σ3 H4 fun y H5=>H5 D=some (.lst ys)∧ys.length<sizeLine∧∃ m',m'<xs.length - i∧Wt Pv xs.length (i+1) m' (ys ++ [y]) σ3 (upd H5 D (.lst (ys ++ [y]))) else ∃ m',m'<xs.length - i∧Wt Pv xs.length (i+1) m' ys σ3 H4)
 (hd:∀ ys σ H,Pv xs.length ys σ H→Q (.ref D) H):qQ (z3Q K a) D g tt te Q σ0 H0:=by
 refine⟨Wt Pv xs.length,⟨xs.length,rfl,Nat.zero_le _,h0⟩,?_⟩
 rintro i m ys σ' H' ⟨rfl,hi,p⟩
 obtain⟨hq,hD⟩:=hl i ys σ' H' p
 refine⟨hD,?_⟩
 by_cases hlt:i<xs.length
 · refine .inr ⟨⟨xs,xs[i],hq,by simp[hlt]⟩,fun x H2 y=>?_⟩
   obtain⟨T,u,v,rfl,hT,rfl,rfl,hv⟩:=y
   exact hs i v ys σ' H' T _ (hv xs hq) hlt p hT (zu.new hT) zj
 · have e:i=xs.length:=by omega
   subst e
   exact .inl ⟨⟨xs,hq,rfl⟩,hd ys σ' H' p⟩
theorem z1w(hlen:zs.length=xs.length)(Pv:Nat→List V→St→Hp→Prop)(h0:Pv 0 [] σ0 H0)(hl:∀ i ys σ H,Pv i ys σ H→z7 K H a xs∧z7 K H b zs∧H D=some (.lst ys))
 (hs:∀ i x z ys σ H T G,xs[i]?=some x→zs[i]?=some z→i<xs.length→Pv i ys σ H→H T=none→zu H G→G T=some (.tup [x,z])→g (.ref T) σ G fun σ3 H3=>tt σ3 H3 fun b H4=>if b=true then
  te σ3 H4 fun y H5=>H5 D=some (.lst ys)∧ys.length<sizeLine∧∃ m',m'<xs.length - i∧Wt Pv xs.length (i+1) m' (ys ++ [y]) σ3 (upd H5 D (.lst (ys ++ [y]))) else ∃ m',m'<xs.length - i∧Wt Pv xs.length (i+1) m' ys σ3 H4)
 (hd:∀ ys σ H,Pv xs.length ys σ H→Q (.ref D) H):qQ (ItZ K a b) D g tt te Q σ0 H0:=by
 refine⟨Wt Pv xs.length,⟨xs.length,rfl,Nat.zero_le _,h0⟩,?_⟩
 rintro i m ys σ' H' ⟨rfl,hi,p⟩
 obtain⟨hq,hq',hD⟩:=hl i ys σ' H' p
 refine⟨hD,?_⟩
 by_cases hlt:i<xs.length
 · refine .inr ⟨⟨xs,zs,xs[i],zs[i],hq,hq',by simp[hlt],by simp[hlt,hlen]⟩,fun x H2 y=>?_⟩
   obtain⟨T,u,v,rfl,hT,rfl,hu,hv⟩:=y
   exact hs i u v ys σ' H' T _ (hu xs hq) (hv zs hq') hlt p hT (zu.new hT) zj
 · have e:i=xs.length:=by omega
   subst e
   exact .inl ⟨⟨xs,zs,hq,hq',rfl,hlen⟩,hd ys σ' H' p⟩
end
structure Txt(mg:Str→Option Value):Prop where
 abs:mg "abs"=none
 isi:mg "isinstance"=none
 tup:mg "tuple"=none
 int:mg "int"=none
 bool:mg "bool"=none
 lst:mg "list"=none
 enu:mg "enumerate"=none
 len:mg "len"=none
 range:mg "range"=none
 srt:mg "sorted"=none
 sum:mg "sum"=none
 zip:mg "zip"=none
 max:mg "max"=none
noncomputable def xA(K:PySem.W.Frag)(H:Hp)(p:Addr)(A:Int×Int):Prop:=z5 K H p [.int A.1,.int A.2]
theorem xA.of{K:PySem.W.Frag}{H:Hp}{p:Addr}{A:Int×Int}(h:xB K H p A):xA K H p A:=z5.of h
noncomputable def yh(K:PySem.W.Frag)(op:Int×Int→Int×Int→Int×Int):Sp:=fun vs H Q _=>∃ (p q:Addr) (A B:Int×Int),vs=[.ref p,.ref q]∧xA K H p A∧xA K H q B∧0<A.2∧0<B.2∧Z9 3000 A∧Z9 3000 B∧∀ (r:Addr) (H':Hp),zu H H'→xB K H' r (op A B)→Q (.ref r) H'
noncomputable def YH:Sp:=fun vs H Q _=>∃ x y:Int,vs=[.int x,.int y]∧y≠0∧Sz 8000 x∧Sz 8000 y∧∀ (p:Addr) (H':Hp),zu H H'→H' p=some (.tup [.int (Pw.mk x y).1,.int (Pw.mk x y).2])→Q (.ref p) H'
noncomputable def z3l(K:PySem.W.Frag):Sp:=fun vs H Q _=>∃ (p q:Addr) (A B:Int×Int) (c m:Int),vs=[.ref p,.ref q,.int c,.int m]∧xB K H p A∧xB K H q B∧Pw.Canon A∧Pw.Canon B∧Z9 700 A∧Z9 700 B∧0<m∧Sz 10 c∧Sz 10 m∧∀ (r:Addr) (H':Hp),zu H H'→xB K H' r (Pw.YF A B c m)→Q (.ref r) H'
theorem z2D{n m':Nat}{A B:Int×Int}{c m:Int}(a:Pw.Canon A)(b:Pw.Canon B)(sa:Z9 n A)(sb:Z9 m' B)(hm:0<m)(sc:Sz 10 c)(sm:Sz 10 m):Z9 ((n+m'+1)+((1+n+1)+10+1)+1) (Pw.YF A B c m):=by
 have ha:=Pw.zE a
 have hb:=Pw.zE b
 have s1:Z9 1 (1,1):=⟨zR 1 (by decide),zR 1 (by decide)⟩
 have h1:=yo sa sb ha hb
 have h2:=V4 s1 sa (by decide) ha
 have h3:=xq (x:=c) (y:=m) (by omega) sc sm
 have n2:=Pw.zE (Pw.ZR (A:=(1,1)) (by decide) ha)
 have n3:=Pw.zE (Pw.ZF (a:=c) (b:=m) (by omega))
 have h4:=yo h2 h3 n2 n3
 exact (z0K h1 h4 (Pw.zE (Pw.Zc ha hb)) (Pw.zE (Pw.Zc n2 n3))).mono (by omega)
set_option genInjectivity false in
structure Gv(K:PySem.W.Frag)(H:Hp)(w lp ls:Addr)(pages:Int)(ps:List (Int×Int))(A:Int×Int)(Bs:List (Int×Int))(us:List V):Prop where
 web:YS K H w pages ps
 few:ps.length≤100
 lk:∀ p∈ps,0≤p.1∧p.1<pages∧0≤p.2∧p.2<pages
 leap:xB K H lp A
 ca:Pw.Canon A
 sa:Z9 100 A
 leaps:H ls=some (.tup us)
 row:Zl K H Bs us
 cb:Pw.zW Bs
 sb:∀ B∈Bs,Z9 600 B
 len:(Bs.length:Int)=pages
 plo:1≤pages
 phi:pages≤13
theorem Gv.same{K:PySem.W.Frag}{H H':Hp}{w lp ls:Addr}{pages:Int}{ps:List (Int×Int)}{A:Int×Int}{Bs:List (Int×Int)}{us:List V}(g:Gv K H w lp ls pages ps A Bs us)(s:zu H H'):Gv K H' w lp ls pages ps A Bs us :=
 { g with web:=g.web.same s,leap:=s _ _ g.leap,leaps:=s _ _ g.leaps,row:=g.row.same s }
theorem Gv.kl{K:PySem.W.Frag}{H H':Hp}{w lp ls:Addr}{pages:Int}{ps:List (Int×Int)}{A:Int×Int}{Bs:List (Int×Int)}{us:List V}(g:Gv K H w lp ls pages ps A Bs us)(s:KL H H'):Gv K H' w lp ls pages ps A Bs us :=
 { g with web:=g.web.kl s,leap:=s.tup g.leap,leaps:=s.tup g.leaps,row:=g.row.kp s }
noncomputable def z0R(K:PySem.W.Frag):Sp:=fun vs H Q _=>∃ (w lp ls:Addr) (pages page:Int) (ps:List (Int×Int)) (A:Int×Int) (Bs:List (Int×Int)) (us:List V),vs=[.ref w,.ref lp,.ref ls,.int page]∧Gv K H w lp ls pages ps A Bs us ∧
 ∀ (t:Addr) (H':Hp) (ys:List V),zu H H'→H' t=some (.tup ys)→Zl K H' (Pw.zG ps A Bs page) ys→Q (.ref t) H'
theorem xZ{ps:List (Int×Int)}{A:Int×Int}{Bs:List (Int×Int)}{page:Int}{n m:Nat}(few:ps.length≤100)(a:Pw.Canon A)(b:Pw.zW Bs)(sa:Z9 n A)(sb:∀ B∈Bs,Z9 m B):∀ B∈Pw.zG ps A Bs page,Z9 (n+m+n+16) B:=by
 unfold Pw.zG
 split
 · intro B hB
   exact (sb B hB).mono (by omega)
 · rename_i h
   intro B hB
   obtain⟨t,ht,rfl⟩:=List.mem_map.mp hB
   have hl:=Pw.ZO ps page
   have hc:=List.count_le_length (a:=(t:Int)) (l:=Pw.outs ps page)
   have h0:=List.length_pos_iff.mpr h
   have sB:Z9 m (Bs.getD t (0,1)):=by
    rw[List.mem_range] at ht
    rw[List.getD_eq_getElem?_getD,List.getElem?_eq_getElem ht]
    exact sb _ (List.getElem_mem ht)
   exact (z2D a (b.getD t) sa sB (by omega) (zR 10 (by omega)) (zR 10 (by omega))).mono (by omega)
end L2
namespace L2
open PySem PySem.Spec PyProof.Rows
section
variable{X:Cx}
theorem UK{i:Nat}{x:Str}{pos' pos2:Pos}{tg iter elt:Expr}{ifs:List Expr}{scope:Scope}{pos:Pos}{N':List Str}{ks:List (Option Nat)}{cl:List (Str×Addr)}{wi:TI}{g:TG}{tt:TT}{te:TE}
 (hsw:swapsWith (.ListComp elt [⟨tg,iter,ifs,0⟩] scope pos) (some (.Name x pos')) pos2.line X.env=pure true) (hN:X.N.Nodup) (hxi:X.N[i]?=some x) (hxl:X.env.scope.names.lookup x=some .local)
 (hcalm:X.calm=true) (hi:PI X tg iter wi) (hclos:closureFor scope X.env=pure cl) (hcl:∀ x c,cl.lookup x=some c→X.env.cells.lookup x=some c)
 (hcell:∀ y∈scope.names,y.2≠.cell) (hkind:scope.kind=.function) (hnames:∀ y∈scope.names,y.2=.local→scope.names.lookup y.1=some .local)
 (hhas:∀ x,((relabel scope X.env).names.lookup x=some .cell∨(relabel scope X.env).names.lookup x=some .free)→∃ c,cl.lookup x=some c)
 (hcap:QV X (relabel scope X.env) N' ks)
 (hg:∀ C s H fp,PG (Zw X N' scope cl C s H fp) tg g) (ht:∀ C s H fp,PTs (Zw X N' scope cl C s H fp) ifs tt) (he:∀ C s H fp,PE (Zw X N' scope cl C s H fp) elt te)
 (hs:∀ x,foldedSetIterable iter X.env x=pure x:=by intro _;rfl):PS X (.Assign [.Name x pos'] (.ListComp elt [⟨tg,iter,ifs,0⟩] scope pos) pos2) (z1x (Qt wi ks g tt te) (ZU i)):=by
 intro pins s σ H DD I h
 let Q:VK:=fun v H1=>DD.nx (σ.set i (some v)) H1
 have h:Qt wi ks g tt te σ H Q:=h
 rw[exec_Assign_Name_used _ _ _ _ hsw]
 refine wpAny_bind (wpAny_standAt (wpAny_bind ?_))
 show wpAny _ _ (do let _ ←comprehension (.ListComp elt [⟨tg,iter,ifs,0⟩] scope pos) scope X.env _ (newList []) false (eval iter X.env) (some (assign (.Name x pos') X.env))) _ _ s
 refine wpAny_bind (wpAny_mono (wpAny_comprehension_free (use:=some (assign (.Name x pos') X.env)) (Q:=fun _ s'=>SP X pins DD .next s') rfl hs hclos hkind hnames (Zt (hi pins s σ H _ I h) fun v s1 h1=>Zt h1 fun itv s2 h2=>?_)) (fun _ s' hq=>wpAny_pure (wpAny_pure hq)) fun _ _ z=>z)
 obtain⟨it,fp,tn,J,H2,e,I2,T,st2,f2,R⟩:=h2
 subst e
 refine wpAny_newObj_type (wpAny_newFunctionEnv hcell (by intro y hy;simp at hy) (fun h₁ hns₁ hsb₁=>?_) hkind)
 dsimp only at hns₁ hsb₁ ⊢
 have hD:H2 s2.heap.objs.size=none:=I2.hok.fresh (Nat.le_refl _)
 obtain⟨W,⟨m0,w0⟩,turn⟩:=R _ hD
 generalize hs3:({ s2 with heap:=s2.heap.push { cls:=.type "list",dict:=none,data:=.seq ([]:List Value).toArray } }:Shared)=s3
 have e3:s3.heap=s2.heap.push { cls:=.type "list",dict:=none,data:=.seq ([]:List Value).toArray }:=by rw[← hs3]
 have I3:Inv X pins σ (upd H2 s2.heap.objs.size (.lst [])) s3:=by
  rw[← hs3]
  exact I2.laid (t':=s2.toks) (fun b o e=>Heap.get?_push_of_some _ e) (Nat.le_refl _) ⟨Nat.zero_le _,[],0,.nil,Heap.get?_push_size _ rfl⟩
 generalize hD0:s2.heap.objs.size=D at *
 generalize hH3:upd H2 D (.lst [])=H3 at *
 rw[← e3] at hns₁ hsb₁ ⊢
 have kp:∀ b o,s3.heap.get? b=some o→h₁.get? b=some o:=fun b o e=>hsb₁.extBut b o (Nat.ne_of_lt (Heap.lt_size e)) (Heap.get?_push_of_some _ e)
 have f3:∀ b∈fp,Z7 X pins H3 b∧b<s3.heap.objs.size:=fun b hb=>by
  obtain⟨o,ho,_⟩:=T.obj 0 _ st2 b hb
  have hlt:b<D:=by rw[← hD0];exact Heap.lt_size ho
  refine⟨⟨?_,(f2 b hb).2⟩,?_⟩
  · rw[← hH3,zp (Nat.ne_of_lt hlt)];exact (f2 b hb).1
  · rw[e3,Heap.size_push,hD0];exact Nat.lt_succ_of_lt hlt
 have st3:tn 0 h₁:=T.keep 0 s2.heap h₁ st2 fun b hb o e=>kp b o (by rw[e3];exact Heap.get?_push_of_some _ e)
 have capK:∀ x c,cl.lookup x=some c→X.env.cells.lookup x=some c:=hcl
 have stkne:∀ b∈fp,b∉frs X.stack:=fun b hb z=>by
  rcases List.mem_cons.mp (I3.qG b z) with e | e
  · exact (f3 b hb).1.2.1 e
  · exact (f3 b hb).1.2.2.1 e
 have Cfresh:H3 s3.heap.objs.size=none:=I3.hok.fresh (Nat.le_refl _)
 have ok':(Zw X N' scope cl s3.heap.objs.size s3 H3 fp).Ok:=by
  refine⟨I3.ok.mod,hkind,I3.ok.glob,I3.ok.blt,Nat.le_refl _,fun x y c h1 h2=>I3.ok.inj x y c (capK x c h1) (capK y c h2),fun x hx=>hhas x hx,fun x c hf _=>absurd (show false=true from hf) Bool.false_ne_true,fun z=>I3.ok.hd z,I3.ok.frames,.inl rfl,
   fun b hb=>⟨Nat.ne_of_lt (f3 b hb).2,fun x c e=>(f3 b hb).1.2.2.2.2.1 x c (capK x c e)⟩,I3.bs,Nat.le_trans I3.ok.bsz I3.sz,fun b o e hb=>?_,fun b hb=>stkne b hb,I3.stack,I3.ql⟩
  rcases (f3 b hb).1.2.2.2.1 with z | z
  · exact I3.ok.noex b o e z
  · exact absurd (Nat.lt_of_lt_of_le (Heap.lt_size e) (Nat.le_trans I3.ok.bsz z)) (Nat.lt_irrefl _)
 have I4:Inv (Zw X N' scope cl s3.heap.objs.size s3 H3 fp) [] (xg ks σ) H3 { s3 with heap:=h₁,toks:=s3.toks+([]:List (Str×Value)).length }:=by
  refine⟨ok',rfl,I3.bare,Un.kept kp,⟨_,hns₁,fun i x v e1 e2 e3'=>?_⟩,fun x c e=>?_,Cfresh,fun x c e=>I3.freeC x c (capK x c e),fun p hp=>absurd (show p∈([]:List (Addr×Obj)) from hp) (by simp),I3.hok.kept kp,?_⟩
  · have e2':(xg ks σ)[i]?=some (some v):=e2
    unfold xg at e2'
    rw[List.getElem?_map] at e2'
    cases hk:ks[i]? with
    | none=>rw[hk] at e2';cases e2'
    | some o =>
      rw[hk] at e2'
      cases o with
      | none=>cases e2'
      | some k =>
        have ev:σ.getD k none=some v:=Option.some.inj e2'
        obtain⟨c1,c2,c3⟩:=hcap.get e1 hk
        obtain⟨m,hn,hl⟩:=I3.loc
        have es:σ[k]?=some (some v):=by
         rw[List.getD_eq_getElem?_getD] at ev
         cases q:σ[k]? with
         | none=>rw[q] at ev;cases ev
         | some z=>rw[q] at ev;exact congrArg some ev
        obtain⟨u,r,l⟩:=hl k x v c1 es (.inr (.inl c2))
        refine⟨u,r,.inr ⟨c3,?_⟩⟩
        rcases l with⟨l1,_⟩|⟨_,c,l2,l3⟩
        · have l1':X.env.scope.names.lookup x=some .local:=l1
          rw[c2] at l1';cases l1'
        · obtain⟨c',hc'⟩:=hhas x c3
          have:X.env.cells.lookup x=some c':=capK x c' hc'
          rw[l2] at this
          cases this
          refine⟨c,hc',?_⟩
          obtain⟨o,ho,hd⟩:=l3
          exact⟨o,kp c o ho,hd⟩
  · obtain⟨v,o,ho,hd⟩:=I3.cell x c (capK x c e)
    exact⟨v,o,kp c o ho,hd⟩
  · show (xg ks σ).length=N'.length
    unfold xg
    rw[List.length_map,hcap.len]
 have Cne:∀ p∈X.pn ++ pins,p.1≠s3.heap.objs.size:=fun p hp=>Nat.ne_of_lt (Heap.lt_size (I3.pin p hp).1)
 have back:∀ {σ':St}{H':Hp}{s':Shared},Inv (Zw X N' scope cl s3.heap.objs.size s3 H3 fp) [] σ' H' s'→∀ h'':Heap,Heap.SameBut s3.heap.objs.size s'.heap h''→Inv X pins σ H' { s' with heap:=h'' }:=fun {σ' H' s'} I' h'' sb=>by
  have J1:Inv X pins σ H' s':=I3.jW (ch:=fp) I'.os I'.base I'.hok I'.bare fun b hb=>⟨(f3 b hb).1.2.2.2.1,(f3 b hb).1.2.1,(f3 b hb).1.2.2.2.2.1,(f3 b hb).1.2.2.2.2.2⟩
  refine J1.turned (t':=s'.toks) (it:=s3.heap.objs.size) (fun b o hb e=>(sb.2 b hb).trans e) I'.free (Nat.ne_of_gt I3.lt) (.inr I3.sz) (fun x c e=>?_) Cne
  obtain⟨v,q⟩:=I3.cell x c e
  exact Nat.ne_of_lt q.lt
 have fpok:∀ {H':Hp},(∀ b∈fp,H' b=none)→∀ b∈fp,Z7 (Zw X N' scope cl s3.heap.objs.size s3 H3 fp) [] H' b:=fun hn b hb =>
  ⟨hn b hb,Nat.ne_of_lt (f3 b hb).2,stkne b hb,.inl hb,fun x c e=>(f3 b hb).1.2.2.2.2.1 x c (capK x c e),fun p hp=>absurd (show p∈([]:List (Addr×Obj)) from hp) (by simp)⟩
 have loop:codeAny (model X.prog X.w) X.A (.compLoop (.ListComp elt [⟨tg,iter,ifs,0⟩] scope pos) 0 (.ref it) (.ref D) (compEnvC scope cl s3.heap.objs.size X.env))
  (compPost (model X.prog X.w) X.A X.xe (some (assign (.Name x pos') X.env)) (fun _ s'=>SP X pins DD .next s') (.ref D) s3.heap.objs.size) { s3 with heap:=h₁,toks:=s3.toks+([]:List (Str×Value)).length }:=by
  refine Yt (fun n s'=>∃ i ys σ' H',Inv (Zw X N' scope cl s3.heap.objs.size s3 H3 fp) [] σ' H' s'∧tn i s'.heap∧(∀ b∈fp,H' b=none)∧W i n ys σ' H') ?_ m0 ⟨0,[],_,_,I4,st3,fun b hb=>(f3 b hb).1.1,w0⟩
  rintro n s5 ⟨i,ys,σ5,H5,I5,st5,fr5,w5⟩
  obtain⟨hD5,tq⟩:=turn i n ys σ5 H5 w5
  rcases tq with⟨stop,q⟩|⟨go,step⟩
  · refine Zt (T.done (Zw X N' scope cl s3.heap.objs.size s3 H3 fp) rfl rfl rfl hcalm i [] s5 σ5 H5 _ I5 (fpok fr5) st5 stop) fun r s6 ⟨hr,I6⟩=>?_
    subst hr
    obtain⟨m,hn,_⟩:=I6.loc
    have J1:Inv X pins σ H5 s6:=I3.jW (ch:=fp) I6.os I6.base I6.hok I6.bare fun b hb=>⟨(f3 b hb).1.2.2.2.1,(f3 b hb).1.2.1,(f3 b hb).1.2.2.2.2.1,(f3 b hb).1.2.2.2.2.2⟩
    have cL:∀ y c,X.env.cells.lookup y=some c→c≠s3.heap.objs.size:=fun y c e=>by
     obtain⟨v,q⟩:=I3.cell y c e
     exact Nat.ne_of_lt q.lt
    refine wpAny_assign_Name (QN (v:=.ref D) J1 hN hxi (.inl hxl) rfl (fun s7 I7 sb7=>?_) (.inr hxl))
    obtain⟨a,sba,ha⟩:=sb7
    have nC:s3.heap.objs.size≠a:=fun z=>by
     rcases ha with e | e
     · exact Nat.ne_of_gt I3.lt (z.trans e)
     · exact cL _ _ e z.symm
    refine⟨m,hn.at' fun o e=>(sba.2 _ nC).trans e,fun h'' sb=>⟨_,H5,?_,q⟩⟩
    exact I7.turned (t':=s7.toks) (it:=s3.heap.objs.size) (fun b o hb e=>(sb.2 b hb).trans e) I6.free (Nat.ne_of_gt I3.lt) (.inr I3.sz) cL Cne
  · refine Zt (T.item (Zw X N' scope cl s3.heap.objs.size s3 H3 fp) rfl rfl rfl hcalm i [] s5 σ5 H5 _ I5 (fpok fr5) st5 go) fun r s6 ⟨u,hr,h6⟩=>?_
    subst hr
    refine Zt h6 fun _ s7 ⟨x,H7,I7,r7,y7,st7,fr7⟩=>?_
    have I7':=I7.pinned (fpok fr7) (T.obj _ _ st7)
    refine Zt (hg _ _ _ _ _ s7 σ5 H7 x u _ I7' r7 (step x H7 y7)) fun _ s8 ⟨σ8,H8,I8,q8⟩=>?_
    refine Zt (ht _ _ _ _ _ s8 σ8 H8 _ I8 q8) fun ok s9 ⟨H9,I9,q9⟩=>?_
    have again:∀ {σ':St}{H':Hp}{s':Shared}{ys':List V},Inv (Zw X N' scope cl s3.heap.objs.size s3 H3 fp) ([] ++ xK fp s7.heap) σ' H' s'→(∃ m',m'<n∧W (i+1) m' ys' σ' H') →
     ∃ m',m'<n∧∃ i ys σ' H',Inv (Zw X N' scope cl s3.heap.objs.size s3 H3 fp) [] σ' H' s'∧tn i s'.heap∧(∀ b∈fp,H' b=none)∧W i m' ys σ' H':=fun {σ' H' s' ys'} I' hw=>by
     obtain⟨m',hm,w'⟩:=hw
     refine⟨m',hm,i+1,ys',σ',H',I'.Yo,T.keep _ _ _ st7 fun b hb o e=>(I'.pin (b,o) (List.mem_append_right _ (List.mem_append_right _ (ZS hb e)))).1,fun b hb=>?_,w'⟩
     obtain⟨o,e,d⟩:=T.obj _ _ st7 b hb
     exact (I'.pin (b,o) (List.mem_append_right _ (List.mem_append_right _ (ZS hb e)))).2.1
    cases ok with
    | false =>
      rw[if_neg Bool.false_ne_true] at q9 ⊢
      exact again I9 q9
    | true =>
      rw[if_pos rfl] at q9 ⊢
      refine Zt (he _ _ _ _ _ s9 σ8 H9 _ I9 q9) fun y s10 ⟨yv,H10,I10,r10,q10,z10,w10⟩=>?_
      refine Zt (ym _ s10 σ8 H10 (.ref D) [yv] (.ref D) [y] (fun v H'=>v=.non∧H'=upd H10 D (.lst (ys ++ [yv]))) I10 rfl (.cons r10 .nil) ⟨D,ys,yv,rfl,rfl,q10,z10,rfl,rfl⟩) fun _ s11 ⟨_,H11,I11,_,_,e11⟩=>?_
      subst e11
      exact again I11 w10
 have es:({ s3 with heap:=h₁,toks:=s3.toks+([]:List (Str×Value)).length }:Shared)={ s2 with heap:=h₁,toks:=s2.toks+([]:List (Str×Value)).length }:=by rw[← hs3]
 rw[es] at loop
 exact codeAny_compStart_list loop (T.self _ 0 _ _ _ st3 loop)
theorem vp{x:Str}{pos' pos2:Pos}(i:Nat){tg iter elt:Expr}{ifs:List Expr}{scope:Scope}{pos:Pos}(N':List Str)(ks:List (Option Nat)){wi:TI}{g:TG}{tt:TT}{te:TE}
 (hsw:swapsWith (.ListComp elt [⟨tg,iter,ifs,0⟩] scope pos) (some (.Name x pos')) pos2.line X.env=pure true) (hN:X.N.Nodup) (hxi:X.N[i]?=some x) (hxl:X.env.scope.names.lookup x=some .local)
 (hcalm:X.calm=true) (hi:PI X tg iter wi) (hfree:∀ y∈scope.names,y.2=.free→X.env.scope.names.lookup y.1=some .cell)
 (hcell:∀ y∈scope.names,y.2≠.cell) (hkind:scope.kind=.function) (hnames:∀ y∈scope.names,y.2=.local→scope.names.lookup y.1=some .local)
 (hcap:QV X (relabel scope X.env) N' ks)
 (hg:∀ cl C s H fp,PG (Zw X N' scope cl C s H fp) tg g) (ht:∀ cl C s H fp,PTs (Zw X N' scope cl C s H fp) ifs tt) (he:∀ cl C s H fp,PE (Zw X N' scope cl C s H fp) elt te)
 (hs:∀ x,foldedSetIterable iter X.env x=pure x:=by intro _;rfl):PS X (.Assign [.Name x pos'] (.ListComp elt [⟨tg,iter,ifs,0⟩] scope pos) pos2) (z1x (Qt wi ks g tt te) (ZU i)):=by
 intro pins s σ H D I h
 obtain⟨cl,e1,e2,e3⟩:=xF (scope:=scope) (env:=X.env) fun y hy hf=>I.ok.has y.1 (.inl (hfree y hy hf))
 refine UK hsw hN hxi hxl hcalm hi e1 e2 hcell hkind hnames (fun x hx=>?_) hcap (hg cl) (ht cl) (he cl) hs pins s σ H D I h
 have key:∀ k,(x,k)∈(relabel scope X.env).names→k=.cell∨k=.free→(x,NameKind.free)∈scope.names:=fun k hm hk=>by
  unfold relabel at hm
  obtain⟨⟨n,k'⟩,hy,e⟩:=List.mem_map.mp hm
  dsimp only at e
  split at e
  · rename_i hc
    cases e
    have:k'=.free:=by simp at hc;exact hc.1.1
    rw[← this];exact hy
  · cases e
    rcases hk with rfl | rfl
    · exact absurd rfl (hcell _ hy)
    · exact hy
 rcases hx with hx | hx
 · exact e3 x (key _ (PySem.mem_of_lookup hx) (.inl rfl))
 · exact e3 x (key _ (PySem.mem_of_lookup hx) (.inr rfl))
end
end L2
namespace L2
open PySem PySem.Spec PyProof.Rows
theorem JC(As:List (Int×Int)):yG (As.map uF) (As.map uF)=true:=(Qn As As).trans (by simp)
theorem z2d(As Bs:List (Int×Int)):yG (As.map uF) (Bs.map uF)=decide (As=Bs):=Qn As Bs
section
variable{K:PySem.W.Frag}{H:Hp}{p q:Addr}{W V':List (Int×Int)}{xs ys:List V}{Q:VK}
theorem z7z(h1:z7 K H p xs)(h2:z7 K H q ys)(f1:Zl K H W xs)(f2:Zl K H W ys)(k:Q (.bl false) H):j6 K true (.ref p) (.ref q) H Q :=
 ⟨p,q,_,_,_,_,rfl,rfl,.inr ⟨h1,h2⟩,f1.z1E,f2.z1E,Zl.dep _,by rw[if_pos rfl,JC];exact k⟩
theorem z3N(h1:z5 K H p xs)(h2:z5 K H q ys)(f1:Zl K H W xs)(f2:Zl K H V' ys)(k:Q (.bl (decide (W=V'))) H):j6 K false (.ref p) (.ref q) H Q :=
 ⟨p,q,_,_,_,_,rfl,rfl,.inl ⟨h1,h2⟩,f1.z1E,f2.z1E,Zl.dep _,by rw[if_neg Bool.false_ne_true,z2d];exact k⟩
end
theorem Gv.drawn{K:PySem.W.Frag}{H:Hp}{wa lp ls:Addr}{pages:Int}{ps:List (Int×Int)}{A:Int×Int}{ws:List Int}{us:List V}(ok:Pw.z0E pages ps)(hw:YS K H wa pages ps)(ca:Pw.Canon A)(sa:Z9 41 A)(fA:xB K H lp A)(wt:JW pages ws)(el:H ls=some (.tup us))(fl:Zl K H (Uo ws) us):Gv K H wa lp ls pages ps A (Uo ws) us where
 web:=hw
 few:=by have:=ok.few;omega
 lk:=ok.lk
 leap:=fA
 ca:=ca
 sa:=sa.mono (by decide)
 leaps:=el
 row:=fl
 cb:=Jw wt
 sb:=fun B hB=>(z4r wt ok.hi B hB).mono (by decide)
 len:=by rw[U6];exact wt.len
 plo:=ok.lo
 phi:=by have:=ok.hi;omega
theorem mem_getD{Bs:List (Int×Int)}{t:Nat}(h:t<Bs.length):Bs.getD t (0,1)∈Bs:=by
 rw[List.getD_eq_getElem?_getD,List.getElem?_eq_getElem h]
 exact List.getElem_mem h
end L2
namespace Pw
noncomputable def ZL(q:Rat):Int×Int:=(q.num,(q.den:Int))
theorem z8(q:Rat):Canon (ZL q):=⟨by show (0:Int)<(q.den:Int);have:=q.den_nz;omega,by show Int.gcd q.num (q.den:Int)=1;have:=q.reduced;unfold Int.gcd;simpa[Nat.Coprime] using this⟩
theorem Zq(q:Rat):val (ZL q)=q:=by
 unfold val ZL
 show ((q.num:Int):Rat) / (((q.den:Nat):Int):Rat)=q
 rw[← Rat.divInt_eq_div,Rat.num_divInt_den]
theorem qb{A:Int×Int}(h:Canon A):ZL (val A)=A:=val_inj (z8 _) h (Zq _)
theorem z4Z{a b:Int}(h:b≠0):mk a b=ZL ((a:Rat) / (b:Rat)):=val_inj (ZF h) (z8 _) (by rw[val_mk h,Zq])
theorem Y7{A B:Int×Int}(ha:A.2≠0)(hb:B.2≠0):ZI A B=ZL (val A+val B):=val_inj (YO ha hb) (z8 _) (by rw[QG ha hb,Zq])
theorem xO{A B:Int×Int}(ha:A.2≠0)(hb:B.2≠0):Zm A B=ZL (val A * val B):=val_inj (Zc ha hb) (z8 _) (by rw[yN ha hb,Zq])
theorem cpos{d:Int}(h:0<d):(0:Rat)<(d:Rat):=by
 have:((0:Int):Rat)<(d:Rat):=Rat.intCast_lt_intCast.mpr h
 simpa using this
theorem cnn{d:Int}(h:0≤d):(0:Rat)≤(d:Rat):=by
 have:((0:Int):Rat)≤(d:Rat):=Rat.intCast_le_intCast.mpr h
 simpa using this
theorem ZH{a b c:Rat}(h:a≤b)(hc:0≤c):a * c≤b * c:=Rat.mul_le_mul_of_nonneg_right h hc
theorem yd{a b:Rat}(ha:0≤a)(hb:0≤b):0≤a * b:=by
 have:=ZH ha hb
 grind
theorem UN{a b:Rat}(ha:0≤a)(hb:0<b):0≤a / b:=by
 rw[Rat.div_def]
 exact yd ha (Rat.le_of_lt (Rat.inv_pos.mpr hb))
theorem Xy{a b c:Rat}(hc:0<c)(h:a * c≤b * c):a≤b:=Rat.le_of_mul_le_mul_right h hc
theorem Xz{A:Int×Int}(h:0<A.2)(h1:0≤A.1):0≤val A:=UN (cnn h1) (cpos h)
theorem jB{A:Int×Int}(h:0<A.2)(h1:A.1≤A.2):val A≤1:=by
 have hp:=cpos h
 refine Xy hp ?_
 unfold val
 have:(A.1:Rat)≤(A.2:Rat):=Rat.intCast_le_intCast.mpr h1
 have e:(A.1:Rat) / (A.2:Rat) * (A.2:Rat)=A.1:=by have:=Zi (d:=A.2) (by omega);grind
 rw[e]
 grind
structure Bd(D:Int)(C:Rat)(q:Rat):Prop where
 int:∃ n:Int,q * (D:Rat)=(n:Rat)
 lo:-C≤q
 hi:q≤C
theorem Bd.zero{D:Int}:Bd D 0 0:=⟨⟨0,by simp⟩,by grind,by grind⟩
theorem Bd.add{D:Int}{C C' p q:Rat}(a:Bd D C p)(b:Bd D C' q):Bd D (C+C') (p+q):=by
 obtain⟨⟨n,hn⟩,l1,h1⟩:=a
 obtain⟨⟨m,hm⟩,l2,h2⟩:=b
 refine⟨⟨n+m,?_⟩,by grind,by grind⟩
 rw[Rat.intCast_add];grind
theorem Bd.z3k{D E:Int}{C p q:Rat}(a:Bd D C p)(h:∃ m:Int,q * (E:Rat)=(m:Rat))(h0:0≤q)(h1:q≤1)(hC:0≤C):Bd (D * E) C (p * q):=by
 obtain⟨⟨n,hn⟩,lo,hi⟩:=a
 obtain⟨m,hm⟩:=h
 refine⟨⟨n * m,?_⟩,?_,?_⟩
 · rw[Rat.intCast_mul,Rat.intCast_mul,← hn,← hm];grind
 · have h4:=ZH lo h0
   have h5:=Rat.mul_le_mul_of_nonneg_left h1 hC
   grind
 · have h4:=ZH hi h0
   have h5:=Rat.mul_le_mul_of_nonneg_left h1 hC
   grind
theorem Bd.mono{D:Int}{C C' q:Rat}(a:Bd D C q)(h:C≤C'):Bd D C' q:=⟨a.int,by have:=a.lo;grind,by have:=a.hi;grind⟩
theorem Bd.qs{D:Int}{C:Rat}{f:Nat→Rat}:∀ {n:Nat},(∀ i,i<n→Bd D C (f i))→Bd D ((n:Nat) * C) (qs n f)
 | 0,_=>by
   have:(((0:Nat):Rat)) * C=0:=by simp
   rw[this];exact Bd.zero
 | n+1,h=>by
   have h1:=(Bd.qs (n:=n) fun i hi=>h i (by omega)).add (h n (by omega))
   have e:(((n+1:Nat):Rat)) * C=((n:Nat):Rat) * C+C:=by
    have:((n+1:Nat):Rat)=((n:Nat):Rat)+1:=by push_cast;rfl
    rw[this];grind
   rw[e]
   exact h1
theorem jE{q:Rat}{D n:Int}(hD:D≠0)(h:q * (D:Rat)=(n:Rat)):(q.den:Int)∣D:=by
 have hq:Fr (ZL q) n D:=by
  refine⟨z8 q,hD,?_⟩
  have e:=Zq q
  unfold val at e
  have hd:=Zi (zE (z8 q))
  have:((ZL q).1:Rat) * (D:Rat)=(n:Rat) * ((ZL q).2:Rat):=by rw[← h];rw[← e];grind
  exact_mod_cast this
 have w:=hq.w
 have:(ZL q).2∣(ZL q).1 * D:=⟨n,by rw[w];exact Int.mul_comm ..⟩
 exact Yr this hq.canon.2
theorem Bd.sz{D:Int}{C:Int}{q:Rat}{k:Nat}(a:Bd D (C:Rat) q)(hD:0<D)(hC:1≤C)(z:L2.Sz k (C * D)):L2.Z9 k (ZL q):=by
 obtain⟨⟨n,hn⟩,lo,hi⟩:=a
 have hd:=jE (by omega) hn
 have hle:(q.den:Int)≤D:=Int.le_of_dvd hD hd
 have hp:(0:Int)<(q.den:Int):=(z8 q).1
 have hz:(C * D).natAbs<2 ^ k:=z
 have hCD:D≤C * D:=by
  have:=Int.mul_le_mul_of_nonneg_right hC (Int.le_of_lt hD)
  omega
 refine⟨?_,?_⟩
 · show q.num.natAbs<2 ^ k
   have e:=Zq q
   unfold val at e
   have hpq:=cpos hp
   have hne:=Zi (d:=(q.den:Int)) (by omega)
   have en:(q.num:Rat)=q * ((q.den:Int):Rat):=by
    have:((ZL q).1:Rat) / ((ZL q).2:Rat)=q:=e
    have e2:(q.num:Rat) / ((q.den:Int):Rat)=q:=this
    grind
   have u1:(q.num:Rat)≤((C * (q.den:Int):Int):Rat):=by
    rw[en,Rat.intCast_mul];exact ZH hi (Rat.le_of_lt hpq)
   have u2:((-(C * (q.den:Int)):Int):Rat)≤(q.num:Rat):=by
    rw[en,Rat.intCast_neg,Rat.intCast_mul]
    have:=ZH lo (Rat.le_of_lt hpq)
    grind
   have v1:q.num≤C * (q.den:Int):=Rat.intCast_le_intCast.mp u1
   have v2:-(C * (q.den:Int))≤q.num:=Rat.intCast_le_intCast.mp u2
   have v3:C * (q.den:Int)≤C * D:=Int.mul_le_mul_of_nonneg_left hle (by omega)
   omega
 · show (q.den:Int).natAbs<2 ^ k
   omega
noncomputable def z4T(w d:Int):Int:=(w.fdiv (Int.gcd w d:Int)) * d
theorem z3f{w d:Int}(hw:0<w)(hd:0<d):z4T w d=(Int.lcm w d:Int):=by
 unfold z4T
 have hg:=z0k (a:=w) (b:=d) (by omega)
 obtain⟨u,hu⟩:=Int.gcd_dvd_left w d
 have e1:w.fdiv (Int.gcd w d:Int)=u:=by
  conv=>lhs;lhs;rw[hu]
  rw[Int.fdiv_eq_ediv_of_nonneg _ (by omega),Int.mul_ediv_cancel_left _ (by omega)]
 rw[e1]
 have key:(Int.gcd w d:Int) * (Int.lcm w d:Int)=w * d:=by
  have:=Int.gcd_mul_lcm w d
  have h2:((Int.gcd w d * Int.lcm w d:Nat):Int)=(((w * d).natAbs:Nat):Int):=by rw[this,Int.natAbs_mul]
  have h3:(((w * d).natAbs:Nat):Int)=w * d:=Int.natAbs_of_nonneg (Int.le_of_lt (Int.mul_pos hw hd))
  rw[← h3,← h2];push_cast;rfl
 refine Int.eq_of_mul_eq_mul_left (a:=(Int.gcd w d:Int)) (by omega) ?_
 rw[key]
 conv=>rhs;rw[hu]
 rw[Int.mul_assoc]
structure yU(As:List (Int×Int))(L:Int):Prop where
 pos:0<L
 dvd:∀ A∈As,A.2∣L
 least:∀ M:Int,0<M→(∀ A∈As,A.2∣M)→L∣M
theorem yU.nil:yU [] 1:=⟨by decide,by simp,fun M _ _=>Int.one_dvd M⟩
theorem yU.snoc{As:List (Int×Int)}{L:Int}{A:Int×Int}(h:yU As L)(hA:0<A.2):yU (As ++ [A]) (z4T L A.2):=by
 rw[z3f h.pos hA]
 refine⟨?_,fun B hB=>?_,fun M hM hd=>?_⟩
 · have:=Int.lcm_pos (m:=L) (n:=A.2) (by have:=h.pos;omega) (by omega)
   omega
 · rcases List.mem_append.mp hB with hB | hB
   · exact Int.dvd_trans (h.dvd B hB) (Int.dvd_lcm_left _ _)
   · rw[List.mem_singleton.mp hB];exact Int.dvd_lcm_right _ _
 · have h1:=h.least M hM fun B hB=>hd B (List.mem_append_left _ hB)
   have h2:=hd A (by simp)
   obtain⟨m,rfl⟩:∃ m:Nat,M=m:=⟨M.toNat,by omega⟩
   exact Int.natCast_dvd_natCast.mpr (Int.lcm_dvd h1 h2)
theorem yU.le{As:List (Int×Int)}{L M:Int}(h:yU As L)(hM:0<M)(hd:∀ A∈As,A.2∣M):L≤M:=Int.le_of_dvd hM (h.least M hM hd)
noncomputable def xx(As:List (Int×Int))(L:Int):List Int:=As.map fun A=>A.1 * (L.fdiv A.2)
theorem vI{A:Int×Int}{L:Int}(hA:0<A.2)(hL:0<L)(h:A.2∣L):((A.1 * (L.fdiv A.2):Int):Rat)=val A * (L:Rat):=by
 obtain⟨u,rfl⟩:=h
 have e:(A.2 * u).fdiv A.2=u:=by rw[Int.fdiv_eq_ediv_of_nonneg _ (by omega),Int.mul_ediv_cancel_left _ (by omega)]
 rw[e]
 unfold val
 have:=Zi (d:=A.2) (by omega)
 rw[Rat.intCast_mul,Rat.intCast_mul]
 grind
theorem vH{f:Nat→Int}:∀ n,qs n (fun i=>((f i:Int):Rat))=((((List.range n).map f).sum:Int):Rat)
 | 0=>by simp[qs]
 | n+1=>by
   show qs n _+_=_
   rw[vH n,List.range_succ,List.map_append,List.sum_append,Rat.intCast_add]
   simp
end Pw
namespace L2
open PySem PySem.Spec PyProof.Rows
noncomputable def Sq(b:Bool)(K:PySem.W.Frag)(H:Hp)(a:Addr)(xs:List V):Prop:=if b=true then z7 K H a xs else z5 K H a xs
noncomputable def ItB(b:Bool)(K:PySem.W.Frag)(a:Addr):It:=if b=true then Itl K a else Itt K a
noncomputable def z7I(K:PySem.W.Frag)(tl:TE):TI:=fun σ H R=>tl σ H fun x H1=>∃ (b:Bool) (a:Addr),x=.ref a∧(∃ xs,Sq b K H1 a xs)∧R (ItB b K a) H1
theorem Sq.same{b:Bool}{K:PySem.W.Frag}{H H':Hp}{a:Addr}{xs:List V}(h:Sq b K H a xs)(s:zu H H'):Sq b K H' a xs:=by
 cases b
 · exact s.V9 h
 · exact s.seq h
theorem JY{X:Cx}{tg l:Expr}{tl:TE}(hl:PE X l tl):PI X tg l (z7I X.K tl):=by
 intro pins s σ H R I h
 refine Zt (hl pins s σ H _ I h) fun v s1 ⟨x,H1,I1,r1,q1⟩=>?_
 obtain⟨b,a,e,⟨xs,hq⟩,q⟩:=q1
 subst e
 cases r1
 cases b with
 | true =>
   have hq:z7 X.K H1 a xs:=hq
   have q:R (Itl X.K a) H1:=q
   obtain⟨its,rv,p,hz⟩:=I1.list hq
   refine wpAny_pyIter_list p.isList ?_
   refine⟨s1.heap.objs.size,[s1.heap.objs.size],_,_,H1,rfl,I1.kept (t':=s1.toks) fun b o e=>Heap.get?_push_of_some _ e,vo a _,⟨_,Heap.get?_push_size _ rfl,rfl,rfl⟩,fun b hb=>?_,q⟩
   have e:b=s1.heap.objs.size:=by simpa using hb
   subst e
   exact I1.V2 (Nat.le_refl _) (I1.hok.fresh (Nat.le_refl _))
 | false =>
   have hq:z5 X.K H1 a xs:=hq
   have q:R (Itt X.K a) H1:=q
   obtain⟨its,rv,p,hz⟩:=I1.tuple hq
   refine wpAny_pyIter_tuple (show s1.heap.IsTuple a its.toArray from p) ?_
   refine⟨s1.heap.objs.size,[s1.heap.objs.size],_,_,H1,rfl,I1.kept (t':=s1.toks) fun b o e=>Heap.get?_push_of_some _ e,Qi a _,⟨_,Heap.get?_push_size _ rfl,rfl,rfl⟩,fun b hb=>?_,q⟩
   have e:b=s1.heap.objs.size:=by simpa using hb
   subst e
   exact I1.V2 (Nat.le_refl _) (I1.hok.fresh (Nat.le_refl _))
section
variable{b:Bool}{K:PySem.W.Frag}{a D:Addr}{xs:List V}{g:TG}{tt:TT}{te:TE}{σ0:St}{H0:Hp}{Q:VK}
theorem JU(Pv:Nat→List V→St→Hp→Prop)(h0:Pv 0 [] σ0 H0)(hl:∀ i ys σ H,Pv i ys σ H→Sq b K H a xs∧H D=some (.lst ys))
 (hs:∀ i x ys σ H,xs[i]?=some x→i<xs.length→Pv i ys σ H→g x σ H fun σ3 H3=>tt σ3 H3 fun b H4=>if b=true then
  te σ3 H4 fun y H5=>H5 D=some (.lst ys)∧ys.length<sizeLine∧∃ m',m'<xs.length - i∧Wt Pv xs.length (i+1) m' (ys ++ [y]) σ3 (upd H5 D (.lst (ys ++ [y]))) else ∃ m',m'<xs.length - i∧Wt Pv xs.length (i+1) m' ys σ3 H4)
 (hd:∀ ys σ H,Pv xs.length ys σ H→Q (.ref D) H):qQ (ItB b K a) D g tt te Q σ0 H0:=by
 cases b
 · exact yC Pv h0 hl hs hd
 · exact Yk Pv h0 hl hs hd
end
theorem z2v{b:Bool}{K:PySem.W.Frag}{a:Addr}{xs:List V}{g:TG}{tb:TS}{D:Ends}{σ:St}{H:Hp}(Pv:Nat→St→Hp→Prop)(h0:Pv 0 σ H)(hl:∀ i σ H,i≤xs.length→Pv i σ H→Sq b K H a xs)
 (hs:∀ i x σ H,xs[i]?=some x→Pv i σ H→g x σ H fun σ2 H2=>tb { D with nx:=Pv (i+1),ct:=Pv (i+1),bk:=D.nx } σ2 H2) (hd:∀ σ H,Pv xs.length σ H→D.nx σ H) :
 ∃ W:Nat→Nat→St→Hp→Prop,(∃ m,W 0 m σ H)∧∀ i m σ H,W i m σ H →
   ((ItB b K a).stop i H∧D.nx σ H)∨((ItB b K a).go i H∧∃ N:St→Hp→Prop,(∀ σ' H',N σ' H'→∃ m',m'<m∧W (i+1) m' σ' H')∧∀ x H',(ItB b K a).yld i H x H'→g x σ H' fun σ2 H2=>tb { D with nx:=N,ct:=N,bk:=D.nx } σ2 H2):=by
 cases b
 · exact jz Pv h0 hl hs hd
 · exact Y0 Pv h0 hl hs hd
set_option genInjectivity false in
structure Rw(Rs:List (Int×Int))(n:Nat)(D C:Int):Prop where
 len:Rs.length=n
 canon:Pw.zW Rs
 dpos:0<D
 cpos:1≤C
 dvd:∀ R∈Rs,R.2∣D
 bnd:∀ R∈Rs,-(C * R.2)≤R.1∧R.1≤C * R.2
 sz:Sz 2000 (C * D)
theorem Rw.bd{Rs:List (Int×Int)}{n:Nat}{D C:Int}(h:Rw Rs n D C){R:Int×Int}(hR:R∈Rs):Pw.Bd D (C:Rat) (Pw.val R):=by
 have c:=h.canon R hR
 have hp:=Pw.cpos c.1
 have hne:=Pw.Zi (Pw.zE c)
 obtain⟨u,hu⟩:=h.dvd R hR
 obtain⟨b1,b2⟩:=h.bnd R hR
 have e:Pw.val R * (R.2:Rat)=(R.1:Rat):=by unfold Pw.val;grind
 refine⟨⟨R.1 * u,?_⟩,?_,?_⟩
 · rw[hu,Rat.intCast_mul,Rat.intCast_mul,← e];grind
 · refine Pw.Xy hp ?_
   rw[e]
   have:((-(C * R.2):Int):Rat)≤(R.1:Rat):=Rat.intCast_le_intCast.mpr b1
   rw[Rat.intCast_neg,Rat.intCast_mul] at this
   grind
 · refine Pw.Xy hp ?_
   rw[e]
   have:(R.1:Rat)≤((C * R.2:Int):Rat):=Rat.intCast_le_intCast.mpr b2
   rw[Rat.intCast_mul] at this
   exact this
theorem Rw.jr{Rs:List (Int×Int)}{n:Nat}{D C:Int}(h:Rw Rs n D C){R:Int×Int}(hR:R∈Rs):Z9 2000 R:=by
 have:=(h.bd hR).sz h.dpos h.cpos h.sz
 rwa [Pw.qb (h.canon R hR)] at this
theorem Rw.dsz{Rs:List (Int×Int)}{n:Nat}{D C:Int}(h:Rw Rs n D C):Sz 2000 D:=by
 have z:(C * D).natAbs<2 ^ 2000:=h.sz
 have h1:=h.cpos
 have h2:=h.dpos
 have:D≤C * D:=by
  have:=Int.mul_le_mul_of_nonneg_right h1 (Int.le_of_lt h2)
  omega
 show D.natAbs<2 ^ 2000
 have e:D.natAbs≤(C * D).natAbs:=by omega
 exact Nat.lt_of_le_of_lt e z
set_option genInjectivity false in
structure Pr(A:Int×Int)(Bs:List (Int×Int))(S:Int):Prop where
 a0:0<A.1
 a1:A.1≤A.2
 nn:∀ B∈Bs,0≤B.1
 one:Pw.qs Bs.length (fun t=>Pw.val (Bs.getD t (0,1)))=1
 spos:0<S
 ssz:Sz 700 S
 sdvd:∀ B∈Bs,B.2∣S
end L2
namespace Pw
noncomputable def QU:Nat→(Nat→Int)→Int
 | 0,_=>1
 | n+1,f=>QU n f * f n
theorem Q8{f:Nat→Int}:∀ {n:Nat},(∀ i,i<n→0<f i)→0<QU n f
 | 0,_=>by show (0:Int)<1;decide
 | n+1,h=>Int.mul_pos (Q8 fun i hi=>h i (by omega)) (h n (by omega))
theorem vm{f:Nat→Int}:∀ {n i:Nat},i<n→f i∣QU n f
 | n+1,i,h=>by
   by_cases e:i=n
   · subst e;exact Int.dvd_mul_left ..
   · exact Int.dvd_trans (vm (n:=n) (by omega)) (Int.dvd_mul_right ..)
theorem Xb{f:Nat→Int}{k:Nat}:∀ {n:Nat},(∀ i,i<n→L2.Sz k (f i))→L2.Sz (k * n+1) (QU n f)
 | 0,_=>by show (1:Int).natAbs<2 ^ (k * 0+1);simp
 | n+1,h=>(L2.Sz.mul (Xb fun i hi=>h i (by omega)) (h n (by omega))).mono (by rw[Nat.mul_add];omega)
noncomputable def Mw(ps:List (Int×Int))(A:Int×Int)(S:Int)(n:Nat):Int:=A.2 * S * QU n (fun i=>(max 1 (outs ps (i:Int)).length:Nat))
theorem Ud{A:Int×Int}{n d:Int}(h:Fr A n d):A.2∣d:=by
 have w:=h.w
 have:A.2∣A.1 * d:=⟨n,by rw[w];exact Int.mul_comm ..⟩
 exact Yr this h.canon.2
theorem z3c{A B:Int×Int}{c m:Int}(a:Canon A)(b:Canon B)(hm:m≠0):Fr (YF A B c m) (A.1 * B.1 * m+(A.2 - A.1) * c * B.2) (A.2 * B.2 * m):=by
 have e:=xX (c:=c) a b hm
 have ha:=zE a
 have hb:=zE b
 refine⟨xP a b hm,Int.mul_ne_zero (Int.mul_ne_zero ha hb) hm,?_⟩
 have h1:=Zi ha
 have h2:=Zi hb
 have h3:=Zi hm
 have h4:=Zi (zE (xP (c:=c) a b hm))
 unfold val at e
 have:(((YF A B c m).1 * (A.2 * B.2 * m):Int):Rat)=(((A.1 * B.1 * m+(A.2 - A.1) * c * B.2) * (YF A B c m).2:Int):Rat):=by
  generalize (YF A B c m).1=x at *
  generalize (YF A B c m).2=y at *
  push_cast
  grind
 exact_mod_cast this
theorem qZ{ps:List (Int×Int)}{A:Int×Int}{Bs:List (Int×Int)}{S:Int}{n i:Nat}(a:Canon A)(b:zW Bs)(hS:∀ B∈Bs,B.2∣S)(hi:i<n):∀ W∈zG ps A Bs i,W.2∣Mw ps A S n:=by
 intro W hW
 unfold zG at hW
 unfold Mw
 split at hW
 · exact Int.dvd_trans (hS W hW) (Int.dvd_trans (Int.dvd_mul_left ..) (Int.dvd_mul_right ..))
 · rename_i h
   obtain⟨t,ht,rfl⟩:=List.mem_map.mp hW
   have hB:=L2.mem_getD (Bs:=Bs) (List.mem_range.mp ht)
   have h1:=Ud (z3c (c:=((outs ps i).count (t:Int):Nat)) a (b _ hB) (yz h))
   refine Int.dvd_trans h1 ?_
   have hm:(((max 1 (outs ps (i:Int)).length:Nat)):Int)=((outs ps (i:Int)).length:Nat):=by
    have:=List.length_pos_iff.mpr h
    omega
   have h2:(((outs ps (i:Int)).length:Nat):Int)∣QU n (fun i=>(max 1 (outs ps (i:Int)).length:Nat)):=by
    rw[← hm];exact vm (f:=fun i=>((max 1 (outs ps (i:Int)).length:Nat):Int)) hi
   obtain⟨u,hu⟩:=hS _ hB
   obtain⟨v,hv⟩:=h2
   rw[hv,hu]
   exact⟨u * v,by grind⟩
theorem UO{ps:List (Int×Int)}{A:Int×Int}{S:Int}{n:Nat}(a:Canon A)(hS:0<S):0<Mw ps A S n :=
 Int.mul_pos (Int.mul_pos a.1 hS) (Q8 fun i _=>by omega)
theorem z3h{ps:List (Int×Int)}{A:Int×Int}{S:Int}{n:Nat}(sa:L2.Sz 100 A.2)(sS:L2.Sz 700 S)(few:ps.length≤100)(hn:n≤13):L2.Sz 892 (Mw ps A S n):=by
 refine (L2.Sz.mul (L2.Sz.mul sa sS) (Xb (k:=7) fun i _=>?_)).mono (by omega)
 have:=ZO ps (i:Int)
 show ((max 1 (outs ps (i:Int)).length:Nat):Int).natAbs<2 ^ 7
 omega
theorem z6H{A B:Int×Int}{c m:Int}(a:Canon A)(b:Canon B)(a0:0≤A.1)(a1:A.1≤A.2)(b0:0≤B.1)(c0:0≤c)(hm:0<m):0≤val (YF A B c m):=by
 rw[xX a b (by omega)]
 have h1:=Xz a.1 a0
 have h2:=jB a.1 a1
 have h3:=Xz b.1 b0
 have h4:=UN (cnn c0) (cpos hm)
 have h5:=yd h1 h3
 have h6:=yd (a:=1 - val A) (by grind) h4
 grind
theorem uV{f:Nat→Rat}:∀ {n k:Nat},k<n→(∀ i,i<n→0≤f i)→f k≤qs n f
 | n+1,k,hk,h=>by
   show f k≤qs n f+f n
   by_cases e:k=n
   · subst e
     have:=Xw (n:=k) (f:=f) fun i hi=>h i (by omega)
     grind
   · have h1:=uV (n:=n) (k:=k) (by omega) fun i hi=>h i (by omega)
     have h2:=h n (by omega)
     grind
theorem z2O{ps:List (Int×Int)}{A:Int×Int}{Bs:List (Int×Int)}{page:Int}(a:Canon A)(b:zW Bs)(a0:0≤A.1)(a1:A.1≤A.2)(nn:∀ B∈Bs,0≤B.1):∀ W∈zG ps A Bs page,0≤val W:=by
 intro W hW
 unfold zG at hW
 split at hW
 · exact Xz (b W hW).1 (nn W hW)
 · rename_i h
   obtain⟨t,ht,rfl⟩:=List.mem_map.mp hW
   have hB:=L2.mem_getD (Bs:=Bs) (List.mem_range.mp ht)
   have:=List.length_pos_iff.mpr h
   exact z6H a (b _ hB) a0 a1 (nn _ hB) (by omega) (by omega)
theorem vO{n:Nat}{ps:List (Int×Int)}{A:Int×Int}{Bs:List (Int×Int)}{page:Int}{t:Nat}(ok:∀ p∈ps,0≤p.2∧p.2<(n:Int))(a:Canon A)(b:zW Bs)(a0:0≤A.1)(a1:A.1≤A.2)(nn:∀ B∈Bs,0≤B.1)(hn:Bs.length=n)(h1:qs n (fun t=>val (Bs.getD t (0,1)))=1)(ht:t<n) :
 0≤val ((zG ps A Bs page).getD t (0,1))∧val ((zG ps A Bs page).getD t (0,1))≤1:=by
 have hw:=z2O (ps:=ps) (page:=page) a b a0 a1 nn
 have hl:=ZX ps A Bs page
 have hall:∀ i,i<n→0≤val ((zG ps A Bs page).getD i (0,1)):=fun i hi=>hw _ (L2.mem_getD (by omega))
 refine⟨hall t ht,?_⟩
 have:=uV (f:=fun t=>val ((zG ps A Bs page).getD t (0,1))) ht hall
 rwa [Ym ok a b hn h1] at this
noncomputable def Qv(ps:List (Int×Int))(A:Int×Int)(Bs Rs:List (Int×Int))(n t:Nat):Rat:=qs n (fun i=>val (Rs.getD i (0,1)) * val ((zG ps A Bs i).getD t (0,1)))
noncomputable def YM(ps:List (Int×Int))(A:Int×Int)(Bs Rs:List (Int×Int)):List (Int×Int):=(List.range Bs.length).map fun t=>ZL (Qv ps A Bs Rs Bs.length t)
theorem um(ps:List (Int×Int))(A:Int×Int)(Bs Rs:List (Int×Int)):(YM ps A Bs Rs).length=Bs.length:=by unfold YM;simp
end Pw
namespace L2
open PySem PySem.Spec PyProof.Rows
theorem Vh{M:Model}{A:Around}{E:Value→Shared→Prop}{s:Shared}{xo:Str}{scope:Scope}{globals:Addr}{cl:List (Str×Addr)}{qual:Str}{around:Env}{Q:Env→Shared→Prop}
 (hcf:∀ (n:Addr) (l:List (Str×Addr)),cellsFrom n scope.names l=(xo,n) :: l) (hpc:∀ h:Heap,pushCells h scope.names=h.push { cls:=.type "cell",data:=.cell none })
 (q:∀ h₁:Heap,h₁.Ns s.heap.objs.size (fun _=>none)→(∀ b o,s.heap.get? b=some o→h₁.get? b=some o)→h₁.IsCell (s.heap.objs.size+1) none→Q (newEnv scope s.heap.objs.size globals ((xo,s.heap.objs.size+1) :: cl) qual none .none (some around) builtinsNs) { s with heap:=h₁ }) :
 wpAny M A (newFunctionEnv scope globals cl [] qual none .none (some around)) Q E s:=by
 simp only[newFunctionEnv,Option.isSome_some,if_true]
 refine wpAny_bind (wpAny_alloc ?_);refine wpAny_bind (wpAny_layCells _ (fun name kind cells=>by cases hkc:kind == NameKind.cell <;> simp[hkc]) _ _ _ _ ?_)
 have z:({ s with heap:=s.heap.push { cls:=.type "dict",data:=.dict #[] } }:Shared).heap.objs.size=s.heap.objs.size+1:=Heap.size_push ..
 rw[hcf,hpc,z]
 simp only[List.forIn_nil]
 refine wpAny_bind (wpAny_pure (wpAny_pure (q _ ((Heap.Ns.new s.heap (.type "dict")).keeps fun b o e=>Heap.get?_push_of_some _ e) (fun b o e=>Heap.get?_push_of_some _ (Heap.get?_push_of_some _ e)) ⟨{ cls:=.type "cell",data:=.cell none },?_,rfl⟩)))
 have:=Heap.get?_push_size (s.heap.push { cls:=.type "dict",data:=.dict #[] }) (o:={ cls:=.type "cell",data:=.cell none }) rfl
 rw[show (s.heap.push { cls:=.type "dict",data:=.dict #[] }).objs.size=s.heap.objs.size+1 from Heap.size_push ..] at this
 exact this
noncomputable def Z2(xo:Str)(X:Cx)(N':List Str)(scope:Scope)(cl:List (Str×Addr))(C:Addr)(s:Shared)(H:Hp)(fp:List Addr):Cx :=
 { Zw X N' scope ((xo,C+1) :: cl) C s H fp with fn:=fun y=>y == xo }
section
variable{X:Cx}
theorem z0B{xo:Str}{tg iter elt:Expr}{ifs:List Expr}{scope:Scope}{pos:Pos}{N':List Str}{ks:List (Option Nat)}{cl:List (Str×Addr)}{wi:TI}{g:TG}{tt:TT}{te:TE}
 (hcalm:X.calm=true) (hi:PI X tg iter wi) (hclos:closureFor scope X.env=pure cl) (hcl:∀ x c,cl.lookup x=some c→X.env.cells.lookup x=some c)
 (hcf:∀ (n:Addr) (l:List (Str×Addr)),cellsFrom n scope.names l=(xo,n) :: l) (hpc:∀ h:Heap,pushCells h scope.names=h.push { cls:=.type "cell",data:=.cell none }) (hno:∀ (i k:Nat),ks[i]?=some (some k)→N'[i]?≠some xo) (hkind:scope.kind=.function) (hnames:∀ y∈scope.names,y.2=.local→scope.names.lookup y.1=some .local)
 (hhas:∀ x,((relabel scope X.env).names.lookup x=some .cell∨(relabel scope X.env).names.lookup x=some .free)→x=xo∨∃ c,cl.lookup x=some c)
 (hcap:QV X (relabel scope X.env) N' ks)
 (hg:∀ C s H fp,PG (Z2 xo X N' scope cl C s H fp) tg g) (ht:∀ C s H fp,PTs (Z2 xo X N' scope cl C s H fp) ifs tt) (he:∀ C s H fp,PE (Z2 xo X N' scope cl C s H fp) elt te)
 (hs:∀ x,foldedSetIterable iter X.env x=pure x:=by intro _;rfl):PE X (.ListComp elt [⟨tg,iter,ifs,0⟩] scope pos) (Qt wi ks g tt te):=by
 intro pins s σ H Q I h
 rw[eval_ListComp]
 refine wpAny_comprehension_free (use:=none) rfl hs hclos hkind hnames (Zt (hi pins s σ H _ I h) fun v s1 h1=>Zt h1 fun itv s2 h2=>?_)
 obtain⟨it,fp,tn,J,H2,e,I2,T,st2,f2,R⟩:=h2
 subst e
 refine wpAny_newObj_type (Vh hcf hpc (fun h₁ hns₁ hkp₁ hce₁=>?_))
 dsimp only at hns₁ hkp₁ hce₁ ⊢
 have hD:H2 s2.heap.objs.size=none:=I2.hok.fresh (Nat.le_refl _)
 obtain⟨W,⟨m0,w0⟩,turn⟩:=R _ hD
 generalize hs3:({ s2 with heap:=s2.heap.push { cls:=.type "list",dict:=none,data:=.seq ([]:List Value).toArray } }:Shared)=s3
 have e3:s3.heap=s2.heap.push { cls:=.type "list",dict:=none,data:=.seq ([]:List Value).toArray }:=by rw[← hs3]
 have I3:Inv X pins σ (upd H2 s2.heap.objs.size (.lst [])) s3:=by
  rw[← hs3]
  exact I2.laid (t':=s2.toks) (fun b o e=>Heap.get?_push_of_some _ e) (Nat.le_refl _) ⟨Nat.zero_le _,[],0,.nil,Heap.get?_push_size _ rfl⟩
 generalize hD0:s2.heap.objs.size=D at *
 generalize hH3:upd H2 D (.lst [])=H3 at *
 rw[← e3] at hns₁ hkp₁ hce₁ ⊢
 have kp:∀ b o,s3.heap.get? b=some o→h₁.get? b=some o:=hkp₁
 have lk:∀ y c,((xo,s3.heap.objs.size+1) :: cl).lookup y=some c→(y=xo∧c=s3.heap.objs.size+1)∨cl.lookup y=some c:=fun y c e=>by
  rw[List.lookup_cons] at e
  cases hb:y == xo with
  | true=>rw[hb] at e;cases e;exact .inl ⟨beq_iff_eq.mp hb,rfl⟩
  | false=>rw[hb] at e;exact .inr e
 have lk2:∀ y c,y≠xo→cl.lookup y=some c→((xo,s3.heap.objs.size+1) :: cl).lookup y=some c:=fun y c hy e=>by
  rw[List.lookup_cons,beq_eq_false_iff_ne.mpr hy];exact e
 have small:∀ y c,cl.lookup y=some c→c<s3.heap.objs.size:=fun y c e=>by
  obtain⟨v,q⟩:=I3.cell y c (hcl y c e)
  exact q.lt
 have f3:∀ b∈fp,Z7 X pins H3 b∧b<s3.heap.objs.size:=fun b hb=>by
  obtain⟨o,ho,_⟩:=T.obj 0 _ st2 b hb
  have hlt:b<D:=by rw[← hD0];exact Heap.lt_size ho
  refine⟨⟨?_,(f2 b hb).2⟩,?_⟩
  · rw[← hH3,zp (Nat.ne_of_lt hlt)];exact (f2 b hb).1
  · rw[e3,Heap.size_push,hD0];exact Nat.lt_succ_of_lt hlt
 have st3:tn 0 h₁:=T.keep 0 s2.heap h₁ st2 fun b hb o e=>kp b o (by rw[e3];exact Heap.get?_push_of_some _ e)
 have capK:∀ x c,cl.lookup x=some c→X.env.cells.lookup x=some c:=hcl
 have stkne:∀ b∈fp,b∉frs X.stack:=fun b hb z=>by
  rcases List.mem_cons.mp (I3.qG b z) with e | e
  · exact (f3 b hb).1.2.1 e
  · exact (f3 b hb).1.2.2.1 e
 have Cfresh:H3 s3.heap.objs.size=none:=I3.hok.fresh (Nat.le_refl _)
 have ok':(Z2 xo X N' scope cl s3.heap.objs.size s3 H3 fp).Ok:=by
  refine⟨I3.ok.mod,hkind,I3.ok.glob,I3.ok.blt,Nat.le_refl _,fun x y c h1 h2=>?_,fun x hx=>?_,fun x c hf h1=>?_,fun z=>I3.ok.hd z,I3.ok.frames,.inl rfl,
   fun b hb=>⟨Nat.ne_of_lt (f3 b hb).2,fun x c e=>?_⟩,I3.bs,Nat.le_trans I3.ok.bsz I3.sz,fun b o e hb=>?_,fun b hb=>stkne b hb,I3.stack,I3.ql⟩
  · rcases lk x c h1 with⟨a1,a2⟩| a <;> rcases lk y c h2 with⟨b1,b2⟩| b
    · rw[a1,b1]
    · exact absurd (small y c b) (by rw[a2];exact Nat.not_lt.mpr (Nat.le_succ _))
    · exact absurd (small x c a) (by rw[b2];exact Nat.not_lt.mpr (Nat.le_succ _))
    · exact I3.ok.inj x y c (capK x c a) (capK y c b)
  · by_cases hxo:x=xo
    · subst hxo;exact⟨_,List.lookup_cons_self⟩
    · rcases hhas x hx with z |⟨c,z⟩
      · exact absurd z hxo
      · exact⟨c,lk2 x c hxo z⟩
  · have hf:(x == xo)=true:=hf
    rcases lk x c h1 with⟨_,a2⟩| a
    · rw[a2];exact Nat.le_succ _
    · have h1:((xo,s3.heap.objs.size+1) :: cl).lookup x=some c:=h1
      rw[beq_iff_eq.mp hf,List.lookup_cons_self] at h1
      cases h1
      exact Nat.le_succ _
  · rcases lk x c e with⟨_,a2⟩| a
    · rw[a2];exact Nat.ne_of_gt (Nat.lt_succ_of_lt (f3 b hb).2)
    · exact (f3 b hb).1.2.2.2.2.1 x c (capK x c a)
  rcases (f3 b hb).1.2.2.2.1 with z | z
  · exact I3.ok.noex b o e z
  · exact absurd (Nat.lt_of_lt_of_le (Heap.lt_size e) (Nat.le_trans I3.ok.bsz z)) (Nat.lt_irrefl _)
 have I4:Inv (Z2 xo X N' scope cl s3.heap.objs.size s3 H3 fp) [] (xg ks σ) H3 { s3 with heap:=h₁ }:=by
  refine⟨ok',rfl,I3.bare,Un.kept kp,⟨_,hns₁,fun i x v e1 e2 e3'=>?_⟩,fun x c e=>?_,Cfresh,fun x c e=>?_,fun p hp=>absurd (show p∈([]:List (Addr×Obj)) from hp) (by simp),I3.hok.kept kp,?_⟩
  · have e2':(xg ks σ)[i]?=some (some v):=e2
    unfold xg at e2'
    rw[List.getElem?_map] at e2'
    cases hk:ks[i]? with
    | none=>rw[hk] at e2';cases e2'
    | some o =>
      rw[hk] at e2'
      cases o with
      | none=>cases e2'
      | some k =>
        have ev:σ.getD k none=some v:=Option.some.inj e2'
        obtain⟨c1,c2,c3⟩:=hcap.get e1 hk
        obtain⟨m,hn,hl⟩:=I3.loc
        have es:σ[k]?=some (some v):=by
         rw[List.getD_eq_getElem?_getD] at ev
         cases q:σ[k]? with
         | none=>rw[q] at ev;cases ev
         | some z=>rw[q] at ev;exact congrArg some ev
        obtain⟨u,r,l⟩:=hl k x v c1 es (.inr (.inl c2))
        refine⟨u,r,.inr ⟨c3,?_⟩⟩
        rcases l with⟨l1,_⟩|⟨_,c,l2,l3⟩
        · have l1':X.env.scope.names.lookup x=some .local:=l1
          rw[c2] at l1';cases l1'
        · have hxo:x≠xo:=fun z=>hno i k hk (by have e1:N'[i]?=some x:=e1;rw[e1,z])
          obtain⟨c',hc'⟩:=(hhas x c3).resolve_left hxo
          have:X.env.cells.lookup x=some c':=capK x c' hc'
          rw[l2] at this
          cases this
          refine⟨c,lk2 x c hxo hc',?_⟩
          obtain⟨o,ho,hd⟩:=l3
          exact⟨o,kp c o ho,hd⟩
  · rcases lk x c e with⟨_,a2⟩| a
    · rw[a2];exact⟨_,hce₁⟩
    · obtain⟨v,o,ho,hd⟩:=I3.cell x c (capK x c a)
      exact⟨v,o,kp c o ho,hd⟩
  · rcases lk x c e with⟨_,a2⟩| a
    · rw[a2];exact I3.hok.fresh (Nat.le_succ _)
    · exact I3.freeC x c (capK x c a)
  · show (xg ks σ).length=N'.length
    unfold xg
    rw[List.length_map,hcap.len]
 have Cne:∀ p∈X.pn ++ pins,p.1≠s3.heap.objs.size:=fun p hp=>Nat.ne_of_lt (Heap.lt_size (I3.pin p hp).1)
 have back:∀ {σ':St}{H':Hp}{s':Shared},Inv (Z2 xo X N' scope cl s3.heap.objs.size s3 H3 fp) [] σ' H' s'→∀ h'':Heap,Heap.SameBut s3.heap.objs.size s'.heap h''→Inv X pins σ H' { s' with heap:=h'' }:=fun {σ' H' s'} I' h'' sb=>by
  have J1:Inv X pins σ H' s':=I3.jW (ch:=fp) I'.os I'.base I'.hok I'.bare fun b hb=>⟨(f3 b hb).1.2.2.2.1,(f3 b hb).1.2.1,(f3 b hb).1.2.2.2.2.1,(f3 b hb).1.2.2.2.2.2⟩
  refine J1.turned (t':=s'.toks) (it:=s3.heap.objs.size) (fun b o hb e=>(sb.2 b hb).trans e) I'.free (Nat.ne_of_gt I3.lt) (.inr I3.sz) (fun x c e=>?_) Cne
  obtain⟨v,q⟩:=I3.cell x c e
  exact Nat.ne_of_lt q.lt
 have fpok:∀ {H':Hp},(∀ b∈fp,H' b=none)→∀ b∈fp,Z7 (Z2 xo X N' scope cl s3.heap.objs.size s3 H3 fp) [] H' b:=fun hn b hb =>
  ⟨hn b hb,Nat.ne_of_lt (f3 b hb).2,stkne b hb,.inl hb,fun x c e=>by
      rcases lk x c e with⟨_,a2⟩| a
      · rw[a2];exact Nat.ne_of_gt (Nat.lt_succ_of_lt (f3 b hb).2)
      · exact (f3 b hb).1.2.2.2.2.1 x c (capK x c a),fun p hp=>absurd (show p∈([]:List (Addr×Obj)) from hp) (by simp)⟩
 have loop:codeAny (model X.prog X.w) X.A (.compLoop (.ListComp elt [⟨tg,iter,ifs,0⟩] scope pos) 0 (.ref it) (.ref D) (compEnvC scope ((xo,s3.heap.objs.size+1) :: cl) s3.heap.objs.size X.env))
  (compPost (model X.prog X.w) X.A X.xe none (EP X pins σ Q) (.ref D) s3.heap.objs.size) { s3 with heap:=h₁ }:=by
  refine Yt (fun n s'=>∃ i ys σ' H',Inv (Z2 xo X N' scope cl s3.heap.objs.size s3 H3 fp) [] σ' H' s'∧tn i s'.heap∧(∀ b∈fp,H' b=none)∧W i n ys σ' H') ?_ m0 ⟨0,[],_,_,I4,st3,fun b hb=>(f3 b hb).1.1,w0⟩
  rintro n s5 ⟨i,ys,σ5,H5,I5,st5,fr5,w5⟩
  obtain⟨hD5,tq⟩:=turn i n ys σ5 H5 w5
  rcases tq with⟨stop,q⟩|⟨go,step⟩
  · refine Zt (T.done (Z2 xo X N' scope cl s3.heap.objs.size s3 H3 fp) rfl rfl rfl hcalm i [] s5 σ5 H5 _ I5 (fpok fr5) st5 stop) fun r s6 ⟨hr,I6⟩=>?_
    subst hr
    obtain⟨m,hn,_⟩:=I6.loc
    exact⟨m,hn,fun h'' sb=>⟨.ref D,H5,back I6 h'' sb,rfl,q⟩⟩
  · refine Zt (T.item (Z2 xo X N' scope cl s3.heap.objs.size s3 H3 fp) rfl rfl rfl hcalm i [] s5 σ5 H5 _ I5 (fpok fr5) st5 go) fun r s6 ⟨u,hr,h6⟩=>?_
    subst hr
    refine Zt h6 fun _ s7 ⟨x,H7,I7,r7,y7,st7,fr7⟩=>?_
    have I7':=I7.pinned (fpok fr7) (T.obj _ _ st7)
    refine Zt (hg _ _ _ _ _ s7 σ5 H7 x u _ I7' r7 (step x H7 y7)) fun _ s8 ⟨σ8,H8,I8,q8⟩=>?_
    refine Zt (ht _ _ _ _ _ s8 σ8 H8 _ I8 q8) fun ok s9 ⟨H9,I9,q9⟩=>?_
    have again:∀ {σ':St}{H':Hp}{s':Shared}{ys':List V},Inv (Z2 xo X N' scope cl s3.heap.objs.size s3 H3 fp) ([] ++ xK fp s7.heap) σ' H' s'→(∃ m',m'<n∧W (i+1) m' ys' σ' H') →
     ∃ m',m'<n∧∃ i ys σ' H',Inv (Z2 xo X N' scope cl s3.heap.objs.size s3 H3 fp) [] σ' H' s'∧tn i s'.heap∧(∀ b∈fp,H' b=none)∧W i m' ys σ' H':=fun {σ' H' s' ys'} I' hw=>by
     obtain⟨m',hm,w'⟩:=hw
     refine⟨m',hm,i+1,ys',σ',H',I'.Yo,T.keep _ _ _ st7 fun b hb o e=>(I'.pin (b,o) (List.mem_append_right _ (List.mem_append_right _ (ZS hb e)))).1,fun b hb=>?_,w'⟩
     obtain⟨o,e,d⟩:=T.obj _ _ st7 b hb
     exact (I'.pin (b,o) (List.mem_append_right _ (List.mem_append_right _ (ZS hb e)))).2.1
    cases ok with
    | false =>
      rw[if_neg Bool.false_ne_true] at q9 ⊢
      exact again I9 q9
    | true =>
      rw[if_pos rfl] at q9 ⊢
      refine Zt (he _ _ _ _ _ s9 σ8 H9 _ I9 q9) fun y s10 ⟨yv,H10,I10,r10,q10,z10,w10⟩=>?_
      refine Zt (ym _ s10 σ8 H10 (.ref D) [yv] (.ref D) [y] (fun v H'=>v=.non∧H'=upd H10 D (.lst (ys ++ [yv]))) I10 rfl (.cons r10 .nil) ⟨D,ys,yv,rfl,rfl,q10,z10,rfl,rfl⟩) fun _ s11 ⟨_,H11,I11,_,_,e11⟩=>?_
      subst e11
      exact again I11 w10
 have es:({ s3 with heap:=h₁ }:Shared)={ s2 with heap:=h₁ }:=by rw[← hs3]
 rw[es] at loop
 exact codeAny_compStart_list loop (T.self _ 0 _ _ _ st3 loop)
theorem j9(xo:Str){tg iter elt:Expr}{ifs:List Expr}{scope:Scope}{pos:Pos}(N':List Str)(ks:List (Option Nat)){wi:TI}{g:TG}{tt:TT}{te:TE}
 (hcalm:X.calm=true) (hi:PI X tg iter wi) (hfree:∀ y∈scope.names,y.2=.free→X.env.scope.names.lookup y.1=some .cell)
 (hcf:∀ (n:Addr) (l:List (Str×Addr)),cellsFrom n scope.names l=(xo,n) :: l) (hpc:∀ h:Heap,pushCells h scope.names=h.push { cls:=.type "cell",data:=.cell none }) (hno:∀ (i k:Nat),ks[i]?=some (some k)→N'[i]?≠some xo) (hcell:∀ y∈scope.names,y.2=.cell→y.1=xo) (hkind:scope.kind=.function) (hnames:∀ y∈scope.names,y.2=.local→scope.names.lookup y.1=some .local)
 (hcap:QV X (relabel scope X.env) N' ks)
 (hg:∀ cl C s H fp,PG (Z2 xo X N' scope cl C s H fp) tg g) (ht:∀ cl C s H fp,PTs (Z2 xo X N' scope cl C s H fp) ifs tt) (he:∀ cl C s H fp,PE (Z2 xo X N' scope cl C s H fp) elt te)
 (hs:∀ x,foldedSetIterable iter X.env x=pure x:=by intro _;rfl):PE X (.ListComp elt [⟨tg,iter,ifs,0⟩] scope pos) (Qt wi ks g tt te):=by
 intro pins s σ H Q I h
 obtain⟨cl,e1,e2,e3⟩:=xF (scope:=scope) (env:=X.env) fun y hy hf=>I.ok.has y.1 (.inl (hfree y hy hf))
 refine z0B hcalm hi e1 e2 hcf hpc hno hkind hnames (fun x hx=>?_) hcap (hg cl) (ht cl) (he cl) hs pins s σ H Q I h
 have key:∀ k,(x,k)∈(relabel scope X.env).names→k=.cell∨k=.free→x=xo∨(x,NameKind.free)∈scope.names:=fun k hm hk=>by
  unfold relabel at hm
  obtain⟨⟨n,k'⟩,hy,e⟩:=List.mem_map.mp hm
  dsimp only at e
  split at e
  · rename_i hc
    cases e
    have:k'=.free:=by simp at hc;exact hc.1.1
    exact .inr (by rw[← this];exact hy)
  · cases e
    rcases hk with rfl | rfl
    · exact .inl (hcell _ hy rfl)
    · exact .inr hy
 rcases hx with hx | hx
 · exact (key _ (PySem.mem_of_lookup hx) (.inl rfl)).imp id (e3 x)
 · exact (key _ (PySem.mem_of_lookup hx) (.inr rfl)).imp id (e3 x)
end
end L2
namespace L2
open PySem PySem.Spec PyProof.Rows
theorem Vp{k:Nat}{L g:Int}(hL:0<L)(hg:0<g)(z:Sz k L):Sz k (L.fdiv g):=by
 have z':L.natAbs<2 ^ k:=z
 show (L.fdiv g).natAbs<2 ^ k
 rw[Int.fdiv_eq_ediv_of_nonneg _ (by omega)]
 have h1:0≤L / g:=Int.ediv_nonneg (by omega) (by omega)
 have h2:L / g≤L:=Int.ediv_le_self _ (by omega)
 omega
theorem jV{k:Nat}{x y:Int}(h0:0≤x)(h:x≤y)(z:Sz k y):Sz k x:=by
 have z':y.natAbs<2 ^ k:=z
 show x.natAbs<2 ^ k
 omega
theorem z4B{x y:Int}(hy:0<y):0<(Int.gcd x y:Int)∧(Int.gcd x y:Int)≤y :=
 ⟨Pw.z0k (by omega),Int.le_of_dvd hy (Int.gcd_dvd_right ..)⟩
noncomputable def jO(K:PySem.W.Frag):Sp:=fun vs H Q _=>∃ (b:Bool) (a:Addr) (us:List V) (As:List (Int×Int)) (M:Int),vs=[.ref a]∧Sq b K H a us∧Zl K H As us∧(∀ A∈As,0<A.2)∧0<M∧Sz 8000 M∧(∀ A∈As,A.2∣M)∧∀ L,Pw.yU As L→Q (.int L) H
noncomputable def qx(K:PySem.W.Frag):Sp:=fun vs H Q _=>∃ (b:Bool) (a:Addr) (us:List V) (As:List (Int×Int)) (L:Int),vs=[.ref a,.int L]∧Sq b K H a us∧Zl K H As us∧As.length≤100∧(∀ A∈As,0<A.2∧Z9 8000 A)∧0<L∧Sz 8000 L ∧
 ∀ (p:Addr) (H':Hp),zu H H'→H p=none→H' p=some (.lst ((Pw.xx As L).map V.int))→Q (.ref p) H'
noncomputable def Xg(K:PySem.W.Frag):Sp:=fun vs H Q _=>∃ (w lp ls ro:Addr) (pages:Int) (ps:List (Int×Int)) (A:Int×Int) (Bs Rs:List (Int×Int)) (us rs:List V) (S D C:Int),vs=[.ref w,.ref lp,.ref ls,.ref ro]∧Gv K H w lp ls pages ps A Bs us∧Pr A Bs S∧H ro=some (.tup rs)∧Zl K H Rs rs∧Rw Rs pages.toNat D C ∧
 ∀ (t:Addr) (H':Hp) (ys:List V),zu H H'→H' t=some (.tup ys)→Zl K H' (Pw.YM ps A Bs Rs) ys→Q (.ref t) H'
theorem yU.z0g{As:List (Int×Int)}{L M:Int}(h:Pw.yU As L)(hM:0<M)(hd:∀ A∈As,A.2∣M){k:Nat}(z:Sz k M):Sz k L:=jV (Int.le_of_lt h.pos) (h.le hM hd) z
theorem z0X{k:Nat}:∀ {ns:List Int},(∀ n∈ns,Sz k n)→Sz (k+ns.length) ns.sum
 | [],_=>by show (0:Int).natAbs<2 ^ (k+0);exact Nat.two_pow_pos _
 | n :: ns,h=>by
   have h1:=z0X (ns:=ns) fun m hm=>h m (List.mem_cons_of_mem _ hm)
   have h2:=h n List.mem_cons_self
   rw[List.sum_cons]
   exact ((h2.mono (by omega)).add h1).mono (by rw[List.length_cons];omega)
theorem yp{ns:List Int}{i:Nat}(h:i<ns.length):ns[i]?=some (ns.getD i 0):=by
 rw[List.getD_eq_getElem?_getD,List.getElem?_eq_getElem h];rfl
theorem zW.pos{As:List (Int×Int)}(h:Pw.zW As):∀ A∈As,0<A.2:=fun A hA=>(h A hA).1
end L2
namespace L2
open PySem PySem.Spec PyProof.Rows
theorem z1h{xo:Str}{N:List Str}{ks:List (Option Nat)}(h:xo∉N):∀ (i k:Nat),(none :: ks)[i]?=some (some k)→(xo :: N)[i]?≠some xo
 | 0,k,e=>by simp at e
 | i+1,k,_=>fun z=>h (List.mem_of_getElem? (by simpa using z))
noncomputable def VD(K:PySem.W.Frag)(H:Hp)(ps:List (Int×Int))(A:Int×Int)(Bs:List (Int×Int))(n:Nat)(us:List V):Prop :=
 us.length=n∧∀ i,i<n→∃ q ys,us[i]?=some (.ref q)∧H q=some (.tup ys)∧Zl K H (Pw.zG ps A Bs i) ys
theorem VD.kl{K:PySem.W.Frag}{H H':Hp}{ps:List (Int×Int)}{A:Int×Int}{Bs:List (Int×Int)}{n:Nat}{us:List V}(h:VD K H ps A Bs n us)(k:KL H H'):VD K H' ps A Bs n us :=
 ⟨h.1,fun i hi=>by
  obtain⟨q,ys,a,b,c⟩:=h.2 i hi
  exact⟨q,ys,a,k.tup b,c.kp k⟩⟩
theorem VD.snoc{K:PySem.W.Frag}{H:Hp}{ps:List (Int×Int)}{A:Int×Int}{Bs:List (Int×Int)}{n:Nat}{us:List V}(h:VD K H ps A Bs n us){q:Addr}{ys:List V}(hq:H q=some (.tup ys))(f:Zl K H (Pw.zG ps A Bs n) ys):VD K H ps A Bs (n+1) (us ++ [.ref q]):=by
 refine⟨by rw[List.length_append,h.1];rfl,fun i hi=>?_⟩
 by_cases e:i=n
 · subst e
   exact⟨q,ys,by rw[← h.1];simp,hq,f⟩
 · obtain⟨q',ys',a,b,c⟩:=h.2 i (by omega)
   exact⟨q',ys',by rw[List.getElem?_append_left (by rw[h.1];omega)];exact a,b,c⟩
end L2
namespace L2
open PySem PySem.Spec PyProof.Rows
theorem z2V{W:Int×Int}{M:Int}(c:Pw.Canon W)(h:W.2∣M):∃ m:Int,Pw.val W * (M:Rat)=(m:Rat):=by
 obtain⟨u,rfl⟩:=h
 refine⟨W.1 * u,?_⟩
 have:=Pw.Zi (Pw.zE c)
 unfold Pw.val
 rw[Rat.intCast_mul,Rat.intCast_mul]
 grind
section
variable{ps:List (Int×Int)}{A:Int×Int}{Bs Rs:List (Int×Int)}{S D C:Int}{n:Nat}
theorem j4(lk:∀ p∈ps,0≤p.2∧p.2<(n:Int))(ca:Pw.Canon A)(cb:Pw.zW Bs)(hn:Bs.length=n)(pr:Pr A Bs S)(rw:Rw Rs n D C){i t:Nat}(hi:i<n)(ht:t<n) :
 Pw.Bd (D * Pw.Mw ps A S n) (C:Rat) (Pw.val (Rs.getD i (0,1)) * Pw.val ((Pw.zG ps A Bs i).getD t (0,1))):=by
 have hR:=rw.bd (mem_getD (Bs:=Rs) (t:=i) (by have:=rw.len;omega))
 have hW:=mem_getD (Bs:=Pw.zG ps A Bs i) (t:=t) (by rw[Pw.ZX];omega)
 have one:=pr.one
 rw[hn] at one
 obtain⟨w0,w1⟩:=Pw.vO (page:=(i:Int)) lk ca cb (by have:=pr.a0;omega) pr.a1 pr.nn hn one ht
 exact hR.z3k (z2V (Pw.ZJ ca cb _ hW) (Pw.qZ ca cb pr.sdvd hi _ hW)) w0 w1 (Pw.cnn (by have:=rw.cpos;omega))
theorem z1U(lk:∀ p∈ps,0≤p.2∧p.2<(n:Int))(few:ps.length≤100)(ca:Pw.Canon A)(sa:Z9 100 A)(cb:Pw.zW Bs)(hn:Bs.length=n)(h13:n≤13)(pr:Pr A Bs S)(rw:Rw Rs n D C){j t:Nat}(hj:j≤n)(ht:t<n) :
 Z9 2897 (Pw.ZL (Pw.qs j (fun i=>Pw.val (Rs.getD i (0,1)) * Pw.val ((Pw.zG ps A Bs i).getD t (0,1)))))∧(∀ i,i<n→Z9 2897 (Pw.ZL (Pw.val (Rs.getD i (0,1)) * Pw.val ((Pw.zG ps A Bs i).getD t (0,1))))):=by
 have hM:=Pw.UO (ps:=ps) (n:=n) ca pr.spos
 have zM:=Pw.z3h (ps:=ps) (n:=n) sa.2 pr.ssz few h13
 have hC:=rw.cpos
 have hC0:=Pw.cnn (d:=C) (by omega)
 have z:Sz 2897 ((13 * C) * (D * Pw.Mw ps A S n)):=by
  have h0:Sz 4 13:=zR 4 (by decide)
  have h1:=h0.mul (rw.sz.mul zM)
  have e:(13 * C) * (D * Pw.Mw ps A S n)=13 * (C * D * Pw.Mw ps A S n):=by grind
  rw[e]
  exact h1.mono (by decide)
 have hD:=Int.mul_pos rw.dpos hM
 have h13':((13 * C:Int):Rat)=13 * (C:Rat):=by rw[Rat.intCast_mul];rfl
 refine⟨?_,fun i hi=>?_⟩
 · have hb:=Pw.Bd.qs (n:=j) (D:=D * Pw.Mw ps A S n) (C:=(C:Rat)) (f:=fun i=>Pw.val (Rs.getD i (0,1)) * Pw.val ((Pw.zG ps A Bs i).getD t (0,1))) fun i hi=>j4 lk ca cb hn pr rw (by omega) ht
   refine Pw.Bd.sz (C:=13 * C) (hb.mono ?_) hD (by omega) z
   rw[h13']
   refine Pw.ZH ?_ hC0
   have:((j:Int):Rat)≤((13:Int):Rat):=Rat.intCast_le_intCast.mpr (by omega)
   exact this
 · refine Pw.Bd.sz (C:=13 * C) ((j4 lk ca cb hn pr rw hi ht).mono ?_) hD (by omega) z
   rw[h13']
   have:(C:Rat) * 1≤(C:Rat) * 13:=Rat.mul_le_mul_of_nonneg_left (by decide) hC0
   grind
end
end L2
namespace L2
open PySem PySem.Spec PyProof.Rows
theorem Pr.drawn{pages:Int}{A:Int×Int}{ws:List Int}(a0:0<A.1)(a1:A.1≤A.2)(hp:pages≤12)(wt:JW pages ws):Pr A (Uo ws) ws.sum where
 a0:=a0
 a1:=a1
 nn:=z4Y wt
 one:=by rw[U6];exact z2z wt
 spos:=wt.pos
 ssz:=by
  have hl:=wt.len
  have h1:=Pw.qv (B:=2 ^ 37) fun n hn=>Int.le_of_lt (wt.nn n hn).2
  have h2:(ws.length:Int) * 2 ^ 37≤12 * 2 ^ 37:=Int.mul_le_mul_of_nonneg_right (by omega) (by decide)
  have:=wt.pos
  exact (zR (m:=700) 41 (by omega))
 sdvd:=fun B hB=>by
  obtain⟨x,hx,rfl⟩:=List.mem_map.mp hB
  have:=wt.pos
  exact Pw.Ud (Pw.Fr.made (by omega))
end L2
namespace Pw
noncomputable abbrev ZA:=Nat→Rat
noncomputable def expand(r:ZA)(D:List Nat→Rat):List Nat→Rat
 | []=>0
 | c :: cs=>r c * D cs - expand r (fun l=>D (c :: l)) cs
noncomputable def det:List ZA→List Nat→Rat
 | [],_=>1
 | r :: rs,cols=>expand r (det rs) cols
theorem yr{r:ZA}{D E:List Nat→Rat}(h:∀ l,D l=E l):∀ cs,expand r D cs=expand r E cs:=fun cs=>by
 have:D=E:=funext h
 rw[this]
theorem YC(r:ZA):∀ cs,expand r (fun _=>0) cs=0
 | []=>rfl
 | c :: cs=>by
   show r c * 0 - expand r (fun l=>0) cs=0
   rw[YC r cs];grind
theorem Yb(r:ZA)(a b:Rat):∀ (cs:List Nat) (D E:List Nat→Rat),expand r (fun l=>a * D l+b * E l) cs=a * expand r D cs+b * expand r E cs
 | [],D,E=>by show (0:Rat)=a * 0+b * 0;grind
 | c :: cs,D,E=>by
   show r c * (a * D cs+b * E cs) - expand r (fun l=>a * D (c :: l)+b * E (c :: l)) cs=a * (r c * D cs - expand r (fun l=>D (c :: l)) cs)+b * (r c * E cs - expand r (fun l=>E (c :: l)) cs)
   rw[Yb r a b cs];grind
theorem yx(r s:ZA)(a b:Rat):∀ (cs:List Nat) (D:List Nat→Rat),expand (fun c=>a * r c+b * s c) D cs=a * expand r D cs+b * expand s D cs
 | [],D=>by show (0:Rat)=a * 0+b * 0;grind
 | c :: cs,D=>by
   show (a * r c+b * s c) * D cs - expand _ (fun l=>D (c :: l)) cs=a * (r c * D cs - expand r (fun l=>D (c :: l)) cs)+b * (s c * D cs - expand s (fun l=>D (c :: l)) cs)
   rw[yx r s a b cs];grind
theorem yD(r:ZA):∀ (cs:List Nat) (D:List Nat→Rat),expand r (expand r D) cs=0
 | [],D=>rfl
 | c :: cs,D=>by
   show r c * expand r D cs - expand r (fun l=>r c * D l - expand r (fun l=>D (c :: l)) l) cs=0
   have e:expand r (fun l=>r c * D l - expand r (fun l=>D (c :: l)) l) cs=r c * expand r D cs+(-1) * expand r (expand r (fun l=>D (c :: l))) cs:=by
    rw[← Yb]
    exact yr (fun l=>by grind) cs
   rw[e,yD r cs];grind
theorem XX(r s:ZA)(cs:List Nat)(D:List Nat→Rat):expand r (expand s D) cs=-expand s (expand r D) cs:=by
 have h:=yD (fun c=>1 * r c+1 * s c) cs D
 have e:expand (fun c=>1 * r c+1 * s c) (expand (fun c=>1 * r c+1 * s c) D) cs=expand (fun c=>1 * r c+1 * s c) (fun l=>1 * expand r D l+1 * expand s D l) cs:=yr (fun l=>yx r s 1 1 l D) cs
 rw[e,yx,Yb,Yb,yD,yD] at h
 grind
theorem yu{r s:ZA}:∀ {cs:List Nat}{D:List Nat→Rat},(∀ c∈cs,r c=s c)→expand r D cs=expand s D cs
 | [],D,_=>rfl
 | c :: cs,D,h=>by
   show r c * D cs - expand r _ cs=s c * D cs - expand s _ cs
   rw[h c List.mem_cons_self,yu fun x hx=>h x (List.mem_cons_of_mem _ hx)]
theorem YE{r:ZA}:∀ {cs:List Nat}{D:List Nat→Rat},(∀ c∈cs,r c=0)→expand r D cs=0
 | [],D,_=>rfl
 | c :: cs,D,h=>by
   show r c * D cs - expand r _ cs=0
   rw[h c List.mem_cons_self,YE fun x hx=>h x (List.mem_cons_of_mem _ hx)];grind
noncomputable def XM(rs:List ZA)(u:ZA):Prop:=∀ cols,det (u :: rs) cols=0
theorem XM.mem:∀ {rs:List ZA}{r:ZA},r∈rs→XM rs r
 | s :: rs,r,h=>fun cols=>by
   rcases List.mem_cons.mp h with rfl | h
   · exact yD _ _ _
   · show expand r (expand s (det rs)) cols=0
     rw[XX]
     have:expand s (expand r (det rs)) cols=expand s (fun _=>0) cols:=yr (XM.mem h) cols
     rw[this,YC];grind
theorem XM.cons{rs:List ZA}{u s:ZA}(h:XM rs u):XM (s :: rs) u:=fun cols=>by
 show expand u (expand s (det rs)) cols=0
 rw[XX]
 have:expand s (expand u (det rs)) cols=expand s (fun _=>0) cols:=yr h cols
 rw[this,YC];grind
theorem XM.lin{rs:List ZA}{u v:ZA}(a b:Rat)(hu:XM rs u)(hv:XM rs v):XM rs (fun c=>a * u c+b * v c):=fun cols=>by
 have h1:expand u (det rs) cols=0:=hu cols
 have h2:expand v (det rs) cols=0:=hv cols
 show expand _ (det rs) cols=0
 rw[yx,h1,h2];grind
section
variable(A:Nat→ZA)
noncomputable def Rk:Nat→List ZA
 | 0=>[]
 | k+1=>A k :: Rk k
noncomputable def Kk:Nat→List Nat
 | 0=>[]
 | k+1=>k :: Kk k
noncomputable def dd(k:Nat):Rat:=det (Rk A k) (Kk k)
noncomputable def BB(k:Nat)(v:ZA)(j:Nat):Rat:=det (v :: Rk A k) (j :: Kk k)
theorem Yu(k:Nat):dd A (k+1)=BB A k (A k) k:=rfl
theorem X8:dd A 0=1:=rfl
theorem UA:∀ {k c:Nat},c∈Kk k↔c<k
 | 0,c=>by simp[Kk]
 | k+1,c=>by
   show c∈k :: Kk k↔_
   rw[List.mem_cons,UA];omega
theorem vq:∀ {k i:Nat},i<k→A i∈Rk A k
 | k+1,i,h=>by
   show A i∈A k :: Rk A k
   by_cases e:i=k
   · subst e;exact List.mem_cons_self
   · exact List.mem_cons_of_mem _ (vq (by omega))
theorem Vm(k:Nat)(u v:ZA)(a b:Rat)(j:Nat):BB A k (fun c=>a * u c+b * v c) j=a * BB A k u j+b * BB A k v j:=yx u v a b _ _
theorem Xi{k:Nat}{u v:ZA}{j:Nat}(hj:u j=v j)(h:∀ c,c<k→u c=v c):BB A k u j=BB A k v j:=yu fun c hc=>by
 rcases List.mem_cons.mp hc with rfl | hc
 · exact hj
 · exact h c (UA.mp hc)
theorem Yy{k:Nat}{w:ZA}(h:∀ c,c<k→w c=0)(j:Nat):BB A k w j=w j * dd A k:=by
 show w j * det (Rk A k) (Kk k) - expand w _ (Kk k)=w j * dd A k
 rw[YE fun c hc=>h c (UA.mp hc)]
 unfold dd;grind
theorem z4d{k i:Nat}(h:i<k)(j:Nat):BB A k (A i) j=0:=XM.mem (vq A h) _
theorem reduced(k:Nat)(hd:∀ l,l≤k→dd A l≠0):∀ v:ZA,∃ w:ZA,XM (Rk A k) (fun c=>v c - w c)∧∀ c,c<k→w c=0:=by
 induction k with
 | zero =>
   intro v
   refine⟨v,fun cols=>?_,fun c hc=>by omega⟩
   exact YE fun c _=>by grind
 | succ k ih =>
   intro v
   have ih:=ih fun l hl=>hd l (by omega)
   obtain⟨x,nx,zx⟩:=ih v
   obtain⟨y,ny,zy⟩:=ih (A k)
   have hdk:=hd k (by omega)
   have hdk1:=hd (k+1) (by omega)
   have ey:dd A (k+1)=y k * dd A k:=by
    have e1:BB A k (A k) k=BB A k y k:=by
     have:=ny (k :: Kk k)
     have e2:BB A k (fun c=>1 * A k c+(-1) * y c) k=0:=by
      rw[Xi A (v:=fun c=>A k c - y c) (by grind) (fun c _=>by grind)]
      exact this
     rw[Vm] at e2
     grind
    rw[Yu,e1,Yy A zy]
   have hy:y k≠0:=fun z=>hdk1 (by rw[ey,z];grind)
   refine⟨fun c=>x c - x k / y k * y c,?_,fun c hc=>?_⟩
   · have n1:XM (Rk A (k+1)) (fun c=>v c - x c):=nx.cons
     have n2:XM (Rk A (k+1)) (fun c=>A k c - y c):=ny.cons
     have n3:XM (Rk A (k+1)) (A k):=XM.mem (vq A (by omega))
     have n4:=XM.lin 1 (-1) n3 n2
     have n5:=XM.lin 1 (x k / y k) n1 n4
     intro cols
     have:=n5 cols
     rw[← this]
     exact yu fun c _=>by grind
   · show x c - x k / y k * y c=0
     by_cases e:c=k
     · subst e;grind
     · rw[zx c (by omega),zy c (by omega)];grind
theorem qz{k:Nat}{v w:ZA}(hn:XM (Rk A k) (fun c=>v c - w c))(hz:∀ c,c<k→w c=0)(j:Nat):BB A k v j=w j * dd A k:=by
 have e2:BB A k (fun c=>1 * v c+(-1) * w c) j=0:=by
  rw[Xi A (v:=fun c=>v c - w c) (by grind) (fun c _=>by grind)]
  exact hn _
 rw[Vm,Yy A hz] at e2
 grind
theorem vK{k:Nat}(hd:∀ l,l≤k+1→dd A l≠0)(v:ZA)(j:Nat):BB A (k+1) v j * dd A k=dd A (k+1) * BB A k v j - BB A k v k * BB A k (A k) j:=by
 obtain⟨x,nx,zx⟩:=reduced A k (fun l hl=>hd l (by omega)) v
 obtain⟨y,ny,zy⟩:=reduced A k (fun l hl=>hd l (by omega)) (A k)
 have hdk:=hd k (by omega)
 have hdk1:=hd (k+1) (by omega)
 have ey:dd A (k+1)=y k * dd A k:=by rw[Yu];exact qz A ny zy k
 have hy:y k≠0:=fun z=>hdk1 (by rw[ey,z];grind)
 have n1:XM (Rk A (k+1)) (fun c=>v c - x c):=nx.cons
 have n2:XM (Rk A (k+1)) (fun c=>A k c - y c):=ny.cons
 have n3:XM (Rk A (k+1)) (A k):=XM.mem (vq A (by omega))
 have n4:=XM.lin 1 (-1) n3 n2
 have n5:=XM.lin 1 (x k / y k) n1 n4
 have n6:XM (Rk A (k+1)) (fun c=>v c - (x c - x k / y k * y c)):=fun cols=>by
  have:=n5 cols
  rw[← this]
  exact yu fun c _=>by grind
 have z6:∀ c,c<k+1→x c - x k / y k * y c=0:=fun c hc=>by
  by_cases e:c=k
  · subst e;grind
  · rw[zx c (by omega),zy c (by omega)];grind
 rw[qz A n6 z6 j,qz A nx zx j,qz A nx zx k,qz A ny zy j,ey]
 grind
end
noncomputable def ZC(q:Rat):Prop:=∃ n:Int,q=(n:Rat)
theorem ZC.mul{p q:Rat}(a:ZC p)(b:ZC q):ZC (p * q):=by
 obtain⟨x,rfl⟩:=a
 obtain⟨y,rfl⟩:=b
 exact⟨x * y,by rw[Rat.intCast_mul]⟩
theorem ZC.sub{p q:Rat}(a:ZC p)(b:ZC q):ZC (p - q):=by
 obtain⟨x,rfl⟩:=a
 obtain⟨y,rfl⟩:=b
 exact⟨x - y,by rw[Rat.intCast_sub]⟩
theorem Qe{r:ZA}:∀ {cs:List Nat}{D:List Nat→Rat},(∀ c∈cs,ZC (r c))→(∀ l,ZC (D l))→ZC (expand r D cs)
 | [],D,_,_=>⟨0,rfl⟩
 | c :: cs,D,h,hD=>((h c List.mem_cons_self).mul (hD cs)).sub (Qe (fun x hx=>h x (List.mem_cons_of_mem _ hx)) fun l=>hD (c :: l))
theorem vZ:∀ {rs:List ZA},(∀ r∈rs,∀ c,ZC (r c))→∀ cols,ZC (det rs cols)
 | [],_,_=>⟨1,rfl⟩
 | r :: rs,h,cols=>Qe (fun c _=>h r List.mem_cons_self c) (vZ fun x hx=>h x (List.mem_cons_of_mem _ hx))
theorem QI{r:ZA}{U V:Rat}(hU:0≤U)(hV:0≤V)(hr:∀ c,-U≤r c∧r c≤U):∀ {cs:List Nat}{D:List Nat→Rat},(∀ l,l.length+1=cs.length→-V≤D l∧D l≤V)→-(((cs.length:Nat):Rat) * (U * V))≤expand r D cs∧expand r D cs≤((cs.length:Nat):Rat) * (U * V)
 | [],D,_=>by
   show -(((0:Nat):Rat) * (U * V))≤0∧(0:Rat)≤((0:Nat):Rat) * (U * V)
   simp
 | c :: cs,D,hD=>by
   obtain⟨i1,i2⟩:=QI hU hV hr (cs:=cs) (D:=fun l=>D (c :: l)) fun l hl=>hD (c :: l) (by simp only[List.length_cons];omega)
   obtain⟨r1,r2⟩:=hr c
   obtain⟨d1,d2⟩:=hD cs (by simp only[List.length_cons])
   have key:-(U * V)≤r c * D cs∧r c * D cs≤U * V:=by
    have p1:=yd (a:=U - r c) (b:=V - D cs) (by grind) (by grind)
    have p2:=yd (a:=U+r c) (b:=V+D cs) (by grind) (by grind)
    have p3:=yd (a:=U - r c) (b:=V+D cs) (by grind) (by grind)
    have p4:=yd (a:=U+r c) (b:=V - D cs) (by grind) (by grind)
    constructor <;> grind
   have e:(((c :: cs).length:Nat):Rat)=((cs.length:Nat):Rat)+1:=by rw[List.length_cons];push_cast;rfl
   show -_≤r c * D cs - expand r _ cs∧r c * D cs - expand r _ cs≤_
   rw[e]
   grind
theorem pow_succ'(Y:Nat)(m:Nat):((Y ^ (m+1):Nat):Rat)=((Y ^ m:Nat):Rat) * (Y:Rat):=by rw[Nat.pow_succ];push_cast;rfl
theorem z3o(m:Nat):(0:Rat)≤((m:Nat):Rat):=by
 have:=cnn (d:=(m:Int)) (by omega)
 exact this
theorem z3v{a b:Nat}(h:a≤b):((a:Nat):Rat)≤((b:Nat):Rat):=by
 have:((a:Int):Rat)≤((b:Int):Rat):=Rat.intCast_le_intCast.mpr (by omega)
 exact this
theorem VA{U Y:Nat}(hY:13 * U≤Y):∀ {rs:List ZA},(∀ r∈rs,∀ c,-((U:Nat):Rat)≤r c∧r c≤((U:Nat):Rat))→∀ cols:List Nat,cols.length≤13→-((Y ^ rs.length:Nat):Rat)≤det rs cols∧det rs cols≤((Y ^ rs.length:Nat):Rat)
 | [],_,cols,_=>by
   show -(((Y ^ 0:Nat)):Rat)≤1∧(1:Rat)≤((Y ^ 0:Nat):Rat)
   rw[Nat.pow_zero]
   exact⟨by decide,by decide⟩
 | r :: rs,h,cols,hc=>by
   have ih:=VA hY (rs:=rs) fun x hx=>h x (List.mem_cons_of_mem _ hx)
   have hV:=z3o (Y ^ rs.length)
   have hU:=z3o U
   obtain⟨b1,b2⟩:=QI (r:=r) hU hV (h r List.mem_cons_self) (cs:=cols) (D:=det rs) fun l hl=>ih l (by omega)
   have k1:((cols.length:Nat):Rat) * (((U:Nat):Rat) * ((Y ^ rs.length:Nat):Rat))≤((Y ^ (rs.length+1):Nat):Rat):=by
    rw[pow_succ']
    have e1:((cols.length:Nat):Rat) * ((U:Nat):Rat)≤((Y:Nat):Rat):=by
     have:((cols.length * U:Nat):Rat)≤((Y:Nat):Rat):=z3v (Nat.le_trans (Nat.mul_le_mul_right U hc) hY)
     have e2:((cols.length * U:Nat):Rat)=((cols.length:Nat):Rat) * ((U:Nat):Rat):=by push_cast;rfl
     rw[← e2];exact this
    have e3:=ZH e1 hV
    grind
   show -(((Y ^ (rs.length+1):Nat)):Rat)≤expand r (det rs) cols∧expand r (det rs) cols≤((Y ^ (rs.length+1):Nat):Rat)
   grind
end Pw
namespace Pw
noncomputable def eV(i:Nat):ZA:=fun c=>if c=i then -1 else 0
noncomputable def vv(A:Nat→ZA)(k i:Nat):ZA:=if i<k then eV i else A i
noncomputable def YK(f:Nat→Nat→Int)(k:Nat)(d:Int)(i j:Nat):Int:=if i=k then f k j else (f k k * f i j - f i k * f k j).fdiv d
structure Stg(A:Nat→ZA)(n k:Nat)(f:Nat→Nat→Int)(d:Int):Prop where
 d:(d:Rat)=dd A k
 f:∀ i j,i<n→j≤n→(f i j:Rat)=if j<k then (if i=j then dd A k else 0) else BB A k (vv A k i) j
theorem Qd{k:Nat}:∀ c,c<k→eV k c=0:=fun c hc=>by unfold eV;rw[if_neg (by omega)]
theorem jP{m d:Int}(hd:d≠0):(m * d).fdiv d=m:=Int.mul_fdiv_cancel _ hd
theorem z4o{A:Nat→ZA}(hA:∀ i c,ZC (A i c))(k i:Nat):∀ c,ZC (vv A k i c):=fun c=>by
 unfold vv
 split
 · unfold eV
   split
   · exact⟨-1,rfl⟩
   · exact⟨0,rfl⟩
 · exact hA i c
theorem vL{A:Nat→ZA}{p:ZA→Prop}(h:∀ i,p (A i)):∀ k,∀ r∈Rk A k,p r
 | 0,r,hr=>by simp[Rk] at hr
 | k+1,r,hr=>by
   rcases List.mem_cons.mp hr with rfl | hr
   · exact h k
   · exact vL h k r hr
theorem z5k{A:Nat→ZA}(hA:∀ i c,ZC (A i c)){k:Nat}{v:ZA}(hv:∀ c,ZC (v c))(j:Nat):ZC (BB A k v j) :=
 vZ (fun r hr=>by
  rcases List.mem_cons.mp hr with rfl | hr
  · exact hv
  · exact vL (p:=fun r=>∀ c,ZC (r c)) hA k r hr) _
theorem Stg.exact{A:Nat→ZA}{n k:Nat}{f:Nat→Nat→Int}{d:Int}(h:Stg A n k f d)(hA:∀ i c,ZC (A i c))(hk:k<n)(hd:∀ l,l≤k+1→dd A l≠0){i j:Nat}(hi:i<n)(hj:j≤n)(hik:i≠k) :
 ∃ m:Int,f k k * f i j - f i k * f k j=m * d∧(m:Rat)=if j<k+1 then (if i=j then dd A (k+1) else 0) else BB A (k+1) (vv A (k+1) i) j:=by
 have hkk:=h.f k k hk (by omega)
 have hij:=h.f i j hi hj
 have hik':=h.f i k hi (by omega)
 have hkj:=h.f k j hk hj
 have hvk:vv A k k=A k:=by unfold vv;rw[if_neg (by omega)]
 have hvi:vv A (k+1) i=vv A k i:=by
  unfold vv
  by_cases e:i<k
  · rw[if_pos e,if_pos (by omega)]
  · rw[if_neg e,if_neg (by omega)]
 rw[if_neg (by omega),hvk] at hkk
 rw[if_neg (by omega)] at hik'
 have ekk:(f k k:Rat)=dd A (k+1):=by rw[Yu];exact hkk
 rw[hvk] at hkj
 have hdk:=hd k (by omega)
 have fin:∀ m:Int,(((f k k * f i j - f i k * f k j:Int)):Rat)=(m:Rat) * (d:Rat)→f k k * f i j - f i k * f k j=m * d:=fun m e=>by
  have:(((f k k * f i j - f i k * f k j:Int)):Rat)=((m * d:Int):Rat):=by rw[e,Rat.intCast_mul]
  exact_mod_cast this
 by_cases c1:j<k
 · rw[if_pos c1,if_neg (by omega)] at hkj
   rw[if_pos c1] at hij
   rw[if_pos (by omega:j<k+1)]
   by_cases e:i=j
   · rw[if_pos e] at hij ⊢
     refine⟨f k k,fin _ ?_,ekk⟩
     rw[Rat.intCast_sub,Rat.intCast_mul,Rat.intCast_mul,hkj,hij,h.d];grind
   · rw[if_neg e] at hij ⊢
     refine⟨0,fin _ ?_,by simp⟩
     rw[Rat.intCast_sub,Rat.intCast_mul,Rat.intCast_mul,hkj,hij,Rat.intCast_zero];grind
 · by_cases c2:j=k
   · subst c2
     rw[if_pos (by omega:j<j+1),if_neg hik]
     exact⟨0,by rw[Int.mul_comm (f i j)];omega,by simp⟩
   · rw[if_neg c1] at hij hkj
     rw[if_neg (by omega:¬ j<k+1),hvi]
     obtain⟨m,hm⟩:=z5k hA (k:=k+1) (z4o hA k i) j
     refine⟨m,fin m ?_,hm.symm⟩
     rw[Rat.intCast_sub,Rat.intCast_mul,Rat.intCast_mul,ekk,hij,hik',hkj,h.d,← hm]
     exact (vK A hd (vv A k i) j).symm
theorem Stg.next{A:Nat→ZA}{n k:Nat}{f:Nat→Nat→Int}{d:Int}(h:Stg A n k f d)(hA:∀ i c,ZC (A i c))(hk:k<n)(hd:∀ l,l≤k+1→dd A l≠0):Stg A n (k+1) (YK f k d) (f k k):=by
 have hkk:=h.f k k hk (by omega)
 have hvk:vv A k k=A k:=by unfold vv;rw[if_neg (by omega)]
 rw[if_neg (by omega),hvk] at hkk
 have hdk:=hd k (by omega)
 have hd0:d≠0:=fun z=>hdk (by rw[← h.d,z];rfl)
 refine⟨by rw[Yu];exact hkk,fun i j hi hj=>?_⟩
 unfold YK
 by_cases e:i=k
 · subst e
   rw[if_pos rfl]
   have hij:=h.f i j hi hj
   rw[hvk] at hij
   by_cases c1:j<i
   · rw[if_pos c1,if_neg (by omega)] at hij
     rw[if_pos (by omega),if_neg (by omega),hij]
   · rw[if_neg c1] at hij
     by_cases c2:j=i
     · subst c2
       rw[if_pos (by omega),if_pos rfl,hij,Yu]
     · rw[if_neg (by omega),hij]
       have hv1:vv A (i+1) i=eV i:=by unfold vv;rw[if_pos (by omega)]
       rw[hv1]
       have:=vK A hd (eV i) j
       rw[Yy A Qd,Yy A Qd] at this
       have e1:eV i j=0:=by unfold eV;rw[if_neg c2]
       have e2:eV i i=-1:=by unfold eV;rw[if_pos rfl]
       rw[e1,e2] at this
       generalize BB A (i+1) (eV i) j=x at *
       generalize BB A i (A i) j=y at *
       generalize dd A (i+1)=z at *
       have h3:(x - y) * dd A i=0:=by grind
       grind
 · rw[if_neg e]
   obtain⟨m,e1,e2⟩:=h.exact hA hk hd hi hj e
   rw[e1,jP hd0]
   exact e2
structure Sgn(n k:Nat)(f:Nat→Nat→Int):Prop where
 off:∀ i j,i<n→k≤j→j<n→i≠j→f i j≤0
 col:∀ j,k≤j→j<n→0<qs n (fun i=>if k≤i then (f i j:Rat) else 0)
 rhs:∀ i,i<n→0≤f i n
theorem Xv{g:Nat→Rat}:∀ {n k:Nat},k<n→qs n (fun i=>if k≤i then g i else 0)=g k+qs n (fun i=>if k+1≤i then g i else 0)
 | n+1,k,h=>by
   show qs n _+(if k≤n then g n else 0)=g k+(qs n _+(if k+1≤n then g n else 0))
   by_cases e:k=n
   · subst e
     rw[if_pos (by omega),if_neg (by omega),zJ (g:=fun _=>0) fun i hi=>by rw[if_neg (by omega)],zJ (f:=fun i=>if k+1≤i then g i else 0) (g:=fun _=>0) fun i hi=>by rw[if_neg (by omega)]]
     grind
   · rw[if_pos (by omega),if_pos (by omega),Xv (n:=n) (by omega)];grind
theorem Sgn.pivot{n k:Nat}{f:Nat→Nat→Int}(h:Sgn n k f)(hk:k<n):0<f k k:=by
 have h1:=h.col k (by omega) hk
 rw[Xv hk] at h1
 have h2:qs n (fun i=>if k+1≤i then (f i k:Rat) else 0)≤qs n (fun _=>0):=YV fun i hi=>by
  split
  · have:=h.off i k hi (by omega) hk (by omega)
    have:(f i k:Rat)≤((0:Int):Rat):=Rat.intCast_le_intCast.mpr this
    simpa using this
  · grind
 rw[Xp] at h2
 have h3:(0:Rat)<(f k k:Rat):=by grind
 have:((0:Int):Rat)<(f k k:Rat):=by simpa using h3
 exact Rat.intCast_lt_intCast.mp this
theorem Ui{x d:Int}(hd:0<d)(h:x * d≤0):x≤0:=by
 refine Int.not_lt.mp fun z=>?_
 have:=Int.mul_pos z hd
 omega
theorem Sgn.next{n k:Nat}{f:Nat→Nat→Int}{d:Int}(h:Sgn n k f)(hk:k<n)(hd:0<d)(ex:∀ i j,i<n→j≤n→i≠k→f k k * f i j - f i k * f k j=YK f k d i j * d):Sgn n (k+1) (YK f k d):=by
 have hp:=h.pivot hk
 refine⟨fun i j hi hkj hj hij=>?_,fun j hkj hj=>?_,fun i hi=>?_⟩
 · by_cases e:i=k
   · subst e
     unfold YK
     rw[if_pos rfl]
     exact h.off i j hi (by omega) hj hij
   · refine Ui hd ?_
     rw[← ex i j hi (by omega) e]
     have a1:=h.off i j hi (by omega) hj hij
     have a2:=h.off i k hi (by omega) hk e
     have a3:=h.off k j hk (by omega) hj (by omega)
     have b1:f k k * f i j≤0:=Int.mul_nonpos_of_nonneg_of_nonpos (Int.le_of_lt hp) a1
     have b2:0≤f i k * f k j:=Int.mul_nonneg_of_nonpos_of_nonpos a2 a3
     omega
 · have hdq:=cpos hd
   have e:qs n (fun i=>if k+1≤i then (YK f k d i j:Rat) else 0) * (d:Rat)=(f k k:Rat) * qs n (fun i=>if k≤i then (f i j:Rat) else 0) - (f k j:Rat) * qs n (fun i=>if k≤i then (f i k:Rat) else 0):=by
    rw[Xv (g:=fun i=>(f i j:Rat)) hk,Xv (g:=fun i=>(f i k:Rat)) hk,Rat.mul_comm,← Za,Rat.mul_add,Rat.mul_add,← Za,← Za]
    have e2:qs n (fun i=>(d:Rat) * (if k+1≤i then (YK f k d i j:Rat) else 0))=qs n (fun i=>(f k k:Rat) * (if k+1≤i then (f i j:Rat) else 0)+(-1) * ((f k j:Rat) * (if k+1≤i then (f i k:Rat) else 0))):=zJ fun i hi=>by
     split
     · have:=ex i j hi (by omega) (by omega)
       have:((f k k * f i j - f i k * f k j:Int):Rat)=((YK f k d i j * d:Int):Rat):=by rw[this]
       rw[Rat.intCast_sub,Rat.intCast_mul,Rat.intCast_mul,Rat.intCast_mul] at this
       grind
     · grind
    rw[e2,ZN,Za (-1)]
    grind
   have a3:=h.off k j hk (by omega) hj (by omega)
   have a3':(f k j:Rat)≤0:=by
    have:(f k j:Rat)≤((0:Int):Rat):=Rat.intCast_le_intCast.mpr a3
    simpa using this
   have s1:=h.col j (by omega) hj
   have s2:=h.col k (by omega) hk
   have p1:=Rat.mul_pos (cpos hp) s1
   have p2:=yd (a:=-(f k j:Rat)) (by grind) (Rat.le_of_lt s2)
   have:0<qs n (fun i=>if k+1≤i then (YK f k d i j:Rat) else 0) * (d:Rat):=by rw[e];grind
   refine Rat.not_le.mp fun z=>?_
   have:=ZH z (Rat.le_of_lt hdq)
   grind
 · by_cases e:i=k
   · subst e
     unfold YK
     rw[if_pos rfl]
     exact h.rhs i hi
   · have a2:=h.off i k hi (by omega) hk e
     have a1:=h.rhs i hi
     have a3:=h.rhs k hk
     have b1:0≤f k k * f i n:=Int.mul_nonneg (Int.le_of_lt hp) a1
     have b2:f i k * f k n≤0:=Int.mul_nonpos_of_nonpos_of_nonneg a2 a3
     have:=ex i n hi (Nat.le_refl _) e
     refine Int.not_lt.mp fun z=>?_
     have:=Int.mul_neg_of_neg_of_pos z hd
     omega
noncomputable def fF(f0:Nat→Nat→Int):Nat→(Nat→Nat→Int)×Int
 | 0=>(f0,1)
 | k+1=>(YK (fF f0 k).1 k (fF f0 k).2,(fF f0 k).1 k k)
noncomputable def aV(f0:Nat→Nat→Int)(i:Nat):ZA:=fun c=>(f0 i c:Rat)
theorem z0G(f0:Nat→Nat→Int):∀ i c,ZC (aV f0 i c):=fun i c=>⟨f0 i c,rfl⟩
theorem ug{f0:Nat→Nat→Int}{n:Nat}(s0:Sgn n 0 f0):∀ k,k≤n→Stg (aV f0) n k (fF f0 k).1 (fF f0 k).2∧Sgn n k (fF f0 k).1∧0<(fF f0 k).2∧∀ l,l≤k→0<dd (aV f0) l
 | 0,_=>by
   refine⟨⟨rfl,fun i j hi hj=>?_⟩,s0,by show (0:Int)<1;decide,fun l hl=>?_⟩
   · rw[if_neg (by omega)]
     have e:vv (aV f0) 0 i=aV f0 i:=by unfold vv;rw[if_neg (by omega)]
     rw[e,Yy _ (fun c hc=>by omega),X8]
     show (f0 i j:Rat)=(f0 i j:Rat) * 1
     grind
   · rw[show l=0 by omega,X8];decide
 | k+1,hk=>by
   obtain⟨st,sg,dp,dl⟩:=ug s0 k (by omega)
   have pv:=sg.pivot (by omega)
   have hkk:((fF f0 k).1 k k:Rat)=dd (aV f0) (k+1):=by
    have:=st.f k k (by omega) (by omega)
    rw[if_neg (by omega)] at this
    have e:vv (aV f0) k k=aV f0 k:=by unfold vv;rw[if_neg (by omega)]
    rw[e] at this
    rw[Yu];exact this
   have dl':∀ l,l≤k+1→0<dd (aV f0) l:=fun l hl=>by
    by_cases e:l=k+1
    · subst e;rw[← hkk];exact cpos pv
    · exact dl l (by omega)
   have hne:∀ l,l≤k+1→dd (aV f0) l≠0:=fun l hl z=>by
    have:=dl' l hl
    rw[z] at this
    exact absurd this (by decide)
   refine⟨st.next (z0G f0) (by omega) hne,sg.next (by omega) dp fun i j hi hj hik=>?_,pv,dl'⟩
   obtain⟨m,e1,_⟩:=st.exact (z0G f0) (by omega) hne hi hj hik
   rw[e1]
   unfold YK
   rw[if_neg hik,e1,jP (by omega)]
theorem Jq{f0:Nat→Nat→Int}{n:Nat}(s0:Sgn n 0 f0){i:Nat}(hi:i<n):qs n (fun j=>(f0 i j:Rat) * ((fF f0 n).1 j n:Rat))=((fF f0 n).2:Rat) * (f0 i n:Rat):=by
 obtain⟨st,sg,dp,dl⟩:=ug s0 n (Nat.le_refl _)
 have hx:∀ j,j<n→((fF f0 n).1 j n:Rat)=BB (aV f0) n (eV j) n:=fun j hj=>by
  have:=st.f j n hj (Nat.le_refl _)
  rw[if_neg (by omega)] at this
  have e:vv (aV f0) n j=eV j:=by unfold vv;rw[if_pos hj]
  rw[e] at this
  exact this
 have h0:=z4d (aV f0) hi n
 have part:∀ m,m≤n→BB (aV f0) n (fun c=>if c<m then aV f0 i c else 0) n=(-1) * qs m (fun j=>(f0 i j:Rat) * BB (aV f0) n (eV j) n):=by
  intro m
  induction m with
  | zero =>
    intro _
    rw[Yy _ (fun c hc=>by simp)]
    simp[qs]
  | succ m ih =>
    intro hm
    have e:BB (aV f0) n (fun c=>if c<m+1 then aV f0 i c else 0) n=BB (aV f0) n (fun c=>1 * (if c<m then aV f0 i c else 0)+(-(f0 i m:Rat)) * eV m c) n:=by
     have pt:∀ c:Nat,(if c<m+1 then aV f0 i c else 0)=1 * (if c<m then aV f0 i c else 0)+(-(f0 i m:Rat)) * eV m c:=fun c=>by
      unfold eV
      by_cases c1:c<m
      · rw[if_pos (by omega),if_pos c1,if_neg (by omega)];grind
      · by_cases c2:c=m
        · subst c2
          rw[if_pos (by omega),if_neg (by omega),if_pos rfl]
          show (f0 i c:Rat)=_
          grind
        · rw[if_neg (by omega),if_neg c1,if_neg c2];grind
     exact Xi _ (pt n) fun c _=>pt c
    rw[e,Vm,ih (by omega)]
    show _=(-1) * (qs m _+_)
    grind
 have split:BB (aV f0) n (aV f0 i) n=BB (aV f0) n (fun c=>1 * (if c<n then aV f0 i c else 0)+(-(f0 i n:Rat)) * eV n c) n:=by
  have pt:∀ c:Nat,c≤n→aV f0 i c=1 * (if c<n then aV f0 i c else 0)+(-(f0 i n:Rat)) * eV n c:=fun c hc=>by
   unfold eV
   by_cases c1:c<n
   · rw[if_pos c1,if_neg (by omega)];grind
   · have c2:c=n:=by omega
     subst c2
     rw[if_neg (by omega),if_pos rfl]
     show (f0 i c:Rat)=_
     grind
  exact Xi _ (pt n (Nat.le_refl _)) fun c hc=>pt c (by omega)
 rw[split,Vm,part n (Nat.le_refl _),Yy _ Qd] at h0
 have e2:eV n n=-1:=by unfold eV;rw[if_pos rfl]
 rw[e2,← st.d] at h0
 rw[zJ fun j hj=>by rw[hx j hj]]
 grind
end Pw
namespace Pw
theorem le_pow{Y m k:Nat}(hY:1≤Y)(h:m≤k):Y ^ m≤Y ^ k:=Nat.pow_le_pow_right hY h
theorem qX:∀ k,(Kk k).length=k
 | 0=>rfl
 | k+1=>by show (k :: Kk k).length=_;rw[List.length_cons,qX k]
theorem Qk(A:Nat→ZA):∀ k,(Rk A k).length=k
 | 0=>rfl
 | k+1=>by show (A k :: Rk A k).length=_;rw[List.length_cons,Qk A k]
theorem z5O{f0:Nat→Nat→Int}{n U Y:Nat}(s0:Sgn n 0 f0)(hn:n≤12)(hU:1≤U)(hY:13 * U≤Y)(hb:∀ i j,(f0 i j).natAbs≤U){k:Nat}(hk:k≤n):(∀ i j,i<n→j≤n→((fF f0 k).1 i j).natAbs≤Y ^ 13)∧(fF f0 k).2.natAbs≤Y ^ 13:=by
 obtain⟨st,sg,dp,dl⟩:=ug s0 k hk
 have hA:∀ i c,-((U:Nat):Rat)≤aV f0 i c∧aV f0 i c≤((U:Nat):Rat):=fun i c=>by
  have h:=hb i c
  have h1:((-(U:Int):Int):Rat)≤(f0 i c:Rat):=Rat.intCast_le_intCast.mpr (by omega)
  have h2:(f0 i c:Rat)≤(((U:Int)):Rat):=Rat.intCast_le_intCast.mpr (by omega)
  rw[Rat.intCast_neg] at h1
  exact⟨h1,h2⟩
 have one:(1:Rat)≤((U:Nat):Rat):=z3v hU
 have hE:∀ i c,-((U:Nat):Rat)≤eV i c∧eV i c≤((U:Nat):Rat):=fun i c=>by
  unfold eV
  split <;> grind
 have hY1:1≤Y:=by omega
 have toInt:∀ {x:Int}{m:Nat},m≤13→-((Y ^ m:Nat):Rat)≤(x:Rat)∧(x:Rat)≤((Y ^ m:Nat):Rat)→x.natAbs≤Y ^ 13:=fun {x m} hm h=>by
  have hp:=le_pow hY1 hm
  obtain⟨h1,h2⟩:=h
  have h1':((-((Y ^ m:Nat):Int):Int):Rat)≤(x:Rat):=by rw[Rat.intCast_neg];exact h1
  have h2':(x:Rat)≤((((Y ^ m:Nat):Int)):Rat):=h2
  have a1:=Rat.intCast_le_intCast.mp h1'
  have a2:=Rat.intCast_le_intCast.mp h2'
  generalize Y ^ 13=z at *
  generalize Y ^ m=y at *
  omega
 have dB:-((Y ^ k:Nat):Rat)≤dd (aV f0) k∧dd (aV f0) k≤((Y ^ k:Nat):Rat):=by
  have:=VA hY (rs:=Rk (aV f0) k) (fun r hr=>vL (p:=fun r=>∀ c,-((U:Nat):Rat)≤r c∧r c≤((U:Nat):Rat)) hA k r hr) (Kk k) (by rw[qX];omega)
  rwa [Qk] at this
 refine⟨fun i j hi hj=>?_,toInt (m:=k) (by omega) (by rw[st.d];exact dB)⟩
 have e:=st.f i j hi hj
 split at e
 · split at e
   · exact toInt (m:=k) (by omega) (by rw[e];exact dB)
   · have hz:(fF f0 k).1 i j=0:=by exact_mod_cast e
     rw[hz];simp
 · refine toInt (m:=k+1) (by omega) ?_
   rw[e]
   have:=VA hY (rs:=vv (aV f0) k i :: Rk (aV f0) k) (fun r hr=>by
    rcases List.mem_cons.mp hr with rfl | hr
    · unfold vv
      split
      · exact hE i
      · exact hA i
    · exact vL (p:=fun r=>∀ c,-((U:Nat):Rat)≤r c∧r c≤((U:Nat):Rat)) hA k r hr) (j :: Kk k) (by rw[List.length_cons,qX];omega)
   rwa [List.length_cons,Qk] at this
noncomputable def Zx(x:Rat):Rat:=if x<0 then -x else x
theorem Vt(x:Rat):0≤Zx x:=by unfold Zx;split <;> grind
theorem z0y(x y:Rat):Zx (x+y)≤Zx x+Zx y:=by unfold Zx;split <;> split <;> split <;> grind
theorem Jx{x:Rat}(h:Zx x≤0):x=0:=by unfold Zx at h;split at h <;> grind
theorem uR{x c:Rat}(hc:0≤c):Zx (x * c)≤Zx x * c:=by
 unfold Zx
 split <;> split
 · grind
 · rename_i h1 h2
   have:=yd (a:=x) (b:=c) (by grind) hc
   grind
 · rename_i h1 h2
   have:=yd (a:=-x) (b:=c) (by grind) hc
   grind
 · grind
theorem Vn(f:Nat→Rat):∀ n,Zx (qs n f)≤qs n (fun i=>Zx (f i))
 | 0=>by show Zx 0≤0;unfold Zx;grind
 | n+1=>by
   have h1:=Vn f n
   have h2:=z0y (qs n f) (f n)
   show Zx (qs n f+f n)≤qs n _+Zx (f n)
   grind
theorem z1J{n:Nat}{W:Nat→Nat→Rat}{B:Nat→Rat}{a:Rat}(hW:∀ i t,i<n→t<n→a * B t≤W i t)(hs:∀ i,i<n→qs n (fun t=>W i t)=1)(hB:qs n B=1){x y:Nat→Rat}(hxy:qs n x=qs n y) :
 qs n (fun t=>Zx (qs n (fun i=>x i * W i t) - qs n (fun i=>y i * W i t)))≤(1 - a) * qs n (fun i=>Zx (x i - y i)):=by
 have h1:∀ t,t<n→Zx (qs n (fun i=>x i * W i t) - qs n (fun i=>y i * W i t))≤qs n (fun i=>Zx (x i - y i) * (W i t - a * B t)):=fun t ht=>by
  have e:qs n (fun i=>x i * W i t) - qs n (fun i=>y i * W i t)=qs n (fun i=>(x i - y i) * (W i t - a * B t)):=by
   have e1:qs n (fun i=>(x i - y i) * (W i t - a * B t))=qs n (fun i=>(x i * W i t+(-1) * (y i * W i t))+((-(a * B t)) * x i+(a * B t) * y i)):=zJ fun i _=>by grind
   rw[e1,ZN,ZN,ZN,Za,Za,Za,hxy]
   grind
  rw[e]
  have h2:=Vn (fun i=>(x i - y i) * (W i t - a * B t)) n
  have h3:qs n (fun i=>Zx ((x i - y i) * (W i t - a * B t)))≤qs n (fun i=>Zx (x i - y i) * (W i t - a * B t)):=YV fun i hi=>uR (by have:=hW i t hi ht;grind)
  grind
 have h4:=YV h1
 rw[Xm (fun t i=>Zx (x i - y i) * (W i t - a * B t))] at h4
 have e2:qs n (fun i=>qs n (fun t=>Zx (x i - y i) * (W i t - a * B t)))=qs n (fun i=>(1 - a) * Zx (x i - y i)):=zJ fun i hi=>by
  rw[Za]
  have e3:qs n (fun t=>W i t - a * B t)=1 - a:=by
   have:qs n (fun t=>W i t - a * B t)=qs n (fun t=>W i t+(-a) * B t):=zJ fun t _=>by grind
   rw[this,ZN,Za,hs i hi,hB];grind
  rw[e3];grind
 rw[e2,Za] at h4
 exact h4
theorem unique{n:Nat}{W:Nat→Nat→Rat}{B:Nat→Rat}{a:Rat}(ha:0<a)(hW:∀ i t,i<n→t<n→a * B t≤W i t)(hs:∀ i,i<n→qs n (fun t=>W i t)=1)(hB:qs n B=1){x y:Nat→Rat}(hxy:qs n x=qs n y)
 (sx:∀ t,t<n→qs n (fun i=>x i * W i t)=x t) (sy:∀ t,t<n→qs n (fun i=>y i * W i t)=y t):∀ t,t<n→x t=y t:=by
 have h:=z1J hW hs hB hxy
 rw[zJ (g:=fun t=>Zx (x t - y t)) fun t ht=>by rw[sx t ht,sy t ht]] at h
 have h0:0≤qs n (fun t=>Zx (x t - y t)):=Xw fun t _=>Vt _
 have h1:qs n (fun t=>Zx (x t - y t))≤0:=by
  refine Rat.not_lt.mp fun z=>?_
  have:=Rat.mul_pos ha z
  grind
 intro t ht
 have h2:=uV (f:=fun t=>Zx (x t - y t)) ht fun i _=>Vt _
 have:=Jx (x:=x t - y t) (Rat.le_trans h2 h1)
 grind
noncomputable def mp(ps:List (Int×Int))(j:Nat):Int:=(max 1 (outs ps (j:Int)).length:Nat)
noncomputable def cn(ps:List (Int×Int))(j i:Nat):Int:=((outs ps (j:Int)).count (i:Int):Nat)
noncomputable def fac(ps:List (Int×Int))(A:Int×Int)(j i:Nat):Int:=if j=i then A.2 * mp ps j - (A.2 - A.1) * cn ps j i else -((A.2 - A.1) * cn ps j i)
noncomputable def uP(ps:List (Int×Int))(A:Int×Int)(ss:List Int)(n i j:Nat):Int:=if i<n then (if j<n then fac ps A j i else if j=n then ss.getD i 0 else 0) else 0
theorem JO{n:Nat}{ps:List (Int×Int)}(lk:∀ p∈ps,0≤p.2∧p.2<(n:Int))(j:Nat):qs n (fun i=>(cn ps j i:Rat))=(((outs ps (j:Int)).length:Nat):Rat):=XH fun x hx=>VX lk hx
structure Ys(ps:List (Int×Int))(A:Int×Int)(ss:List Int)(n:Nat):Prop where
 lk:∀ p∈ps,0≤p.2∧p.2<(n:Int)
 a0:0<A.1
 a1:A.1≤A.2
 len:ss.length=n
 nn:∀ s∈ss,0≤s
 pos:0<ss.sum
theorem uK(ps:List (Int×Int))(A:Int×Int)(j i:Nat):(fac ps A j i:Rat)=(if i=j then (A.2:Rat) * (mp ps j:Rat) else 0)+(-((A.2:Rat) - (A.1:Rat))) * (cn ps j i:Rat):=by
 unfold fac
 by_cases e:j=i
 · subst e
   rw[if_pos rfl,if_pos rfl,Rat.intCast_sub,Rat.intCast_mul,Rat.intCast_mul,Rat.intCast_sub];grind
 · rw[if_neg e,if_neg (fun z=>e z.symm),Rat.intCast_neg,Rat.intCast_mul,Rat.intCast_sub];grind
theorem z3O(ps:List (Int×Int))(j:Nat):1≤mp ps j∧(((outs ps (j:Int)).length:Nat):Int)≤mp ps j:=by unfold mp;omega
theorem Ys.sgn{ps:List (Int×Int)}{A:Int×Int}{ss:List Int}{n:Nat}(h:Ys ps A ss n):Sgn n 0 (uP ps A ss n):=by
 refine⟨fun i j hi _ hj hij=>?_,fun j _ hj=>?_,fun i hi=>?_⟩
 · unfold uP fac
   rw[if_pos hi,if_pos hj,if_neg (fun z=>hij z.symm)]
   have:0≤(A.2 - A.1) * cn ps j i:=Int.mul_nonneg (by have:=h.a1;omega) (by unfold cn;omega)
   omega
 · rw[zJ (g:=fun i=>(if i=j then (A.2:Rat) * (mp ps j:Rat) else 0)+(-((A.2:Rat) - (A.1:Rat))) * (cn ps j i:Rat)) fun i hi=>?_,ZN,Za,JO h.lk,Yj hj fun i _ hi=>by rw[if_neg hi]]
   · rw[if_pos rfl]
     obtain⟨m1,m2⟩:=z3O ps j
     have m2':(((outs ps (j:Int)).length:Nat):Rat)≤(mp ps j:Rat):=by
      have:((((outs ps (j:Int)).length:Nat):Int):Rat)≤(mp ps j:Rat):=Rat.intCast_le_intCast.mpr m2
      exact this
     have a1:(A.1:Rat)≤(A.2:Rat):=Rat.intCast_le_intCast.mpr h.a1
     have p1:=Rat.mul_pos (cpos h.a0) (cpos (show (0:Int)<mp ps j by omega))
     have p2:=yd (a:=(A.2:Rat) - (A.1:Rat)) (b:=(mp ps j:Rat) - (((outs ps (j:Int)).length:Nat):Rat)) (by grind) (by grind)
     grind
   · rw[if_pos (Nat.zero_le _)]
     unfold uP
     rw[if_pos hi,if_pos hj]
     exact uK ps A j i
 · unfold uP
   rw[if_pos hi,if_neg (by omega),if_pos rfl]
   exact h.nn _ (List.mem_of_getElem? (L2.yp (by have:=h.len;omega)))
end Pw
namespace Pw
section
variable(ps:List (Int×Int))(A:Int×Int)(ss:List Int)(n:Nat)
noncomputable def xS(j:Nat):Int:=(fF (uP ps A ss n) n).1 j n
noncomputable def dS:Int:=(fF (uP ps A ss n) n).2
noncomputable def vS(j:Nat):Int:=mp ps j * xS ps A ss n j
noncomputable def VS:Int:=((List.range n).map (vS ps A ss n)).sum
noncomputable def shL:List (Int×Int):=(List.range n).map fun j=>mk (vS ps A ss n j) (VS ps A ss n)
end
section
variable{ps:List (Int×Int)}{A:Int×Int}{ss:List Int}{n:Nat}
theorem Ys.z7g(h:Ys ps A ss n){j:Nat}(hj:j<n):0≤xS ps A ss n j:=((ug h.sgn n (Nat.le_refl _)).2.1).rhs j hj
theorem Ys.d_pos(h:Ys ps A ss n):0<dS ps A ss n:=(ug h.sgn n (Nat.le_refl _)).2.2.1
theorem Ys.z6b(h:Ys ps A ss n){j:Nat}(hj:j<n):0≤vS ps A ss n j:=Int.mul_nonneg (by have:=(z3O ps j).1;omega) (h.z7g hj)
theorem Ys.row(h:Ys ps A ss n){i:Nat}(hi:i<n):(A.2:Rat) * (vS ps A ss n i:Rat)=((A.2:Rat) - (A.1:Rat)) * qs n (fun j=>(cn ps j i:Rat) * (xS ps A ss n j:Rat))+(dS ps A ss n:Rat) * (ss.getD i 0:Rat):=by
 have h1:=Jq h.sgn hi
 have e0:uP ps A ss n i n=ss.getD i 0:=by unfold uP;rw[if_pos hi,if_neg (by omega),if_pos rfl]
 rw[e0] at h1
 have e1:qs n (fun j=>(uP ps A ss n i j:Rat) * ((fF (uP ps A ss n) n).1 j n:Rat))=qs n (fun j=>(if j=i then (A.2:Rat) * (vS ps A ss n i:Rat) else 0)+(-((A.2:Rat) - (A.1:Rat))) * ((cn ps j i:Rat) * (xS ps A ss n j:Rat))):=zJ fun j hj=>by
  have e2:uP ps A ss n i j=fac ps A j i:=by unfold uP;rw[if_pos hi,if_pos hj]
  rw[e2,uK]
  show _ * (xS ps A ss n j:Rat)=_
  by_cases e:j=i
  · subst e
    rw[if_pos rfl,if_pos rfl]
    unfold vS
    rw[Rat.intCast_mul];grind
  · rw[if_neg e,if_neg (fun z=>e z.symm)];grind
 rw[e1,ZN,Za,Yj hi fun j _ hj=>by rw[if_neg hj],if_pos rfl] at h1
 have e3:((fF (uP ps A ss n) n).2:Rat)=(dS ps A ss n:Rat):=rfl
 rw[e3] at h1
 grind
theorem uI:(VS ps A ss n:Rat)=qs n (fun j=>(vS ps A ss n j:Rat)):=(vH n).symm
noncomputable def dg(ps:List (Int×Int))(A:Int×Int)(ss:List Int)(n j:Nat):Rat:=if outs ps (j:Int)=[] then (vS ps A ss n j:Rat) else 0
theorem z3B(j:Nat):(((outs ps (j:Int)).length:Nat):Rat) * (xS ps A ss n j:Rat)=(vS ps A ss n j:Rat)+(-1) * dg ps A ss n j:=by
 unfold dg vS
 by_cases e:outs ps (j:Int)=[]
 · rw[if_pos e,e]
   simp
   grind
 · rw[if_neg e]
   have:mp ps j=(((outs ps (j:Int)).length:Nat):Int):=by
    unfold mp
    have:=List.length_pos_iff.mpr e
    omega
   rw[this,Rat.intCast_mul]
   have e2:((((outs ps (j:Int)).length:Nat):Int):Rat)=(((outs ps (j:Int)).length:Nat):Rat):=rfl
   rw[e2];grind
theorem Ys.all(h:Ys ps A ss n):(A.1:Rat) * (VS ps A ss n:Rat)+((A.2:Rat) - (A.1:Rat)) * qs n (fun j=>dg ps A ss n j)=(dS ps A ss n:Rat) * (ss.sum:Rat):=by
 have h1:qs n (fun i=>(A.2:Rat) * (vS ps A ss n i:Rat))=qs n (fun i=>((A.2:Rat) - (A.1:Rat)) * qs n (fun j=>(cn ps j i:Rat) * (xS ps A ss n j:Rat))+(dS ps A ss n:Rat) * (ss.getD i 0:Rat)):=zJ fun i hi=>h.row hi
 rw[Za,ZN,Za,Za,Xm (fun i j=>(cn ps j i:Rat) * (xS ps A ss n j:Rat)),← uI] at h1
 have h2:qs n (fun j=>qs n (fun i=>(cn ps j i:Rat) * (xS ps A ss n j:Rat)))=qs n (fun j=>(vS ps A ss n j:Rat)+(-1) * dg ps A ss n j):=zJ fun j hj=>by
  have:qs n (fun i=>(cn ps j i:Rat) * (xS ps A ss n j:Rat))=qs n (fun i=>(xS ps A ss n j:Rat) * (cn ps j i:Rat)):=zJ fun i _=>Rat.mul_comm ..
  rw[this,Za,JO h.lk,← z3B];grind
 have h3:qs n (fun i=>(ss.getD i 0:Rat))=(ss.sum:Rat):=by
  have:=X6 ss
  rwa [h.len] at this
 rw[h2,h3,ZN,Za,← uI] at h1
 grind
theorem z5M(h:Ys ps A ss n){j:Nat}(hj:j<n):0≤dg ps A ss n j∧dg ps A ss n j≤(vS ps A ss n j:Rat):=by
 have:=cnn (h.z6b hj)
 unfold dg
 split <;> grind
theorem Ys.z0Z(h:Ys ps A ss n):0<VS ps A ss n:=by
 have h1:=h.all
 have h2:=YV fun j hj=>(z5M h (j:=j) hj).2
 rw[← uI] at h2
 have a1:(A.1:Rat)≤(A.2:Rat):=Rat.intCast_le_intCast.mpr h.a1
 have p1:=Rat.mul_pos (cpos h.d_pos) (cpos h.pos)
 have p2:=yd (a:=(A.2:Rat) - (A.1:Rat)) (b:=(VS ps A ss n:Rat) - qs n (fun j=>dg ps A ss n j)) (by grind) (by grind)
 have a2:=cpos (show 0<A.2 by have:=h.a0;have:=h.a1;omega)
 have h3:0<(A.2:Rat) * (VS ps A ss n:Rat):=by grind
 have h4:(0:Rat)<(VS ps A ss n:Rat):=by
  refine Rat.not_le.mp fun z=>?_
  have:=ZH z (Rat.le_of_lt a2)
  grind
 have:((0:Int):Rat)<(VS ps A ss n:Rat):=by simpa using h4
 exact Rat.intCast_lt_intCast.mp this
end
structure yF(ps:List (Int×Int))(A:Int×Int)(Bs:List (Int×Int))(n:Nat)(Ss:List (Int×Int)):Prop where
 len:Ss.length=n
 canon:zW Ss
 nn:∀ S∈Ss,0≤S.1
 one:qs n (fun t=>val (Ss.getD t (0,1)))=1
 stay:∀ t,t<n→Qv ps A Bs Ss n t=val (Ss.getD t (0,1))
theorem vE{ps:List (Int×Int)}{A:Int×Int}{Bs:List (Int×Int)}{n j t:Nat}(ca:Canon A)(cb:zW Bs)(hn:Bs.length=n)(ht:t<n):val ((zG ps A Bs (j:Nat)).getD t (0,1))=if outs ps (j:Int)=[] then val (Bs.getD t (0,1)) else val A * val (Bs.getD t (0,1))+(1 - val A) * ((cn ps j t:Rat) / (((outs ps (j:Int)).length:Nat):Rat)):=by
 unfold zG
 split
 · rfl
 · rename_i h
   rw[yS (by omega),xX ca (cb.getD t) (yz h)]
   rfl
theorem z5n{ps:List (Int×Int)}{A:Int×Int}{Bs:List (Int×Int)}{ss:List Int}{n:Nat}{L:Int}(h:Ys ps A ss n)(ca:Canon A)(cb:zW Bs)(hn:Bs.length=n)(hL:0<L)(hB:∀ t,t<n→(ss.getD t 0:Rat)=val (Bs.getD t (0,1)) * (L:Rat))(one:qs n (fun t=>val (Bs.getD t (0,1)))=1):yF ps A Bs n (shL ps A ss n):=by
 have hV:=h.z0Z
 have hVq:=cpos hV
 have hVn:=Zi (d:=VS ps A ss n) (by omega)
 have vs:∀ t,t<n→val ((shL ps A ss n).getD t (0,1))=(vS ps A ss n t:Rat) / (VS ps A ss n:Rat):=fun t ht=>by
  unfold shL
  rw[yS ht,val_mk (by omega)]
 refine⟨by unfold shL;simp,fun S hS=>?_,fun S hS=>?_,?_,fun t ht=>?_⟩
 · obtain⟨t,_,rfl⟩:=List.mem_map.mp hS
   exact ZF (by omega)
 · obtain⟨t,ht,rfl⟩:=List.mem_map.mp hS
   exact Q2 hV (h.z6b (List.mem_range.mp ht))
 · rw[zJ (g:=fun t=>(1 / (VS ps A ss n:Rat)) * (vS ps A ss n t:Rat)) fun t ht=>by rw[vs t ht];grind,Za,← uI]
   grind
 · rw[vs t ht]
   unfold Qv
   have ha2:0<A.2:=ca.1
   have haq:=Zi (zE ca)
   have eα:val A * (A.2:Rat)=(A.1:Rat):=by unfold val;grind
   have sumS:(ss.sum:Rat)=(L:Rat):=by
    have h3:qs n (fun i=>(ss.getD i 0:Rat))=(ss.sum:Rat):=by
     have:=X6 ss
     rwa [h.len] at this
    rw[← h3,zJ (g:=fun t=>(L:Rat) * val (Bs.getD t (0,1))) fun t ht=>by rw[hB t ht];grind,Za,one];grind
   have hall:=h.all
   rw[sumS] at hall
   have hrow:=h.row ht
   rw[hB t ht] at hrow
   have key:qs n (fun j=>(vS ps A ss n j:Rat) * val ((zG ps A Bs (j:Nat)).getD t (0,1)))=(val A * val (Bs.getD t (0,1))) * (VS ps A ss n:Rat)+(1 - val A) * qs n (fun j=>(cn ps j t:Rat) * (xS ps A ss n j:Rat))+((1 - val A) * val (Bs.getD t (0,1))) * qs n (fun j=>dg ps A ss n j):=by
    have e1:qs n (fun j=>(vS ps A ss n j:Rat) * val ((zG ps A Bs (j:Nat)).getD t (0,1)))=qs n (fun j=>((val A * val (Bs.getD t (0,1))) * (vS ps A ss n j:Rat)+(1 - val A) * ((cn ps j t:Rat) * (xS ps A ss n j:Rat)))+((1 - val A) * val (Bs.getD t (0,1))) * dg ps A ss n j):=zJ fun j hj=>by
     rw[vE ca cb hn ht]
     have hlx:=z3B (ps:=ps) (A:=A) (ss:=ss) (n:=n) j
     unfold dg at hlx ⊢
     by_cases e:outs ps (j:Int)=[]
     · rw[if_pos e,if_pos e]
       have:cn ps j t=0:=by unfold cn;rw[e];rfl
       rw[this]
       simp
       grind
     · rw[if_neg e] at hlx ⊢
       rw[if_neg e]
       have hl:(((outs ps (j:Int)).length:Nat):Rat)≠0:=Zi (yz e)
       generalize (((outs ps (j:Int)).length:Nat):Rat)=l at *
       have:(vS ps A ss n j:Rat)=l * (xS ps A ss n j:Rat):=by grind
       rw[this]
       grind
    rw[e1,ZN,ZN,Za,Za,Za,← uI]
   have e2:qs n (fun i=>val ((shL ps A ss n).getD i (0,1)) * val ((zG ps A Bs (i:Nat)).getD t (0,1)))=(1 / (VS ps A ss n:Rat)) * qs n (fun j=>(vS ps A ss n j:Rat) * val ((zG ps A Bs (j:Nat)).getD t (0,1))):=by
    rw[← Za]
    exact zJ fun j hj=>by rw[vs j hj];grind
   rw[e2,key]
   generalize qs n (fun j=>(cn ps j t:Rat) * (xS ps A ss n j:Rat))=Cq at *
   generalize qs n (fun j=>dg ps A ss n j)=Dq at *
   generalize val (Bs.getD t (0,1))=b at *
   generalize (vS ps A ss n t:Rat)=v at *
   generalize (VS ps A ss n:Rat)=V at *
   generalize (dS ps A ss n:Rat)=d at *
   generalize val A=α at *
   generalize (A.2:Rat)=a2 at *
   generalize (A.1:Rat)=a1 at *
   subst eα
   have k1:a2 * v=a2 * ((1 - α) * Cq+(α * V+(1 - α) * Dq) * b):=by grind
   have k2:v=(1 - α) * Cq+(α * V+(1 - α) * Dq) * b:=by grind
   rw[k2]
   grind
end Pw
namespace L2
open PySem PySem.Spec PyProof.Rows
theorem z6A{f0:Nat→Nat→Int}{n z:Nat}(s0:Pw.Sgn n 0 f0)(hn:n≤12)(hb:∀ i j,(f0 i j).natAbs≤2 ^ z){k:Nat}(hk:k≤n):(∀ i j,i<n→j≤n→Sz ((z+4) * 13+1) ((Pw.fF f0 k).1 i j))∧Sz ((z+4) * 13+1) (Pw.fF f0 k).2:=by
 obtain⟨h1,h2⟩:=Pw.z5O (U:=2 ^ z) (Y:=2 ^ (z+4)) s0 hn (Nat.two_pow_pos _) (by rw[Nat.pow_add];omega) hb hk
 have e:(2 ^ (z+4)) ^ 13=2 ^ ((z+4) * 13):=(Nat.pow_mul ..).symm
 rw[e] at h2
 have lt:2 ^ ((z+4) * 13)<2 ^ ((z+4) * 13+1):=Nat.pow_lt_pow_right (by decide) (by omega)
 refine⟨fun i j hi hj=>?_,Nat.lt_of_le_of_lt h2 lt⟩
 have:=h1 i j hi hj
 rw[e] at this
 exact Nat.lt_of_le_of_lt this lt
theorem z4u{ps:List (Int×Int)}{A:Int×Int}{ss:List Int}{n z:Nat}(few:ps.length≤100)(h:Pw.Ys ps A ss n)(sa:Sz z A.2)(hs:∀ s∈ss,s≤2 ^ z):∀ i j,(Pw.uP ps A ss n i j).natAbs≤2 ^ (z+7):=by
 intro i j
 have a0:=h.a0
 have a1:=h.a1
 have sa':A.2.natAbs<2 ^ z:=sa
 have ep:(2:Nat) ^ (z+7)=2 ^ z * 128:=by rw[Nat.pow_add]
 unfold Pw.uP
 split
 · split
   · have hl:=Pw.ZO ps (j:Int)
     have hc:=List.count_le_length (a:=(i:Int)) (l:=Pw.outs ps (j:Int))
     have hm:1≤Pw.mp ps j∧Pw.mp ps j≤100:=by unfold Pw.mp;omega
     have hcn:0≤Pw.cn ps j i∧Pw.cn ps j i≤100:=by unfold Pw.cn;omega
     have k1:0≤A.2 * Pw.mp ps j:=Int.mul_nonneg (by omega) (by omega)
     have k2:A.2 * Pw.mp ps j≤A.2 * 100:=Int.mul_le_mul_of_nonneg_left hm.2 (by omega)
     have k3:0≤(A.2 - A.1) * Pw.cn ps j i:=Int.mul_nonneg (by omega) hcn.1
     have k4:(A.2 - A.1) * Pw.cn ps j i≤(A.2 - A.1) * 100:=Int.mul_le_mul_of_nonneg_left hcn.2 (by omega)
     unfold Pw.fac
     split <;> omega
   · split
     · have hs':Pw.Ys ps A ss n:=h
       by_cases hi:i<ss.length
       · have hm:ss.getD i 0∈ss:=List.mem_of_getElem? (yp hi)
         have b1:=hs _ hm
         have b2:=h.nn _ hm
         have:((2:Int) ^ z)=((2 ^ z:Nat):Int):=by push_cast;rfl
         rw[this] at b1
         omega
       · rw[List.getD_eq_getElem?_getD,List.getElem?_eq_none (by omega)]
         simp
     · simp
 · simp
end L2
namespace Pw
theorem UL{ps:List (Int×Int)}{A:Int×Int}{Bs:List (Int×Int)}{S:Int}{n j t:Nat}(ca:Canon A)(cb:zW Bs)(hn:Bs.length=n)(pr:L2.Pr A Bs S)(ht:t<n):val A * val (Bs.getD t (0,1))≤val ((zG ps A Bs (j:Nat)).getD t (0,1)):=by
 rw[vE ca cb hn ht]
 have a0:=Xz ca.1 (by have:=pr.a0;omega)
 have a1:=jB ca.1 pr.a1
 have hB:=L2.mem_getD (Bs:=Bs) (t:=t) (by omega)
 have b0:=Xz (cb _ hB).1 (pr.nn _ hB)
 split
 · have:=yd (a:=1 - val A) (by grind) b0
   grind
 · rename_i h
   have l0:(0:Rat)<(((outs ps (j:Int)).length:Nat):Rat):=cpos (d:=(((outs ps (j:Int)).length:Nat):Int)) (by have:=List.length_pos_iff.mpr h;omega)
   have c0:=UN (cnn (d:=cn ps j t) (by unfold cn;omega)) l0
   have:=yd (a:=1 - val A) (by grind) c0
   grind
theorem yF.unique{ps:List (Int×Int)}{A:Int×Int}{Bs:List (Int×Int)}{S:Int}{n:Nat}{Ss Ts:List (Int×Int)}(lk:∀ p∈ps,0≤p.2∧p.2<(n:Int))(ca:Canon A)(cb:zW Bs)(hn:Bs.length=n)(pr:L2.Pr A Bs S)(h:yF ps A Bs n Ss)(h':yF ps A Bs n Ts):Ss=Ts:=by
 have one:=pr.one
 rw[hn] at one
 have u:=Pw.unique (n:=n) (W:=fun i t=>val ((zG ps A Bs i).getD t (0,1))) (B:=fun t=>val (Bs.getD t (0,1))) (a:=val A) (x:=fun t=>val (Ss.getD t (0,1))) (y:=fun t=>val (Ts.getD t (0,1)))
  (by
   have hp:=cpos ca.1
   have h1:=cpos pr.a0
   unfold val
   rw[Rat.div_def]
   exact Rat.mul_pos h1 (Rat.inv_pos.mpr hp))
  (fun i t _ ht=>UL ca cb hn pr ht) (fun i _=>Ym lk ca cb hn one) one (by rw[h.one,h'.one]) (fun t ht=>h.stay t ht) (fun t ht=>h'.stay t ht)
 refine List.ext_getElem (by rw[h.len,h'.len]) fun i h1 h2=>?_
 have:=u i (by have:=h.len;omega)
 rw[List.getD_eq_getElem?_getD,List.getElem?_eq_getElem h1,List.getD_eq_getElem?_getD,List.getElem?_eq_getElem h2] at this
 exact val_inj (h.canon _ (List.getElem_mem h1)) (h'.canon _ (List.getElem_mem h2)) this
theorem yF.le1{ps:List (Int×Int)}{A:Int×Int}{Bs:List (Int×Int)}{n:Nat}{Ss:List (Int×Int)}(h:yF ps A Bs n Ss):∀ S∈Ss,S.1≤S.2:=by
 intro S hS
 obtain⟨i,hi,rfl⟩:=List.getElem_of_mem hS
 have c:=h.canon _ (List.getElem_mem hi)
 have h1:=uV (n:=n) (k:=i) (f:=fun t=>val (Ss.getD t (0,1))) (by have:=h.len;omega) fun t ht=>by
  have:=L2.mem_getD (Bs:=Ss) (t:=t) (by have:=h.len;omega)
  exact Xz (h.canon _ this).1 (h.nn _ this)
 rw[h.one] at h1
 rw[List.getD_eq_getElem?_getD,List.getElem?_eq_getElem hi] at h1
 have h1:val Ss[i]≤1:=h1
 have hp:=cpos c.1
 have h2:=ZH h1 (Rat.le_of_lt hp)
 have hne:=Zi (zE c)
 have e:val Ss[i] * (Ss[i].2:Rat)=(Ss[i].1:Rat):=by unfold val;grind
 rw[e] at h2
 have h3:(Ss[i].1:Rat)≤(Ss[i].2:Rat):=by grind
 exact Rat.intCast_le_intCast.mp h3
theorem yF.beh{ps:List (Int×Int)}{A:Int×Int}{Bs:List (Int×Int)}{n:Nat}{Ss:List (Int×Int)}(h:yF ps A Bs n Ss)(hn:Bs.length=n):YM ps A Bs Ss=Ss:=by
 refine List.ext_getElem (by rw[um,hn,h.len]) fun i h1 h2=>?_
 have e:(YM ps A Bs Ss)[i]=ZL (Qv ps A Bs Ss Bs.length i):=by
  simp only[YM,List.getElem_map,List.getElem_range]
 rw[e,hn,h.stay i (by have:=h.len;omega),List.getD_eq_getElem?_getD,List.getElem?_eq_getElem h2]
 exact qb (h.canon _ (List.getElem_mem h2))
end Pw
namespace L2
open PySem PySem.Spec PyProof.Rows
theorem z0d:∀ {ns:List Int}{s:Int},(∀ n∈ns,0≤n)→s∈ns→s≤ns.sum
 | n :: ns,s,h,hs=>by
   have h1:=Pw.Uh fun m hm=>h m (List.mem_cons_of_mem _ hm)
   have h2:=h n List.mem_cons_self
   rw[List.sum_cons]
   rcases List.mem_cons.mp hs with rfl | hs
   · omega
   · have:=z0d (fun m hm=>h m (List.mem_cons_of_mem _ hm)) hs
     omega
theorem Rw.z7r{ps:List (Int×Int)}{A:Int×Int}{Bs Ss:List (Int×Int)}{n z:Nat}{V':Int}(h:Pw.yF ps A Bs n Ss)(hV:0<V')(hz:z≤140)(zV:Sz ((z+11) * 13+20) V')(dv:∀ S∈Ss,S.2∣V'):Rw Ss n V' 1 where
 len:=h.len
 canon:=h.canon
 dpos:=hV
 cpos:=by decide
 dvd:=dv
 bnd:=fun R hR=>by
  have h1:=h.nn R hR
  have h2:=h.le1 R hR
  have h3:=(h.canon R hR).1
  omega
 sz:=by rw[Int.one_mul];exact zV.mono (by omega)
theorem z2R{Rs:List (Int×Int)}{n:Nat}{D C:Int}(h:Rw Rs n D C)(hn:n≤13){j:Nat}(hj:j≤n):Z9 2004 (Pw.ZL (Pw.qs j (fun t=>Pw.val (Rs.getD t (0,1))))):=by
 have hb:=Pw.Bd.qs (n:=j) (D:=D) (C:=(C:Rat)) (f:=fun t=>Pw.val (Rs.getD t (0,1))) fun i hi=>h.bd (mem_getD (by have:=h.len;omega))
 have hC:=h.cpos
 have hC0:=Pw.cnn (d:=C) (by omega)
 have h13':((13 * C:Int):Rat)=13 * (C:Rat):=by rw[Rat.intCast_mul];rfl
 have h0:Sz 4 13:=zR 4 (by decide)
 have z:Sz 2004 ((13 * C) * D):=by rw[Int.mul_assoc];exact (h0.mul h.sz).mono (by decide)
 refine Pw.Bd.sz (C:=13 * C) (hb.mono ?_) h.dpos (by omega) z
 rw[h13']
 refine Pw.ZH ?_ hC0
 have:((j:Int):Rat)≤((13:Int):Rat):=Rat.intCast_le_intCast.mpr (by omega)
 exact this
end L2
namespace L2
theorem JW.sz{pages:Int}{ws:List Int}(wt:JW pages ws)(hp:pages≤12):Sz 41 ws.sum:=by
 have hl:=wt.len
 have h1:=Pw.qv (B:=2 ^ 37) fun n hn=>Int.le_of_lt (wt.nn n hn).2
 have h2:(ws.length:Int) * 2 ^ 37≤12 * 2 ^ 37:=Int.mul_le_mul_of_nonneg_right (by omega) (by decide)
 have:=wt.pos
 exact zR 41 (by omega)
end L2
namespace Pw
section
variable{ps:List (Int×Int)}{A:Int×Int}{Bs:List (Int×Int)}{S:Int}{n:Nat}{Ss:List (Int×Int)}
theorem jx{A:Int×Int}(h:0<A.2)(h1:0<A.1):0<val A:=by
 unfold val
 rw[Rat.div_def]
 exact Rat.mul_pos (cpos h1) (Rat.inv_pos.mpr (cpos h))
end
end Pw
namespace L2
open PySem PySem.Spec PyProof.Rows
noncomputable def z3r(K:PySem.W.Frag):Sp:=fun vs H Q _=>∃ (t:Addr) (us:List V) (As:List (Int×Int)) (n:Nat) (D C:Int),vs=[.ref t]∧H t=some (.tup us)∧Zl K H As us∧Rw As n D C∧n≤13∧∀ (r:Addr) (H':Hp),zu H H'→xA K H' r (Pw.ZL (Pw.qs n (fun t=>Pw.val (As.getD t (0,1)))))→Q (.ref r) H'
theorem z7f{K:PySem.W.Frag}{H:Hp}{p q:Addr}{A B:Int×Int}{Q:VK}(h1:xA K H p A)(h2:xA K H q B)(k:Q (.bl (decide (A=B))) H):j6 K false (.ref p) (.ref q) H Q :=
 ⟨p,q,_,_,_,_,rfl,rfl,.inl ⟨h1,h2⟩,uX _ _ _ _,uX _ _ _ _,z5S _ _,by rw[if_neg Bool.false_ne_true,z0v];exact k⟩
end L2
namespace Pw
section
variable{ps:List (Int×Int)}{A:Int×Int}{Bs Ds:List (Int×Int)}{n:Nat}
theorem yF.alike{w:Nat→Rat}(hl:Ds.length=n)(c:zW Ds)(nn:∀ S∈Ds,0≤S.1)(one:qs n (fun t=>val (Ds.getD t (0,1)))=1)(hW:∀ j t,j<n→t<n→val ((zG ps A Bs (j:Nat)).getD t (0,1))=w t)(hD:∀ t,t<n→val (Ds.getD t (0,1))=w t):yF ps A Bs n Ds:=by
 refine⟨hl,c,nn,one,fun t ht=>?_⟩
 unfold Qv
 rw[zJ (g:=fun i=>w t * val (Ds.getD i (0,1))) fun i hi=>by rw[hW i t hi ht];grind,Za,one,hD t ht]
 grind
theorem yF.z2Z(hl:Bs.length=n)(cb:zW Bs)(nn:∀ S∈Bs,0≤S.1)(one:qs n (fun t=>val (Bs.getD t (0,1)))=1):yF [] A Bs n Bs :=
 yF.alike (w:=fun t=>val (Bs.getD t (0,1))) hl cb nn one (fun j t _ _=>rfl) fun t _=>rfl
end
end Pw
namespace L2
open PySem PySem.Spec PyProof.Rows
theorem z3m{ps:List (Int×Int)}{A:Int×Int}{Bs:List (Int×Int)}{S:Int}{n z:Nat}(few:ps.length≤100)(lk:∀ p∈ps,0≤p.2∧p.2<(n:Int))(ca:Pw.Canon A)(cb:Pw.zW Bs)(hn:Bs.length=n)(n12:n≤12)(pr:Pr A Bs S)(sz:Sz z A.2)(sS:Sz z S) :
 ∃ (Ss:List (Int×Int)) (V':Int),Pw.yF ps A Bs n Ss∧0<V'∧Sz ((z+11) * 13+20) V'∧∀ R∈Ss,R.2∣V':=by
 have hss:(Pw.xx Bs S).length=n:=by unfold Pw.xx;rw[List.length_map];exact hn
 have hB:∀ t,t<n→((Pw.xx Bs S).getD t 0:Rat)=Pw.val (Bs.getD t (0,1)) * (S:Rat):=fun t ht=>by
  have hi':t<Bs.length:=by omega
  have hR:Bs[t]?=some Bs[t]:=by simp
  have e1:(Pw.xx Bs S).getD t 0=Bs[t].1 * (S.fdiv Bs[t].2):=by
   unfold Pw.xx
   rw[List.getD_eq_getElem?_getD,List.getElem?_map,hR];rfl
  have e2:Bs.getD t (0,1)=Bs[t]:=by rw[List.getD_eq_getElem?_getD,hR];rfl
  have mR:=List.getElem_mem hi'
  rw[e1,e2,Pw.vI (cb _ mR).1 pr.spos (pr.sdvd _ mR)]
 have one:=pr.one
 rw[hn] at one
 have snn:∀ s∈Pw.xx Bs S,0≤s:=fun s hs=>by
  obtain⟨B,hB',rfl⟩:=List.mem_map.mp hs
  have c:=(cb B hB').1
  exact Int.mul_nonneg (pr.nn B hB') (by rw[Int.fdiv_eq_ediv_of_nonneg _ (by omega)];exact Int.ediv_nonneg (Int.le_of_lt pr.spos) (by omega))
 have ssum:(Pw.xx Bs S).sum=S:=by
  have h3:=Pw.X6 (Pw.xx Bs S)
  rw[hss,Pw.zJ (g:=fun t=>(S:Rat) * Pw.val (Bs.getD t (0,1))) fun t ht=>by rw[hB t ht];grind,Pw.Za,one] at h3
  have:(S:Rat)=((Pw.xx Bs S).sum:Rat):=by rw[← h3];grind
  exact_mod_cast this.symm
 have eo:Pw.Ys ps A (Pw.xx Bs S) n:=⟨lk,pr.a0,pr.a1,hss,snn,by rw[ssum];exact pr.spos⟩
 have sle:∀ s∈Pw.xx Bs S,s≤2 ^ z:=fun s hs=>by
  have h1:s≤(Pw.xx Bs S).sum:=z0d snn hs
  have h2:S.natAbs<2 ^ z:=sS
  have:((2:Int) ^ z)=((2 ^ z:Nat):Int):=by push_cast;rfl
  rw[this]
  omega
 have ez:=z4u few eo sz sle
 obtain⟨zf,zd⟩:=z6A eo.sgn (by omega) ez (k:=n) (Nat.le_refl _)
 have zv:∀ j,j<n→Sz ((z+11) * 13+8) (Pw.vS ps A (Pw.xx Bs S) n j):=fun j hj=>by
  have hol:=Pw.ZO ps (j:Int)
  have zm:Sz 7 (Pw.mp ps j):=zR 7 (by unfold Pw.mp;omega)
  exact (zm.mul (zf j _ hj (Nat.le_refl _))).mono (by omega)
 refine⟨Pw.shL ps A (Pw.xx Bs S) n,Pw.VS ps A (Pw.xx Bs S) n,Pw.z5n eo ca cb hn pr.spos hB one,eo.z0Z,?_,fun R hR=>?_⟩
 · refine (z0X (k:=(z+11) * 13+8) fun m hm=>?_).mono (by rw[List.length_map,List.length_range];omega)
   obtain⟨t,ht,rfl⟩:=List.mem_map.mp hm
   exact zv t (List.mem_range.mp ht)
 · obtain⟨t,_,rfl⟩:=List.mem_map.mp hR
   exact Pw.Ud (Pw.Fr.made (by have:=eo.z0Z;omega))
end L2
namespace Pw
theorem z1m(f:Nat→Rat)(n:Nat):∀ m,qs (n+m) f=qs n f+qs m (fun i=>f (n+i))
 | 0=>by show qs n f=qs n f+0;grind
 | m+1=>by
   show qs (n+m) f+f (n+m)=qs n f+(qs m (fun i=>f (n+i))+f (n+m))
   rw[z1m f n m];grind
section
variable{P:Int×Int}{Bs Cs:List (Int×Int)}
section
variable{n m:Nat}{ps qs':List (Int×Int)}{A:Int×Int}{P:Int×Int}{Bs Cs Ss Ts:List (Int×Int)}
end
end
end Pw
namespace L2
theorem Zl.cat{K:PySem.W.Frag}{H:Hp}{Bs:List (Int×Int)}{ws:List V}(b:Zl K H Bs ws):∀ {As:List (Int×Int)}{us:List V},Zl K H As us→Zl K H (As ++ Bs) (us ++ ws)
 | [],us,h=>by
   have:us=[]:=h
   subst this
   exact b
 | A :: As,us,h=>by
   obtain⟨p,r,rfl,f,h'⟩:=h
   exact⟨p,r ++ ws,rfl,f,Zl.cat b h'⟩
end L2
namespace L2
open PySem PySem.Spec PyProof.Rows
theorem z3P{ps:List (Int×Int)}{A:Int×Int}{S:Int}{n z:Nat}(sa:Sz z A.2)(sS:Sz z S)(few:ps.length≤100)(hn:n≤13):Sz (z+z+92) (Pw.Mw ps A S n):=by
 refine (Sz.mul (Sz.mul sa sS) (Pw.Xb (k:=7) fun i _=>?_)).mono (by omega)
 have:=Pw.ZO ps (i:Int)
 show ((max 1 (Pw.outs ps (i:Int)).length:Nat):Int).natAbs<2 ^ 7
 omega
end L2
namespace L2
open PySem PySem.Spec PyProof.Rows
theorem z1p{D E:Int}(hD:0<D)(hE:0<E):D≤D * E:=by
 have:=Int.mul_le_mul_of_nonneg_left (show (1:Int)≤E by omega) (Int.le_of_lt hD)
 omega
theorem z1q{D E:Int}(hD:0<D)(hE:0<E):E≤D * E:=by rw[Int.mul_comm];exact z1p hE hD
end L2
namespace L2
open PySem PySem.Spec PyProof.Rows
section
variable{prog:Program}{w:World}{A:Around}{E:Value→Shared→Prop}{s:Shared}
theorem Ug{id:String}{b:Builtin}{args:List Value}{kw:List (Str×Value)}{Q:Value→Shared→Prop}(hk:builtinKind id=none)(hp:plainId id=true)(hb:entryFor table id=some b)(ha:argsOk id ⟨args,kw⟩)
 (hc:wpAny (model prog w) A.in1 (b ⟨args,kw⟩) (fun fin s'=>match fin with | .done f=>(match (Except.ok f:Result) with | .ok (.ret v)=>Q v s' | .ok _=>False | .error e=>E e s') | .again c'=>c'.quiet=true∧codeAny (model prog w) A c' (fun r s'=>match r with | .ok (.ret v)=>Q v s' | .ok _=>False | .error e=>E e s') s') E s):wpAny (model prog w) A (call (.builtin id) args kw) Q E s:=by
 refine wpAny_call (codeAny_call_builtin hp hb ?_);simp only[checkBuiltinCall,hk]
 cases hsig:Manifest.signature? id with
 | none=>exact wpAny_pure hc
 | some sig =>
   have h2:Bind.checkArgs id sig ⟨args,kw⟩=pure ():=by simpa only [argsOk,hsig] using ha
   simp only[h2];exact wpAny_pure hc
theorem z7v{t b:Addr}{us ws:List Value}{Q:Value→Shared→Prop}(ht:Zb s.heap t us.toArray)(hb:Zb s.heap b ws.toArray)(hz:us.length+ws.length≤sizeLine)
 (q:∀ p h',(∀ c o,s.heap.get? c=some o→h'.get? c=some o)→Zb h' p (us ++ ws).toArray→s.heap.objs.size≤h'.objs.size→(p=t∨p=b∨s.heap.objs.size≤p)→Q (.ref p) { s with heap:=h' }):wpAny (model prog w) A (binaryOp .Add (.ref t) (.ref b)) Q E s:=by
 cases us with
 | nil=>exact HT.uu ht.tup hb.tup (q b s.heap (fun _ _ e=>e) hb (Nat.le_refl _) (.inr (.inl rfl)))
 | cons u us =>
   refine HT.jZ ht.tup hb.tup (by simp) (fun e=>?_) (fun _=>q _ _ (fun c o e=>Heap.get?_push_of_some _ e) (Zb.new _ _) (by rw[Heap.size_push];exact Nat.le_succ _) (.inr (.inr (Nat.le_refl _)))) hz
   subst e
   exact q t s.heap (fun _ _ e=>e) (by simpa using ht) (Nat.le_refl _) (.inl rfl)
noncomputable def qS(xs:Nat→List Value):Nat→List Value
 | 0=>[]
 | i+1=>qS xs i ++ xs i
theorem Zb.kept{h h':Heap}{a:Addr}{its:Array Value}(p:Zb h a its)(k:∀ o,h.get? a=some o→h'.get? a=some o):Zb h' a its:=by
 obtain⟨o,e,r⟩:=p
 exact⟨o,k o e,r⟩
theorem Zb.neO{h:Heap}{a b:Addr}{its:Array Value}{o:Obj}(p:Zb h a its)(e:h.get? b=some o)(c:o.cls≠.type "tuple"):a≠b:=by
 obtain⟨o',e',cd,_⟩:=p
 rintro rfl
 rw[e] at e'
 cases e'
 exact c (congrArg Prod.fst cd)
theorem Jj{R:Result→Shared→Prop}(hh:A.in1.handled=none){I l S:Addr}(hne:l≠I)(hSI:S≠I)(hSl:S≠l)(its:Array Value)(rs:Nat→Addr)(xs:Nat→List Value)(hits:∀ i,i<its.size→its[i]?=some (.ref (rs i)))(hz:∀ i,i≤its.size→(qS xs i).length≤sizeLine) :
 ∀ (k i:Nat) (s:Shared) (T:Addr) (c:Nat),its.size - i=k→i≤its.size→s.heap.IsListIter I l i→s.heap.IsList l its→s.heap.get? S=some { cls:=.type "list",dict:=none,data:=.seq #[.ref T] c,slots:=#[] }→Zb s.heap T (qS xs i).toArray→(∀ j,j<its.size→Zb s.heap (rs j) (xs j).toArray) →
   (∀ h' tk p,(∀ b o,b≠I→b≠S→s.heap.get? b=some o→h'.get? b=some o)→Zb h' p (qS xs its.size).toArray→(p=T∨(∃ j,j<its.size∧p=rs j)∨s.heap.objs.size≤p)→R (.ok (.ret (.ref p))) { s with heap:=h',toks:=tk }) →
   codeAny (model prog w) A (.builtin "sum.loop" ⟨[.ref I,.ref S,rawInt 2,rawInt 0],[]⟩) R s:=by
 have W:=Walks.list (prog:=prog) (w:=w) hh I l hne its
 intro k
 induction k with
 | zero =>
   intro i s T c hk hi gi gl gS gT gr hR
   have e:i=its.size:=by omega
   subst e
   refine codeAny_builtin F.entry_sum_loop ?_;rw[Around.under_plainId F.plain_sum_loop _]
   show wpAny _ A.in1 (seqItems? (.ref S) >>= _) _ _ s;refine wpAny_bind (wpAny_seqItems gS rfl ?_)
   show wpAny _ A.in1 (tryCatch (pyNext (.ref I)) _ >>= _) _ _ s;refine wpAny_bind (wpAny_tryCatch (W.done s _ _ ⟨gi,gl⟩ fun h' tk hm=>?_))
   have nI:T≠I:=by obtain⟨oi,ei,ci,_⟩:=gi;exact gT.neO ei (by rw[ci];intro z;injection z with z;exact absurd z (by decide))
   exact wpAny_pure (hR h' tk T (fun b o b1 _ e=>hm b o (by simpa using b1) e) (gT.kept fun o e=>hm T o (by simpa using nI) e) (.inl rfl))
 | succ k ih =>
   intro i s T c hk hi gi gl gS gT gr hR
   have hlt:i<its.size:=by omega
   have nI:∀ {a:Addr}{zs:Array Value},Zb s.heap a zs→a≠I:=fun g=>by obtain⟨oi,ei,ci,_⟩:=gi;exact g.neO ei (by rw[ci];intro z;injection z with z;exact absurd z (by decide))
   have nS:∀ {a:Addr}{zs:Array Value},Zb s.heap a zs→a≠S:=fun g=>g.neO gS (by intro z;injection z with z;exact absurd z (by decide))
   refine codeAny_builtin F.entry_sum_loop ?_;rw[Around.under_plainId F.plain_sum_loop _]
   show wpAny _ A.in1 (seqItems? (.ref S) >>= _) _ _ s;refine wpAny_bind (wpAny_seqItems gS rfl ?_)
   show wpAny _ A.in1 (tryCatch (pyNext (.ref I)) _ >>= _) _ _ s;refine wpAny_bind (wpAny_tryCatch (wpAny_pyNext_list_item gi gl (x:=.ref (rs i)) (hits i hlt) fun h1 gi1 hs1=>?_))
   have k1:∀ b o,b≠I→s.heap.get? b=some o→h1.get? b=some o:=fun b o hb e=>hs1.extBut b o hb e
   have gl1:h1.IsList l its:=gl.at fun o e=>k1 l o hne e
   have gS1:=k1 S _ hSI gS
   have gT1:=gT.kept fun o e=>k1 T o (nI gT) e
   have gr1:=(gr i hlt).kept fun o e=>k1 _ o (nI (gr i hlt)) e
   show wpAny _ A.in1 ((holding [Value.ref (rs i)] (binaryOp .Add (.ref T) (.ref (rs i)))).attempt >>= _) _ _ _
   refine wpAny_bind (wpAny_attempt (wpAny_holding (z7v (s:={ s with heap:=h1 }) gT1 gr1 (by have:=hz (i+1) hlt;rw[qS,List.length_append] at this;exact this) fun p h2 k2 gp z2 pv=>?_)))
   have gS2:=k2 S _ gS1
   show wpAny _ A.in1 (updateSeq S (fun _=>#[Value.ref p]) >>= _) _ _ _;refine wpAny_bind (wpAny_updateSeq gS2 rfl ?_)
   have gS3:=Heap.get?_update_self (Obj.mapSeq fun _=>#[Value.ref p]) gS2 rfl
   refine wpAny_bind (wpAny_letGo (wpAny_bind (wpAny_updateSeq gS3 rfl (wpAny_pure ⟨plainId_quiet F.plain_sum_loop _,?_⟩))))
   have pS:p≠S:=gp.neO gS2 (by intro z;injection z with z;exact absurd z (by decide))
   have up:∀ b o,b≠S→h2.get? b=some o→((h2.update S (Obj.mapSeq fun _=>#[Value.ref p])).update S (Obj.mapSeq fun _=>#[Value.ref p])).get? b=some o:=fun b o hb e=>(Heap.get?_update_other _ _ (Ne.symm hb)).trans ((Heap.get?_update_other _ _ (Ne.symm hb)).trans e)
   have all:∀ b o,b≠I→b≠S→s.heap.get? b=some o→((h2.update S (Obj.mapSeq fun _=>#[Value.ref p])).update S (Obj.mapSeq fun _=>#[Value.ref p])).get? b=some o:=fun b o b1 b2 e=>up b o b2 (k2 b o (k1 b o b1 e))
   refine ih (i+1) _ p _ (by omega) hlt (gi1.at fun o e=>up I o (Ne.symm hSI) (k2 I o e)) (gl1.at fun o e=>up l o (Ne.symm hSl) (k2 l o e)) (Heap.get?_update_self _ gS3 rfl) (gp.kept fun o e=>up p o pS e) (fun j hj=>(gr j hj).kept fun o e=>all _ o (nI (gr j hj)) (nS (gr j hj)) e) fun h' tk r kk gr' pr=>?_
   refine hR h' tk r (fun b o b1 b2 e=>kk b o b1 b2 (all b o b1 b2 e)) gr' ?_
   have z1:h1.objs.size=s.heap.objs.size:=hs1.1
   have z2:h1.objs.size≤h2.objs.size:=z2
   have z3:((h2.update S (Obj.mapSeq fun _=>#[Value.ref p])).update S (Obj.mapSeq fun _=>#[Value.ref p])).objs.size=h2.objs.size:=((Heap.SameBut.update ..).1).trans (Heap.SameBut.update ..).1
   rcases pr with rfl | pr | pr
   · rcases pv with rfl | rfl | pv
     · exact .inl rfl
     · exact .inr (.inl ⟨i,hlt,rfl⟩)
     · exact .inr (.inr (z1 ▸ pv))
   · exact .inr (.inl pr)
   · have pr:((h2.update S (Obj.mapSeq fun _=>#[Value.ref p])).update S (Obj.mapSeq fun _=>#[Value.ref p])).objs.size≤r:=pr
     exact .inr (.inr (by rw[z3] at pr;rw[← z1];exact Nat.le_trans z2 pr))
theorem qu(a v:Value):argsOk "sum" ⟨[a],[(Str.ofString "start",v)]⟩:=by unfold argsOk;kernel_rfl
theorem Jl{l T:Addr}{its:Array Value}{rs:Nat→Addr}{xs:Nat→List Value}{Q:Value→Shared→Prop}(hh:A.in1.handled=none)(hl:s.heap.IsList l its)(hT:Zb s.heap T #[])(hits:∀ i,i<its.size→its[i]?=some (.ref (rs i)))(hr:∀ j,j<its.size→Zb s.heap (rs j) (xs j).toArray)(hz:∀ i,i≤its.size→(qS xs i).length≤sizeLine)
 (q:∀ h' tk p,(∀ b o,s.heap.get? b=some o→h'.get? b=some o)→Zb h' p (qS xs its.size).toArray→(p=T∨(∃ j,j<its.size∧p=rs j)∨s.heap.objs.size≤p)→Q (.ref p) { s with heap:=h',toks:=tk }):wpAny (model prog w) A (call (.builtin "sum") [.ref l] [(Str.ofString "start",.ref T)]) Q E s:=by
 refine Ug F.kind_sum F.plain_sum F.entry_sum (qu _ _) ?_
 unfold Builtin.«sum»;simp only[List.length_cons,List.length_nil];rw[if_neg (by decide)]
 refine wpAny_bind (wpAny_of_eq (show Builtin.Builtins.bindParams "sum" ["start"] 0 ⟨[],[(Str.ofString "start",.ref T)]⟩=pure [some (.ref T)] from rfl) ?_)
 refine wpAny_bind (wpAny_pyIter_list hl ?_)
 refine wpAny_bind (wpAny_pure ?_)
 have lt:∀ {b:Addr}{o:Obj},s.heap.get? b=some o→b<s.heap.objs.size:=fun e=>Heap.lt_size e
 obtain⟨oT,eT,cT,nT,dT⟩:=id hT
 have hT1:(Shared.TypeIs { s with heap:=s.heap.push { cls:=.type "list_iterator",data:=.fields #[.ref l,.int 0 0] } } (.ref T) "tuple"):=⟨oT,Heap.get?_push_of_some _ eT,congrArg Prod.fst cT⟩
 simp only[List.forIn_cons,List.forIn_nil]
 refine wpAny_bind (wpAny_bind (wpAny_bind (wpAny_isInstance (T:="tuple") (b:=false) hT1 F.sub_tuple_str ?_)));simp only[Bool.false_eq_true,if_false]
 refine wpAny_pure (wpAny_bind (wpAny_bind (wpAny_isInstance (T:="tuple") (b:=false) hT1 F.sub_tuple_bytes ?_)));simp only[Bool.false_eq_true,if_false]
 refine wpAny_pure (wpAny_bind (wpAny_bind (wpAny_isInstance (T:="tuple") (b:=false) hT1 F.sub_tuple_bytearray ?_)));simp only[Bool.false_eq_true,if_false]
 refine wpAny_pure (wpAny_pure (wpAny_bind (wpAny_newObj_type ?_)))
 have z1:(s.heap.push { cls:=.type "list_iterator",data:=.fields #[.ref l,.int 0 0] }).objs.size=s.heap.objs.size+1:=Heap.size_push ..
 have up:∀ b o,s.heap.get? b=some o→((s.heap.push { cls:=.type "list_iterator",data:=.fields #[.ref l,.int 0 0] }).push { cls:=.type "list",data:=.seq #[.ref T] }).get? b=some o:=fun b o e=>Heap.get?_push_of_some _ (Heap.get?_push_of_some _ e)
 have gI:((s.heap.push { cls:=.type "list_iterator",data:=.fields #[.ref l,.int 0 0] }).push { cls:=.type "list",data:=.seq #[.ref T] }).get? s.heap.objs.size=some { cls:=.type "list_iterator",data:=.fields #[.ref l,.int 0 0] }:=Heap.get?_push_of_some _ (Heap.get?_push_size _ rfl)
 have ll:l<s.heap.objs.size:=by obtain⟨o,e,_⟩:=hl;exact lt e
 have gS:((s.heap.push { cls:=.type "list_iterator",data:=.fields #[.ref l,.int 0 0] }).push { cls:=.type "list",data:=.seq #[.ref T] }).get? (s.heap.push { cls:=.type "list_iterator",data:=.fields #[.ref l,.int 0 0] }).objs.size=some { cls:=.type "list",data:=.seq #[.ref T] }:=Heap.get?_push_size _ rfl
 have n1:(s.heap.push { cls:=.type "list_iterator",data:=.fields #[.ref l,.int 0 0] }).objs.size≠s.heap.objs.size:=by rw[z1];exact Nat.succ_ne_self _
 have n2:(s.heap.push { cls:=.type "list_iterator",data:=.fields #[.ref l,.int 0 0] }).objs.size≠l:=by rw[z1];exact Nat.ne_of_gt (Nat.lt_succ_of_lt ll)
 refine wpAny_pure ⟨plainId_quiet F.plain_sum_loop _,Jj hh (Nat.ne_of_lt ll) n1 n2 its rs xs hits hz its.size 0 _ T 0 rfl (Nat.zero_le _) ⟨_,gI,rfl,rfl⟩ (hl.at fun o e=>up _ o e) gS (hT.kept fun o e=>up _ o e) (fun j hj=>(hr j hj).kept fun o e=>up _ o e) fun h' tk p kk gp pv=>?_⟩
 have kb:∀ b o,s.heap.get? b=some o→b≠s.heap.objs.size∧b≠(s.heap.push { cls:=.type "list_iterator",data:=.fields #[.ref l,.int 0 0] }).objs.size:=fun b o e=>⟨Nat.ne_of_lt (lt e),by rw[z1];exact Nat.ne_of_lt (Nat.lt_succ_of_lt (lt e))⟩
 refine q h' tk p (fun b o e=>kk b o (kb b o e).1 (kb b o e).2 (up b o e)) gp ?_
 rcases pv with rfl | pv | pv
 · exact .inl rfl
 · exact .inr (.inl pv)
 · have pv:((s.heap.push { cls:=.type "list_iterator",data:=.fields #[.ref l,.int 0 0] }).push { cls:=.type "list",data:=.seq #[.ref T] }).objs.size≤p:=pv
   rw[Heap.size_push,z1] at pv
   exact .inr (.inr (Nat.le_trans (Nat.le_add_right _ 2) pv))
end
section
variable{X:Cx}
noncomputable def z6t(x:V)(Q:VK):VK:=fun y H2=>∃ (l t:Addr) (us:List V) (xss:List (List V)),x=V.ref l∧y=V.ref t∧H2 l=some (.lst us)∧H2 t=some (.tup [])∧us.length=xss.length∧(∀ (i:Nat) (ys:List V),xss[i]?=some ys→∃ r:Addr,us[i]?=some (V.ref r)∧H2 r=some (.tup ys))∧xss.flatten.length≤sizeLine ∧
 ∀ (p:Addr) (H':Hp),zu H2 H'→H' p=some (.tup xss.flatten)→Q (.ref p) H'
noncomputable def z5A(te tv:TE):TE:=fun σ H Q=>te σ H fun x H1=>tv σ H1 (z6t x Q)
theorem Js{α:Type}(xss:List (List α))(i:Nat):(xss.take i).flatten.length≤xss.flatten.length:=by
 have:(xss.take i).flatten ++ (xss.drop i).flatten=xss.flatten:=by rw[← List.flatten_append,List.take_append_drop]
 rw[← this,List.length_append]
 omega
theorem Vals.flatten{xss:List (List V)}{wss:Nat→List Value}:∀ {i:Nat},i≤xss.length→(∀ j ys,xss[j]?=some ys→Vals ys (wss j))→Vals (xss.take i).flatten (qS wss i)
 | 0,_,_=>by rw[List.take_zero];exact .nil
 | i+1,hi,h=>by
   have e:xss[i]?=some xss[i]:=by simp
   rw[List.take_succ,e,List.flatten_append]
   refine (Vals.flatten (by omega) h).append ?_
   show Vals ([xss[i]]:List (List V)).flatten (wss i)
   rw[List.flatten_cons,List.flatten_nil,List.append_nil]
   exact h i _ e
theorem z2n{e v:Expr}{te tv:TE}{p kp pos:Pos}(hc:X.calm=true)(hg:Gl X "sum")(hm:X.mg "sum"=none)(hs:starEach [e] X.env=[(false,eval e X.env)])(he:PE X e te)(hv:PE X v tv) :
 PE X (.Call (.Name "sum" p) [e] [⟨some "start",v,kp⟩] pos) (z5A te tv):=by
 intro pins s σ H Q I h
 refine wpAny_Call_Name_kw (Yh I hg hm boot_sum ?_)
 have pa:PA X [e] (JN te z6m):=zP he zb hs
 refine callWith_kw (Zt (pa pos pins s σ H (fun xs H1=>match xs with | [x]=>tv σ H1 (z6t x Q) | _=>False) I h) fun us s1 ⟨vs,H1,I1,r1,q1⟩=>?_) (by rw[hs];rfl) (by rw[hs];rfl)
 match vs,r1,q1 with
 | [x],r1,q1 =>
   obtain⟨u,rfl,ru⟩:=vals1 r1
   refine kws_cons (Zt (hv pins s1 σ H1 _ I1 q1) fun uv s2 ⟨y,H2,I2,ry,l,t,us,xss,e1,e2,hl,ht,hlen,hrs,hz,q⟩=>kws_nil ?_)
   subst e1 e2
   cases ru
   cases ry
   obtain⟨its,rv,pl,_⟩:=I2.list (z7.of hl)
   have hl':=rv.length
   have key:∀ i,i<xss.length→∃ r ws,us[i]?=some (V.ref r)∧its[i]?=some (.ref r)∧H2 r=some (.tup (xss.getD i []))∧Vals (xss.getD i []) ws∧Zb s2.heap r ws.toArray:=fun i hi=>by
    have e:xss[i]?=some xss[i]:=by simp
    obtain⟨r,h1,h2⟩:=hrs i _ e
    obtain⟨u,h3,h4⟩:=rv.get h1
    cases h4
    obtain⟨_,ws,r1,p1⟩:xss[i].length≤sizeLine∧∃ its:List Value,Vals xss[i] its∧Zb s2.heap r its.toArray:=I2.hok r _ h2
    have e':xss.getD i []=xss[i]:=by rw[List.getD_eq_getElem?_getD,e];rfl
    rw[e']
    exact⟨r,ws,h1,h3,h2,r1,p1⟩
   have key':∀ i,∃ (r:Addr) (ws:List Value),i<xss.length→us[i]?=some (V.ref r)∧its[i]?=some (.ref r)∧H2 r=some (.tup (xss.getD i []))∧Vals (xss.getD i []) ws∧Zb s2.heap r ws.toArray:=fun i=>by
    by_cases hi:i<xss.length
    · obtain⟨r,ws,h⟩:=key i hi
      exact⟨r,ws,fun _=>h⟩
    · exact⟨0,[],fun z=>absurd z hi⟩
   let rs:Nat→Addr:=fun i=>(key' i).choose
   let wss:Nat→List Value:=fun i=>(key' i).choose_spec.choose
   have kk:∀ i,i<xss.length→us[i]?=some (V.ref (rs i))∧its[i]?=some (.ref (rs i))∧H2 (rs i)=some (.tup (xss.getD i []))∧Vals (xss.getD i []) (wss i)∧Zb s2.heap (rs i) (wss i).toArray:=fun i hi=>(key' i).choose_spec.choose_spec hi
   have sz:its.toArray.size=xss.length:=by rw[List.size_toArray,← hl',hlen]
   have va:∀ i,i≤xss.length→Vals (xss.take i).flatten (qS wss i):=fun i hi=>Vals.flatten hi fun j ys e=>by
    have hj:j<xss.length:=(List.getElem?_eq_some_iff.mp e).1
    have:=(kk j hj).2.2.2.1
    rwa [List.getD_eq_getElem?_getD,e] at this
   obtain⟨_,ts,rt,pt⟩:([]:List V).length≤sizeLine∧∃ its:List Value,Vals [] its∧Zb s2.heap t its.toArray:=I2.hok t _ ht
   cases rt
   have fin:=va xss.length (Nat.le_refl _)
   rw[List.take_of_length_le (Nat.le_refl _)] at fin
   refine Jl (rs:=rs) (xs:=wss) (I2.ok.hd hc) pl.isList pt (fun i hi=>by rw[sz] at hi;simpa using (kk i hi).2.1) (fun j hj=>by rw[sz] at hj;exact (kk j hj).2.2.2.2) (fun i hi=>by rw[sz] at hi;rw[← (va i hi).length];exact Nat.le_trans (Js xss i) hz) fun h' tk p kp gp pv=>?_
   rw[sz] at gp
   have trk:∀ {zs:List V},H2 p=some (.tup zs)→EP X pins σ Q (.ref p) { s2 with heap:=h',toks:=tk }:=fun {zs} hp=>by
    obtain⟨_,ws,r1,p1⟩:zs.length≤sizeLine∧∃ its:List Value,Vals zs its∧Zb s2.heap p its.toArray:=I2.hok p _ hp
    have p2:=p1.kept fun o e=>kp p o e
    obtain⟨o1,g1,_,n1,d1⟩:=p2
    obtain⟨o2,g2,_,n2,d2⟩:=gp
    rw[g1] at g2;cases g2
    rw[d1] at d2
    injection d2 with d3 _
    have:ws=qS wss xss.length:=by simpa using congrArg Array.toList d3
    subst this
    have ez:zs=xss.flatten:=r1.inj fin
    exact⟨.ref p,H2,I2.kept (t':=tk) kp,rfl,q p H2 (zu.refl _) (by rw[hp,ez])⟩
   rcases pv with rfl |⟨j,hj,rfl⟩| pv
   · exact trk ht
   · rw[sz] at hj
     exact trk (kk j hj).2.2.1
   · have hn:H2 p=none:=I2.hok.fresh pv
     exact⟨.ref p,upd H2 p (.tup xss.flatten),I2.laid (t':=tk) (fun b u e=>kp b u e) pv ⟨hz,qS wss xss.length,fin,gp⟩,rfl,q p _ (zu.new hn) zj⟩
end
end L2
namespace Pw
section
variable(ps:List (Int×Int))(A:Int×Int)(Bs:List (Int×Int))(n:Nat)
noncomputable def Uz:Nat→(Nat→Rat)→Nat→Rat
 | 0,x=>x
 | m+1,x=>fun t=>qs n (fun i=>Uz m x i * val ((zG ps A Bs ((i:Nat):Int)).getD t (0,1)))
noncomputable def itL(m:Nat)(Rs:List (Int×Int)):List (Int×Int):=(List.range n).map fun t=>ZL (Uz ps A Bs n m (fun i=>val (Rs.getD i (0,1))) t)
noncomputable def Vq:List (Int×Int):=((List.range n).map fun i=>zG ps A Bs ((i:Nat):Int)).flatten
end
noncomputable def vD(ns:List Int)(Fs:List (List Int))(n:Nat):List Int:=(List.range n).map fun t=>((List.range n).map fun i=>ns.getD i 0 * (Fs.getD i []).getD t 0).sum
theorem VQ(ns:List Int)(Fs:List (List Int))(n:Nat):(vD ns Fs n).length=n:=by unfold vD;simp
theorem z2N{ns:List Int}{Fs:List (List Int)}{n t:Nat}(h:t<n):(vD ns Fs n).getD t 0=((List.range n).map fun i=>ns.getD i 0 * (Fs.getD i []).getD t 0).sum:=by
 unfold vD
 rw[List.getD_eq_getElem?_getD,List.getElem?_map,List.getElem?_range h]
 rfl
section
variable{ps:List (Int×Int)}{A:Int×Int}{Bs:List (Int×Int)}{n:Nat}
theorem z2q{Rs:List (Int×Int)}(hn:Bs.length=n):itL ps A Bs n 1 Rs=YM ps A Bs Rs:=by
 unfold itL YM
 rw[hn]
 rfl
theorem uz{W:Int×Int}(h:W∈Vq ps A Bs n):∃ i,i<n∧W∈zG ps A Bs ((i:Nat):Int):=by
 unfold Vq at h
 obtain⟨l,h1,h2⟩:=List.mem_flatten.mp h
 obtain⟨i,hi,rfl⟩:=List.mem_map.mp h1
 exact⟨i,List.mem_range.mp hi,h2⟩
theorem JR{W:Int×Int}{i:Nat}(hi:i<n)(h:W∈zG ps A Bs ((i:Nat):Int)):W∈Vq ps A Bs n :=
 List.mem_flatten.mpr ⟨_,List.mem_map.mpr ⟨i,List.mem_range.mpr hi,rfl⟩,h⟩
theorem U9(hw:∀ i t,i<n→t<n→0≤val ((zG ps A Bs ((i:Nat):Int)).getD t (0,1)))(hs:∀ i,i<n→qs n (fun t=>val ((zG ps A Bs ((i:Nat):Int)).getD t (0,1)))=1)(x:Nat→Rat):∀ m,qs n (fun t=>Zx (Uz ps A Bs n m x t))≤qs n (fun t=>Zx (x t))
 | 0=>Rat.le_refl
 | m+1=>by
   refine Rat.le_trans ?_ (U9 hw hs x m)
   have h1:qs n (fun t=>Zx (Uz ps A Bs n (m+1) x t))≤qs n (fun t=>qs n (fun i=>Zx (Uz ps A Bs n m x i) * val ((zG ps A Bs ((i:Nat):Int)).getD t (0,1)))):=YV fun t ht=>by
    refine Rat.le_trans (Vn _ n) (YV fun i hi=>uR (hw i t hi ht))
   refine Rat.le_trans h1 ?_
   rw[Xm (fun t i=>Zx (Uz ps A Bs n m x i) * val ((zG ps A Bs ((i:Nat):Int)).getD t (0,1)))]
   refine YV fun i hi=>?_
   rw[Za,hs i hi]
   grind
theorem z2U{x c:Rat}(h:Zx x≤c):-c≤x∧x≤c:=by unfold Zx at h;split at h <;> constructor <;> grind
theorem z2E{x c:Rat}(h1:-c≤x)(h2:x≤c):Zx x≤c:=by unfold Zx;split <;> grind
theorem z4X{S:Int}(lk:∀ p∈ps,0≤p.2∧p.2<(n:Int))(ca:Canon A)(cb:zW Bs)(hn:Bs.length=n)(pr:L2.Pr A Bs S){x:Nat→Rat}{C:Rat}(hx:∀ t,t<n→Zx (x t)≤C)(m:Nat){t:Nat}(ht:t<n):Zx (Uz ps A Bs n m x t)≤(n:Nat) * C:=by
 have one:=pr.one
 rw[hn] at one
 have h1:=U9 (ps:=ps) (A:=A) (Bs:=Bs) (n:=n) (fun i t _ ht=>(vO (page:=(i:Int)) lk ca cb (by have:=pr.a0;omega) pr.a1 pr.nn hn one ht).1) (fun i _=>Ym lk ca cb hn one) x m
 have h2:=uV (f:=fun t=>Zx (Uz ps A Bs n m x t)) ht fun i _=>Vt _
 have h3:qs n (fun t=>Zx (x t))≤qs n (fun _=>C):=YV hx
 have h4:∀ k:Nat,qs k (fun _=>C)=(k:Nat) * C:=fun k=>by
  induction k with
  | zero=>show (0:Rat)=_;simp
  | succ k ih =>
    show qs k _+C=_
    rw[ih]
    have:((k+1:Nat):Rat)=((k:Nat):Rat)+1:=by push_cast;rfl
    rw[this];grind
 rw[h4] at h3
 exact Rat.le_trans h2 (Rat.le_trans h1 h3)
theorem z2M{ns:List Int}{L M:Int}{x:Nat→Rat}{m:Nat}(ca:Canon A)(cb:zW Bs)(hn:Bs.length=n)(hL:0<L)(dv:∀ W∈Vq ps A Bs n,W.2∣L)(hv:∀ t,t<n→((ns.getD t 0:Int):Rat)=Uz ps A Bs n m x t * (M:Rat)){t:Nat}(ht:t<n) :
 (((vD ns ((List.range n).map fun i=>xx (zG ps A Bs ((i:Nat):Int)) L) n).getD t 0:Int):Rat)=Uz ps A Bs n (m+1) x t * ((M * L:Int):Rat):=by
 rw[z2N ht,← vH]
 show _=qs n (fun i=>Uz ps A Bs n m x i * val ((zG ps A Bs ((i:Nat):Int)).getD t (0,1))) * _
 rw[Rat.mul_comm,← Za]
 refine zJ fun i hi=>?_
 have e0:((List.range n).map fun i=>xx (zG ps A Bs ((i:Nat):Int)) L).getD i []=xx (zG ps A Bs ((i:Nat):Int)) L:=by
  rw[List.getD_eq_getElem?_getD,List.getElem?_map,List.getElem?_range hi];rfl
 have hl:t<(zG ps A Bs ((i:Nat):Int)).length:=by rw[ZX];omega
 have hCi:(zG ps A Bs ((i:Nat):Int))[t]?=some (zG ps A Bs ((i:Nat):Int))[t]:=by simp[hl]
 have mW:=List.getElem_mem hl
 have c:=ZJ (ps:=ps) (page:=((i:Nat):Int)) ca cb _ mW
 have e1:(xx (zG ps A Bs ((i:Nat):Int)) L).getD t 0=(zG ps A Bs ((i:Nat):Int))[t].1 * (L.fdiv (zG ps A Bs ((i:Nat):Int))[t].2):=by
  unfold xx
  rw[List.getD_eq_getElem?_getD,List.getElem?_map,hCi];rfl
 have e2:(zG ps A Bs ((i:Nat):Int)).getD t (0,1)=(zG ps A Bs ((i:Nat):Int))[t]:=by rw[List.getD_eq_getElem?_getD,hCi];rfl
 rw[e0,Rat.intCast_mul,hv i hi,e1,vI c.1 hL (dv _ (JR hi mW)),e2,Rat.intCast_mul]
 grind
end
end Pw
namespace L2
open PySem PySem.Spec PyProof.Rows
noncomputable def V6(H:Hp)(fe:Addr)(Fs:List (List Int)):Prop:=∃ us:List V,H fe=some (.lst us)∧us.length=Fs.length∧∀ (i:Nat) (row:List Int),Fs[i]?=some row→∃ r:Addr,us[i]?=some (V.ref r)∧H r=some (.lst (row.map V.int))
theorem V6.same{H H':Hp}{fe:Addr}{Fs:List (List Int)}(h:V6 H fe Fs)(s:zu H H'):V6 H' fe Fs:=by
 obtain⟨us,a,b,c⟩:=h
 exact⟨us,s _ _ a,b,fun i row e=>by obtain⟨r,x,y⟩:=c i row e;exact⟨r,x,s _ _ y⟩⟩
noncomputable def vN(K:PySem.W.Frag):Sp:=fun vs H Q _=>∃ (nu fe:Addr) (ns:List Int) (Fs:List (List Int)) (n:Nat),vs=[.ref nu,.ref fe]∧H nu=some (.lst (ns.map V.int))∧V6 H fe Fs∧ns.length=n∧Fs.length=n∧(∀ row∈Fs,row.length=n)∧n≤20∧(∀ x∈ns,Sz 50000 x)∧(∀ row∈Fs,∀ x∈row,Sz 50000 x) ∧
 ∀ (D:Addr) (H':Hp),zu H H'→H D=none→H' D=some (.lst ((Pw.vD ns Fs n).map V.int))→Q (.ref D) H'
noncomputable def vj(K:PySem.W.Frag):Sp:=fun vs H Q _=>∃ (w lp ls ro:Addr) (pages m:Int) (ps:List (Int×Int)) (A:Int×Int) (Bs Rs:List (Int×Int)) (us rs:List V) (S D C:Int),vs=[.ref w,.ref lp,.ref ls,.ref ro,.int m]∧0≤m∧m≤1000∧Gv K H w lp ls pages ps A Bs us∧Pr A Bs S∧H ro=some (.tup rs)∧Zl K H Rs rs∧Rw Rs pages.toNat D C ∧
 Sz 7900 (16 * C * (D * Pw.Mw ps A S pages.toNat ^ m.toNat)) ∧
 ∀ (t:Addr) (H':Hp) (ys:List V),zu H H'→H' t=some (.tup ys)→Zl K H' (Pw.itL ps A Bs pages.toNat m.toNat Rs) ys→Q (.ref t) H'
theorem VD.rows{K:PySem.W.Frag}{H:Hp}{ps:List (Int×Int)}{A:Int×Int}{Bs:List (Int×Int)}{us:List V}:∀ {n:Nat},VD K H ps A Bs n us→∃ xss:List (List V),xss.length=n∧(∀ (i:Nat) (ys:List V),xss[i]?=some ys→∃ r:Addr,us[i]?=some (V.ref r)∧H r=some (.tup ys))∧Zl K H (Pw.Vq ps A Bs n) xss.flatten∧xss.flatten.length=n * Bs.length:=by
 intro n h
 have key:∀ k,k≤n→∃ xss:List (List V),xss.length=k∧(∀ (i:Nat) (ys:List V),xss[i]?=some ys→∃ r:Addr,us[i]?=some (V.ref r)∧H r=some (.tup ys))∧Zl K H (Pw.Vq ps A Bs k) xss.flatten∧xss.flatten.length=k * Bs.length:=by
  intro k
  induction k with
  | zero=>exact fun _=>⟨[],rfl,fun i ys e=>by simp at e,rfl,by simp⟩
  | succ k ih =>
    intro hk
    obtain⟨xss,a,b,c,d⟩:=ih (by omega)
    obtain⟨q,ys,e1,e2,e3⟩:=h.2 k (by omega)
    refine⟨xss ++ [ys],by simp[a],fun i zs e=>?_,?_,?_⟩
    · by_cases hi:i<xss.length
      · rw[List.getElem?_append_left hi] at e
        exact b i zs e
      · have hik:i=k:=by
         have:i<(xss ++ [ys]).length:=(List.getElem?_eq_some_iff.mp e).1
         simp at this
         omega
        subst hik
        rw[List.getElem?_append_right (by omega),a,Nat.sub_self] at e
        simp at e
        subst e
        exact⟨q,e1,e2⟩
    · unfold Pw.Vq
      rw[List.range_succ,List.map_append,List.flatten_append,List.flatten_append]
      refine Zl.cat ?_ c
      simpa using e3
    · have:=e3.len
      rw[Pw.ZX] at this
      rw[List.flatten_append,List.length_append,d]
      simp[this,Nat.succ_mul]
 exact key n (Nat.le_refl _)
theorem vU{a b:Int}(h0:0≤a)(h:a≤b):∀ i:Nat,a ^ i≤b ^ i
 | 0=>by simp
 | i+1=>by
   rw[Int.pow_succ,Int.pow_succ]
   exact Int.mul_le_mul (vU h0 h i) h h0 (Int.pow_nonneg (Int.le_trans h0 h))
theorem JA{b:Int}(h:1≤b){i m:Nat}(hm:i≤m):b ^ i≤b ^ m:=by
 obtain⟨k,rfl⟩:=Nat.exists_eq_add_of_le hm
 rw[Int.pow_add]
 have h1:(1:Int)≤b ^ k:=by
  have:=vU (a:=1) (by decide) h k
  rwa [Int.one_pow] at this
 have h2:=Int.mul_le_mul_of_nonneg_left h1 (show 0≤b ^ i from Int.pow_nonneg (by omega))
 omega
theorem z4q{z M B C:Int}{q:Rat}{n k:Nat}(e:(z:Rat)=q * (M:Rat))(h:Pw.Zx q≤(n:Nat) * (C:Rat))(hn:n≤16)(hC:0≤C)(hM:0<M)(hMB:M≤B)(zB:Sz k (16 * C * B)):Sz k z:=by
 obtain⟨h1,h2⟩:=Pw.z2U h
 have hp:=Pw.cpos hM
 have e1:(((n:Int) * C * M:Int):Rat)=(n:Nat) * (C:Rat) * (M:Rat):=by rw[Rat.intCast_mul,Rat.intCast_mul];rfl
 have u:(z:Rat)≤(((n:Int) * C * M:Int):Rat):=by
  rw[e,e1]
  exact Pw.ZH h2 (Rat.le_of_lt hp)
 have l:(((-((n:Int) * C * M):Int)):Rat)≤(z:Rat):=by
  rw[Rat.intCast_neg,e,e1]
  have:=Pw.ZH h1 (Rat.le_of_lt hp)
  grind
 have u':z≤(n:Int) * C * M:=by exact_mod_cast u
 have l':-((n:Int) * C * M)≤z:=by exact_mod_cast l
 have b1:(n:Int) * C * M≤16 * C * B:=by
  have x1:(n:Int) * C≤16 * C:=Int.mul_le_mul_of_nonneg_right (by omega) hC
  have x2:(n:Int) * C * M≤16 * C * M:=Int.mul_le_mul_of_nonneg_right x1 (by omega)
  have x3:16 * C * M≤16 * C * B:=Int.mul_le_mul_of_nonneg_left hMB (by omega)
  omega
 have zB':(16 * C * B).natAbs<2 ^ k:=zB
 show z.natAbs<2 ^ k
 omega
theorem Rw.Zx{Rs:List (Int×Int)}{n:Nat}{D C:Int}(h:Rw Rs n D C){t:Nat}(ht:t<n):Pw.Zx (Pw.val (Rs.getD t (0,1)))≤(C:Rat):=by
 have b:=h.bd (mem_getD (Bs:=Rs) (t:=t) (by have:=h.len;omega))
 exact Pw.z2E b.lo b.hi
end L2
namespace Pw
theorem z4g{ps:List (Int×Int)}{A:Int×Int}{S:Int}{n a z:Nat}(few:ps.length≤100)(sa:L2.Sz a A.2)(sS:L2.Sz z S):L2.Sz (a+z+(7 * n+1)) (Mw ps A S n):=by
 refine (L2.Sz.mul (L2.Sz.mul sa sS) (Xb (k:=7) fun i _=>?_)).mono (by omega)
 have:=ZO ps (i:Int)
 show ((max 1 (outs ps (i:Int)).length:Nat):Int).natAbs<2 ^ 7
 omega
end Pw
open PySem PySem.Spec PyProof.Rows
open PySem PySem.Spec PyProof PyProof.Rows
namespace Pw
theorem V3(f:Nat→Rat)(n:Nat):qs (n+1) f=f 0+qs n (fun i=>f (i+1)):=by
 have h:=z1m f 1 n
 rw[Nat.add_comm 1 n] at h
 rw[h]
 have h1:qs 1 f=f 0:=by show qs 0 f+f 0=f 0;show (0:Rat)+f 0=f 0;grind
 rw[h1]
 congr 1
 exact zJ fun i _=>by rw[Nat.add_comm]
theorem jH{a b:Int}(hb:b≠0):(mk a b).2∣b:=by
 obtain⟨⟨c1,g⟩,w⟩:=ZV (a:=a) (b:=b) hb
 have h:(mk a b).2∣(mk a b).1 * b:=⟨a,by rw[w,Int.mul_comm]⟩
 have g':Int.gcd (mk a b).2 (mk a b).1=1:=by rw[Int.gcd_comm];exact g
 have h2:=Int.natAbs_dvd_natAbs.mpr h
 rw[Int.natAbs_mul] at h2
 exact Int.natAbs_dvd_natAbs.mp (Nat.Coprime.dvd_of_dvd_mul_left (show Nat.Coprime _ _ from g') h2)
end Pw
namespace Pw
theorem yO{A:Int×Int}(h:0<A.2):val A * (A.2:Rat)=(A.1:Rat):=by
 unfold val
 have:=cpos h
 have:(A.2:Rat)≠0:=by grind
 grind
end Pw
open PySem PySem.Spec PyProof PyProof.Rows
open PySem PySem.Spec PyProof PyProof.Rows
open PySem PySem.Spec PyProof PyProof.Rows
open PySem PySem.Spec PyProof PyProof.Rows
open PySem PySem.Spec PyProof PyProof.Rows
open PySem PySem.Spec PyProof PyProof.Rows
open PySem PySem.Spec PyProof PyProof.Rows
open PySem PySem.Spec PyProof PyProof.Rows
open PySem PySem.Spec PyProof PyProof.Rows
open PySem PySem.Spec PyProof PyProof.Rows
open PySem PySem.Spec PyProof PyProof.Rows
open PySem PySem.Spec PyProof PyProof.Rows
open PySem PySem.Spec PyProof PyProof.Rows
open PySem PySem.Spec PyProof PyProof.Rows
open PySem PySem.Spec PyProof PyProof.Rows
open PySem PySem.Spec PyProof PyProof.Rows
open PySem PySem.Spec PyProof PyProof.Rows
namespace Pw
variable{ps ms:List (Int×Int)}{A:Int×Int}{Bs Ss:List (Int×Int)}{n:Nat}{S:Int}
theorem uO{n k:Nat}(h:k<n)(c:Rat):qs n (fun j=>if j=k then c else 0)=c:=by
 rw[Yj h (fun i _ hi=>by rw[if_neg hi]),if_pos rfl]
end Pw
open PySem PySem.Spec PyProof PyProof.Rows
open PySem PySem.Spec PyProof PyProof.Rows
open PySem PySem.Spec PyProof PyProof.Rows
open PySem PySem.Spec PyProof PyProof.Rows
namespace Pw
noncomputable def sg(k:Nat):Rat:=if k % 2=0 then 1 else -1
theorem z2G(k:Nat):sg (k+1)=-sg k:=by
 unfold sg
 by_cases h:k % 2=0
 · rw[if_pos h,if_neg (by omega)]
 · rw[if_neg h,if_pos (by omega)];grind
theorem vP:sg 0=1:=rfl
noncomputable def skip(p c:Nat):Nat:=if c<p then c else c+1
theorem VO{p:Nat}:∀ {k:Nat},k≤p→(Kk k).map (skip p)=Kk k
 | 0,_=>rfl
 | k+1,h=>by
   show skip p k :: (Kk k).map (skip p)=k :: Kk k
   rw[VO (by omega)]
   unfold skip
   rw[if_pos (by omega)]
theorem lap(r:ZA):∀ (n:Nat) (D:List Nat→Rat),expand r D (Kk (n+1))=qs (n+1) (fun p=>sg (n - p) * (r p * D ((Kk n).map (skip p))))
 | 0,D=>by
   show r 0 * D [] - 0=0+sg 0 * (r 0 * D [])
   rw[vP];grind
 | n+1,D=>by
   show r (n+1) * D (Kk (n+1)) - expand r (fun l=>D ((n+1) :: l)) (Kk (n+1))=qs (n+1) _+sg (n+1 - (n+1)) * (r (n+1) * D ((Kk (n+1)).map (skip (n+1))))
   rw[lap r n,VO (Nat.le_refl _),Nat.sub_self,vP]
   have:qs (n+1) (fun p=>sg (n+1 - p) * (r p * D ((Kk (n+1)).map (skip p))))=(-1) * qs (n+1) (fun p=>sg (n - p) * (r p * D ((n+1) :: (Kk n).map (skip p)))):=by
    rw[← Za]
    refine zJ fun p hp=>?_
    have e:(Kk (n+1)).map (skip p)=(n+1) :: (Kk n).map (skip p):=by
     show skip p n :: (Kk n).map (skip p)=_
     unfold skip
     rw[if_neg (by omega)]
    rw[e,show n+1 - p=(n - p)+1 by omega,z2G];grind
   rw[this];grind
noncomputable def Yw(A:Nat→ZA)(k:Nat)(h:ZA):Nat→ZA:=fun i=>if i=k then h else A i
theorem vW{A:Nat→ZA}{k:Nat}{h:ZA}:∀ {l:Nat},l≤k→Rk (Yw A k h) l=Rk A l
 | 0,_=>rfl
 | l+1,hl=>by
   show Yw A k h l :: Rk _ l=A l :: Rk A l
   rw[vW (by omega)]
   unfold Yw
   rw[if_neg (by omega)]
theorem z5r{A:Nat→ZA}{k:Nat}{h:ZA}:Rk (Yw A k h) (k+1)=h :: Rk A k:=by
 show Yw A k h k :: Rk _ k=_
 rw[vW (Nat.le_refl _)]
 unfold Yw
 rw[if_pos rfl]
theorem Vo{A:Nat→ZA}{k:Nat}{h v:ZA}(j:Nat):BB (Yw A k h) k v j=BB A k v j:=by
 unfold BB
 rw[vW (Nat.le_refl _)]
theorem z0H{f:Nat→Rat}{k:Nat}:∀ {n:Nat},k≤n→(∀ c,k≤c→c<n→f c=0)→qs n f=qs k f
 | 0,h,_=>by
   obtain rfl:k=0:=by omega
   rfl
 | n+1,h,hf=>by
   by_cases e:k=n+1
   · rw[e]
   · show qs n f+f n=_
     rw[z0H (by omega) (fun c h1 h2=>hf c h1 (by omega)),hf n (by omega) (by omega)];grind
end Pw
open PySem PySem.Spec PyProof PyProof.Rows
namespace Pw
section
variable{ps:List (Int×Int)}{A:Int×Int}{Bs Ss:List (Int×Int)}{n:Nat}{S:Int}{t:Nat→Nat→Int}{dn:Nat→Int}
noncomputable def z4x(t:Nat→Nat→Int)(dn:Nat→Int)(o:Nat):ZA:=fun j=>((t j o - (if j=o then dn o else 0):Int):Rat)
theorem fixed(lk:∀ p∈ps,0≤p.2∧p.2<(n:Int))(ca:Canon A)(cb:zW Bs)(hn:Bs.length=n)(pr:L2.Pr A Bs S)
 (ht:∀ j o,j<n→o<n→(t j o:Rat)=(dn j:Rat) * val ((zG ps A Bs j).getD o (0,1))) {x:Nat→Rat}(hx:∀ o,0<o→o<n→qs n (fun p=>z4x t dn o p * x p)=0) :
 ∀ o,o<n→qs n (fun p=>((dn p:Rat) * x p) * val ((zG ps A Bs p).getD o (0,1)))=(dn o:Rat) * x o:=by
 have one:=pr.one
 rw[hn] at one
 have h1:∀ o,0<o→o<n→qs n (fun p=>((dn p:Rat) * x p) * val ((zG ps A Bs p).getD o (0,1)))=(dn o:Rat) * x o:=fun o h0 ho=>by
  have e:=hx o h0 ho
  rw[zJ (g:=fun p=>((dn p:Rat) * x p) * val ((zG ps A Bs p).getD o (0,1))+(if p=o then -((dn o:Rat) * x o) else 0)) (fun p hp=>by
   unfold z4x
   rw[Rat.intCast_sub,ht p o hp ho]
   by_cases z:p=o
   · subst z;rw[if_pos rfl,if_pos rfl];grind
   · rw[if_neg z,if_neg z,show ((0:Int):Rat)=0 from rfl];grind),ZN,uO ho] at e
  grind
 intro o ho
 by_cases z:0<o
 · exact h1 o z ho
 · obtain rfl:o=0:=by omega
   obtain⟨m,rfl⟩:∃ m,n=m+1:=⟨n - 1,by omega⟩
   have all:qs (m+1) (fun o=>qs (m+1) (fun p=>((dn p:Rat) * x p) * val ((zG ps A Bs p).getD o (0,1))))=qs (m+1) (fun p=>(dn p:Rat) * x p):=by
    rw[Xm]
    refine zJ fun p hp=>?_
    rw[Za,Ym lk ca cb hn one];grind
   rw[V3,V3 (fun p=>(dn p:Rat) * x p),zJ (g:=fun i=>(dn (i+1):Rat) * x (i+1)) (fun i hi=>h1 (i+1) (by omega) (by omega))] at all
   grind
theorem z5z(lk:∀ p∈ps,0≤p.2∧p.2<(n:Int))(ca:Canon A)(cb:zW Bs)(hn:Bs.length=n)(pr:L2.Pr A Bs S)(ok:yF ps A Bs n Ss){y:Nat→Rat}
 (hy:∀ o,o<n→qs n (fun p=>y p * val ((zG ps A Bs p).getD o (0,1)))=y o):∀ p,p<n→y p=qs n y * val (Ss.getD p (0,1)):=by
 have one:=pr.one
 rw[hn] at one
 refine Pw.unique (n:=n) (W:=fun i t=>val ((zG ps A Bs i).getD t (0,1))) (B:=fun t=>val (Bs.getD t (0,1))) (a:=val A) (jx ca.1 pr.a0) (fun i t _ ht=>UL ca cb hn pr ht) (fun i _=>Ym lk ca cb hn one) one ?_ hy fun t ht=>?_
 · rw[Za,ok.one];grind
 · have:=ok.stay t ht
   unfold Qv at this
   rw[← this,← Za]
   exact zJ fun p _=>by grind
end
end Pw
open PySem PySem.Spec PyProof PyProof.Rows
namespace Pw
theorem z3d(A:Nat→ZA)(v:ZA)(j:Nat):BB A 0 v j=v j:=by
 show v j * 1 - 0=v j
 grind
theorem z4L{x:Int}{q:Rat}{N:Nat}(e:(x:Rat)=q)(h:-((N:Nat):Rat)≤q∧q≤((N:Nat):Rat)):x.natAbs≤N:=by
 rw[← e] at h
 have h1:-((N:Nat):Int)≤x:=by
  have:((-((N:Nat):Int):Int):Rat)≤(x:Rat):=by
   rw[Rat.intCast_neg];exact h.1
  exact_mod_cast this
 have h2:x≤((N:Nat):Int):=by
  have:(x:Rat)≤(((N:Nat):Int):Rat):=h.2
  exact_mod_cast this
 omega
theorem z0C{A:Nat→ZA}:∀ {k:Nat}{r:ZA},r∈Rk A k→∃ i,i<k∧r=A i
 | 0,r,h=>by simp[Rk] at h
 | k+1,r,h=>by
   rcases List.mem_cons.mp (show r∈A k :: Rk A k from h) with e | h
   · exact⟨k,by omega,e⟩
   · obtain⟨i,hi,e⟩:=z0C h
     exact⟨i,by omega,e⟩
end Pw
open PySem PySem.Spec PyProof PyProof.Rows
open PySem PySem.Spec PyProof PyProof.Rows
open PySem PySem.Spec PyProof PyProof.Rows
open PySem PySem.Spec PyProof PyProof.Rows
open PySem PySem.Spec PyProof PyProof.Rows
open PySem PySem.Spec PyProof PyProof.Rows
open PySem PySem.Spec PyProof PyProof.Rows
namespace L2
noncomputable def FnAt(K:PySem.W.Frag)(n:Str)(st:Stmt):Prop:=∃ f fd,PySem.W.nsIn K mainGlobals n=some (some (.ref f))∧XZ K n n st f fd
theorem FnAt.of{K:PySem.W.Frag}{n:Str}{st:Stmt}{f:Addr}{oc:Value}{od an:Option Addr}{osl:Array (Option Value)}{kV doc pm cdv ct:Value}(a:PySem.W.nsIn K mainGlobals n=some (some (.ref f)))(l:K.lookup f=some ⟨oc,od,.func (PySem.W.fnOf n n (yZ st) (yK st) (zw st) .none kV doc pm an cdv ct),osl⟩)
 (c:PySem.W.codeIn K cdv n=true) (k:PySem.W.keepIn K (.ref f)=true):FnAt K n st:=⟨_,_,a,z1B l c k⟩
theorem FnAt.YL{K:PySem.W.Frag}{h:Heap}{mg:Str→Option Value}{n:Str}{st:Stmt}(ps:List Str)(x:FnAt K n st)(XK:K.In h)(G:h.Ns mainGlobals mg)
 (b:∀ (kV doc pm:Value) (an:Option Addr) (cdv ct:Value) (us:List Value),us.length=ps.length→bindArgs (PySem.W.fnOf n n (yZ st) (yK st) (zw st) .none kV doc pm an cdv ct) ⟨us,[]⟩=pure (ps.zip us)):yW K mg n st ps:=by
 obtain⟨f,fd,a,F⟩:=x
 exact⟨f,fd,F,PySem.W.mg_of XK G a,F.binds b⟩
end L2
open PySem PySem.Spec PyProof PyProof.Rows
open PySem PySem.Spec PyProof PyProof.Rows
open PySem PySem.Spec PyProof PyProof.Rows
open PySem PySem.Spec PyProof PyProof.Rows
open PySem PySem.Spec PyProof PyProof.Rows
open PySem PySem.Spec PyProof PyProof.Rows
open PySem PySem.Spec PyProof PyProof.Rows
open PySem PySem.Spec PyProof PyProof.Rows
namespace Pw
open L2
theorem z2s{f:Nat→Rat}{n:Nat}{D C:Int}(hD:0<D)(hC:1≤C)(h:∀ t,t<n→Bd D (C:Rat) (f t))(z:Sz 2000 (C * D)):Rw ((List.range n).map fun t=>ZL (f t)) n D C:=by
 refine⟨by rw[List.length_map,List.length_range],fun R hR=>?_,hD,hC,fun R hR=>?_,fun R hR=>?_,z⟩
 · obtain⟨t,_,rfl⟩:=List.mem_map.mp hR
   exact z8 _
 · obtain⟨t,ht,rfl⟩:=List.mem_map.mp hR
   obtain⟨m,hm⟩:=(h t (List.mem_range.mp ht)).int
   exact jE (by omega) hm
 · obtain⟨t,ht,rfl⟩:=List.mem_map.mp hR
   have b:=h t (List.mem_range.mp ht)
   have c:=z8 (f t)
   have e:((ZL (f t)).1:Rat)=f t * ((ZL (f t)).2:Rat):=by
    have:=Zq (f t)
    unfold val at this
    have:=Zi (zE c)
    grind
   have hp:=cpos c.1
   have lo:=b.lo
   have hi:=b.hi
   generalize ZL (f t)=R at *
   have h1:=Rat.mul_nonneg (show 0≤(C:Rat) - f t by grind) (Rat.le_of_lt hp)
   have h2:=Rat.mul_nonneg (show 0≤(C:Rat)+f t by grind) (Rat.le_of_lt hp)
   constructor
   · have:((-(C * R.2):Int):Rat)≤(R.1:Rat):=by rw[Rat.intCast_neg,Rat.intCast_mul,e];grind
     exact_mod_cast this
   · have:(R.1:Rat)≤((C * R.2:Int):Rat):=by rw[Rat.intCast_mul,e];grind
     exact_mod_cast this
section
variable{ps ms:List (Int×Int)}{A:Int×Int}{Bs Ss:List (Int×Int)}{S:Int}{n:Nat}
theorem z4N{Rs:List (Int×Int)}{D C:Int}(lk:∀ p∈ps,0≤p.2∧p.2<(n:Int))(ca:Canon A)(cb:zW Bs)(hn:Bs.length=n)(h13:n≤13)(pr:L2.Pr A Bs S)(rw':Rw Rs n D C)(z:Sz 2000 (16 * C * (D * Mw ps A S n))):Rw (YM ps A Bs Rs) n (D * Mw ps A S n) (16 * C):=by
 have one:=pr.one
 rw[hn] at one
 have w01:∀ i t,t<n→0≤val ((zG ps A Bs ((i:Nat):Int)).getD t (0,1))∧val ((zG ps A Bs ((i:Nat):Int)).getD t (0,1))≤1:=fun i t ht=>vO (page:=(i:Int)) lk ca cb (by have:=pr.a0;omega) pr.a1 pr.nn hn one ht
 have C0:(0:Rat)≤(C:Rat):=cnn (by have:=rw'.cpos;omega)
 have hl:=rw'.len
 unfold YM
 rw[hn]
 refine z2s (Int.mul_pos rw'.dpos (UO ca pr.spos)) (by have:=rw'.cpos;omega) (fun t ht=>?_) z
 have hb:Bd (D * Mw ps A S n) ((n:Nat) * (C:Rat)) (Qv ps A Bs Rs n t):=Bd.qs fun i hi=>by
  refine (rw'.bd (L2.mem_getD (by omega))).z3k ?_ (w01 i t ht).1 (w01 i t ht).2 C0
  have hm:(zG ps A Bs ((i:Nat):Int)).getD t (0,1)∈zG ps A Bs ((i:Nat):Int):=L2.mem_getD (by rw[ZX];omega)
  obtain⟨u,hu⟩:=qZ ca cb pr.sdvd hi _ hm
  have c:=ZJ (ps:=ps) (page:=((i:Nat):Int)) ca cb _ hm
  refine⟨((zG ps A Bs ((i:Nat):Int)).getD t (0,1)).1 * u,?_⟩
  rw[hu,Rat.intCast_mul,Rat.intCast_mul]
  unfold val
  have:=Zi (zE c)
  grind
 refine hb.mono ?_
 have e:((16 * C:Int):Rat)=16 * (C:Rat):=by rw[Rat.intCast_mul];rfl
 have n16:((n:Nat):Rat)≤16:=by have:((n:Int):Rat)≤((16:Int):Rat):=Rat.intCast_le_intCast.mpr (by omega);exact this
 rw[e]
 have:=Rat.mul_nonneg (show (0:Rat)≤16 - ((n:Nat):Rat) by grind) C0
 grind
end
end Pw
open PySem PySem.Spec PyProof PyProof.Rows
open PySem PySem.Spec PyProof PyProof.Rows
namespace L2
open PySem PySem.Spec PyProof PyProof.Rows PySem.W
inductive Tg (K:PySem.W.Frag) (H:Hp):V→Option Int→Prop where
 | int (i:Int):Tg K H (.int i) (some i)
 | bl (b:Bool):Tg K H (.bl b) none
 | oth {v:V}{t:Value}(ty:Yq K H v t) (e:PySem.W.kitOne K t (.type "int")=some false):Tg K H v none
noncomputable def Ql(K:PySem.W.Frag):Sp:=fun vs H Q _=>∃ (v:V) (o:Option Int),vs=[v]∧Tg K H v o∧Q (.bl o.isSome) H
section
variable{K:PySem.W.Frag}{C:Addr}{pos:Pos}{G G':Hp}{d tb p pd lp wa:Addr}{W W':Wb}{Ws Ws':List Wb}{W0:Wb}{A:Int×Int}
end
end L2
namespace L2
open PySem PySem.Spec PyProof PyProof.Rows PySem.W
noncomputable instance (p q:Int×Int):Decidable (qW p q):=by unfold qW;infer_instance
end L2
namespace L2
open PySem PySem.Spec PyProof PyProof.Rows PySem.W
section
variable{X:Cx}
end
section
variable{prog:Program}{w:World}{A:Around}{E:Value→Shared→Prop}{s:Shared}
theorem Q3{b:Bool}{Q:Int→Shared→Prop}(h:Q (hashInt (b2i b)) { s with toks:=s.toks+1 }):wpAny (model prog w) A (pyHash (.bool b)) Q E s:=by
 have hr:=rawHash_range (b2i b)
 unfold pyHash
 have hv:[Value.bool b].any Value.onHeap=false:=rfl
 refine wpAny_bind ?_
 rw[cRoomFor,if_neg (by rw[hv];exact Bool.false_ne_true)];refine wpAny_pure ?_
 refine wpAny_bind (wpAny_specialOf (PySem.typeIs_bool s b) F.slot_bool_hash.lookup ?_)
 show wpAny _ _ (if (some (Value.builtin "int.__hash__") == some Value.none)=true then _ else _) Q E s
 rw[if_neg (by rw[beq_builtin_none];exact Bool.false_ne_true)]
 refine wpAny_bind (wpAny_specialOf (PySem.typeIs_bool s b) F.slot_bool_hash.lookup ?_)
 show wpAny _ _ (callSpecialIfBoundUnlessNone? (.bool b) "__hash__" _ >>= _) Q E s
 refine wpAny_bind (wpAny_callSpecialIfBoundUnlessNone?_slot (PySem.typeIs_bool s b) F.slot_bool_hash
  (wpAny_call_entry F.slot_bool_hash (PySem.typeIs_bool s b) entry_int_hash
   (show wpAny _ _ (do ret (← mkInt (rawHash (b2i b)))) _ _ s from wpAny_ret_mkInt ?_) (args_int_hash _)))
 show wpAny _ _ (if (decide (-(2:Int) ^ 63≤rawHash (b2i b)) && decide (rawHash (b2i b)<2 ^ 63))=true then _ else _) Q E _
 rw[if_pos (by rw[decide_eq_true hr.1,decide_eq_true hr.2];rfl)]
 exact wpAny_pure h
end
end L2
namespace L2
open PySem PySem.Spec PyProof PyProof.Rows PySem.W
inductive Fl:V→PyData→Prop where
 | non:Fl .non .none
 | bl (b:Bool):Fl (.bl b) (.bool b)
 | int (i:Int) (h:i.natAbs.log2<1920):Fl (.int i) (.int i)
 | str (x:Str) (h:(reprText x).length≤25000):Fl (.str x) (.str x)
section
variable{X:Cx}
end
end L2
namespace L2
open PySem PySem.Spec PyProof PyProof.Rows PySem.W
inductive Mb (K:PySem.W.Frag) (H:Hp) (n:Nat):V→Option Int→Prop where
 | int (i:Int) (s:Sz n i):Mb K H n (.int i) (some i)
 | bl (b:Bool):Mb K H n (.bl b) none
 | oth {v:V}{t:Value}(ty:Yq K H v t) (e:PySem.W.kitOne K t (.type "int")=some false):Mb K H n v none
theorem Mb.tg{K:PySem.W.Frag}{H:Hp}{n:Nat}{v:V}{o:Option Int}(h:Mb K H n v o):Tg K H v o:=by
 cases h with
 | int i s=>exact .int i
 | bl b=>exact .bl b
 | oth ty e=>exact .oth ty e
theorem Mb.kt{K:PySem.W.Frag}{H H':Hp}{n:Nat}{v:V}{o:Option Int}(h:Mb K H n v o)(k:KTy H H'):Mb K H' n v o:=by
 cases h with
 | int i s=>exact .int i s
 | bl b=>exact .bl b
 | oth ty e=>exact .oth (ty.kt k) e
noncomputable def o2:Option Int→Option Int→Option (Int×Int)
 | some x,some y=>some (x,y)
 | _,_=>none
theorem z4O{H H':Hp}{h a:Addr}{xs:List V}(hh:z4 H h)(k:Kp h H H')(e:H a=some (.tup xs)):H' a=some (.tup xs):=by
 refine k _ _ e ?_
 rintro rfl
 obtain⟨_,_,e',_⟩:=hh
 rw[e'] at e;cases e
noncomputable def yf:Option (Int×Int)→Bool
 | none=>false
 | some A=>decide (1≤A.2∧Int.gcd A.1 A.2=1)
end L2
namespace L2
open PySem PySem.Spec PyProof PyProof.Rows PySem.W
section
variable{K:PySem.W.Frag}{H H':Hp}{h q:Addr}{n:Nat}{us:List V}{v:V}
theorem z2h{xs:List V}{i:Int}(h0:0≤i)(h1:i<xs.length):∃ v,jt xs i=some v∧v∈xs:=by
 obtain⟨j,rfl⟩:=Int.eq_ofNat_of_zero_le h0
 have hj:j<xs.length:=by omega
 refine⟨xs[j],zY (by rw[List.getElem?_eq_getElem hj]),List.getElem_mem hj⟩
end
theorem z0A{H:Hp}{p:Addr}{xs:List V}{i:Int}(e:H p=some (.lst xs))(h0:0≤i)(h1:i<xs.length):∃ v,jt xs i=some v∧v∈xs:=z2h h0 h1
end L2
namespace L2
open PySem PySem.Spec PyProof PyProof.Rows PySem.W
inductive Hk (h:Heap):Nat→Value→Prop where
 | non {n:Nat}:Hk h n .none
 | bl {n:Nat}(b:Bool):Hk h n (.bool b)
 | int {n:Nat}(i:Int) (t:Tok):Hk h n (.int i t)
 | str {n:Nat}(x:Str) (t:Tok):Hk h n (.str x t)
 | tup {n:Nat}{a:Addr}{o:Obj}{items:Array Value}{k:Nat}(ho:h.get? a=some o) (hc:o.cls=.type "tuple") (hd:o.data=.seq items k) (hi:∀ v∈items.toList,Hk h n v):Hk h (n+1) (.ref a)
section
variable{prog:Program}{w:World}{E:Value→Shared→Prop}
theorem vg{A:Around}{s:Shared}{Q:Int→Shared→Prop}(h:∀ i t,Q i { s with toks:=t }):wpAny (model prog w) A (pyHash .none) Q E s:=by
 unfold pyHash
 unfold pyHashByItsType
 have hv:[Value.none].any Value.onHeap=false:=rfl
 refine wpAny_bind (wpAny_cRoomFor_or (.inl hv) ?_)
 have hT:s.TypeIs .none "NoneType":=rfl
 refine wpAny_bind (wpAny_specialOf hT F.slot_NoneType_hash.lookup ?_)
 show wpAny _ _ (if (some (Value.builtin "NoneType.__hash__") == some Value.none)=true then _ else _) Q E s
 rw[if_neg (by rw[beq_builtin_none];exact Bool.false_ne_true)]
 refine wpAny_bind (wpAny_specialOf hT F.slot_NoneType_hash.lookup ?_)
 show wpAny _ _ (callSpecialIfBoundUnlessNone? .none "__hash__" _ >>= _) Q E s
 refine wpAny_bind (wpAny_callSpecialIfBoundUnlessNone?_slot hT F.slot_NoneType_hash (wpAny_call_entry F.slot_NoneType_hash hT F.entry_NoneType_hash ?_ (F.args_NoneType_hash_1 _)))
 refine wpAny_ret_mkInt ?_
 show wpAny _ _ (if (decide (-(2:Int) ^ 63≤0xFCA86420) && decide ((0xFCA86420:Int)<2 ^ 63))=true then _ else _) Q E _
 rw[if_pos (by decide)]
 exact wpAny_pure (h _ _)
theorem uJ:∀ {n:Nat}{v:Value}{A:Around}{s:Shared}{Q:Int→Shared→Prop},Hk s.heap n v→A.units+8 * n<cLine→(∀ i t,Q i { s with toks:=t })→wpAny (model prog w) A (pyHash v) Q E s:=by
 intro n
 induction n with
 | zero =>
   intro v A s Q hk hu h
   cases hk with
   | non=>exact vg h
   | bl b=>exact Q3 (h _ _)
   | int i t=>exact wpAny_pyHash_int (h _ _)
   | str x t=>exact wpAny_pyHash_str (h _ _)
 | succ n ih =>
   intro v A s Q hk hu h
   cases hk with
   | non=>exact vg h
   | bl b=>exact Q3 (h _ _)
   | int i t=>exact wpAny_pyHash_int (h _ _)
   | str x t=>exact wpAny_pyHash_str (h _ _)
   | @tup _ a o items m ho hc hd hi =>
     have hT:s.TypeIs (.ref a) "tuple":=⟨o,ho,hc⟩
     unfold pyHash
     unfold pyHashByItsType
     refine wpAny_bind (wpAny_cRoomFor_or (.inr (by omega)) ?_)
     refine wpAny_bind (wpAny_specialOf hT F.slot_tuple_hash.lookup ?_)
     show wpAny _ _ (if (some (Value.builtin "tuple.__hash__") == some Value.none)=true then _ else _) Q E s
     rw[if_neg (by rw[beq_builtin_none];exact Bool.false_ne_true)]
     refine wpAny_bind (wpAny_specialOf hT F.slot_tuple_hash.lookup ?_)
     show wpAny _ _ (callSpecialIfBoundUnlessNone? (.ref a) "__hash__" _ >>= _) Q E s
     refine wpAny_bind (wpAny_callSpecialIfBoundUnlessNone?_slot hT F.slot_tuple_hash (wpAny_call_entry F.slot_tuple_hash hT F.entry_tuple_hash ?_ (F.args_tuple_hash_1 _)))
     show wpAny _ _ (Builtin.Tuple.tupleItemsOf (.ref a) >>= _) _ _ s
     refine wpAny_bind (wpAny_tupleItemsOf ho hd ?_)
     refine wpAny_bind ?_
     rw[← Array.forIn_toList]
     refine wpAny_forIn_list _ (fun rest (b:Array Int) s'=>(∀ v∈rest,Hk s.heap n v)∧∃ t,s'={ s with toks:=t }) _ ?_ ?_ _ _ ⟨hi,s.toks,rfl⟩
     · rintro x rest b s' ⟨hr,t,rfl⟩
       refine wpAny_bind (ih (s:={ s with toks:=t }) (hr x List.mem_cons_self) (show A.units+1+8 * n<cLine by omega) fun i t'=>?_)
       first
        | exact wpAny_pure ⟨fun v hv=>hr v (List.mem_cons_of_mem _ hv),t',rfl⟩
        | exact wpAny_bind (wpAny_pure (wpAny_pure ⟨fun v hv=>hr v (List.mem_cons_of_mem _ hv),t',rfl⟩))
     · rintro b s' ⟨_,t,rfl⟩
       refine wpAny_ret_mkInt ?_
       show wpAny _ _ (if (decide (-(2:Int) ^ 63≤Builtin.Tuple.tupleHashOf b.toList) && decide (Builtin.Tuple.tupleHashOf b.toList<2 ^ 63))=true then _ else _) Q E _
       split
       · exact wpAny_pure (h _ _)
       · exact wpAny_bind (wpAny_rule (wpAny_pure (h _ _)))
theorem QM:∀ {n m:Nat}{v:Value}{A:Around}{s:Shared}{Q:Bool→Shared→Prop},Hk s.heap n v→n≤m→Q true s→wpAny (model prog w) A (eqIsQuiet m v) Q E s:=by
 intro n
 induction n with
 | zero =>
   intro m v A s Q hk hm h
   rw[eqIsQuiet_byValue m (by cases hk <;> rfl)]
   exact wpAny_pure h
 | succ n ih =>
   intro m v A s Q hk hm h
   cases hk with
   | non=>rw[eqIsQuiet_byValue m rfl];exact wpAny_pure h
   | bl b=>rw[eqIsQuiet_byValue m rfl];exact wpAny_pure h
   | int i t=>rw[eqIsQuiet_byValue m rfl];exact wpAny_pure h
   | str x t=>rw[eqIsQuiet_byValue m rfl];exact wpAny_pure h
   | @tup _ a o items k ho hc hd hi =>
     obtain⟨m,rfl⟩:∃ j,m=j+1:=⟨m - 1,by omega⟩
     have hT:s.TypeIs (.ref a) "tuple":=⟨o,ho,hc⟩
     unfold eqIsQuiet
     refine wpAny_bind (wpAny_specialOf hT F.slot_tuple_eq.lookup ?_)
     show wpAny _ _ (isInstance (.ref a) (.type "tuple") >>= _) _ _ s
     refine wpAny_bind (wpAny_isInstance hT isSubtype_tuple_tuple ?_)
     simp only[Bool.not_true,Bool.false_eq_true,if_false]
     refine wpAny_bind (wpAny_seqItems ho hd ?_)
     refine wpAny_bind ?_
     show wpAny _ _ (forIn items _ _) _ _ s
     rw[← Array.forIn_toList]
     refine wpAny_forIn_list _ (fun rest r s'=>r.1=none∧s'=s∧∀ v∈rest,Hk s.heap n v) _ ?_ ?_ _ _ ⟨rfl,rfl,hi⟩
     · rintro v rest r s' ⟨hr,rfl,hall⟩
       refine wpAny_bind (ih (hall v List.mem_cons_self) (by omega) ?_)
       simp only[Bool.not_true,Bool.false_eq_true,if_false]
       exact wpAny_pure ⟨rfl,rfl,fun u hu'=>hall u (List.mem_cons_of_mem _ hu')⟩
     · rintro⟨r1,r2⟩ s' ⟨hr,rfl,_⟩
       simp only at hr
       subst hr
       exact wpAny_pure h
theorem z4y{n:Nat}{u v:Value}{A:Around}{s:Shared}(hu:Hk s.heap 0 u)(hv:Hk s.heap n v)(ha:A.units<cLine):∃ b,SeqAt.EqAt A s u v b:=by
 cases hu with
 | non =>
   cases hv with
   | non=>exact⟨_,.same _⟩
   | bl b=>exact⟨_,.none_bool b⟩
   | int i t=>exact⟨_,.none_int i t⟩
   | str x t=>exact⟨_,.none_str x t⟩
   | tup ho hc hd hi=>exact⟨_,.none_tuple (items:=_) ⟨_,ho,hc,_,hd⟩ ha⟩
 | bl c =>
   cases hv with
   | non=>exact⟨_,.bool_none c⟩
   | bl b=>exact⟨_,.bool_bool c b⟩
   | int i t=>exact⟨_,.bool_int c i t⟩
   | str x t=>exact⟨_,.bool_str c x t⟩
   | tup ho hc hd hi=>exact⟨_,.bool_tuple (items:=_) c ⟨_,ho,hc,_,hd⟩ ha⟩
 | int j u =>
   cases hv with
   | non=>exact⟨_,.int_none j u⟩
   | bl b=>exact⟨_,.int_bool j u b⟩
   | int i t=>exact⟨_,.int_int j u i t⟩
   | str x t=>exact⟨_,.int_str j u x t⟩
   | tup ho hc hd hi=>exact⟨_,.int_tuple (items:=_) j u ⟨_,ho,hc,_,hd⟩ ha⟩
 | str y u =>
   cases hv with
   | non=>exact⟨_,.str_none y u⟩
   | bl b=>exact⟨_,.str_bool y u b⟩
   | int i t=>exact⟨_,.str_int y u i t⟩
   | str x t=>exact⟨_,.str_str y u x t⟩
   | tup ho hc hd hi=>exact⟨_,.str_tuple (items:=_) y u ⟨_,ho,hc,_,hd⟩ ha⟩
theorem z6N{A:Around}{s:Shared}{d:Addr}{o:Obj}{ep:Nat}{key:Value}{h:Int}{Q:Option Nat→Shared→Prop}(ho:s.heap.get? d=some o)(hd:o.data=.dict #[] ep)(q:Q none s):wpAny (model prog w) A (dictFind d key h) Q E s:=by
 unfold dictFind
 try with_reducible refine wpAny_holding ?_
 refine wpAny_bind (wpAny_dictEntries ho hd ?_)
 dsimp only
 have walk:wpAny (model prog w) A (dictWalkPlain d key h #[] (placesWithHash (#[]:Array DictEntry).size (fun i=>(#[]:Array DictEntry)[i]?.map (·.hash)) h)) Q E s:=by
  unfold dictWalkPlain
  exact wpAny_bind (wpAny_pure (wpAny_pure q))
 cases key with
 | str x t =>
   dsimp only
   rw[if_pos (by simp)]
   unfold foundByValue
   rw[show Array.findIdx? (fun e:DictEntry=>e.key.isStr x) #[]=none by simp]
   exact wpAny_pure q
 | ref a =>
   dsimp only
   rw[if_neg (by simp[carriedByValue])]
   rw[if_neg (by simp)]
   rw[if_neg (by simp[placesWithHash])]
   refine wpAny_bind ?_
   unfold tableMayTell
   rw[if_pos (by simp[placesWithHash])]
   refine wpAny_pure ?_
   rw[if_neg (by simp)]
   refine wpAny_bind ?_
   exact wpAny_pure (wpAny_pure q)
 | _ =>
   dsimp only
   rw[if_pos (by simp[carriedByValue,placesWithHash])]
   exact walk
theorem z6h{A:Around}{s:Shared}{n:Nat}{d:Addr}{o:Obj}{ep:Nat}{key:Value}{eh:Int}{ek ev:Value}{h:Int}{Q:Option Nat→Shared→Prop}(ho:s.heap.get? d=some o)(hd:o.data=.dict #[⟨eh,ek,ev⟩] ep)(he:Hk s.heap 0 ek)(hk:Hk s.heap n key)(hn:n≤8)(hu:A.units<cLine)(q:∀ r,(r=none∨r=some 0)→Q r s):wpAny (model prog w) A (dictFind d key h) Q E s:=by
 obtain⟨b,eq⟩:=z4y (A:=A) he hk hu
 have walk:wpAny (model prog w) A (dictWalkPlain d key h #[⟨eh,ek,ev⟩] (placesWithHash (#[⟨eh,ek,ev⟩]:Array DictEntry).size (fun i=>(#[⟨eh,ek,ev⟩]:Array DictEntry)[i]?.map (·.hash)) h)) Q E s:=by
  unfold dictWalkPlain
  by_cases hh:eh=h
  · rw[show placesWithHash (#[⟨eh,ek,ev⟩]:Array DictEntry).size (fun i=>(#[⟨eh,ek,ev⟩]:Array DictEntry)[i]?.map (·.hash)) h=[0] from by simp[placesWithHash,hh,List.range_succ]]
    refine wpAny_bind ?_
    refine wpAny_forIn_list _ (fun rest r s'=>s'=s∧r=(none,())∧(rest=[0]∨rest=[])) _ ?_ ?_ _ _ ⟨rfl,rfl,.inl rfl⟩
    · rintro x rest r s' ⟨rfl,rfl,hr⟩
      obtain⟨rfl,rfl⟩:x=0∧rest=[]:=by simpa using hr
      simp only[List.getElem?_toArray,List.getElem?_cons_zero]
      rw[if_pos (by rw[hh];exact beq_self_eq_true _)]
      refine wpAny_bind (wpAny_dictEpoch ho hd (wpAny_bind (eq prog w E _ (wpAny_bind (wpAny_dictEpoch ho hd ?_)))))
      show wpAny _ _ (if (ep != ep)=true then _ else _) _ E _
      rw[if_neg (by simp)]
      cases b with
      | true=>exact wpAny_bind (wpAny_rule (wpAny_pure (wpAny_pure (q _ (.inr rfl)))))
      | false=>exact wpAny_bind (wpAny_rule (wpAny_pure ⟨rfl,rfl,by simp⟩))
    · rintro r s' ⟨rfl,rfl,_⟩
      exact wpAny_pure (q _ (.inl rfl))
  · rw[show placesWithHash (#[⟨eh,ek,ev⟩]:Array DictEntry).size (fun i=>(#[⟨eh,ek,ev⟩]:Array DictEntry)[i]?.map (·.hash)) h=[] from by simp[placesWithHash,hh,List.range_succ]]
    exact wpAny_bind (wpAny_pure (wpAny_pure (q _ (.inl rfl))))
 have hcv:carriedByValue ek=true:=by cases he <;> rfl
 have hall:carriedByValue key=true→((key :: (placesWithHash (#[⟨eh,ek,ev⟩]:Array DictEntry).size (fun i=>(#[⟨eh,ek,ev⟩]:Array DictEntry)[i]?.map (·.hash)) h).filterMap fun i=>(#[⟨eh,ek,ev⟩]:Array DictEntry)[i]?.map (·.key)).all carriedByValue)=true:=by
  intro hc
  rw[List.all_cons,hc,Bool.true_and]
  refine List.all_eq_true.mpr fun v hv=>?_
  obtain⟨i,_,hi⟩:=List.mem_filterMap.mp hv
  match i,hi with
  | 0,hi=>
   have:ek=v:=by simpa using hi
   rw[← this];exact hcv
  | j+1,hi=>simp at hi
 unfold dictFind
 try with_reducible refine wpAny_holding ?_
 refine wpAny_bind (wpAny_dictEntries ho hd ?_)
 dsimp only
 cases hk with
 | non=>dsimp only;rw[if_pos (hall rfl)];exact walk
 | bl c=>dsimp only;rw[if_pos (hall rfl)];exact walk
 | int i t=>dsimp only;rw[if_pos (hall rfl)];exact walk
 | str x t =>
   dsimp only
   by_cases hs:((#[⟨eh,ek,ev⟩]:Array DictEntry).all fun e=>isExactStrKey e.key)=true
   · rw[if_pos hs]
     unfold foundByValue
     cases he with
     | str y u =>
       by_cases hxy:y=x
       · subst hxy
         rw[show Array.findIdx? (fun e:DictEntry=>e.key.isStr y) #[⟨eh,.str y u,ev⟩]=some 0 by simp[Value.isStr]]
         simp only[List.getElem?_toArray,List.getElem?_cons_zero]
         refine wpAny_bind (wpAny_dictEpoch ho hd (wpAny_bind (wpAny_eqBool_str (wpAny_bind (wpAny_dictEpoch ho hd ?_)))))
         show wpAny _ _ (if (ep != ep)=true then _ else _) _ E _
         rw[if_neg (by simp),decide_eq_true rfl]
         exact wpAny_bind (wpAny_rule (wpAny_pure (q _ (.inr rfl))))
       · rw[show Array.findIdx? (fun e:DictEntry=>e.key.isStr x) #[⟨eh,.str y u,ev⟩]=none by simp[Value.isStr,hxy,Ne.symm hxy]]
         exact wpAny_pure (q _ (.inl rfl))
     | _=>simp[isExactStrKey] at hs
   · rw[if_neg hs,if_pos (hall rfl)];exact walk
 | @tup m a o' items k ho' hc' hd' hi' =>
   have hk:Hk s.heap (m+1) (.ref a):=.tup ho' hc' hd' hi'
   dsimp only
   rw[if_neg (by simp[carriedByValue])]
   rw[if_neg (by simp only[List.any_toArray,List.any_cons,List.any_nil,Bool.or_false];cases he <;> simp)]
   by_cases hh:eh=h
   · rw[show placesWithHash (#[⟨eh,ek,ev⟩]:Array DictEntry).size (fun i=>(#[⟨eh,ek,ev⟩]:Array DictEntry)[i]?.map (·.hash)) h=[0] from by simp[placesWithHash,hh,List.range_succ]]
     rw[show ([0].filterMap fun i=>(#[⟨eh,ek,ev⟩]:Array DictEntry)[i]?.map (·.key))=[ek] by simp]
     rw[if_neg (by cases he <;> simp)]
     refine wpAny_bind ?_
     unfold tableMayTell
     rw[if_neg (by simp)]
     refine wpAny_bind (QM hk hn ?_)
     simp only[Bool.not_true,Bool.false_eq_true,if_false]
     refine wpAny_bind ?_
     refine wpAny_forIn_list _ (fun rest r s'=>s'=s∧r=(none,())∧(rest=[ek]∨rest=[])) _ ?_ ?_ _ _ ⟨rfl,rfl,.inl rfl⟩
     · rintro x rest r s' ⟨rfl,rfl,hr⟩
       obtain⟨rfl,rfl⟩:x=ek∧rest=[]:=by simpa using hr
       refine wpAny_bind (QM he (Nat.zero_le _) ?_)
       simp only[Bool.not_true,Bool.false_eq_true,if_false]
       exact wpAny_pure ⟨rfl,rfl,by simp⟩
     · rintro r s' ⟨rfl,rfl,_⟩
       refine wpAny_pure ?_
       rw[if_neg (by simp)]
       refine wpAny_bind ?_
       refine wpAny_forIn_list _ (fun rest r s''=>s''=s'∧r=(none,none)∧(rest=[0]∨rest=[])) _ ?_ ?_ _ _ ⟨rfl,rfl,.inl rfl⟩
       · rintro x rest r s'' ⟨rfl,rfl,hr⟩
         obtain⟨rfl,rfl⟩:x=0∧rest=[]:=by simpa using hr
         simp only[List.getElem?_toArray,List.getElem?_cons_zero]
         rw[if_pos (by rw[hh];exact beq_self_eq_true _)]
         refine wpAny_bind (wpAny_dictEpoch ho hd (wpAny_bind (eq prog w E _ (wpAny_bind (wpAny_dictEpoch ho hd ?_)))))
         show wpAny _ _ (if (ep != ep)=true then _ else _) _ E _
         rw[if_neg (by simp)]
         cases b with
         | true =>
           simp only[Option.isSome_none,Bool.false_eq_true,if_false,if_true]
           refine wpAny_bind (wpAny_rule ?_)
           rw[if_pos (by simp)]
           exact wpAny_pure (wpAny_pure (q _ (.inr rfl)))
         | false =>
           simp only[Bool.false_eq_true,if_false]
           refine wpAny_bind (wpAny_rule ?_)
           rw[if_neg (by simp)]
           exact wpAny_pure ⟨rfl,rfl,by simp⟩
       · rintro r s'' ⟨rfl,rfl,_⟩
         exact wpAny_pure (q _ (.inl rfl))
   · rw[show placesWithHash (#[⟨eh,ek,ev⟩]:Array DictEntry).size (fun i=>(#[⟨eh,ek,ev⟩]:Array DictEntry)[i]?.map (·.hash)) h=[] from by simp[placesWithHash,hh,List.range_succ]]
     rw[if_neg (by simp)]
     refine wpAny_bind ?_
     unfold tableMayTell
     rw[if_pos (by simp)]
     refine wpAny_pure ?_
     rw[if_neg (by simp)]
     refine wpAny_bind ?_
     exact wpAny_pure (wpAny_pure (q _ (.inl rfl)))
noncomputable def DE(h:Heap)(d:Addr)(es:List DictEntry):Prop:=∃ o ep,h.get? d=some o∧o.ExactDict∧o.data=.dict es.toArray ep
theorem Hk.keep{h h':Heap}(kp:∀ a o,h.get? a=some o→o.cls=.type "tuple"→h'.get? a=some o):∀ {n:Nat}{v:Value},Hk h n v→Hk h' n v:=by
 intro n
 induction n with
 | zero =>
   intro v hk
   cases hk with
   | non=>exact .non
   | bl b=>exact .bl b
   | int i t=>exact .int i t
   | str x t=>exact .str x t
 | succ n ih =>
   intro v hk
   cases hk with
   | non=>exact .non
   | bl b=>exact .bl b
   | int i t=>exact .int i t
   | str x t=>exact .str x t
   | tup ho hc hd hi=>exact .tup (kp _ _ ho hc) hc hd fun v hv=>ih (hi v hv)
theorem Hk.but{h h':Heap}{d:Addr}{es:List DictEntry}{n:Nat}{v:Value}(hk:Hk h n v)(hd:DE h d es)(sb:Heap.SameBut d h h'):Hk h' n v:=by
 refine hk.keep fun a o ho hc=>?_
 by_cases ha:a=d
 · subst ha
   obtain⟨o',ep,ho',ex,_⟩:=hd
   rw[ho] at ho';cases ho'
   have:=ex.1
   rw[hc] at this;exact absurd this (by decide)
 · exact (sb.2 a ha).trans ho
theorem z3M{A:Around}{s:Shared}{n:Nat}{d:Addr}{key v:Value}{Q:Unit→Shared→Prop}(hd:DE s.heap d [])(hk:Hk s.heap n key)(hu:A.units+8 * n<cLine)
 (q:∀ h' t hv,DE h' d [⟨hv,key,v⟩]→Heap.SameBut d s.heap h'→Q () { s with heap:=h',toks:=t }):wpAny (model prog w) A (dictSet d key v) Q E s:=by
 obtain⟨o,ep,ho,ex,hd⟩:=hd
 unfold dictSet
 try with_reducible refine wpAny_holding ?_
 refine wpAny_bind (uJ hk hu fun hv t=>?_)
 unfold dictSetHashed
 try with_reducible refine wpAny_holding ?_
 refine wpAny_bind (z6N (s:={ s with toks:=t }) ho hd ?_)
 refine wpAny_bind (wpAny_rule (wpAny_updateDictKeys (hz:=by simp[sizeLine_eq]) (s:={ s with toks:=t }) ho hd (q _ _ hv ⟨_,ep+1,Heap.get?_update_self _ ho (Obj.isFreed_of_dict (Obj.data_mapDictKeys hd _)),ex.mapDictKeys _,Obj.data_mapDictKeys hd _⟩ (Heap.SameBut.update ..))))
theorem z6e{A:Around}{s:Shared}{n:Nat}{d:Addr}{eh:Int}{ek ev key v:Value}{Q:Unit→Shared→Prop}(hd:DE s.heap d [⟨eh,ek,ev⟩])(he:Hk s.heap 0 ek)(hk:Hk s.heap n key)(hn:n≤8)(hu:A.units+8 * n<cLine)
 (q:∀ h' t es,(es=[⟨eh,ek,v⟩]∨∃ hv,es=[⟨eh,ek,ev⟩,⟨hv,key,v⟩])→DE h' d es→Heap.SameBut d s.heap h'→Q () { s with heap:=h',toks:=t }):wpAny (model prog w) A (dictSet d key v) Q E s:=by
 obtain⟨o,ep,ho,ex,hd⟩:=hd
 unfold dictSet
 try with_reducible refine wpAny_holding ?_
 refine wpAny_bind (uJ hk hu fun hv t=>?_)
 unfold dictSetHashed
 try with_reducible refine wpAny_holding ?_
 refine wpAny_bind (z6h (s:={ s with toks:=t }) ho hd he hk hn (by omega) fun r hr=>?_)
 rcases hr with rfl | rfl
 · refine wpAny_bind (wpAny_rule (wpAny_updateDictKeys (hz:=by simp[sizeLine_eq]) (s:={ s with toks:=t }) ho hd (q _ _ [⟨eh,ek,ev⟩,⟨hv,key,v⟩] (.inr ⟨hv,rfl⟩) ⟨_,ep+1,Heap.get?_update_self _ ho (Obj.isFreed_of_dict (Obj.data_mapDictKeys hd _)),ex.mapDictKeys _,Obj.data_mapDictKeys hd _⟩ (Heap.SameBut.update ..))))
 · refine wpAny_bind (wpAny_rule (wpAny_bind (wpAny_updateDict (s:={ s with toks:=t }) ho hd (wpAny_point (q _ _ [⟨eh,ek,v⟩] (.inl rfl) ⟨_,ep,Heap.get?_update_self _ ho (Obj.isFreed_of_dict (Obj.data_mapDict hd _)),ex.mapDict _,?_⟩ (Heap.SameBut.update ..))))))
   rw[Obj.data_mapDict hd _]
   simp
noncomputable def z1X(vs:List (Value×Value))(es:List DictEntry):Prop:=(∃ h k v,vs=[(k,v)]∧es=[⟨h,k,v⟩])∨(∃ h k v k' v',vs=[(k,v),(k',v')]∧(es=[⟨h,k,v'⟩]∨∃ h',es=[⟨h,k,v⟩,⟨h',k',v'⟩]))
noncomputable def Keyed(h:Heap)(vs:List (Value×Value)):Prop:=(∃ n k v,vs=[(k,v)]∧Hk h n k∧n≤8)∨(∃ n k v k' v',vs=[(k,v),(k',v')]∧Hk h 0 k∧Hk h n k'∧n≤8)
theorem uQ{A:Around}{s:Shared}{env:Env}{keys:List (Option Expr)}{values:List Expr}{pos:Pos}{Q:Value→Shared→Prop}
 (hall:keys.all (·.isSome)=true) (hl:keys.length=values.length) (h0:keys≠[]) (hlen:keys.length≤15) (hu:A.units+64<cLine)
 (h:wpAny (model prog w) A (evalPairs (pairTrees keys values env pos)) (fun vs s₁=>DE s₁.heap s.heap.objs.size []∧Keyed s₁.heap vs ∧
  ∀ h' t es,z1X vs es→DE h' s.heap.objs.size es→Heap.SameBut s.heap.objs.size s₁.heap h'→Q (.ref s.heap.objs.size) { s₁ with heap:=h',toks:=t }) E
  { s with heap:=s.heap.push { cls:=.type "dict",data:=.dict #[] } }) :
 wpAny (model prog w) A (eval (.Dict keys values pos) env) Q E s:=by
 have hn:=pairTrees_length keys values env pos hall hl
 have hne:pairTrees keys values env pos≠[]:=fun he=>by
  rw[he] at hn
  exact h0 (List.length_eq_zero_iff.mp hn.symm)
 rw[arm_eval_Dict,zip_pairTrees keys values env pos hall hl,dictDisplay_pairs _ hne (by omega)]
 refine wpAny_bind (wpAny_standAt (wpAny_bind ?_))
 unfold subDict
 refine wpAny_bind (wpAny_alloc ?_)
 refine wpAny_bind (wpAny_holding ?_)
 rw[if_pos (by omega)]
 refine wpAny_bind (wpAny_mono h (fun vs s₁ h₁=>?_) fun _ _ e=>e)
 obtain⟨hd,hk,q⟩:=h₁
 refine wpAny_holding ?_
 rcases hk with⟨n,k,v,rfl,hk,hn8⟩|⟨n,k,v,k',v',rfl,hk,hk',hn8⟩
 · refine wpAny_bind ?_
   rw[List.forIn_cons]
   refine wpAny_bind (wpAny_bind (z3M hd hk (by omega) fun h' t hv d' sb=>wpAny_pure ?_))
   dsimp only
   rw[List.forIn_nil]
   exact wpAny_pure (wpAny_pure (wpAny_pure (wpAny_pure (q _ _ _ (.inl ⟨hv,k,v,rfl,rfl⟩) d' sb))))
 · refine wpAny_bind ?_
   rw[List.forIn_cons]
   refine wpAny_bind (wpAny_bind (z3M hd hk (by omega) fun h' t hv d' sb=>wpAny_pure ?_))
   dsimp only
   rw[List.forIn_cons]
   refine wpAny_bind (wpAny_bind (z6e (s:={ s₁ with heap:=h',toks:=t }) d' (hk.but hd sb) (hk'.but hd sb) hn8 (by omega) fun h2 t2 es hes d2 sb2=>wpAny_pure ?_))
   dsimp only
   rw[List.forIn_nil]
   refine wpAny_pure (wpAny_pure (wpAny_pure (wpAny_pure (q _ _ es (.inr ⟨hv,k,v,k',v',rfl,hes⟩) d2 (sb.trans sb2)))))
end
end L2
namespace L2
open PySem PySem.Spec PyProof PyProof.Rows PySem.W
inductive Hs (K:PySem.W.Frag) (H:Hp):Nat→V→Prop where
 | non {n:Nat}:Hs K H n .non
 | bl {n:Nat}(b:Bool):Hs K H n (.bl b)
 | int {n:Nat}(i:Int):Hs K H n (.int i)
 | str {n:Nat}(x:Str):Hs K H n (.str x)
 | tup {n:Nat}{a:Addr}{xs:List V}(e:z5 K H a xs) (f:∀ x∈xs,Hs K H n x):Hs K H (n+1) (.ref a)
theorem JM{xs:List V}{us:List Value}(r:Vals xs us):∀ u∈us,∃ x∈xs,RelV x u:=by
 induction r with
 | nil=>intro u hu;cases hu
 | cons h t ih =>
   intro u hu
   rcases List.mem_cons.mp hu with rfl | hu
   · exact⟨_,List.mem_cons_self,h⟩
   · obtain⟨x,hx,r⟩:=ih u hu
     exact⟨x,List.mem_cons_of_mem _ hx,r⟩
theorem Hs.hk{X:Cx}{pins:List (Addr×Obj)}{σ:St}{H:Hp}{s:Shared}(I:Inv X pins σ H s):∀ {n:Nat}{v:V}{u:Value},Hs X.K H n v→RelV v u→Hk s.heap n u:=by
 intro n
 induction n with
 | zero =>
   intro v u h r
   cases h with
   | non=>cases (show u=Value.none from r);exact .non
   | bl b=>cases (show u=Value.bool b from r);exact .bl b
   | int i=>obtain⟨t,rfl⟩:=r;exact .int i t
   | str x=>obtain⟨t,rfl⟩:=r;exact .str x t
 | succ n ih =>
   intro v u h r
   cases h with
   | non=>cases (show u=Value.none from r);exact .non
   | bl b=>cases (show u=Value.bool b from r);exact .bl b
   | int i=>obtain⟨t,rfl⟩:=r;exact .int i t
   | str x=>obtain⟨t,rfl⟩:=r;exact .str x t
   | @tup _ a xs e f =>
     cases (show u=Value.ref a from r)
     obtain⟨its,rr,⟨o,ho,hc,m,hd⟩,_⟩:=I.tuple e
     refine .tup ho hc hd fun v hv=>?_
     obtain⟨x,hx,rx⟩:=JM rr v (by simpa using hv)
     exact ih (f x hx) rx
noncomputable def Yg(a:Addr)(ks vs:List V):HO:=.ext fun h=>∃ (o:Obj) (es:Array DictEntry) (n:Nat),h.get? a=some o∧o.cls=.type "dict"∧o.data=.dict es n∧a≠sysModules∧Vals ks (es.toList.map (·.key))∧Vals vs (es.toList.map (·.val))
theorem jA{P:Program}{w:World}{H:Hp}{h:Heap}{p:Addr}{es:List DictEntry}{ks vs:List V}(d:DE h p es)(hs:p≠sysModules)(rk:Vals ks (es.map (·.key)))(rv:Vals vs (es.map (·.val))):Zy P w H h p (Yg p ks vs):=by
 obtain⟨o,ep,ho,ex,hd⟩:=d
 refine⟨⟨o,es.toArray,ep,ho,ex.1,hd,hs,by simpa using rk,by simpa using rv⟩,⟨o,ho⟩,?_⟩
 rintro h1 h2 ⟨o',es',n',ho',r⟩ k
 exact⟨o',es',n',k _ ho',r⟩
noncomputable def GOk(K:PySem.W.Frag)(H:Hp)(ps:List (V×V)):Prop:=(∃ n k v,ps=[(k,v)]∧Hs K H n k∧n≤8)∨(∃ n k v k' v',ps=[(k,v),(k',v')]∧Hs K H 0 k∧Hs K H n k'∧n≤8)
noncomputable def z4K(K:PySem.W.Frag)(trs:List (TE×TE)):TE:=fun σ H Q=>∀ p,H p=none→Uu trs σ (upd H p (.dK [])) fun ps H2=>H2 p=some (.dK [])∧GOk K H2 ps∧∀ ks vs:List V,(∀ k∈ks,k∈ps.map (·.1))→(∀ v∈vs,v∈ps.map (·.2))→ks.length=vs.length→ks.length≤2→Q (.ref p) (upd H2 p (Yg p ks vs))
theorem ux{X:Cx}{K:PySem.W.Frag}{k:Nat}{pos:Pos}{keys:List (Option Expr)}{values:List Expr}{trs:List (TE×TE)}(eK:X.K=K)(hr:yQ k X.A)(h:PPs X pos keys values trs)(hall:keys.all (·.isSome)=true)(hl:keys.length=values.length)(h0:keys≠[])
 (h15:keys.length≤15):PE X (.Dict keys values pos) (z4K K trs):=by
 subst eK
 intro pins s σ H Q I q
 have hn:=I.hok.fresh (Nat.le_refl s.heap.objs.size)
 have I1:=I.laid (a:=s.heap.objs.size) (o:=.dK []) (h':=s.heap.push { cls:=.type "dict",data:=.dict #[] }) (t':=s.toks) (fun _ _ q=>Heap.get?_push_of_some _ q) (Nat.le_refl _) (z0a s.heap I.big)
 have hu:=hr.units
 refine uQ hall hl h0 h15 (by omega) (Zt (h pins _ σ _ _ I1 (q _ hn)) fun ws s2 ⟨ps,H2,I2,rel,e,ok,q2⟩=>?_)
 obtain⟨z,hd,vs0,r0,dd⟩:=z5Y I2.hok e
 cases r0
 have dn:DE s2.heap s.heap.objs.size []:=by
  obtain⟨o,es,ep,a1,a2,a3,a4,a5,a6⟩:=dd
  have ee:es=#[]:=by
   cases hh:es.toList with
   | nil=>exact Array.toList_eq_nil_iff.mp hh
   | cons x y=>rw[hh] at a5;cases a5
  subst ee
  exact⟨o,ep,a1,a2,a3⟩
 have hsm:s.heap.objs.size≠sysModules:=beq_eq_false_iff_ne.mp hd
 refine⟨dn,?_,fun h' t es st d' sb=>?_⟩
 · rcases ok with⟨n,k,v,rfl,hk,hn⟩|⟨n,k,v,k',v',rfl,hk,hk',hn⟩
   · cases rel with
     | @cons _ q1 _ _ h1 t1 =>
       cases t1
       exact .inl ⟨n,q1.1,q1.2,rfl,hk.hk I2 h1.1,hn⟩
   · cases rel with
     | @cons _ q1 _ _ h1 t1 =>
       cases t1 with
       | @cons _ q2 _ _ h2 t2 =>
         cases t2
         exact .inr ⟨n,q1.1,q1.2,q2.1,q2.2,rfl,hk.hk I2 h1.1,hk'.hk I2 h2.1,hn⟩
 · have key:∃ ks vs:List V,(∀ k∈ks,k∈ps.map (·.1))∧(∀ v∈vs,v∈ps.map (·.2))∧ks.length=vs.length∧ks.length≤2∧Vals ks (es.map (·.key))∧Vals vs (es.map (·.val)):=by
    rcases st with⟨hv,k,v,rfl,rfl⟩|⟨hv,k,v,k',v',rfl,st⟩
    · cases rel with
      | @cons p1 _ _ _ h1 t1 =>
        cases t1
        exact⟨[p1.1],[p1.2],by simp,by simp,rfl,by simp,.cons h1.1 .nil,.cons h1.2 .nil⟩
    · cases rel with
      | @cons p1 _ _ _ h1 t1 =>
        cases t1 with
        | @cons p2 _ _ _ h2 t2 =>
          cases t2
          rcases st with rfl |⟨hv',rfl⟩
          · exact⟨[p1.1],[p2.2],by simp,by simp,rfl,by simp,.cons h1.1 .nil,.cons h2.2 .nil⟩
          · exact⟨[p1.1,p2.1],[p1.2,p2.2],by simp,by simp,rfl,by simp,.cons h1.1 (.cons h2.1 .nil),.cons h1.2 (.cons h2.2 .nil)⟩
   obtain⟨ks,vs,m1,m2,l1,l2,rk,rv⟩:=key
   have he:∃ q,h'.get? s.heap.objs.size=some q:=let ⟨q,_,hq,_⟩:=d';⟨q,hq⟩
   exact⟨.ref s.heap.objs.size,_,z3e I2 (by rw[e];exact True.intro) sb he (jA d' hsm rk rv),rfl,q2 ks vs m1 m2 l1 l2⟩
noncomputable def z4V:TE:=fun _ H Q=>∀ p,H p=none→Q (.ref p) (upd H p (Yg p [] []))
theorem z0T{X:Cx}{pos:Pos}:PE X (.Dict [] [] pos) z4V:=fun pins s σ H Q I h =>
 wpAny_Dict_empty ⟨.ref s.heap.objs.size,_,I.laid (a:=s.heap.objs.size) (o:=Yg s.heap.objs.size [] []) (t':=s.toks) (fun _ _ q=>Heap.get?_push_of_some _ q) (Nat.le_refl _) (jA (es:=[]) ⟨_,0,Heap.get?_push_size _ rfl,⟨rfl,rfl,rfl⟩,rfl⟩ (Ne.symm (Nat.ne_of_lt I.big)) .nil .nil),rfl,h _ (I.hok.fresh (Nat.le_refl _))⟩
mutual
inductive Rdg (h:Addr) (m:Bool) (K:PySem.W.Frag) (H:Hp):V→PyData→Prop where
 | fl {v:V}{d:PyData}(f:Fl v d):Rdg h m K H v d
 | tup {a:Addr}{xs:List V}{ds:List PyData}(e:z5 K H a xs) (f:Uv h m K H xs ds):Rdg h m K H (.ref a) (.tuple ds)
 | lst {a:Addr}{xs:List V}{ds:List PyData}(hm:m=false) (ne:a≠h) (e:H a=some (.lst xs)) (f:Uv h m K H xs ds):Rdg h m K H (.ref a) (.list ds)
 | dct {a:Addr}{ks vs:List V}{kvs:List (PyData×PyData)}(hm:m=true) (e:H a=some (Yg a ks vs)) (fk:Uv h m K H ks (kvs.map (·.1))) (fv:Uv h m K H vs (kvs.map (·.2))):Rdg h m K H (.ref a) (.dict kvs)
inductive Uv (h:Addr) (m:Bool) (K:PySem.W.Frag) (H:Hp):List V→List PyData→Prop where
 | nil:Uv h m K H [] []
 | cons {v:V}{d:PyData}{vs:List V}{ds:List PyData}(f:Rdg h m K H v d) (t:Uv h m K H vs ds):Uv h m K H (v :: vs) (d :: ds)
end
section
variable{X:Cx}{pins:List (Addr×Obj)}{σ:St}{H:Hp}{s:Shared}{h:Addr}{m:Bool}
end
section
variable{X:Cx}
noncomputable def QS(K:PySem.W.Frag)(H:Hp)(v:V)(t:Value):Prop:=Yq K H v t∨(∃ a ks vs,v=.ref a∧H a=some (Yg a ks vs)∧t=.type "dict")∨(∃ a xs,v=.ref a∧z5 K H a xs∧t=.type "tuple")
theorem yn:ye X (.builtin "isinstance") (fun xs H Q=>∃ (v:V) (t:Value) (T:String) (b:Bool),xs=[v,.ty T]∧QS X.K H v t∧PySem.W.kitOne X.K t (.type T)=some b∧Q (.bl b) H):=by
 intro pins s σ H xs us Q I r h
 obtain⟨v,t,T,b,rfl,ty,e,q⟩:=h
 obtain⟨u,w',rfl,ru,rw'⟩:=vals2 r
 cases rw'
 rcases ty with ty |⟨a,ks,vs,rfl,ea,rfl⟩|⟨a,xs,rfl,ea,rfl⟩
 · exact Q5 I ru ty e fun tk=>⟨.bl b,H,I.tok tk,rfl,q⟩
 · cases (show u=Value.ref a from ru)
   obtain⟨⟨o,es,n,ho,hc,_⟩,_⟩:=(show Zy X.prog X.w H s.heap a (Yg a ks vs) from I.hok a _ ea)
   exact PySem.W.kia_one PySem.W.kitx_dict I.VL ⟨o,ho,hc⟩ e (fun z=>nomatch z) fun tk=>⟨.bl b,H,I.tok tk,rfl,q⟩
 · cases (show u=Value.ref a from ru)
   obtain⟨_,_,⟨o,h1,h2,_⟩,_⟩:=I.tuple ea
   exact PySem.W.kia_one PySem.W.kitx_tuple I.VL ⟨o,h1,h2⟩ e (fun z=>nomatch z) fun tk=>⟨.bl b,H,I.tok tk,rfl,q⟩
theorem qR{K:PySem.W.Frag}(e:X.K=K):ye X (.builtin "isinstance") (fun xs H Q=>∃ (v:V) (t:Value) (T:String) (b:Bool),xs=[v,.ty T]∧QS K H v t∧PySem.W.kitOne K t (.type T)=some b∧Q (.bl b) H):=e ▸ yn
end
end L2
namespace L2
open PySem PySem.Spec PyProof PyProof.Rows PySem.W
structure Kv(h:Addr)(K:PySem.W.Frag)(H H':Hp):Prop where
 sq:∀ a xs,z5 K H a xs→z5 K H' a xs
 tp:∀ a xs,H a=some (.tup xs)→H' a=some (.tup xs)
 ls:∀ a xs,a≠h→H a=some (.lst xs)→H' a=some (.lst xs)
 dc:∀ a ks vs,H a=some (Yg a ks vs)→H' a=some (Yg a ks vs)
 ty:KTy H H'
section
variable{K:PySem.W.Frag}{H H' H2:Hp}{h:Addr}{m:Bool}{k:Nat}{v:V}
theorem zu.kv(s:zu H H'):Kv h K H H':=⟨fun _ _ e=>s.V9 e,fun _ _ e=>s _ _ e,fun _ _ _ e=>s _ _ e,fun _ _ _ e=>s _ _ e,s.kt⟩
theorem z4.kv(hh:z4 H h)(hh':z4 H' h)(k:Kp h H H'):Kv h K H H':=by
 refine⟨fun _ _ e=>(hh.kl k).V9 e,fun _ _ e=>z4O hh k e,fun _ _ ne e=>k _ _ e ne,fun a ks vs e=>k _ _ e ?_,hh.kt hh' k⟩
 rintro rfl
 obtain⟨_,_,e',_⟩:=hh
 rw[e'] at e;cases e
theorem KTy.trans'(a:KTy H H')(b:KTy H' H2):KTy H H2:=fun x o e=>by
 rcases a x o e with e |⟨xs,ys,rfl,e2⟩
 · exact b x o e
 · rcases b x _ e2 with e |⟨xs',ys',e1,e⟩
   · exact .inr ⟨_,_,rfl,e⟩
   · exact .inr ⟨_,_,rfl,e⟩
theorem Kv.trans(a:Kv h K H H')(b:Kv h K H' H2):Kv h K H H2:=⟨fun _ _ e=>b.sq _ _ (a.sq _ _ e),fun _ _ e=>b.tp _ _ (a.tp _ _ e),fun _ _ ne e=>b.ls _ _ ne (a.ls _ _ ne e),fun _ _ _ e=>b.dc _ _ _ (a.dc _ _ _ e),a.ty.trans' b.ty⟩
theorem QS.kv{t:Value}(ty:QS K H v t)(k:Kv h K H H'):QS K H' v t:=by
 rcases ty with ty |⟨a,ks,vs,rfl,e,rfl⟩|⟨a,xs,rfl,e,rfl⟩
 · exact .inl (ty.kt k.ty)
 · exact .inr (.inl ⟨a,ks,vs,rfl,k.dc _ _ _ e,rfl⟩)
 · exact .inr (.inr ⟨a,xs,rfl,k.sq _ _ e,rfl⟩)
theorem QS.tup{a:Addr}{xs:List V}(e:z5 K H a xs):QS K H (.ref a) (.type "tuple"):=.inr (.inr ⟨a,xs,rfl,e,rfl⟩)
end
inductive Tp2 (K:PySem.W.Frag) (H:Hp):V→Option (Int×Int)→Prop where
 | no {v:V}{t:Value}(ty:QS K H v t) (e:PySem.W.kitOne K t (.type "tuple")=some false):Tp2 K H v none
 | len {a:Addr}{xs:List V}(e:z5 K H a xs) (l:xs.length≠2):Tp2 K H (.ref a) none
 | two {a:Addr}{x y:V}{ox oy:Option Int}(e:z5 K H a [x,y]) (hx:Tg K H x ox) (hy:Tg K H y oy):Tp2 K H (.ref a) (o2 ox oy)
inductive Ws (K:PySem.W.Frag) (H:Hp):V→Option (Int×List (Option (Int×Int)))→Prop where
 | no {v:V}{t:Value}(ty:QS K H v t) (e:PySem.W.kitOne K t (.type "tuple")=some false):Ws K H v none
 | len {a:Addr}{xs:List V}(e:H a=some (.tup xs)) (l:xs.length≠2):Ws K H (.ref a) none
 | page {a:Addr}{p l:V}(e:H a=some (.tup [p,l])) (hp:Tg K H p none):Ws K H (.ref a) none
 | nol {a:Addr}{p l:V}{i:Int}{t:Value}(e:H a=some (.tup [p,l])) (hp:Tg K H p (some i)) (ty:QS K H l t) (et:PySem.W.kitOne K t (.type "tuple")=some false):Ws K H (.ref a) none
 | two {a b:Addr}{p:V}{i:Int}{ys:List V}{os:List (Option (Int×Int))}(e:H a=some (.tup [p,.ref b])) (hp:Tg K H p (some i)) (eb:H b=some (.tup ys)) (f:Paired (Tp2 K H) ys os):Ws K H (.ref a) (some (i,os))
theorem YG{α β:Type}{R:α→β→Prop}{xs:List α}{ys:List β}(p:Paired R xs ys):xs.length=ys.length:=by
 induction p with
 | nil=>rfl
 | cons _ _ ih=>rw[List.length_cons,List.length_cons,ih]
theorem xR{α β:Type}{R:α→β→Prop}{xs:List α}{ys:List β}(p:Paired R xs ys):∀ {i:Nat}{x:α},xs[i]?=some x→∃ y,ys[i]?=some y∧R x y:=by
 induction p with
 | nil=>intro i x h;simp at h
 | cons h t ih =>
   intro i x e
   match i,e with
   | 0,e=>have:=Option.some.inj e;subst this;exact⟨_,rfl,h⟩
   | j+1,e=>exact ih (i:=j) (by simpa using e)
theorem yq{α β:Type}{R S:α→β→Prop}{xs:List α}{ys:List β}(p:Paired R xs ys)(f:∀ x y,R x y→S x y):Paired S xs ys:=by
 induction p with
 | nil=>exact .nil
 | cons h t ih=>exact .cons (f _ _ h) ih
noncomputable def jS(K:PySem.W.Frag):Sp:=fun vs H Q _=>∃ (v:V) (o:Option (Int×Int)),vs=[v]∧Tp2 K H v o∧Q (.bl o.isSome) H
inductive Lf (H:Hp):Nat→V→Prop where
 | fl {k:Nat}{v:V}{d:PyData}(f:Fl v d) (l:d.shown.length≤2000):Lf H k v
 | one {k:Nat}{a:Addr}{x:V}(e:H a=some (.tup [x])) (f:Lf H k x):Lf H (k+1) (.ref a)
section
variable{K:PySem.W.Frag}{H H':Hp}{h:Addr}{m:Bool}{k:Nat}{v:V}
end
section
variable{K:PySem.W.Frag}{H H':Hp}{h:Addr}{m:Bool}{k:Nat}{v:V}
end
end L2
namespace L2
open PySem PySem.Spec PyProof PyProof.Rows PySem.W
theorem Us{prog:Program}{w:World}{A:Around}{E:Value→Shared→Prop}{s:Shared}{t sl:Addr}{items:Array Value}{vl vu:Value}{lo hi:Option Int}{Q:Value→Shared→Prop}(ht:IsTup s.heap t items)(hs:s.heap.IsSliceOf sl vl vu .none)(pl:IsPart vl lo)(pu:IsPart vu hi)
 (e1:HT.Z8 items.size 0 lo=0) (e2:HT.Z8 items.size items.size hi=items.size) (h:Q (.ref t) s):wpAny (model prog w) A (getItem (.ref t) (.ref sl)) Q E s:=by
 obtain⟨os,hos,hcs,hds⟩:=id hs
 unfold getItem
 try with_reducible refine wpAny_holding ?_
 first | refine wpAny_bind (wpAny_pure ?_) | skip
 refine wpAny_bind (wpAny_sequenceKey ht.typeIs (by decide) ?_)
 refine wpAny_bind (wpAny_callSpecial?_slot (name:=Str.ofString "__getitem__") ht.typeIs PyProof.Rows.slot_tuple_getitem (wpAny_call_entry PyProof.Rows.slot_tuple_getitem ht.typeIs entry_tuple_getitem ?_ (args_tuple_getitem _ _)))
 show wpAny _ _ (Builtin.Tuple.tupleItemsOf (.ref t) >>= _) _ _ s
 refine wpAny_bind (tupleItemsOf_ ht ?_)
 refine wpAny_bind (wpAny_typeOf (show s.TypeIs (.ref sl) "slice" from ⟨os,hos,hcs⟩) ?_)
 rw[if_pos (by decide)]
 refine wpAny_bind (HT.Yn hs pl pu ?_)
 rw[e1,e2]
 show wpAny _ _ (if (((0:Nat):Int) == 0 && (1:Int) == 1 && (items.size - 0:Nat) == items.size)=true then _ else _) _ _ s
 rw[if_pos (show (((0:Nat):Int) == 0 && (1:Int) == 1 && (items.size - 0:Nat) == items.size)=true by rw[Nat.sub_zero];simp)]
 unfold Builtin.Tuple.tupleIsExact
 have hT:=ht.typeIs
 repeat (any_goals (first | assumption | wp_step))
 exact⟨_,rfl,wpAny_pure h⟩
section
variable{X:Cx}
noncomputable def z7Q(K:PySem.W.Frag):V→Option Int→Option Int→Hp→VK→Prop:=fun x lo hi H Q=>∃ a xs,x=.ref a∧H a=some (.tup xs)∧∀ (p:Addr) (H':Hp),zu H H'→H' p=some (.tup (yl xs lo hi))→Q (.ref p) H'
theorem Vs:SlR X (z7Q X.K):=by
 intro pins s σ H x v vl vu lo hi sl Q I rx hs pl pu h
 obtain⟨a,xs,rfl,e,q⟩:=h
 by_cases hw:HT.Z8 xs.length 0 lo=0∧HT.Z8 xs.length xs.length hi=xs.length
 · cases rx
   obtain⟨its,r,ht,hz⟩:=I.tuple (z5.of e)
   have hlen:its.toArray.size=xs.length:=by rw[List.size_toArray];exact r.length.symm
   refine⟨"tuple",_,PyProof.Rows.slot_tuple_getitem.lookup,ht.typeIs,Us ht hs pl pu (by rw[hlen];exact hw.1) (by rw[hlen];exact hw.2) ⟨.ref a,H,I,rfl,q a H (zu.refl _) ?_⟩⟩
   rw[e]
   unfold yl
   rw[hw.1,hw.2,List.drop_zero,Nat.sub_zero,List.take_length]
 · exact z2y pins s σ H _ v vl vu lo hi sl Q I rx hs pl pu ⟨a,xs,rfl,z5.of e,hw,fun p H' s n e=>q p H' s e⟩
end
section
variable{K:PySem.W.Frag}{H H':Hp}{h q:Addr}{m:Bool}{k:Nat}{v:V}{us:List V}
end
end L2
namespace L2
theorem jY(xs:List V)(lo hi:Option Int):(yl xs lo hi).length=HT.Z8 xs.length xs.length hi - HT.Z8 xs.length 0 lo:=by
 unfold yl
 rw[List.length_take,List.length_drop]
 have:=HT.JZ xs.length xs.length (Nat.le_refl _) hi
 omega
end L2
namespace Pw
noncomputable def Vi:ZA:=fun _=>0
noncomputable def qq(M:Nat→Nat→Rat)(k p i c:Nat):Rat:=if i=k then M p c / M p k else (if i=p then M k c else M i c) - (if i=p then M k k else M i k) * (M p c / M p k)
structure GJ(n k:Nat)(L:List ZA)(dn x:Nat→Rat)(A:Nat→ZA)(R:List ZA)(M:Nat→Nat→Rat):Prop where
 kn:k≤n
 len:L.length=n
 lenR:R.length=n - k
 nz:∀ l,l≤k→dd A l≠0
 mem:∀ r∈L,r∈R∨r∈Rk A k
 sub:∀ i,i<k→A i∈L
 subR:∀ r∈R,r∈L
 dz:∀ c,c≤n→dn c≠0
 lo:∀ i c,i<k→c≤n→M i c=if c<k then (if c=i then 1 else 0) else BB A k (eV i) c / dd A k * dn i / dn c
 hi:∀ i c,k≤i→i<n→c≤n→M i c=if c<k then 0 else BB A k (R.getD (i - k) Vi) c / (dd A k * dn c)
 sol:∀ i,i<n→qs n (fun c=>M i c * x c)=M i n
theorem z2m{n:Nat}{f g x:Nat→Rat}{q:Rat}(h1:qs n (fun c=>f c * x c)=f n)(h2:qs n (fun c=>g c * x c)=g n):qs n (fun c=>(f c - q * g c) * x c)=f n - q * g n:=by
 rw[zJ (g:=fun c=>f c * x c+(-q) * (g c * x c)) (fun c _=>by grind),ZN,Za,h1,h2]
 grind
theorem uD(R:List ZA)(j:Nat)(h:ZA)(hj:j<R.length)(i:Nat):(R.set j h).getD i Vi=if i=j then h else R.getD i Vi:=by
 rw[List.getD_eq_getElem?_getD,List.getD_eq_getElem?_getD,List.getElem?_set]
 by_cases e:j=i
 · subst e;rw[if_pos rfl,if_pos rfl,if_pos hj];rfl
 · rw[if_neg e,if_neg (fun z=>e z.symm)]
theorem Q9(R:List ZA)(i:Nat):R.tail.getD i Vi=R.getD (i+1) Vi:=by
 cases R <;> simp[List.getD]
theorem Y6{R:List ZA}{i:Nat}(h:i<R.length):R.getD i Vi∈R:=by
 rw[List.getD_eq_getElem?_getD,List.getElem?_eq_getElem h];exact List.getElem_mem h
theorem q1{b d c:Rat}(hd:d≠0)(hc:c≠0):b / d * 1 / c=b / (d * c):=by grind
theorem GJ.step{n k p:Nat}{L:List ZA}{dn x:Nat→Rat}{A:Nat→ZA}{R:List ZA}{M:Nat→Nat→Rat}(g:GJ n k L dn x A R M)(hk:k<n)(kp:k≤p)(hp:p<n)(hz:M p k≠0) :
 GJ n (k+1) L dn x (Yw A k (R.getD (p - k) Vi)) ((R.set (p - k) (R.getD 0 Vi)).tail) (qq M k p):=by
 have hR:=g.lenR
 have hpk:p - k<R.length:=by omega
 generalize hh:R.getD (p - k) Vi=h
 have hmem:h∈R:=by rw[← hh];exact Y6 hpk
 have dk:=g.nz k (Nat.le_refl _)
 have dnk:=g.dz k (by omega)
 have ep:∀ c,c≤n→M p c=if c<k then 0 else BB A k h c / (dd A k * dn c):=fun c hc=>by rw[g.hi p c kp hp hc,hh]
 have hzB:BB A k h k≠0:=fun z=>hz (by rw[ep k (by omega),if_neg (by omega),z];grind)
 have eh:Yw A k h k=h:=if_pos rfl
 have ed:dd (Yw A k h) (k+1)=BB A k h k:=by rw[Yu,Vo,eh]
 have edk:∀ l,l≤k→dd (Yw A k h) l=dd A l:=fun l hl=>by unfold dd;rw[vW hl]
 have nz':∀ l,l≤k+1→dd (Yw A k h) l≠0:=fun l hl=>by
  by_cases e:l≤k
  · rw[edk l e];exact g.nz l e
  · obtain rfl:l=k+1:=by omega
    rw[ed];exact hzB
 have st:∀ (v:ZA) (j:Nat),BB (Yw A k h) (k+1) v j * dd A k=BB A k h k * BB A k v j - BB A k v k * BB A k h j:=fun v j=>by
  have:=vK (Yw A k h) nz' v j
  rw[edk k (Nat.le_refl _),ed,Vo,Vo,eh,Vo] at this
  exact this
 have eq:∀ c,c≤n→M p c / M p k=if c<k then 0 else BB A k h c / BB A k h k * dn k / dn c:=fun c hc=>by
  have dc:=g.dz c hc
  rw[ep c hc,ep k (by omega),if_neg (show ¬ k<k by omega)]
  split
  · grind
  · grind
 have sq:∀ c,c≤n→k<c→BB (Yw A k h) (k+1) (eV k) c=BB A k h c:=fun c hc kc=>by
  have e:=st (eV k) c
  rw[Yy A Qd,Yy A Qd] at e
  have e1:eV k c=0:=by unfold eV;rw[if_neg (by omega)]
  have e2:eV k k=-1:=by unfold eV;rw[if_pos rfl]
  rw[e1,e2] at e
  grind
 have rowq:∀ i,i<n→i≠k→∀ (v:ZA) (m:Rat),(∀ c,c≤n→(if i=p then M k c else M i c)=if c<k then (if c=i then 1 else 0) else BB A k v c / dd A k * m / dn c)→∀ c,c≤n→qq M k p i c=if c<k+1 then (if c=i then 1 else 0) else BB (Yw A k h) (k+1) v c / dd (Yw A k h) (k+1) * m / dn c:=by
  intro i hi ik v m hv c hc
  have dc:=g.dz c hc
  unfold qq
  rw[if_neg ik,eq c hc,hv c hc,hv k (by omega),if_neg (show ¬ k<k by omega)]
  by_cases c1:c<k
  · rw[if_pos c1,if_pos c1,if_pos (show c<k+1 by omega)];grind
  · rw[if_neg c1,if_neg c1]
    by_cases c2:c=k
    · subst c2
      rw[if_pos (by omega),if_neg (fun z=>ik z.symm)]
      grind
    · rw[if_neg (by omega),ed]
      have s:=st v c
      have:BB (Yw A k h) (k+1) v c=(BB A k h k * BB A k v c - BB A k v k * BB A k h c) / dd A k:=by rw[← s];grind
      rw[this]
      grind
 refine⟨by omega,g.len,by rw[List.length_tail,List.length_set];omega,nz',?_,?_,?_,g.dz,?_,?_,?_⟩
 · intro r hr
   rw[z5r]
   rcases g.mem r hr with z | z
   · obtain⟨j,hj,rfl⟩:=List.mem_iff_getElem.mp z
     have ej:R.getD j Vi=R[j]:=by rw[List.getD_eq_getElem?_getD,List.getElem?_eq_getElem hj];rfl
     by_cases e:j=p - k
     · subst e
       rw[← ej,hh];exact .inr List.mem_cons_self
     · refine .inl ?_
       have:R[j]=(R.set (p - k) (R.getD 0 Vi)).tail.getD ((if j=0 then p - k else j) - 1) Vi:=by
        rw[Q9,uD _ _ _ hpk,← ej]
        by_cases e0:j=0
        · subst e0
          rw[if_pos rfl,if_pos (by omega)]
        · rw[if_neg e0,if_neg (by omega),show j - 1+1=j by omega]
       rw[this]
       refine Y6 ?_
       rw[List.length_tail,List.length_set]
       split <;> omega
   · exact .inr (List.mem_cons_of_mem _ z)
 · intro i hi
   unfold Yw
   split
   · exact g.subR h hmem
   · exact g.sub i (by omega)
 · intro r hr
   have hr:=List.mem_of_mem_tail hr
   rcases List.mem_or_eq_of_mem_set hr with z | rfl
   · exact g.subR r z
   · exact g.subR _ (Y6 (by omega))
 · intro i c hi hc
   by_cases e:i=k
   · subst e
     have dc:=g.dz c hc
     show (if i=i then M p c / M p i else _)=_
     rw[if_pos rfl,eq c hc]
     by_cases c1:c<i
     · rw[if_pos c1,if_pos (by omega),if_neg (by omega)]
     · rw[if_neg c1]
       by_cases c2:c=i
       · subst c2;rw[if_pos (by omega),if_pos rfl];grind
       · rw[if_neg (by omega),sq c hc (by omega),ed]
   · refine rowq i (by omega) e (eV i) (dn i) (fun c hc=>?_) c hc
     rw[if_neg (by omega)]
     exact g.lo i c (by omega) hc
 · intro i c hi hin hc
   have:=rowq i hin (by omega) ((R.set (p - k) (R.getD 0 Vi)).tail.getD (i - (k+1)) Vi) 1 (fun c hc=>?_) c hc
   · rw[this]
     by_cases c1:c<k+1
     · rw[if_pos c1,if_pos c1,if_neg (by omega)]
     · rw[if_neg c1,if_neg c1]
       exact q1 (nz' (k+1) (Nat.le_refl _)) (g.dz c hc)
   · have dc:=g.dz c hc
     have e1:(if i=p then M k c else M i c)=if c<k then 0 else BB A k ((R.set (p - k) (R.getD 0 Vi)).getD (i - k) Vi) c / (dd A k * dn c):=by
      rw[uD _ _ _ hpk]
      by_cases e:i=p
      · rw[if_pos e,if_pos (show i - k=p - k by omega),g.hi k c (Nat.le_refl _) hk hc,Nat.sub_self]
      · rw[if_neg e,if_neg (show ¬ i - k=p - k by omega),g.hi i c (by omega) hin hc]
     rw[e1,Q9,show i - (k+1)+1=i - k by omega]
     by_cases c1:c<k
     · rw[if_pos c1,if_pos c1,if_neg (by omega)]
     · rw[if_neg c1,if_neg c1]
       exact (q1 dk dc).symm
 · intro i hi
   have sp:=g.sol p hp
   have s2:qs n (fun c=>M p c / M p k * x c)=M p n / M p k:=by
    rw[zJ (g:=fun c=>(1 / M p k) * (M p c * x c)) (fun c _=>by grind),Za,sp];grind
   by_cases e:i=k
   · subst e
     show qs n (fun c=>(if i=i then _ else _) * x c)=(if i=i then _ else _)
     rw[if_pos rfl,zJ (g:=fun c=>M p c / M p i * x c) (fun c _=>by rw[if_pos rfl])]
     exact s2
   · have f1:qs n (fun c=>(if i=p then M k c else M i c) * x c)=(if i=p then M k n else M i n):=by
      by_cases e2:i=p
      · rw[if_pos e2,← g.sol k hk];exact zJ fun c _=>by rw[if_pos e2]
      · rw[if_neg e2,← g.sol i hi];exact zJ fun c _=>by rw[if_neg e2]
     have:=z2m (q:=if i=p then M k k else M i k) f1 s2
     show qs n (fun c=>(if i=k then _ else _) * x c)=(if i=k then _ else _)
     rw[if_neg e,← this]
     exact zJ fun c _=>by rw[if_neg e]
theorem GJ.kernel{n k:Nat}{L:List ZA}{dn x:Nat→Rat}{A:Nat→ZA}{R:List ZA}{M:Nat→Nat→Rat}(g:GJ n k L dn x A R M)(hk:k<n)(hz:∀ i,k≤i→i<n→M i k=0):∃ z:Nat→Rat,(∃ c,c<n∧z c≠0)∧∀ r∈L,qs n (fun c=>r c * z c)=0:=by
 have hB:∀ r∈R,BB A k r k=0:=fun r hr=>by
  obtain⟨j,hj,rfl⟩:=List.mem_iff_getElem.mp hr
  have hR:=g.lenR
  have e:=hz (k+j) (by omega) (by omega)
  rw[g.hi (k+j) k (by omega) (by omega) (by omega),if_neg (by omega),show k+j - k=j by omega,List.getD_eq_getElem?_getD,List.getElem?_eq_getElem hj] at e
  have dk:=g.nz k (Nat.le_refl _)
  have dnk:=g.dz k (by omega)
  have e:BB A k R[j] k / (dd A k * dn k)=0:=e
  have:BB A k R[j] k=BB A k R[j] k / (dd A k * dn k) * (dd A k * dn k):=by grind
  rw[this,e];grind
 refine⟨fun c=>if c≤k then sg (k - c) * det (Rk A k) ((Kk k).map (skip c)) else 0,⟨k,hk,?_⟩,fun r hr=>?_⟩
 · show (if k≤k then _ else _)≠(0:Rat)
   rw[if_pos (Nat.le_refl _),Nat.sub_self,vP,VO (Nat.le_refl _)]
   have:=g.nz k (Nat.le_refl _)
   unfold dd at this
   grind
 · rw[z0H (k:=k+1) (by omega) (fun c h1 _=>by dsimp only;rw[if_neg (by omega)];grind)]
   have e:qs (k+1) (fun c=>r c * (if c≤k then sg (k - c) * det (Rk A k) ((Kk k).map (skip c)) else 0))=BB A k r k:=by
    show _=expand r (det (Rk A k)) (Kk (k+1))
    rw[lap]
    refine zJ fun c hc=>?_
    rw[if_pos (by omega)];grind
   rw[e]
   rcases g.mem r hr with z | z
   · exact hB r z
   · exact XM.mem z _
theorem GJ.done{n:Nat}{L:List ZA}{dn x:Nat→Rat}{A:Nat→ZA}{R:List ZA}{M:Nat→Nat→Rat}(g:GJ n n L dn x A R M){i:Nat}(hi:i<n):M i n=x i:=by
 rw[← g.sol i hi,zJ (g:=fun c=>if c=i then x i else 0) (fun c hc=>by
  rw[g.lo i c hi (by omega),if_pos hc]
  by_cases e:c=i
  · subst e;rw[if_pos rfl,if_pos rfl];grind
  · rw[if_neg e,if_neg e];grind),uO hi]
end Pw
namespace Pw
structure GS(n:Nat)(L:List ZA)(dn:Nat→Rat):Prop where
 n1:1≤n
 n12:n≤12
 int:∀ r∈L,∀ c,ZC (r c)
 bd:∀ r∈L,∀ c,-((2 ^ 90:Nat):Rat)≤r c∧r c≤((2 ^ 90:Nat):Rat)
 dint:∀ c,c≤n→∃ d:Int,dn c=(d:Rat)∧0<d∧L2.Sz 90 d
 reg:¬ ∃ z:Nat→Rat,(∃ c,c<n∧z c≠0)∧∀ r∈L,qs n (fun c=>r c * z c)=0
theorem z0i{a b:Int}(h:b≠0):ZL ((a:Rat) / (b:Rat))=mk a b:=val_inj (z8 _) (ZF h) (by rw[Zq,val_mk h])
theorem z4h(i c:Nat):ZC (eV i c):=by
 unfold eV
 split
 · exact⟨-1,rfl⟩
 · exact⟨0,rfl⟩
theorem jX{rs:List ZA}{cols:List Nat}(hi:∀ r∈rs,∀ c,ZC (r c))(hb:∀ r∈rs,∀ c,-((2 ^ 90:Nat):Rat)≤r c∧r c≤((2 ^ 90:Nat):Rat))(l1:rs.length≤13)(l2:cols.length≤13):∃ d:Int,det rs cols=(d:Rat)∧L2.Sz 1223 d:=by
 obtain⟨d,e⟩:=vZ hi cols
 refine⟨d,e,?_⟩
 have:=VA (U:=2 ^ 90) (Y:=2 ^ 94) (by decide) hb cols l2
 have b:=z4L (x:=d) (q:=det rs cols) e.symm this
 have m:(2 ^ 94:Nat) ^ rs.length≤(2 ^ 94) ^ 13:=Nat.pow_le_pow_right (by decide) l1
 have:(2 ^ 94:Nat) ^ 13<2 ^ 1223:=by decide +kernel
 show d.natAbs<2 ^ 1223
 omega
theorem GJ.sz{n k:Nat}{L:List ZA}{dn x:Nat→Rat}{A:Nat→ZA}{R:List ZA}{M:Nat→Nat→Rat}(gs:GS n L dn)(g:GJ n k L dn x A R M){i c:Nat}(hi:i<n)(hc:c≤n):L2.Z9 1320 (ZL (M i c)):=by
 have kn:=g.kn
 have n12:=gs.n12
 have rk:∀ r∈Rk A k,r∈L:=fun r hr=>by
  obtain⟨j,hj,rfl⟩:=z0C hr
  exact g.sub j hj
 obtain⟨dI,ed,sd⟩:=jX (rs:=Rk A k) (cols:=Kk k) (fun r hr=>gs.int r (rk r hr)) (fun r hr=>gs.bd r (rk r hr)) (by rw[Qk];omega) (by rw[qX];omega)
 have ed:dd A k=(dI:Rat):=ed
 have dk:=g.nz k (Nat.le_refl _)
 have dI0:dI≠0:=fun z=>dk (by rw[ed,z];rfl)
 obtain⟨dc,edc,dc0,sdc⟩:=gs.dint c hc
 obtain⟨di,edi,di0,sdi⟩:=gs.dint i (by omega)
 have two:∀ v:ZA,(∀ c,ZC (v c))→(∀ c,-((2 ^ 90:Nat):Rat)≤v c∧v c≤((2 ^ 90:Nat):Rat))→∃ b:Int,BB A k v c=(b:Rat)∧L2.Sz 1223 b:=fun v h1 h2=>by
  refine jX (rs:=v :: Rk A k) (cols:=c :: Kk k) (fun r hr=>?_) (fun r hr=>?_) (by rw[List.length_cons,Qk];omega) (by rw[List.length_cons,qX];omega)
  · rcases List.mem_cons.mp hr with rfl | hr
    · exact h1
    · exact gs.int r (rk r hr)
  · rcases List.mem_cons.mp hr with rfl | hr
    · exact h2
    · exact gs.bd r (rk r hr)
 have small:∀ q:Rat,(q=0∨q=1)→L2.Z9 1320 (ZL q):=by
  rintro q (rfl | rfl)
  · exact⟨(L2.zR 1 (by decide):L2.Sz 1320 _),(L2.zR 1 (by decide):L2.Sz 1320 _)⟩
  · exact⟨(L2.zR 1 (by decide):L2.Sz 1320 _),(L2.zR 1 (by decide):L2.Sz 1320 _)⟩
 have hdn:=Int.mul_ne_zero dI0 (show dc≠0 by omega)
 by_cases ik:i<k
 · rw[g.lo i c ik hc]
   split
   · refine small _ ?_
     split
     · exact .inr rfl
     · exact .inl rfl
   · obtain⟨b,eb,sb⟩:=two (eV i) (z4h i) (fun c=>by
      unfold eV
      split
      · constructor <;> decide +kernel
      · constructor <;> decide +kernel)
     have e:BB A k (eV i) c / dd A k * dn i / dn c=((b * di:Int):Rat) / ((dI * dc:Int):Rat):=by
      rw[eb,ed,edc,edi,Rat.intCast_mul,Rat.intCast_mul]
      have h1:(dI:Rat)≠0:=by rw[← ed];exact dk
      have h2:(dc:Rat)≠0:=by rw[← edc];exact g.dz c hc
      grind
     rw[e,z0i hdn]
     exact L2.xq hdn ((sb.mul sdi).mono (by decide)) ((sd.mul sdc).mono (by decide))
 · rw[g.hi i c (by omega) hi hc]
   split
   · exact small _ (.inl rfl)
   · have hm:R.getD (i - k) Vi∈L:=g.subR _ (Y6 (by rw[g.lenR];omega))
     obtain⟨b,eb,sb⟩:=two _ (gs.int _ hm) (gs.bd _ hm)
     have e:BB A k (R.getD (i - k) Vi) c / (dd A k * dn c)=((b:Int):Rat) / ((dI * dc:Int):Rat):=by
      rw[eb,ed,edc,Rat.intCast_mul]
     rw[e,z0i hdn]
     exact L2.xq hdn (sb.mono (by decide)) ((sd.mul sdc).mono (by decide))
theorem GJ.pivot{n k:Nat}{L:List ZA}{dn x:Nat→Rat}{A:Nat→ZA}{R:List ZA}{M:Nat→Nat→Rat}(gs:GS n L dn)(g:GJ n k L dn x A R M)(hk:k<n):∃ i,k≤i∧i<n∧M i k≠0:=by
 refine Classical.byContradiction fun h=>gs.reg (g.kernel hk fun i h1 h2=>?_)
 exact Classical.byContradiction fun z=>h ⟨i,h1,h2,z⟩
noncomputable def rowOf(n:Nat)(M:Nat→Nat→Rat)(i:Nat):List (Int×Int):=(List.range (n+1)).map fun c=>ZL (M i c)
theorem ZP{n i c:Nat}{M:Nat→Nat→Rat}(h:c≤n):(rowOf n M i)[c]?=some (ZL (M i c)):=by
 unfold rowOf
 rw[List.getElem?_map,List.getElem?_range (by omega)];rfl
theorem yj{n i:Nat}{M:Nat→Nat→Rat}:(rowOf n M i).length=n+1:=by unfold rowOf;rw[List.length_map,List.length_range]
theorem Z4{n i j:Nat}{M N:Nat→Nat→Rat}(h:∀ c,c≤n→M i c=N j c):rowOf n M i=rowOf n N j:=by
 unfold rowOf
 refine List.map_congr_left fun c hc=>?_
 rw[h c (by have:=List.mem_range.mp hc;omega)]
theorem Vg{q:Rat}:(ZL q).1≠0↔q≠0:=by
 constructor
 · rintro h rfl;exact h rfl
 · intro h z
   apply h
   have e:=Zq q
   rw[← e]
   unfold val
   rw[z]
   show (0:Rat) / _=0
   grind
end Pw
namespace L2
open PySem PySem.Spec PyProof PyProof.Rows PySem.W
structure yg(K:PySem.W.Frag)(H:Hp)(r:Addr)(n:Nat)(M:Nat→Nat→Rat)(us:List V):Prop where
 len:us.length=n
 row:∀ i,i<n→∃ q vs,us[i]?=some (.ref q)∧q≠r∧H q=some (.lst vs)∧Zl K H (Pw.rowOf n M i) vs
theorem yg.kp{K:PySem.W.Frag}{H H':Hp}{r:Addr}{n:Nat}{M:Nat→Nat→Rat}{us:List V}(h:yg K H r n M us)(hr:∃ xs,H r=some (.lst xs))(k:Kp r H H'):yg K H' r n M us:=by
 refine⟨h.len,fun i hi=>?_⟩
 obtain⟨q,vs,e,ne,eq,f⟩:=h.row i hi
 refine⟨q,vs,e,ne,k _ _ eq ne,?_⟩
 obtain⟨xs,hr⟩:=hr
 clear e eq
 revert f
 generalize Pw.rowOf n M i=As
 intro f
 induction As generalizing vs with
 | nil=>exact f
 | cons A As ih =>
   obtain⟨p,rr,e,fp,ft⟩:=f
   refine⟨p,rr,e,k _ _ fp ?_,ih _ ft⟩
   rintro rfl
   have fp:H p=_:=fp
   rw[hr] at fp;cases fp
theorem yg.ext{K:PySem.W.Frag}{H:Hp}{r:Addr}{n:Nat}{M N:Nat→Nat→Rat}{us:List V}(h:yg K H r n M us)(e:∀ i c,i<n→c≤n→M i c=N i c):yg K H r n N us:=by
 refine⟨h.len,fun i hi=>?_⟩
 obtain⟨q,vs,e1,ne,eq,f⟩:=h.row i hi
 exact⟨q,vs,e1,ne,eq,by rw[← Pw.Z4 (fun c hc=>e i c hi hc)];exact f⟩
theorem yg.put{K:PySem.W.Frag}{H:Hp}{r q:Addr}{n a:Nat}{M:Nat→Nat→Rat}{us vs:List V}{f:Nat→Rat}(h:yg K H r n M us)(hr:H r=some (.lst us))(ha:a<n)(ne:q≠r)(eq:H q=some (.lst vs))(fl:Zl K H (Pw.rowOf n (fun _=>f) a) vs) :
 yg K (upd H r (.lst (us.set a (.ref q)))) r n (fun i c=>if i=a then f c else M i c) (us.set a (.ref q)):=by
 refine⟨by rw[List.length_set];exact h.len,fun i hi=>?_⟩
 by_cases e:i=a
 · subst e
   refine⟨q,vs,by rw[List.getElem?_set,if_pos rfl,if_pos (by rw[h.len];exact hi)],ne,by rw[zp ne];exact eq,?_⟩
   rw[Pw.Z4 (N:=fun _=>f) (j:=i) (fun c _=>by rw[if_pos rfl])]
   exact fl.set hr
 · obtain⟨p,ws,e1,ne1,ep,f1⟩:=h.row i hi
   refine⟨p,ws,by rw[List.getElem?_set,if_neg (fun z=>e z.symm)];exact e1,ne1,by rw[zp ne1];exact ep,?_⟩
   rw[Pw.Z4 (N:=M) (j:=i) (fun c _=>by rw[if_neg e])]
   exact f1.set hr
noncomputable def QH(K:PySem.W.Frag):Sp:=fun vs H Q _=>∃ (r:Addr) (n:Nat) (M:Nat→Nat→Rat) (us:List V) (L:List Pw.ZA) (dn x:Nat→Rat) (A:Nat→Pw.ZA),vs=[.ref r]∧H r=some (.lst us)∧yg K H r n M us∧Pw.GS n L dn∧Pw.GJ n 0 L dn x A L M ∧
 ∀ (t:Addr) (H':Hp) (ds:List V),Kp r H H'→H' t=some (.tup ds)→Zl K H' ((List.range n).map fun i=>Pw.ZL (x i)) ds→Q (.ref t) H'
end L2
namespace L2
open PySem PySem.Spec PyProof PyProof.Rows PySem.W
noncomputable def Xe(M:Nat→Nat→Rat)(a p i c:Nat):Rat:=if i=a then M p c else if i=p then M a c else M i c
theorem yg.swap{K:PySem.W.Frag}{H:Hp}{r qa qp:Addr}{n a p:Nat}{M:Nat→Nat→Rat}{us:List V}(h:yg K H r n M us)(hr:H r=some (.lst us))(ha:a<n)(hp:p<n)(ea:us[a]?=some (.ref qa))(ep:us[p]?=some (.ref qp)) :
 yg K (upd H r (.lst ((us.set a (.ref qp)).set p (.ref qa)))) r n (Xe M a p) ((us.set a (.ref qp)).set p (.ref qa)):=by
 have hl:=h.len
 refine⟨by rw[List.length_set,List.length_set];exact hl,fun i hi=>?_⟩
 have key:∀ j,j<n→(∀ c,c≤n→Xe M a p i c=M j c)→((us.set a (.ref qp)).set p (.ref qa))[i]?=us[j]?→∃ q vs,((us.set a (.ref qp)).set p (.ref qa))[i]?=some (.ref q)∧q≠r∧upd H r (.lst ((us.set a (.ref qp)).set p (.ref qa))) q=some (.lst vs)∧Zl K (upd H r (.lst ((us.set a (.ref qp)).set p (.ref qa)))) (Pw.rowOf n (Xe M a p) i) vs:=by
  intro j hj em eu
  obtain⟨q,vs,e1,ne,eq,f⟩:=h.row j hj
  refine⟨q,vs,by rw[eu];exact e1,ne,by rw[zp ne];exact eq,?_⟩
  rw[Pw.Z4 (N:=M) (j:=j) em]
  exact f.set hr
 by_cases e1:i=p
 · subst e1
   refine key a ha (fun c _=>?_) ?_
   · unfold Xe
     by_cases z:i=a
     · rw[if_pos z,z]
     · rw[if_neg z,if_pos rfl]
   · rw[List.getElem?_set,if_pos rfl,if_pos (by rw[List.length_set];omega),ea]
 · by_cases e2:i=a
   · subst e2
     refine key p hp (fun c _=>?_) ?_
     · unfold Xe
       rw[if_pos rfl]
     · rw[List.getElem?_set,if_neg (fun z=>e1 z.symm),List.getElem?_set,if_pos rfl,if_pos (by omega),ep]
   · refine key i hi (fun c _=>?_) ?_
     · unfold Xe
       rw[if_neg e2,if_neg e1]
     · rw[List.getElem?_set,if_neg (fun z=>e1 z.symm),List.getElem?_set,if_neg (fun z=>e2 z.symm)]
theorem yg.upd{K:PySem.W.Frag}{H:Hp}{r:Addr}{n:Nat}{M:Nat→Nat→Rat}{us:List V}(h:yg K H r n M us)(hr:∃ xs,H r=some (.lst xs)){H':Hp}(s:zu H H'):yg K H' r n M us:=h.kp hr s.kp
theorem Yz{us:List V}{j n:Nat}(h:j<n)(hl:us.length=n):ixN us.length ((j:Nat):Int)=some j:=by
 unfold ixN
 rw[if_pos (by omega),if_pos (by omega),Int.toNat_natCast]
end L2
namespace Pw
noncomputable def X4(ps:List (Int×Int))(A:Int×Int)(S:Int)(c:Nat):Int:=A.2 * S * (max 1 (outs ps (c:Int)).length:Nat)
noncomputable def wQ(ps:List (Int×Int))(A:Int×Int)(Bs:List (Int×Int))(c o:Nat):Rat:=val ((zG ps A Bs (c:Int)).getD o (0,1))
noncomputable def mQ(ps:List (Int×Int))(A:Int×Int)(Bs:List (Int×Int))(n i c:Nat):Rat:=if i=0 then 1 else if c<n then wQ ps A Bs c i - (if c=i then 1 else 0) else 0
noncomputable def dnQ(ps:List (Int×Int))(A:Int×Int)(S:Int)(n c:Nat):Rat:=if c<n then (X4 ps A S c:Rat) else 1
noncomputable def lV(ps:List (Int×Int))(A:Int×Int)(Bs:List (Int×Int))(S:Int)(n i:Nat):ZA:=fun c=>if c≤n then dnQ ps A S n c * mQ ps A Bs n i c else 0
noncomputable def lVs(ps:List (Int×Int))(A:Int×Int)(Bs:List (Int×Int))(S:Int)(n:Nat):List ZA:=(List.range n).map (lV ps A Bs S n)
section
variable{ps:List (Int×Int)}{A:Int×Int}{Bs Ss:List (Int×Int)}{n:Nat}{S:Int}
theorem jh(ca:Canon A)(cb:zW Bs)(hn:Bs.length=n)(pr:L2.Pr A Bs S){c o:Nat}(ho:o<n):ZC ((X4 ps A S c:Rat) * wQ ps A Bs c o):=by
 unfold wQ
 rw[vE ca cb hn ho]
 have hB:Bs.getD o (0,1)∈Bs:=by
  rw[List.getD_eq_getElem?_getD,List.getElem?_eq_getElem (by omega)];exact List.getElem_mem _
 generalize Bs.getD o (0,1)=B at hB
 obtain⟨m,hm⟩:=pr.sdvd B hB
 have vB:=yO (cb B hB).1
 have vA:=yO ca.1
 have eS:(S:Rat)=(B.2:Rat) * (m:Rat):=by rw[hm,Rat.intCast_mul]
 unfold X4
 split
 · rename_i h
   rw[h]
   refine⟨A.2 * (B.1 * m),?_⟩
   simp only[List.length_nil]
   rw[Rat.intCast_mul,Rat.intCast_mul,Rat.intCast_mul,Rat.intCast_mul,eS,← vB]
   have:(((max 1 0:Nat):Int):Rat)=1:=rfl
   rw[this]
   grind
 · rename_i h
   have hl:0<(outs ps (c:Int)).length:=List.length_pos_iff.mpr h
   rw[Nat.max_eq_right hl]
   generalize (outs ps (c:Int)).length=l at hl
   refine⟨A.1 * l * (B.1 * m)+S * (A.2 - A.1) * cn ps c o,?_⟩
   have l0:((l:Nat):Rat)≠0:=fun z=>absurd (cpos (show (0:Int)<((l:Nat):Int) by omega)) (by rw[show (((l:Nat):Int):Rat)=((l:Nat):Rat) from rfl,z];decide)
   have el:(((l:Nat):Int):Rat)=((l:Nat):Rat):=rfl
   simp only[Rat.intCast_mul,Rat.intCast_add,Rat.intCast_sub]
   rw[el,← vB,← vA,eS]
   grind
theorem z7N(lk:∀ p∈ps,0≤p.2∧p.2<(n:Int))(ca:Canon A)(cb:zW Bs)(hn:Bs.length=n)(pr:L2.Pr A Bs S){c o:Nat}(ho:o<n):0≤wQ ps A Bs c o∧wQ ps A Bs c o≤1:=by
 have nn:∀ t,t<n→0≤wQ ps A Bs c t:=fun t ht=>by
  have h1:=UL (ps:=ps) (j:=c) ca cb hn pr ht
  have hB:Bs.getD t (0,1)∈Bs:=by
   rw[List.getD_eq_getElem?_getD,List.getElem?_eq_getElem (by omega)];exact List.getElem_mem _
  have a0:=jx ca.1 pr.a0
  have b0:0≤val (Bs.getD t (0,1)):=by
   have h2:=pr.nn _ hB
   have h3:=cpos (cb _ hB).1
   have h4:=yO (cb _ hB).1
   have h5:(0:Rat)≤((Bs.getD t (0,1)).1:Rat):=by exact_mod_cast h2
   refine Rat.not_lt.mp fun z=>?_
   have:=Rat.mul_lt_mul_of_pos_right z h3
   rw[h4] at this
   grind
  have:=Rat.mul_nonneg (Rat.le_of_lt a0) b0
  unfold wQ
  exact Rat.le_trans this h1
 refine⟨nn o ho,?_⟩
 have one:=pr.one
 rw[hn] at one
 have s:qs n (fun t=>wQ ps A Bs c t)=1:=Ym lk ca cb hn one
 rw[← s,← uO ho (wQ ps A Bs c o)]
 refine YV fun t ht=>?_
 split
 · rename_i e;subst e;exact Rat.le_refl
 · exact nn t ht
theorem z4i(ca:Canon A)(cb:zW Bs)(hn:Bs.length=n)(pr:L2.Pr A Bs S){i c:Nat}(hi:i<n):ZC (lV ps A Bs S n i c):=by
 unfold lV
 split
 · unfold mQ dnQ
   by_cases c1:c<n
   · rw[if_pos c1]
     by_cases i0:i=0
     · rw[if_pos i0];exact⟨X4 ps A S c,by grind⟩
     · rw[if_neg i0,if_pos c1]
       have h:=jh (ps:=ps) (c:=c) ca cb hn pr hi
       have h2:ZC ((X4 ps A S c:Rat) * (if c=i then 1 else 0)):=by
        split
        · exact⟨X4 ps A S c,by grind⟩
        · exact⟨0,by show _=(0:Rat);grind⟩
       have:=h.sub h2
       rw[show (X4 ps A S c:Rat) * (wQ ps A Bs c i - (if c=i then 1 else 0))=(X4 ps A S c:Rat) * wQ ps A Bs c i - (X4 ps A S c:Rat) * (if c=i then 1 else 0) by grind]
       exact this
   · rw[if_neg c1]
     by_cases i0:i=0
     · rw[if_pos i0];exact⟨1,by show _=(1:Rat);grind⟩
     · rw[if_neg i0,if_neg c1];exact⟨0,by show _=(0:Rat);grind⟩
 · exact⟨0,rfl⟩
theorem Y8(ca:Canon A)(pr:L2.Pr A Bs S)(c:Nat):0<X4 ps A S c:=Int.mul_pos (Int.mul_pos ca.1 pr.spos) (by omega)
theorem z1u(few:ps.length≤100)(sA:L2.Sz 41 A.2)(sS:L2.Sz 41 S)(c:Nat):L2.Sz 89 (X4 ps A S c):=by
 have:=ZO ps (c:Int)
 have h:L2.Sz 7 (((max 1 (outs ps (c:Int)).length:Nat)):Int):=by
  show Int.natAbs _<2 ^ 7
  omega
 exact (sA.mul sS).mul h
theorem z0o{a:Int}{b:Nat}(h:a≤(b:Int)):(a:Rat)≤((b:Nat):Rat):=by exact_mod_cast h
theorem VT{a b:Nat}(h:a≤b):((a:Nat):Rat)≤((b:Nat):Rat):=by exact_mod_cast h
theorem z6F(few:ps.length≤100)(lk:∀ p∈ps,0≤p.2∧p.2<(n:Int))(ca:Canon A)(cb:zW Bs)(hn:Bs.length=n)(pr:L2.Pr A Bs S)(sA:L2.Sz 41 A.2)(sS:L2.Sz 41 S){i c:Nat}(hi:i<n):-((2 ^ 90:Nat):Rat)≤lV ps A Bs S n i c∧lV ps A Bs S n i c≤((2 ^ 90:Nat):Rat):=by
 have dp:=cpos (Y8 (ps:=ps) ca pr c)
 have ds:(X4 ps A S c:Rat)≤((2 ^ 89:Nat):Rat):=by
  have h1:=z1u few sA sS c
  have h2:=Y8 (ps:=ps) ca pr c
  have:X4 ps A S c≤((2 ^ 89:Nat):Int):=by
   have:(X4 ps A S c).natAbs<2 ^ 89:=h1
   omega
  exact z0o this
 have big:((2 ^ 89:Nat):Rat)≤((2 ^ 90:Nat):Rat):=VT (by decide)
 have one:(1:Rat)≤((2 ^ 90:Nat):Rat):=VT (a:=1) (by decide)
 generalize ((2 ^ 90:Nat):Rat)=Y at big one ⊢
 generalize ((2 ^ 89:Nat):Rat)=Z at big ds
 have key:∀ q:Rat,-1≤q→q≤1→-Y≤(X4 ps A S c:Rat) * q∧(X4 ps A S c:Rat) * q≤Y:=fun q h1 h2=>by
  have a:=Rat.mul_le_mul_of_nonneg_left h1 (Rat.le_of_lt dp)
  have b:=Rat.mul_le_mul_of_nonneg_left h2 (Rat.le_of_lt dp)
  constructor <;> grind
 unfold lV
 split
 · unfold mQ dnQ
   by_cases c1:c<n
   · rw[if_pos c1]
     by_cases i0:i=0
     · rw[if_pos i0];exact key 1 (by decide) (by decide)
     · rw[if_neg i0,if_pos c1]
       have w:=z7N (ps:=ps) (c:=c) lk ca cb hn pr hi
       refine key _ ?_ ?_ <;> split <;> grind
   · rw[if_neg c1]
     by_cases i0:i=0
     · rw[if_pos i0];constructor <;> grind
     · rw[if_neg i0,if_neg c1];constructor <;> grind
 · constructor <;> grind
theorem z5L(n1:1≤n)(n12:n≤12)(few:ps.length≤100)(lk:∀ p∈ps,0≤p.2∧p.2<(n:Int))(ca:Canon A)(cb:zW Bs)(hn:Bs.length=n)(pr:L2.Pr A Bs S)(sA:L2.Sz 41 A.2)(sS:L2.Sz 41 S)(ok:yF ps A Bs n Ss):GS n (lVs ps A Bs S n) (dnQ ps A S n) where
 n1:=n1
 n12:=n12
 int r hr c:=by
  obtain⟨i,hi,rfl⟩:=List.mem_map.mp hr
  exact z4i ca cb hn pr (List.mem_range.mp hi)
 bd r hr c:=by
  obtain⟨i,hi,rfl⟩:=List.mem_map.mp hr
  exact z6F few lk ca cb hn pr sA sS (List.mem_range.mp hi)
 dint c hc:=by
  unfold dnQ
  split
  · exact⟨_,rfl,Y8 ca pr c,(z1u few sA sS c).mono (by decide)⟩
  · exact⟨1,rfl,by decide,L2.zR 1 (by decide)⟩
 reg:=by
  rintro⟨z,⟨c,hc,hz⟩,h⟩
  have hL:∀ i,i<n→lV ps A Bs S n i∈lVs ps A Bs S n:=fun i hi=>List.mem_map.mpr ⟨i,List.mem_range.mpr hi,rfl⟩
  have dq:∀ c,c<n→dnQ ps A S n c=(X4 ps A S c:Rat):=fun c hc=>if_pos hc
  have ht:∀ j o,j<n→o<n→((((X4 ps A S j:Rat) * wQ ps A Bs j o).num:Int):Rat)=(X4 ps A S j:Rat) * val ((zG ps A Bs j).getD o (0,1)):=fun j o hj ho=>by
   obtain⟨m,e⟩:=jh (ps:=ps) (c:=j) ca cb hn pr ho
   have e2:(X4 ps A S j:Rat) * val ((zG ps A Bs j).getD o (0,1))=(m:Rat):=e
   rw[e2,e];rfl
  have fx:=z5z lk ca cb hn pr ok (fixed (t:=fun j o=>((X4 ps A S j:Rat) * wQ ps A Bs j o).num) (dn:=X4 ps A S) lk ca cb hn pr ht (x:=z) (fun o h0 ho=>by
   rw[← h _ (hL o ho)]
   refine zJ fun p hp=>?_
   congr 1
   have eL:lV ps A Bs S n o p=(X4 ps A S p:Rat) * (wQ ps A Bs p o - (if p=o then 1 else 0)):=by
    unfold lV mQ
    rw[if_pos (show p≤n by omega),if_neg (show ¬ o=0 by omega),if_pos hp,dq p hp]
   rw[eL]
   unfold z4x
   rw[Rat.intCast_sub]
   have:=ht p o hp ho
   dsimp only at this ⊢
   rw[this]
   unfold wQ
   by_cases e:p=o
   · subst e;rw[if_pos rfl,if_pos rfl];grind
   · rw[if_neg e,if_neg e,show ((0:Int):Rat)=0 from rfl];grind))
  have s0:=h _ (hL 0 (by omega))
  have s1:qs n (fun p=>(X4 ps A S p:Rat) * z p)=0:=by
   rw[← s0]
   refine zJ fun p hp=>?_
   unfold lV mQ
   rw[if_pos (by omega),if_pos rfl,dq p hp];grind
  have:=fx c hc
  rw[s1] at this
  have dp:=cpos (Y8 (ps:=ps) ca pr c)
  apply hz
  grind
theorem JK(n1:1≤n)(ca:Canon A)(pr:L2.Pr A Bs S)(ok:yF ps A Bs n Ss):GJ n 0 (lVs ps A Bs S n) (dnQ ps A S n) (fun c=>val (Ss.getD c (0,1))) (fun _ _=>0) (lVs ps A Bs S n) (mQ ps A Bs n) where
 kn:=Nat.zero_le _
 len:=by unfold lVs;rw[List.length_map,List.length_range]
 lenR:=by unfold lVs;rw[List.length_map,List.length_range];rfl
 nz l hl:=by
  obtain rfl:l=0:=by omega
  rw[X8];decide
 mem r hr:=.inl hr
 sub i hi:=absurd hi (Nat.not_lt_zero _)
 subR r hr:=hr
 dz c hc:=by
  unfold dnQ
  split
  · have:=cpos (Y8 (ps:=ps) ca pr c)
    grind
  · decide
 lo i c hi _:=absurd hi (Nat.not_lt_zero _)
 hi i c _ hi hc:=by
  rw[if_neg (Nat.not_lt_zero _),z3d,X8]
  have e:(lVs ps A Bs S n).getD (i - 0) Vi=lV ps A Bs S n i:=by
   unfold lVs
   rw[List.getD_eq_getElem?_getD,List.getElem?_map,Nat.sub_zero,List.getElem?_range hi];rfl
  rw[e]
  unfold lV
  rw[if_pos hc]
  have:dnQ ps A S n c≠0:=by
   unfold dnQ
   split
   · have:=cpos (Y8 (ps:=ps) ca pr c)
     grind
   · decide
  grind
 sol i hi:=by
  by_cases i0:i=0
  · subst i0
    rw[zJ (g:=fun c=>val (Ss.getD c (0,1))) (fun c _=>by unfold mQ;rw[if_pos rfl];grind),ok.one]
    unfold mQ
    rw[if_pos rfl]
  · have st:=ok.stay i hi
    unfold Qv at st
    rw[zJ (g:=fun c=>val (Ss.getD c (0,1)) * val ((zG ps A Bs c).getD i (0,1))+(if c=i then -val (Ss.getD i (0,1)) else 0)) (fun c hc=>by
     unfold mQ wQ
     rw[if_neg i0,if_pos hc]
     by_cases e:c=i
     · subst e;rw[if_pos rfl,if_pos rfl];grind
     · rw[if_neg e,if_neg e];grind),ZN,uO hi,st]
    unfold mQ
    rw[if_neg i0,if_neg (Nat.lt_irrefl _)]
    grind
end
end Pw
namespace L2
open PySem PySem.Spec PyProof PyProof.Rows PySem.W
theorem zu.none{H H':Hp}{a:Addr}(s:zu H H')(h:H' a=none):H a=none:=by
 cases e:H a with
 | none=>rfl
 | some o=>rw[s _ _ e] at h;cases h
noncomputable def qY(K:PySem.W.Frag):Sp:=fun vs H Q _=>∃ (w lp ls:Addr) (pages page:Int) (ps:List (Int×Int)) (A:Int×Int) (Bs:List (Int×Int)) (us:List V),vs=[.ref w,.ref lp,.ref ls,.int page]∧Gv K H w lp ls pages ps A Bs us ∧
 ∀ (t:Addr) (H':Hp) (ys:List V),zu H H'→H t=none→H' t=some (.lst ys)→Zl K H' (Pw.zG ps A Bs page) ys→Q (.ref t) H'
noncomputable def z3x(K:PySem.W.Frag):Sp:=fun vs H Q _=>∃ (w lp ls:Addr) (n:Nat) (ps:List (Int×Int)) (A:Int×Int) (Bs:List (Int×Int)) (us:List V) (S:Int),vs=[.ref w,.ref lp,.ref ls]∧Gv K H w lp ls (n:Int) ps A Bs us∧Pr A Bs S∧n≤12∧Z9 41 A∧Sz 41 S ∧
 ∀ (t:Addr) (H':Hp) (ds:List V) (Ss:List (Int×Int)),Pw.yF ps A Bs n Ss→zu H H'→H' t=some (.tup ds)→Zl K H' Ss ds→Q (.ref t) H'
theorem Zl.repl{K:PySem.W.Frag}{H:Hp}{p:Addr}{A:Int×Int}(f:xB K H p A):∀ m:Nat,Zl K H (List.replicate m A) (List.replicate m (.ref p))
 | 0=>rfl
 | m+1=>⟨p,_,rfl,f,Zl.repl f m⟩
theorem Zl.putAt{K:PySem.W.Frag}{H:Hp}{p:Addr}{A:Int×Int}(f:xB K H p A):∀ {As:List (Int×Int)}{vs:List V}(j:Nat),Zl K H As vs→Zl K H (As.set j A) (vs.set j (.ref p))
 | [],_,_,h=>by
   have h:_=([]:List V):=h
   subst h;exact rfl
 | B :: As,_,0,⟨q,r,e,g,h⟩=>by subst e;exact⟨p,r,rfl,f,h⟩
 | B :: As,_,j+1,⟨q,r,e,g,h⟩=>by subst e;exact⟨q,_,rfl,g,Zl.putAt f j h⟩
theorem z0l{Ss:List (Int×Int)}{n:Nat}(c:Pw.zW Ss)(l:Ss.length=n):((List.range n).map fun i=>Pw.ZL (Pw.val (Ss.getD i (0,1))))=Ss:=by
 apply List.ext_getElem?
 intro i
 rw[List.getElem?_map]
 by_cases h:i<n
 · rw[List.getElem?_range h,List.getElem?_eq_getElem (by omega)]
   show some (Pw.ZL (Pw.val (Ss.getD i (0,1))))=_
   rw[List.getD_eq_getElem?_getD,List.getElem?_eq_getElem (by omega)]
   show some (Pw.ZL (Pw.val Ss[i]))=_
   rw[Pw.qb (c _ (List.getElem_mem _))]
 · rw[List.getElem?_eq_none (by rw[List.length_range];omega),List.getElem?_eq_none (by omega)];rfl
end L2
namespace L2
open PySem PySem.Spec PyProof PyProof.Rows PySem.W
inductive Tq (K:PySem.W.Frag) (H:Hp):V→Option (Int×Int)→Prop where
 | no {v:V}{t:Value}(ty:QS K H v t) (e:PySem.W.kitOne K t (.type "tuple")=some false):Tq K H v none
 | len {a:Addr}{xs:List V}(e:H a=some (.tup xs)) (l:xs.length≠2):Tq K H (.ref a) none
 | two {a:Addr}{x y:V}{ox oy:Option Int}(e:H a=some (.tup [x,y])) (hx:Mb K H 4000 x ox) (hy:Mb K H 4000 y oy):Tq K H (.ref a) (o2 ox oy)
theorem Mb.kv{K:PySem.W.Frag}{H H':Hp}{h:Addr}{n:Nat}{v:V}{o:Option Int}(m:Mb K H n v o)(k:Kv h K H H'):Mb K H' n v o:=m.kt k.ty
theorem Tq.kv{K:PySem.W.Frag}{H H':Hp}{h:Addr}{v:V}{o:Option (Int×Int)}(t:Tq K H v o)(k:Kv h K H H'):Tq K H' v o:=by
 cases t with
 | no ty e=>exact .no (ty.kv k) e
 | len e l=>exact .len (k.tp _ _ e) l
 | two e hx hy=>exact .two (k.tp _ _ e) (hx.kv k) (hy.kv k)
theorem Tq.tp2{K:PySem.W.Frag}{H:Hp}{v:V}{o:Option (Int×Int)}(t:Tq K H v o):Tp2 K H v o:=by
 cases t with
 | no ty e=>exact .no ty e
 | len e l=>exact .len (z5.of e) l
 | two e hx hy=>exact .two (z5.of e) hx.tg hy.tg
theorem qL{A:Int×Int}:yf (some A)=true↔Pw.Canon A:=by
 unfold yf
 rw[decide_eq_true_iff]
 constructor
 · rintro⟨a,b⟩;exact⟨by omega,b⟩
 · rintro⟨a,b⟩;exact⟨by omega,b⟩
noncomputable def j7(o:Option (Int×Int)):Bool:=yf o && (match o with | some A=>decide (0≤A.1) | none=>false)
noncomputable def jd(K:PySem.W.Frag):Sp:=fun vs H Q _=>∃ (v:V) (o:Option (Int×Int)),vs=[v]∧Tq K H v o∧Q (.bl (yf o)) H
noncomputable def jL(K:PySem.W.Frag):Sp:=fun vs H Q _=>∃ (v:V) (o:Option (Int×Int)),vs=[v]∧Tq K H v o∧Q (.bl (j7 o)) H
noncomputable def U4(K:PySem.W.Frag):Sp:=fun vs H Q _=>∃ (v:V) (o:Option (Int×Int)),vs=[v]∧Tq K H v o∧∀ H',zu H H'→Q (.bl (yf o)) H'
inductive jo (K:PySem.W.Frag) (H:Hp) (n:Nat):V→Option (List (Option (Int×Int)))→Prop where
 | no {v:V}{t:Value}(ty:QS K H v t) (e:PySem.W.kitOne K t (.type "tuple")=some false):jo K H n v none
 | tup {a:Addr}{ys:List V}{os:List (Option (Int×Int))}(e:H a=some (.tup ys)) (f:Paired (Tq K H) ys os) (l:ys.length≤20) (rw:∀ Rs:List (Int×Int),os=Rs.map some→Pw.zW Rs→Rs.length=n→∃ D C,Rw Rs n D C):jo K H n (.ref a) (some os)
theorem jo.kv{K:PySem.W.Frag}{H H':Hp}{h:Addr}{n:Nat}{v:V}{o:Option (List (Option (Int×Int)))}(t:jo K H n v o)(k:Kv h K H H'):jo K H' n v o:=by
 cases t with
 | no ty e=>exact .no (ty.kv k) e
 | tup e f l rw=>exact .tup (k.tp _ _ e) (yq f fun _ _ t=>t.kv k) l rw
theorem Vr:∀ {os:List (Option (Int×Int))},os.all yf=true→∃ Rs:List (Int×Int),os=Rs.map some∧Pw.zW Rs
 | [],_=>⟨[],rfl,fun _ h=>by cases h⟩
 | none :: os,h=>by simp[yf] at h
 | some A :: os,h=>by
   rw[List.all_cons,Bool.and_eq_true] at h
   obtain⟨Rs,e,c⟩:=Vr h.2
   exact⟨A :: Rs,by rw[e];rfl,fun R hR=>by
    rcases List.mem_cons.mp hR with rfl | hR
    · exact qL.mp h.1
    · exact c R hR⟩
theorem z0S{Rs:List (Int×Int)}(c:Pw.zW Rs):(Rs.map some).all yf=true:=by
 rw[List.all_map,List.all_eq_true]
 exact fun R hR=>qL.mpr (c R hR)
theorem YW{K:PySem.W.Frag}{H:Hp}:∀ {ys:List V}{Rs:List (Int×Int)},Paired (Tq K H) ys (Rs.map some)→Zl K H Rs ys
 | _,[],p=>by cases p;exact rfl
 | _,R :: Rs,p=>by
   rw[List.map_cons] at p
   cases p with
   | @cons v _ vs _ h t =>
     have r:=YW t
     generalize e:some R=o at h
     cases h with
     | no ty e'=>cases e
     | len e' l=>cases e
     | @two a x y ox oy ea hx hy =>
       cases ox with
       | none=>cases e
       | some i =>
       cases oy with
       | none=>cases e
       | some j =>
         cases e
         cases hx
         cases hy
         exact⟨a,vs,rfl,ea,r⟩
theorem Yp{K:PySem.W.Frag}{H:Hp}:∀ {ys:List V}{Rs:List (Int×Int)},Zl K H Rs ys→(∀ R∈Rs,Z9 4000 R)→Paired (Tq K H) ys (Rs.map some)
 | _,[],h,_=>by
   have h:_=([]:List V):=h
   subst h;exact .nil
 | _,R :: Rs,⟨p,r,e,f,t⟩,s=>by
   subst e
   have sR:=s R List.mem_cons_self
   exact .cons (Tq.two (ox:=some R.1) (oy:=some R.2) f (.int _ sR.1) (.int _ sR.2)) (Yp t fun R' h=>s R' (List.mem_cons_of_mem _ h))
noncomputable def bOf(p:Prop):Bool:=@decide p (Classical.propDecidable p)
theorem vh{p:Prop}(h:p):bOf p=true:=by unfold bOf;exact @decide_eq_true p (Classical.propDecidable p) h
theorem y9{p:Prop}(h:¬ p):bOf p=false:=by unfold bOf;exact @decide_eq_false p (Classical.propDecidable p) h
noncomputable def AlP(n:Nat)(o:Option (List (Option (Int×Int)))):Prop:=∃ Rs:List (Int×Int),o=some (Rs.map some)∧Rs.length=n∧Pw.zW Rs∧(∀ R∈Rs,0≤R.1)∧Pw.qs n (fun t=>Pw.val (Rs.getD t (0,1)))=1
noncomputable def AsP(ps:List (Int×Int))(A:Int×Int)(Bs:List (Int×Int))(n:Nat)(o:Option (List (Option (Int×Int)))):Prop:=∃ Rs:List (Int×Int),o=some (Rs.map some)∧Pw.yF ps A Bs n Rs
noncomputable def jT(K:PySem.W.Frag):Sp:=fun vs H Q _=>∃ (wa:Addr) (r:List V) (n:Nat) (v:V) (o:Option (List (Option (Int×Int)))),vs=[.ref wa,v]∧H wa=some (.tup (.int (n:Int) :: r))∧n≤13∧jo K H n v o∧∀ H',zu H H'→Q (.bl (bOf (AlP n o))) H'
noncomputable def z1A(K:PySem.W.Frag):Sp:=fun vs H Q _=>∃ (w lp ls:Addr) (n:Nat) (ps:List (Int×Int)) (A:Int×Int) (Bs:List (Int×Int)) (us:List V) (S:Int) (v:V) (o:Option (List (Option (Int×Int)))),vs=[.ref w,.ref lp,.ref ls,v]∧Gv K H w lp ls (n:Int) ps A Bs us∧Pr A Bs S∧jo K H n v o∧∀ H',zu H H'→Q (.bl (bOf (AsP ps A Bs n o))) H'
theorem ZD{a b:List (Int×Int)}(h:a.map some=b.map some):a=b:=by
 have:=congrArg (List.filterMap id) h
 simpa[List.filterMap_map] using this
theorem z4m{ps:List (Int×Int)}{A:Int×Int}{Bs Rs:List (Int×Int)}{n:Nat}(hn:Bs.length=n)(l:Rs.length=n)(c:Pw.zW Rs)(nn:∀ R∈Rs,0≤R.1)(one:Pw.qs n (fun t=>Pw.val (Rs.getD t (0,1)))=1):Pw.YM ps A Bs Rs=Rs↔Pw.yF ps A Bs n Rs:=by
 constructor
 · intro e
   refine⟨l,c,nn,one,fun t ht=>?_⟩
   have h1:(Pw.YM ps A Bs Rs)[t]?=some (Pw.ZL (Pw.Qv ps A Bs Rs n t)):=by
    unfold Pw.YM
    rw[List.getElem?_map,List.getElem?_range (by omega),hn];rfl
   rw[e] at h1
   rw[List.getD_eq_getElem?_getD,h1]
   show _=Pw.val (Pw.ZL _)
   rw[Pw.Zq]
 · intro ok
   exact ok.beh hn
structure RB(z:Nat)(c:Int)(Rs:List (Int×Int))(D:Int):Prop where
 canon:Pw.zW Rs
 dpos:0<D
 sz:Sz z D
 dvd:∀ R∈Rs,R.2∣D
 bnd:∀ R∈Rs,-(c * R.2)≤R.1∧R.1≤c * R.2
theorem RB.rw{z:Nat}{c:Int}{Rs:List (Int×Int)}{D:Int}(h:RB z c Rs D)(hz:z≤1900)(c1:1≤c)(c2:c≤100):Rw Rs Rs.length D c :=
 ⟨rfl,h.canon,h.dpos,c1,h.dvd,h.bnd,(Sz.mul (show Sz 7 c by show c.natAbs<2 ^ 7;omega) h.sz).mono (by omega)⟩
theorem RB.jr{z:Nat}{c:Int}{Rs:List (Int×Int)}{D:Int}(h:RB z c Rs D)(c2:c≤100)(c0:0≤c){R:Int×Int}(hR:R∈Rs):Z9 (z+7) R:=by
 have p:=(h.canon R hR).1
 have le:R.2≤D:=Int.le_of_dvd h.dpos (h.dvd R hR)
 have b:=h.bnd R hR
 have s:D.natAbs<2 ^ z:=h.sz
 have dp:=h.dpos
 have e:(2:Nat) ^ (z+7)=2 ^ z * 128:=by rw[Nat.pow_add]
 have hc:c * R.2≤100 * D:=by
  have h1:c * R.2≤100 * R.2:=Int.mul_le_mul_of_nonneg_right c2 (by omega)
  omega
 constructor
 · show R.1.natAbs<2 ^ (z+7)
   omega
 · show R.2.natAbs<2 ^ (z+7)
   omega
theorem RB.mono{z z':Nat}{c c':Int}{Rs:List (Int×Int)}{D:Int}(h:RB z c Rs D)(hz:z≤z')(hc:c≤c'):RB z' c' Rs D :=
 ⟨h.canon,h.dpos,h.sz.mono hz,h.dvd,fun R hR=>by
  have b:=h.bnd R hR
  have p:=(h.canon R hR).1
  have:=Int.mul_le_mul_of_nonneg_right hc (Int.le_of_lt p)
  omega⟩
theorem RB.sub{z:Nat}{c:Int}{Rs Qs:List (Int×Int)}{D:Int}(h:RB z c Rs D)(s:∀ R∈Qs,R∈Rs):RB z c Qs D :=
 ⟨fun R hR=>h.canon R (s R hR),h.dpos,h.sz,fun R hR=>h.dvd R (s R hR),fun R hR=>h.bnd R (s R hR)⟩
end L2
namespace L2
open PySem PySem.Spec PyProof PyProof.Rows PySem.W
inductive QL (K:PySem.W.Frag) (H:Hp) (L z:Nat) (c:Int):V→Prop where
 | no {v:V}{t:Value}(ty:QS K H v t) (e:PySem.W.kitOne K t (.type "tuple")=some false):QL K H L z c v
 | tup {a:Addr}{ys:List V}{os:List (Option (Int×Int))}(e:H a=some (.tup ys)) (f:Paired (Tq K H) ys os) (l:ys.length≤L) (rb:∀ Rs:List (Int×Int),os=Rs.map some→Pw.zW Rs→∃ D,RB z c Rs D):QL K H L z c (.ref a)
section
variable{K:PySem.W.Frag}{H H':Hp}{h q:Addr}{L z:Nat}{c:Int}{v:V}{us:List V}
theorem QL.kv(t:QL K H L z c v)(k:Kv h K H H'):QL K H' L z c v:=by
 cases t with
 | no ty e=>exact .no (ty.kv k) e
 | tup e f l rb=>exact .tup (k.tp _ _ e) (yq f fun _ _ t=>t.kv k) l rb
theorem QL.mono{L' z':Nat}{c':Int}(t:QL K H L z c v)(hL:L≤L')(hz:z≤z')(hc:c≤c'):QL K H L' z' c' v:=by
 cases t with
 | no ty e=>exact .no ty e
 | tup e f l rb=>exact .tup e f (by omega) fun Rs e c=>(rb Rs e c).imp fun D h=>h.mono hz hc
theorem QL.sh{n:Nat}(t:QL K H L z c v)(hL:L≤20)(hz:z≤1900)(c1:1≤c)(c2:c≤100):∃ o,jo K H n v o:=by
 cases t with
 | no ty e=>exact⟨_,.no ty e⟩
 | tup e f l rb=>exact⟨_,.tup e f (by omega) fun Rs e c l=>by
  obtain⟨D,h⟩:=rb Rs e c
  subst l
  exact⟨D,_,h.rw hz c1 c2⟩⟩
theorem qy{Rs:List (Int×Int)}{ys:List V}{D:Int}(e:H q=some (.tup ys))(f:Zl K H Rs ys)(rb:RB z c Rs D)(l:Rs.length≤L)(c0:0≤c)(c2:c≤100)(hz:z≤3000):QL K H L z c (.ref q) :=
 .tup e (Yp f fun R hR=>⟨(rb.jr c2 c0 hR).1.mono (by omega),(rb.jr c2 c0 hR).2.mono (by omega)⟩) (by rw[f.len];exact l) fun Rs' e _=>by
  rw[← ZD e];exact⟨D,rb⟩
noncomputable def Jg(K:PySem.W.Frag)(H:Hp)(D c:Int)(v:V):Prop:=∃ o,Tq K H v o∧∀ X,o=some X→Pw.Canon X→X.2∣D∧-(c * X.2)≤X.1∧X.1≤c * X.2
theorem Jg.kv{D:Int}(o:Jg K H D c v)(k:Kv h K H H'):Jg K H' D c v:=by
 obtain⟨x,t,q⟩:=o
 exact⟨x,t.kv k,q⟩
noncomputable def QA(K:PySem.W.Frag)(H:Hp)(D c:Int)(us:List V):Prop:=∀ u∈us,Jg K H D c u
theorem QA.nil{D:Int}:QA K H D c []:=fun _ z=>by cases z
theorem QA.same{D:Int}(A:QA K H D c us)(s:zu H H'):QA K H' D c us:=fun u z=>(A u z).kv (h:=0) s.kv
theorem QA.add{D:Int}(A:QA K H D c us)(t:Jg K H D c v):QA K H D c (us ++ [v]):=fun u z=>by
 rcases List.mem_append.mp z with z | z
 · exact A u z
 · rw[List.mem_singleton.mp z];exact t
theorem V5{D:Int}{t:Value}(ty:Yq K H v t)(e:PySem.W.kitOne K t (.type "tuple")=some false):Jg K H D c v:=⟨_,.no (.inl ty) e,fun _ z=>by cases z⟩
theorem z5c{D:Int}{xs:List V}(e:H q=some (.tup xs))(l:xs.length≠2):Jg K H D c (.ref q):=⟨_,.len e l,fun _ z=>by cases z⟩
theorem Vk{D:Int}{x y:V}{oy:Option Int}(e:H q=some (.tup [x,y]))(hx:Mb K H 4000 x none)(hy:Mb K H 4000 y oy):Jg K H D c (.ref q):=⟨_,.two e hx hy,fun _ z=>by cases z⟩
theorem z1K{D:Int}{x y:V}{ox:Option Int}(e:H q=some (.tup [x,y]))(hx:Mb K H 4000 x ox)(hy:Mb K H 4000 y none):Jg K H D c (.ref q):=⟨_,.two e hx hy,fun _ z=>by cases ox <;> cases z⟩
theorem xD{D i j:Int}(e:H q=some (.tup [.int i,.int j]))(si:Sz 4000 i)(sj:Sz 4000 j)(h:Pw.Canon (i,j)→j∣D∧-(c * j)≤i∧i≤c * j):Jg K H D c (.ref q) :=
 ⟨_,.two (ox:=some i) (oy:=some j) e (.int i si) (.int j sj),fun X z cx=>by cases z;exact h cx⟩
noncomputable def Qy(K:PySem.W.Frag)(H:Hp)(L z:Nat)(c:Int)(us:List V):Prop:=∀ u∈us,QL K H L z c u
theorem Qy.nil:Qy K H L z c []:=fun _ z=>by cases z
theorem Qy.same(A:Qy K H L z c us)(s:zu H H'):Qy K H' L z c us:=fun u z=>(A u z).kv (h:=0) s.kv
theorem Qy.add(A:Qy K H L z c us)(t:QL K H L z c v):Qy K H L z c (us ++ [v]):=fun u z=>by
 rcases List.mem_append.mp z with z | z
 · exact A u z
 · rw[List.mem_singleton.mp z];exact t
end
noncomputable def xE(K:PySem.W.Frag):Sp:=fun vs H Q _=>∃ (h a:Addr) (ys:List V) (Rs:List (Int×Int)) (z:Nat) (c D:Int),vs=[.ref h,.ref a]∧z4 H h∧H a=some (.tup ys)∧Zl K H Rs ys∧RB z c Rs D∧1≤Rs.length∧Rs.length≤13∧z≤800∧1≤c∧c≤40 ∧
 ∀ (v:V) (H':Hp),z4 H' h→Kp h H H'→QL K H' (Rs.length+1) (z+81) (2 * c+2) v→Q v H'
noncomputable def Q7(K:PySem.W.Frag):Sp:=fun vs H Q _=>∃ (h:Addr) (v:V) (z:Nat) (c:Int),vs=[.ref h,v]∧z4 H h∧QL K H 13 z c v∧z≤800∧1≤c∧c≤40∧∀ (u:V) (H':Hp),z4 H' h→Kp h H H'→QL K H' 14 (z+81) (2 * c+2) u→Q u H'
theorem Zl.kt{K:PySem.W.Frag}{H H':Hp}(k:∀ a xs,H a=some (.tup xs)→H' a=some (.tup xs)):∀ {As:List (Int×Int)}{vs:List V},Zl K H As vs→Zl K H' As vs
 | [],_,h=>h
 | _ :: _,_,⟨p,r,e,f,h⟩=>⟨p,r,e,k _ _ f,Zl.kt k h⟩
theorem VY{α β:Type}{R:α→β→Prop}{xs:List α}{ys:List β}(p:Paired R xs ys):∀ n,Paired R (xs.take n) (ys.take n):=by
 induction p with
 | nil=>intro n;rw[List.take_nil,List.take_nil];exact .nil
 | cons h t ih =>
   intro n
   cases n with
   | zero=>exact .nil
   | succ n=>exact .cons h (ih n)
theorem XW{α β:Type}{R:α→β→Prop}{xs:List α}{ys:List β}(p:Paired R xs ys):∀ n,Paired R (xs.drop n) (ys.drop n):=by
 induction p with
 | nil=>intro n;rw[List.drop_nil,List.drop_nil];exact .nil
 | cons h t ih =>
   intro n
   cases n with
   | zero=>exact .cons h t
   | succ n=>exact ih n
theorem YA{α β:Type}{R:α→β→Prop}{xs us:List α}{ys vs:List β}(p:Paired R xs ys)(q:Paired R us vs):Paired R (xs ++ us) (ys ++ vs):=by
 induction p with
 | nil=>exact q
 | cons h t ih=>exact .cons h ih
theorem Uc{α β:Type}{R:α→β→Prop}{xs:List α}{ys:List β}(p:Paired R xs ys):Paired R xs.reverse ys.reverse:=by
 induction p with
 | nil=>exact .nil
 | cons h t ih=>rw[List.reverse_cons,List.reverse_cons];exact YA ih (.cons h .nil)
theorem YZ{α β:Type}{R:α→β→Prop}{x:α}{y:β}(h:R x y):∀ m,Paired R (List.replicate m x) (List.replicate m y)
 | 0=>.nil
 | m+1=>.cons h (YZ h m)
theorem Qc{K:PySem.W.Frag}{H:Hp}{q:Addr}{L z:Nat}{c:Int}{D:Int}{ys:List V}{Rs:List (Int×Int)}(e:H q=some (.tup ys))(f:Paired (Tq K H) ys (Rs.map some))(rb:RB z c Rs D)(l:ys.length≤L):QL K H L z c (.ref q) :=
 .tup e f l fun Rs' e _=>by rw[← ZD e];exact⟨D,rb⟩
theorem Uq{K:PySem.W.Frag}{H:Hp}{q:Addr}{L z:Nat}{c:Int}{D:Int}{ys:List V}{u:V}{Rs:List (Int×Int)}{j:Nat}(e:H q=some (.tup (ys.take j ++ [u] ++ ys.drop (j+1))))(f:Paired (Tq K H) ys (Rs.map some))(o:Jg K H D c u)(rb:RB z c Rs D)(l:(ys.take j ++ [u] ++ ys.drop (j+1)).length≤L):QL K H L z c (.ref q):=by
 obtain⟨x,tx,hx⟩:=o
 refine .tup e (os:=(Rs.map some).take j ++ [x] ++ (Rs.map some).drop (j+1)) (YA (YA (VY f j) (.cons tx .nil)) (XW f (j+1))) l fun Rs' e' c'=>⟨D,?_⟩
 have key:∀ R∈Rs',R∈Rs∨(x=some R∧Pw.Canon R):=fun R hR=>by
  have:some R∈Rs'.map some:=List.mem_map.mpr ⟨R,hR,rfl⟩
  rw[← e'] at this
  rcases List.mem_append.mp this with h | h
  · rcases List.mem_append.mp h with h | h
    · obtain⟨R2,h2,e2⟩:=List.mem_map.mp (List.mem_of_mem_take h)
      cases e2;exact .inl h2
    · exact .inr ⟨(List.mem_singleton.mp h).symm,c' R hR⟩
  · obtain⟨R2,h2,e2⟩:=List.mem_map.mp (List.mem_of_mem_drop h)
    cases e2;exact .inl h2
 refine⟨c',rb.dpos,rb.sz,fun R hR=>?_,fun R hR=>?_⟩
 · rcases key R hR with h |⟨h,h2⟩
   · exact rb.dvd R h
   · exact (hx R h h2).1
 · rcases key R hR with h |⟨h,h2⟩
   · exact rb.bnd R h
   · exact (hx R h h2).2
theorem z3E{x y C:Int}(hy:0<y)(h1:-(C * y)≤x)(h2:x≤C * y):-(C * (Pw.mk x y).2)≤(Pw.mk x y).1∧(Pw.mk x y).1≤C * (Pw.mk x y).2:=by
 have s:=Pw.ZV (a:=x) (b:=y) (by omega)
 have p:=s.1.1
 have e:(Pw.mk x y).1 * y=x * (Pw.mk x y).2:=s.2
 generalize Pw.mk x y=P at *
 constructor
 · refine Int.le_of_mul_le_mul_right (a:=y) ?_ hy
   rw[e]
   have:=Int.mul_le_mul_of_nonneg_right h1 (Int.le_of_lt p)
   have e2:-(C * P.2) * y=-(C * y) * P.2:=by grind
   rw[e2];exact this
 · refine Int.le_of_mul_le_mul_right (a:=y) ?_ hy
   rw[e]
   have:=Int.mul_le_mul_of_nonneg_right h2 (Int.le_of_lt p)
   have e2:C * P.2 * y=C * y * P.2:=by grind
   rw[e2];exact this
theorem jc{c D l s:Int}(l0:0<l)(hs:s=1∨s=-1){R:Int×Int}(hc:Pw.Canon R)(hd:R.2∣D)(hb:-(c * R.2)≤R.1∧R.1≤c * R.2):Pw.Canon (Pw.ZI R (s,l))∧(Pw.ZI R (s,l)).2∣D * l∧-((c+1) * (Pw.ZI R (s,l)).2)≤(Pw.ZI R (s,l)).1∧(Pw.ZI R (s,l)).1≤(c+1) * (Pw.ZI R (s,l)).2:=by
 have p:=hc.1
 refine⟨Pw.YO (by omega) (by show l≠0;omega),?_,?_⟩
 · exact Int.dvd_trans (Pw.jH (show R.2 * l≠0 from Int.mul_ne_zero (by omega) (by omega))) (Int.mul_dvd_mul_right _ hd)
 · have y0:0<R.2 * l:=Int.mul_pos p l0
   have b1:=Int.mul_le_mul_of_nonneg_right hb.1 (Int.le_of_lt l0)
   have b2:=Int.mul_le_mul_of_nonneg_right hb.2 (Int.le_of_lt l0)
   have r1:R.2≤R.2 * l:=by
    have:=Int.mul_le_mul_of_nonneg_left (show (1:Int)≤l by omega) (Int.le_of_lt p)
    omega
   have e1:(c+1) * (R.2 * l)=c * R.2 * l+R.2 * l:=by grind
   have e2:-(c * R.2) * l=-(c * R.2 * l):=by grind
   show -((c+1) * (Pw.mk (R.1 * l+s * R.2) (R.2 * l)).2)≤(Pw.mk (R.1 * l+s * R.2) (R.2 * l)).1∧(Pw.mk (R.1 * l+s * R.2) (R.2 * l)).1≤(c+1) * (Pw.mk (R.1 * l+s * R.2) (R.2 * l)).2
   refine z3E y0 ?_ ?_ <;> rw[e1] <;> rcases hs with rfl | rfl <;> omega
theorem z1f{c D:Int}(c0:0≤c){R:Int×Int}(hc:Pw.Canon R)(hd:R.2∣D)(hb:-(c * R.2)≤R.1∧R.1≤c * R.2):Pw.Canon (Pw.Zm R (2,1))∧(Pw.Zm R (2,1)).2∣D∧-((2 * c) * (Pw.Zm R (2,1)).2)≤(Pw.Zm R (2,1)).1∧(Pw.Zm R (2,1)).1≤(2 * c) * (Pw.Zm R (2,1)).2:=by
 have p:=hc.1
 refine⟨Pw.Zc (by omega) (by decide),?_,?_⟩
 · refine Int.dvd_trans (Pw.jH (show R.2 * 1≠0 by omega)) ?_
   rw[Int.mul_one];exact hd
 · show -((2 * c) * (Pw.mk (R.1 * 2) (R.2 * 1)).2)≤(Pw.mk (R.1 * 2) (R.2 * 1)).1∧(Pw.mk (R.1 * 2) (R.2 * 1)).1≤(2 * c) * (Pw.mk (R.1 * 2) (R.2 * 1)).2
   have e1:2 * c * (R.2 * 1)=c * R.2+c * R.2:=by grind
   refine z3E (by omega) ?_ ?_ <;> rw[e1] <;> omega
theorem QE{m a b:Int}(h:2≤m):¬ Pw.Canon (m * a,m * b):=by
 rintro⟨p,g⟩
 have g:Int.gcd (m * a) (m * b)=1:=g
 rw[Int.gcd_mul_left] at g
 have:m.natAbs∣1:=⟨Int.gcd a b,g.symm⟩
 have:=Nat.le_of_dvd (by decide) this
 omega
end L2
namespace L2
open PySem PySem.Spec PyProof PyProof.Rows PySem.W
theorem Pr.rb{A:Int×Int}{Bs:List (Int×Int)}{S:Int}{z:Nat}(pr:Pr A Bs S)(cb:Pw.zW Bs)(sS:Sz z S):RB z 1 Bs S:=by
 refine⟨cb,pr.spos,sS,pr.sdvd,fun B hB=>?_⟩
 have p:=(cb B hB).1
 have nn:=pr.nn B hB
 refine⟨by omega,?_⟩
 obtain⟨i,hi,rfl⟩:=List.mem_iff_getElem.mp hB
 have vn:∀ t,t<Bs.length→0≤Pw.val (Bs.getD t (0,1)):=fun t ht=>by
  have e:Bs.getD t (0,1)=Bs[t]:=by rw[List.getD_eq_getElem?_getD,List.getElem?_eq_getElem ht];rfl
  rw[e]
  have h2:=pr.nn _ (List.getElem_mem ht)
  have h3:=Pw.cpos (cb _ (List.getElem_mem ht)).1
  have h4:=Pw.yO (cb _ (List.getElem_mem ht)).1
  have h5:(0:Rat)≤((Bs[t]).1:Rat):=by exact_mod_cast h2
  refine Rat.not_lt.mp fun z=>?_
  have:=Rat.mul_lt_mul_of_pos_right z h3
  rw[h4] at this
  grind
 have one:=pr.one
 have le:Pw.val (Bs.getD i (0,1))≤1:=by
  rw[← one,← Pw.uO hi (Pw.val (Bs.getD i (0,1)))]
  refine Pw.YV fun t ht=>?_
  split
  · rename_i e;subst e;exact Rat.le_refl
  · exact vn t ht
 have e:Bs.getD i (0,1)=Bs[i]:=by rw[List.getD_eq_getElem?_getD,List.getElem?_eq_getElem hi];rfl
 rw[e] at le
 have h3:=Pw.cpos p
 have h4:=Pw.yO p
 have:=Rat.mul_le_mul_of_nonneg_right le (Rat.le_of_lt h3)
 rw[h4] at this
 have h6:((Bs[i]).1:Rat)≤((Bs[i]).2:Rat):=by grind
 have:(Bs[i]).1≤(Bs[i]).2:=by exact_mod_cast h6
 omega
theorem xu{ps:List (Int×Int)}{A:Int×Int}{Bs:List (Int×Int)}{n:Nat}{os:List (Option (Int×Int))}(h:os.all yf=false):¬ AsP ps A Bs n (some os):=by
 rintro⟨Rs,e,ok⟩
 have e:=Option.some.inj e
 rw[e,z0S ok.canon] at h
 cases h
theorem xj{os:List (Option (Int×Int))}(h:os.all yf=false)(n:Nat):∀ Rs:List (Int×Int),os=Rs.map some→Pw.zW Rs→Rs.length=n→∃ D C,Rw Rs n D C:=fun Rs e c _=>by
 rw[e,z0S c] at h
 cases h
theorem xM{ps:List (Int×Int)}{A:Int×Int}{Bs:List (Int×Int)}{n:Nat}:¬ AsP ps A Bs n none:=by
 rintro⟨Rs,e,_⟩
 cases e
theorem z5j{ps:List (Int×Int)}{A:Int×Int}{Bs Ss Rs:List (Int×Int)}{n:Nat}{S:Int}(lk:∀ p∈ps,0≤p.2∧p.2<(n:Int))(ca:Pw.Canon A)(cb:Pw.zW Bs)(hn:Bs.length=n)(pr:Pr A Bs S)(ok:Pw.yF ps A Bs n Ss):bOf (AsP ps A Bs n (some (Rs.map some)))=decide (Rs=Ss):=by
 by_cases h:Rs=Ss
 · subst h
   rw[vh ⟨Rs,rfl,ok⟩,decide_eq_true rfl]
 · rw[decide_eq_false h,y9]
   rintro⟨Rs',e,ok'⟩
   have e:=ZD (Option.some.inj e)
   subst e
   exact h (Pw.yF.unique lk ca cb hn pr ok' ok)
theorem z4n{K:PySem.W.Frag}{H:Hp}{q1 q2 q3 q4 q5:Addr}(e1:H q1=some (.tup []))(e2:H q2=some (.tup [.int 1,.ref q1]))(e3:H q3=some (.tup [.int 1,.int 2]))(e4:H q4=some (.tup [.int 1,.int 1]))(e5:H q5=some (.tup [.ref q4])):Gv K H q2 q3 q5 ((1:Nat):Int) [] (1,2) [(1,1)] [.ref q4] :=
 ⟨⟨q1,[],e2,e1,Xh⟩,by decide,by decide,e3,⟨by decide,by decide⟩,⟨zR 10 (by decide),zR 10 (by decide)⟩,e5,⟨q4,_,rfl,e4,rfl⟩,
   List.forall_mem_cons.mpr ⟨⟨by decide,by decide⟩,fun _ h=>by simp at h⟩,List.forall_mem_cons.mpr ⟨⟨zR 10 (by decide),zR 10 (by decide)⟩,fun _ h=>by simp at h⟩,by decide,by decide,by decide⟩
theorem z5q:Pr (1,2) [(1,1)] 1:=⟨by decide,by decide,by decide,by show (0:Rat)+Pw.val (1,1)=1;rw[Pw.uE];grind,by decide,zR 1 (by decide),by decide⟩
theorem z6D:Pw.val (0,1)=0:=by
 have h:=Pw.yO (A:=(0,1)) (by decide)
 have h:Pw.val (0,1) * (1:Rat)=(0:Rat):=h
 grind
theorem z0q{K:PySem.W.Frag}{H:Hp}{q1 q2 q3 q4 q5 q6:Addr}(e1:H q1=some (.tup []))(e2:H q2=some (.tup [.int 2,.ref q1]))(e3:H q3=some (.tup [.int 1,.int 2]))(e4:H q4=some (.tup [.int 1,.int 1]))(e6:H q6=some (.tup [.int 0,.int 1]))(e5:H q5=some (.tup [.ref q4,.ref q6])):Gv K H q2 q3 q5 ((2:Nat):Int) [] (1,2) [(1,1),(0,1)] [.ref q4,.ref q6] :=
 ⟨⟨q1,[],e2,e1,Xh⟩,by decide,by decide,e3,⟨by decide,by decide⟩,⟨zR 10 (by decide),zR 10 (by decide)⟩,e5,⟨q4,_,rfl,e4,q6,_,rfl,e6,rfl⟩,
   List.forall_mem_cons.mpr ⟨⟨by decide,by decide⟩,List.forall_mem_cons.mpr ⟨⟨by decide,by decide⟩,fun _ h=>by simp at h⟩⟩,List.forall_mem_cons.mpr ⟨⟨zR 10 (by decide),zR 10 (by decide)⟩,List.forall_mem_cons.mpr ⟨⟨zR 10 (by decide),zR 10 (by decide)⟩,fun _ h=>by simp at h⟩⟩,by decide,by decide,by decide⟩
theorem jm:Pw.qs 2 (fun t=>Pw.val (([(1,1),(0,1)]:List (Int×Int)).getD t (0,1)))=1:=by
 show (0:Rat)+Pw.val (1,1)+Pw.val (0,1)=1
 rw[Pw.uE,z6D];grind
theorem UR:Pr (1,2) [(1,1),(0,1)] 1:=⟨by decide,by decide,by decide,jm,by decide,zR 1 (by decide),by decide⟩
theorem z4t:AsP [] (1,2) [(1,1),(0,1)] 2 (some ([(1,1),(0,1)].map some)) :=
 ⟨_,rfl,Pw.yF.z2Z rfl (fun B hB=>by
  simp only[List.mem_cons,List.not_mem_nil,or_false] at hB
  rcases hB with rfl | rfl <;> exact⟨by decide,by decide⟩) (by decide) jm⟩
end L2
set_option pp.maxSteps 800
namespace Lw
open PySem L2 PyProof.Rows
noncomputable def top(i:Nat):Stmt:=PySem.Challenge.pw_pagewalks_k12_shares_looked_at.main.body.getD i (.Pass ⟨0,0,0,0⟩)
noncomputable abbrev Uy:Stmt:=top 3
noncomputable abbrev Y4:Stmt:=top 4
noncomputable abbrev z0Q:Stmt:=top 5
noncomputable abbrev z3V:Stmt:=top 6
noncomputable abbrev jU:Stmt:=top 7
noncomputable abbrev z1r:Stmt:=top 8
noncomputable abbrev JJ:Stmt:=top 9
noncomputable abbrev US:Stmt:=top 10
noncomputable abbrev UW:Stmt:=top 11
noncomputable abbrev Uw:Stmt:=top 12
noncomputable abbrev X3:Stmt:=top 13
noncomputable abbrev qB:Stmt:=top 15
noncomputable abbrev Ub:Stmt:=top 16
noncomputable abbrev z2x:Stmt:=top 17
noncomputable abbrev z5i:Stmt:=top 19
noncomputable abbrev jI:Stmt:=top 20
noncomputable abbrev qf:Stmt:=top 21
noncomputable abbrev Zv:Stmt:=top 22
noncomputable abbrev Vl:Stmt:=top 23
noncomputable abbrev UY:Stmt:=top 25
noncomputable abbrev jj:Stmt:=top 27
noncomputable abbrev xh:Stmt:=top 28
noncomputable abbrev vF:Stmt:=top 29
noncomputable abbrev vz:Stmt:=top 30
noncomputable abbrev XY:Stmt:=top 31
noncomputable abbrev Ut:Stmt:=top 32
noncomputable abbrev vt:Stmt:=top 33
noncomputable abbrev JT:Stmt:=top 34
noncomputable abbrev VC:Stmt:=top 35
noncomputable abbrev YB:Stmt:=top 36
noncomputable abbrev jv:Stmt:=top 37
noncomputable abbrev Vz:Stmt:=top 38
noncomputable abbrev xW:Stmt:=top 39
noncomputable abbrev ZM:Stmt:=top 40
noncomputable abbrev ya:Stmt:=top 41
noncomputable abbrev yL:Stmt:=top 42
noncomputable abbrev yY:Stmt:=top 43
noncomputable abbrev QD:Stmt:=top 44
section
variable{P:Program}{w:World}{K:PySem.W.Frag}{mg:Str→Option Value}{base:Heap}
theorem xV:zT ["one","other","rest"] ["one","other"] (zw Y4):=⟨rfl,rfl,rfl,by decide +kernel,rfl,by decide +kernel,by decide +kernel⟩
theorem QZ{f:Addr}{fd:FuncData}(F:XZ K "common" "common" Y4 f fd):ZY P w K mg base XR 1 f fd ["one","other"] Yl:=by
 refine F.ok xV (fun vs H Q E h=>?_) (fun cdv A outer s H vs Q E hr h=>?_)
 · obtain⟨x,y,rfl,_⟩:=h
   rfl
 · obtain⟨x,y,rfl,hx,hy,k⟩:=h
   refine⟨_,zo (uB PassesOwn.never (Zf qH (pv 1) zg (z0 _))
    (zo (ZQ (i:=2) xV.nd rfl (Or.inl rfl) (zI YR (pv 0) (pv 1)))
    (zo (ZQ (i:=0) xV.nd rfl (Or.inl rfl) (pv 1))
    (zC (ZQ (i:=1) xV.nd rfl (Or.inl rfl) (pv 2))))))
    (zC (zS (pv 0))),?_⟩
   refine uG (fun σ H'=>∃ (a b:Int) (r:Option V),σ=[some (.int a),some (.int b),r]∧0≤a∧0≤b∧Int.gcd a b=Int.gcd x y∧H'=H)
    (fun σ _=>match σ with | [_,some (.int b),_]=>b.toNat | _=>0) ⟨x,y,none,rfl,hx,hy,rfl,rfl⟩ ?_ ?_
   · rintro σ H' ⟨a,b,r,rfl,ha,hb,hg,rfl⟩
     refine⟨_,rfl,rfl,_,rfl,?_⟩
     by_cases h0:b=0
     · refine yH (veq h0) ?_
       subst h0
       refine⟨_,rfl,?_⟩
       have e:(a:Int)=(Int.gcd x y:Int):=by rw[← hg,Int.gcd_zero_right];omega
       show Q (.int a) _
       rw[e];exact k
     · refine YN (vne h0) ?_
       have hb0:0<b:=by omega
       refine⟨_,rfl,_,rfl,_,_,rfl,rfl,hb0,?_⟩
       refine⟨_,rfl,?_⟩
       refine⟨_,rfl,?_⟩
       refine⟨⟨b,a % b,_,rfl,hb,Int.emod_nonneg _ (by omega),?_,rfl⟩,?_⟩
       · rw[Pw.V0 ha hb0,hg]
       · show (a % b).toNat<b.toNat
         have h1:=Int.emod_nonneg a (show b≠0 by omega)
         have h2:=Int.emod_lt_of_pos a hb0
         omega
   · rintro σ H' q q' hq ⟨v,e,hs,kk,ek,z⟩
     exact⟨v,e,hs,kk,ek,hq _ _ z⟩
theorem UE(x:Int):0≤(if x<0 then -x else x):=by split <;> omega
theorem jF(x y:Int):Int.gcd (if x<0 then -x else x) (if y<0 then -y else y)=Int.gcd x y:=by
 split <;> split <;> simp[Int.neg_gcd,Int.gcd_neg]
theorem z0N{n:Nat}{x y:Int}(h:Sz n y)(hy:y≠0):Sz n (Int.gcd x y:Int):=by
 show (Int.gcd x y:Int).natAbs<2 ^ n
 have:Int.gcd x y≤y.natAbs:=Nat.le_of_dvd (by omega) (Int.gcd_dvd_natAbs_right ..)
 have h':y.natAbs<2 ^ n:=h
 omega
theorem UP:zT ["above","below","divisor"] ["above","below"] (zw jU):=⟨rfl,rfl,rfl,by decide +kernel,rfl,by decide +kernel,by decide +kernel⟩
theorem z1W{f fC:Addr}{fd fdC:FuncData}(F:XZ K "made" "made" jU f fd)(zabs:mg "abs"=none)(FC:XZ K "common" "common" Y4 fC fdC)(mC:mg "common"=some (.ref fC))(bC:Binds K fdC ["one","other"] []) :
 ZY P w K mg base XR 2 f fd ["above","below"] z4b:=by
 have GC:ZY P w K mg base XR 1 fC fdC ["one","other"] Yl:=QZ FC
 refine F.ok UP (fun vs H Q E h=>?_) (fun cdv A outer s H vs Q E hr h=>?_)
 · obtain⟨x,y,rfl,_⟩:=h
   rfl
 · obtain⟨x,y,rfl,hy,sx,sy,k⟩:=h
   refine⟨_,zo (ZQ (i:=2) UP.nd rfl (Or.inl rfl) (Zs GC hr rfl mC FC.kp bC .nil Z6 (zP (zX x6 (by rfl) zabs boot_abs (zP (pv 0) zb)) (zP (zX x6 (by rfl) zabs boot_abs (zP (pv 1) zb)) zb))))
    (zo (Z3 (Zf z3y (pv 1) zg (z0 _)) (zC (ZQ (i:=2) UP.nd rfl (Or.inl rfl) (z3i z0F (pv 2)))) Zr)
    (zC (zS (JP (zP (zI yP (pv 0) (pv 2)) (zP (zI yP (pv 1) (pv 2)) zb)))))),?_⟩
   refine⟨_,rfl,x,rfl,_,rfl,y,rfl,_,_,rfl,UE x,UE y,?_⟩
   rw[jF]
   have hg:=Pw.z0k (a:=x) hy
   have sg:=(z0N (x:=x) sy hy).mono (show 8000≤9000 by decide)
   refine⟨_,rfl,_,_,rfl,rfl,_,rfl,?_⟩
   refine if2 (fun h=>?_) (fun h=>?_)
   · have h:y<0:=of_decide_eq_true h
     refine⟨_,rfl,_,rfl,?_⟩
     refine⟨_,rfl,_,rfl,_,_,rfl,rfl,⟨by omega,sg.neg⟩,_,rfl,_,rfl,_,_,rfl,rfl,⟨by omega,sg.neg⟩,(by show 2≤sizeLine;decide),fun p hp=>?_⟩
     have:=k p hp
     unfold Pw.mk at this
     rw[if_pos h] at this
     exact this
   · have h:¬ y<0:=of_decide_eq_false h
     refine⟨_,rfl,_,rfl,_,_,rfl,rfl,⟨by omega,sg⟩,_,rfl,_,rfl,_,_,rfl,rfl,⟨by omega,sg⟩,(by show 2≤sizeLine;decide),fun p hp=>?_⟩
     have:=k p hp
     unfold Pw.mk at this
     rw[if_neg h] at this
     exact this
theorem Vj:zT ["above","below","one","other"] ["above","below"] (zw XY):=⟨rfl,rfl,rfl,by decide +kernel,rfl,by decide +kernel,by decide +kernel⟩
theorem Vf{f:Addr}{fd:FuncData}(F:XZ K "_law_frac" "_law_frac" XY f fd)(zabs:mg "abs"=none):ZY P w K mg base XR 1 f fd ["above","below"] z0O:=by
 refine F.ok Vj (fun vs H Q E h=>?_) (fun cdv A outer s H vs Q E hr h=>?_)
 · obtain⟨x,y,rfl,_⟩:=h
   rfl
 · obtain⟨x,y,rfl,hy,sx,sy,k⟩:=h
   refine⟨_,zo (ZQ (i:=2) Vj.nd rfl (Or.inl rfl) (zX x6 (by rfl) zabs boot_abs (zP (pv 0) zb)))
    (zo (ZQ (i:=3) Vj.nd rfl (Or.inl rfl) (pv 1))
    (zo (uB PassesOwn.never (Zf jq (pv 3) zg (z0 _))
     (zC (z5g (i:=2) (j:=3) rfl Vj.nd rfl rfl (by decide) rfl rfl (zP (pv 3) (zP (zI YR (pv 2) (pv 3)) zb)) (by rfl))))
    (zC (zS (JP (zP (zI yP (pv 0) (pv 2)) (zP (zI yP (pv 1) (pv 2)) zb))))))),?_⟩
   refine⟨_,rfl,x,rfl,?_⟩
   refine⟨_,rfl,?_⟩
   have hyn:y≠0:=by omega
   refine uG (fun σ H'=>∃ (a b:Int),σ=[some (.int x),some (.int y),some (.int a),some (.int b)]∧0≤a∧0≤b∧Int.gcd a b=Int.gcd x y∧H'=H)
    (fun σ _=>match σ with | [_,_,_,some (.int b)]=>b.toNat | _=>0) ⟨_,y,rfl,UE x,by omega,?_,rfl⟩ ?_ ?_
   · have:=jF x y
     rw[if_neg (show ¬ y<0 by omega)] at this
     exact this
   · rintro σ H' ⟨a,b,rfl,ha,hb,hg,rfl⟩
     refine⟨_,rfl,_,_,rfl,rfl,_,rfl,?_⟩
     refine if2 (fun h=>?_) (fun h=>?_)
     · have hb0:0<b:=of_decide_eq_true h
       refine⟨_,rfl,_,rfl,_,rfl,_,_,rfl,rfl,hb0,_,_,rfl,?_⟩
       refine⟨⟨b,a % b,rfl,hb,Int.emod_nonneg _ (by omega),?_,rfl⟩,?_⟩
       · rw[Pw.V0 ha hb0,hg]
       · show (a % b).toNat<b.toNat
         have h1:=Int.emod_nonneg a (show b≠0 by omega)
         have h2:=Int.emod_lt_of_pos a hb0
         omega
     · have h:¬ 0<b:=of_decide_eq_false h
       have h0:b=0:=by omega
       subst h0
       have e:(a:Int)=(Int.gcd x y:Int):=by rw[← hg,Int.gcd_zero_right];omega
       subst e
       have hgp:=Pw.z0k (a:=x) hyn
       have sg:=(z0N (x:=x) sy hyn).mono (show 8000≤9000 by decide)
       refine⟨_,rfl,_,rfl,_,_,rfl,rfl,⟨by omega,sg⟩,_,rfl,_,rfl,_,_,rfl,rfl,⟨by omega,sg⟩,(by show 2≤sizeLine;decide),fun p hp=>?_⟩
       have:=k p hp
       unfold Pw.mk at this
       rw[if_neg (show ¬ y<0 by omega)] at this
       exact this
   · rintro σ H' q q' hq ⟨v,e,i,j,e1,e2,kk,ek,z⟩
     exact⟨v,e,i,j,e1,e2,kk,ek,hq _ _ z⟩
theorem UT:zT ["cell","k","digits"] ["cell","k"] (zw jj):=⟨rfl,rfl,rfl,by decide +kernel,rfl,by decide +kernel,by decide +kernel⟩
theorem z2l{f:Addr}{fd:FuncData}(F:XZ K "_law_hand" "_law_hand" jj f fd):ZY P w K mg base XR 1 f fd ["cell","k"] UX:=by
 refine F.ok UT (fun vs H Q E h=>?_) (fun cdv A outer s H vs Q E hr h=>?_)
 · obtain⟨x,y,rfl,_⟩:=h
   rfl
 · obtain⟨c,kk,rfl,h0,h1,k⟩:=h
   refine⟨_,zo (ZQ (i:=2) UT.nd rfl (Or.inl rfl) zg)
    (zo (Z3 (Zf z0j (pv 0) (zI xN zg zg) (z0 _)) (zC (ZQ (i:=2) UT.nd rfl (Or.inl rfl) (pv 0))) Zr)
    (zC (zS (Uj (zP (pv 2) (zP (zI YR (zI YT (zI ZZ (zI ZZ (zI YR (pv 0) zg) (zI YT zg (pv 1))) zg) zg) zg) zb)))))),?_⟩
   refine⟨_,rfl,_,_,rfl,rfl,⟨by decide,by decide,by decide⟩,_,_,rfl,rfl,_,rfl,?_⟩
   refine if2 (fun h=>?_) (fun h=>?_)
   · have h:(10:Int) ^ (18:Int).toNat≤c:=of_decide_eq_true h
     have h2:(0:Int)≤c:=by
      have:(10:Int) ^ (18:Int).toNat=1000000000000000000:=by decide
      omega
     refine⟨_,rfl,?_⟩
     refine⟨_,rfl,_,rfl,_,_,rfl,rfl,(by show (0:Int)<2147483587;decide),_,rfl,_,_,rfl,rfl,.inl ⟨by decide,by decide⟩,_,_,rfl,rfl,_,_,rfl,rfl,_,_,rfl,rfl,.inr ⟨by decide,by decide⟩,_,_,rfl,rfl,(by show (0:Int)<2147483587;decide),
      (by show 2≤sizeLine;decide),fun p hp=>?_⟩
     exact k p _ hp ⟨_,_,zj,h2,Int.emod_nonneg _ (by decide),Int.emod_lt_of_pos _ (by decide)⟩ (zu.new hp)
   · refine⟨_,rfl,_,rfl,_,_,rfl,rfl,(by show (0:Int)<2147483587;decide),_,rfl,_,_,rfl,rfl,.inl ⟨by decide,by decide⟩,_,_,rfl,rfl,_,_,rfl,rfl,_,_,rfl,rfl,.inr ⟨by decide,by decide⟩,_,_,rfl,rfl,(by show (0:Int)<2147483587;decide),
      (by show 2≤sizeLine;decide),fun p hp=>?_⟩
     exact k p _ hp ⟨_,_,zj,by decide,Int.emod_nonneg _ (by decide),Int.emod_lt_of_pos _ (by decide)⟩ (zu.new hp)
theorem z1C:zT ["hand","limit","got"] ["hand","limit"] (zw xh):=⟨rfl,rfl,rfl,by decide +kernel,rfl,by decide +kernel,by decide +kernel⟩
theorem X7{f:Addr}{fd:FuncData}(F:XZ K "_law_draw" "_law_draw" xh f fd):ZY P w K mg base XR 1 f fd ["hand","limit"] XE:=by
 refine F.ok z1C (fun vs H Q E h=>?_) (fun cdv A outer s H vs Q E hr h=>?_)
 · obtain⟨x,y,rfl,_⟩:=h
   rfl
 · obtain⟨p,lim,rfl,h0,h1,⟨a,b,e,ha,hb,hb2⟩,k⟩:=h
   refine⟨_,zo (Z3 (Zf jq (zD z9 (pv 0) zg (fun _ _=>rfl)) zg (z0 _))
    (zo (ZQ (i:=2) z1C.nd rfl (Or.inl rfl) (zI YR (zD z9 (pv 0) zg (fun _ _=>rfl)) (pv 1)))
    (zo (yT (zI yP (zD z9 (pv 0) zg (fun _ _=>rfl)) (pv 1)) (yV (pv 0) zg set_list))
    (zC (zS (pv 2))))) Zr)
    (zo (yT (zI YR (zI ZZ (zI ZZ (zI YT (zD z9 (pv 0) zg (fun _ _=>rfl)) (zD z9 (pv 0) zg (fun _ _=>rfl))) (zI YT zg (zD z9 (pv 0) zg (fun _ _=>rfl)))) zg) zg) (yV (pv 0) zg set_list))
    (zC (zS (zI YR (zI j3 (zD z9 (pv 0) zg (fun _ _=>rfl)) zg) (pv 1))))),?_⟩
   refine⟨_,rfl,p,_,_,_,rfl,rfl,z7.of e,rfl,_,_,rfl,rfl,_,rfl,?_⟩
   refine if2 (fun h=>?_) (fun h=>?_)
   · have h:0<a:=of_decide_eq_true h
     refine⟨_,rfl,p,_,_,_,rfl,rfl,z7.of e,rfl,_,rfl,_,_,rfl,rfl,h0,?_⟩
     have sl:Sz 9000 lim:=zR 60 (by omega)
     refine⟨_,rfl,p,_,_,_,rfl,rfl,z7.of e,rfl,_,rfl,_,_,rfl,rfl,⟨by omega,sl⟩,_,rfl,p,_,_,0,rfl,rfl,e,rfl,?_⟩
     refine⟨_,rfl,?_⟩
     refine k _ _ (Int.emod_nonneg _ (by omega)) (Int.emod_lt_of_pos _ h0) ⟨_,b,zj,?_,hb,hb2⟩ Kp.set
     rw[Int.fdiv_eq_ediv_of_nonneg _ (by omega)]
     exact Int.ediv_nonneg (by omega) (by omega)
   · refine⟨_,rfl,p,_,_,_,rfl,rfl,z7.of e,rfl,_,rfl,p,_,_,_,rfl,rfl,z7.of e,rfl,_,_,rfl,rfl,.inl ⟨by omega,by omega⟩,_,rfl,p,_,_,_,rfl,rfl,z7.of e,rfl,_,_,rfl,rfl,.inl ⟨by decide,by decide⟩,
      _,_,rfl,rfl,_,_,rfl,rfl,_,_,rfl,rfl,(by show (0:Int)<2147483587;decide),_,rfl,p,_,_,1,rfl,rfl,e,rfl,?_⟩
     refine⟨_,rfl,p,_,_,_,rfl,rfl,z7.of zj,rfl,_,_,rfl,rfl,⟨by decide,by decide⟩,_,rfl,_,_,rfl,rfl,h0,?_⟩
     exact k _ _ (Int.emod_nonneg _ (by omega)) (Int.emod_lt_of_pos _ h0) ⟨a,_,zj,ha,Int.emod_nonneg _ (by decide),Int.emod_lt_of_pos _ (by decide)⟩ Kp.set
theorem z2w:zT ["script","many"] ["script","many"] (zw vF):=⟨rfl,rfl,rfl,by decide +kernel,rfl,by decide +kernel,by decide +kernel⟩
theorem z2B{xs:List V}(h:∀ x∈xs,∃ i:Int,x=.int i):AllInt xs:=fun j x e=>h x (List.mem_of_getElem? e)
theorem JS{f:Addr}{fd:FuncData}(F:XZ K "_law_cells" "_law_cells" vF f fd)(zl:mg "list"=none)(ze:mg "enumerate"=none)(zi:mg "int"=none):ZY P w K mg base XR 1 f fd ["script","many"] (Vb K):=by
 refine F.ok z2w (fun vs H Q E h=>?_) (fun cdv A outer s H vs Q E hr h=>?_)
 · obtain⟨x,y,ns,rfl,_⟩:=h
   rfl
 · obtain⟨a,m,ns,rfl,hS,hlen,k⟩:=h
   refine⟨_,zC (zS (z0D rfl rfl zl rfl ze (zP (zI z0h (Xl z2k (pv 0) X5 (qg (pv 1)))
    (zI z0w (Uj (zP zg zb)) (Zd XO (by rfl) zi boot_int (zP (Zu (qN hr) (pv 0) (Uj zb) (z0 _)) zb)))) zb))),?_⟩
   refine⟨_,rfl,_,rfl,_,rfl,a,_,rfl,hS,fun p1 hp1=>?_⟩
   refine⟨(by show 1≤sizeLine;decide),fun p2 hp2=>?_⟩
   have s1:zu H (upd H p1 (.lst (yl (ns.map V.int) none (some m)))):=zu.new hp1
   have s2:zu (upd H p1 (.lst (yl (ns.map V.int) none (some m)))) (upd (upd H p1 (.lst (yl (ns.map V.int) none (some m)))) p2 (.lst [V.int 0])):=zu.new hp2
   refine⟨_,rfl,(by show 0≤sizeLine;decide),fun p3 hp3=>?_⟩
   have s3:zu (upd (upd H p1 (.lst (yl (ns.map V.int) none (some m)))) p2 (.lst [V.int 0])) (upd (upd (upd H p1 (.lst (yl (ns.map V.int) none (some m)))) p2 (.lst [V.int 0])) p3 (.lst [])):=zu.new hp3
   have sA:=(s1.trans s2).trans s3
   refine⟨a,p3,_,_,ns.map Dt.int,[],rfl,rfl,.inr ⟨sA.seq hS,z7.of zj⟩,XJ _ _ ns,(by simp only[Zp]),(by rw[VP];decide),.inr ⟨_,rfl,?_⟩⟩
   have hp2s:(upd (upd (upd H p1 (.lst (yl (ns.map V.int) none (some m)))) p2 (.lst [V.int 0])) p3 (.lst [])) p2=some (.lst [V.int 0]):=s3 _ _ zj
   generalize hkk:(if (if false=true then !yG (ns.map Dt.int) [] else yG (ns.map Dt.int) [])=true then (1:Int) else 0)=kk
   have hk01:kk=0∨kk=1:=by rw[← hkk];split <;> simp
   refine⟨p2,kk,[V.int 0],rfl,rfl,hp2s,by omega,by omega,?_,fun p4 hp4=>?_⟩
   · have:(sizeLine:Nat)=16777216:=sizeLine_eq
     rw[this]
     simp only[List.length_cons,List.length_nil]
     omega
   have s4:=zu.new (o:=HO.lst (List.replicate kk.toNat [V.int 0]).flatten) hp4
   have hcut:=YX (ns.map V.int) none (some m)
   have hrl:(List.replicate kk.toNat [V.int 0]).flatten.length≤1:=by rw[len_rep];simp only[List.length_cons,List.length_nil];omega
   rw[List.length_map] at hcut
   refine⟨p1,p4,_,_,rfl,rfl,(s2.trans (s3.trans s4)) _ _ zj,zj,?_,fun p5 hp5=>?_⟩
   · have:(sizeLine:Nat)=16777216:=sizeLine_eq
     omega
   have s5:=zu.new (o:=HO.lst (yl (ns.map V.int) none (some m) ++ (List.replicate kk.toNat [V.int 0]).flatten)) hp5
   refine⟨p5,_,rfl,z7.of zj,fun H' L ts sH hL hLl hts hT=>?_⟩
   refine k H' L _ ts (fun b o e=>sH b o (s5 b o (s4 b o (sA b o e)))) ?_ hLl hts hT (z2B fun x hx=>?_) (by rw[List.length_append];omega)
   · exact (sA.trans (s4.trans s5)).free hL
   · rcases List.mem_append.mp hx with hx | hx
     · unfold yl at hx
       obtain⟨n,_,e⟩:=List.mem_map.mp (List.mem_of_mem_drop (List.mem_of_mem_take hx))
       exact⟨n,e.symm⟩
     · obtain⟨l,h1,h2⟩:=List.mem_flatten.mp hx
       rw[List.eq_of_mem_replicate h1] at h2
       exact⟨0,by simpa using h2⟩
theorem z2L:zT ["script"] ["script"] (zw vz):=⟨rfl,rfl,rfl,by decide +kernel,rfl,by decide +kernel,by decide +kernel⟩
theorem z0b{f:Addr}{fd:FuncData}(F:XZ K "_law_great" "_law_great" vz f fd)(zs:mg "sum"=none):ZY P w K mg base XR 1 f fd ["script"] (vG K):=by
 refine F.ok z2L (fun vs H Q E h=>?_) (fun cdv A outer s H vs Q E hr h=>?_)
 · obtain⟨x,ns,rfl,_⟩:=h
   rfl
 · obtain⟨a,ns,rfl,hS,k⟩:=h
   refine⟨_,zC (zS (Zu YI (zI YR (zI j3 (zX (uN rfl) (by rfl) zs boot_sum (zP (pv 0) zb)) zg) zg) zg (z0 _))),?_⟩
   refine⟨_,rfl,a,ns,rfl,hS,_,_,rfl,rfl,⟨by decide,by decide⟩,_,_,rfl,rfl,(by show (0:Int)<8;decide),rfl,?_⟩
   exact k _
theorem z3K:zT ["hand","great","pages","many","starts","links","k"] ["hand","great"] (zw JT):=⟨rfl,rfl,rfl,by decide +kernel,rfl,by decide +kernel,by decide +kernel⟩
theorem ndP:(["page","hand"]:List Str).Nodup:=by decide +kernel
theorem z4Q{f fD:Addr}{fd fdD:FuncData}(F:XZ K "_law_web" "_law_web" JT f fd)(zr:mg "range"=none)(zl:mg "len"=none)(zt:mg "tuple"=none)(zs:mg "sorted"=none)
 (FD:XZ K "_law_draw" "_law_draw" xh fD fdD) (mD:mg "_law_draw"=some (.ref fD)) (bD:Binds K fdD ["hand","limit"] []):ZY P w K mg base XR 2 f fd ["hand","great"] (z0Y K):=by
 have GD:ZY P w K mg base XR 1 fD fdD ["hand","limit"] XE:=X7 FD
 have nd:=z3K.nd
 refine F.ok z3K (fun vs H Q E h=>?_) (fun cdv A outer s H vs Q E hr h=>?_)
 · obtain⟨x,y,rfl,_⟩:=h
   rfl
 · obtain⟨p,great,rfl,hh,k⟩:=h
   refine⟨_,zo (ZQ (i:=2) nd rfl (Or.inl rfl) (zI ZZ zg (Zs GD hr rfl mD FD.kp bD .nil Z6 (zP (pv 0) (zP (zD z9 (Ze (zP zg (zP zg (zP zg zb)))) (Zs GD hr rfl mD FD.kp bD .nil Z6 (zP (pv 0) (zP zg zb))) (fun _ _=>rfl)) zb)))))
    (zo (ZQ (i:=3) nd rfl (Or.inl rfl) (Zs GD hr rfl mD FD.kp bD .nil Z6 (zP (pv 0) (zP (zD z9 (Ze (zP zg (zP (zI ZZ (zI YT zg (pv 2)) zg) (zP zg (zP zg zb))))) (Zs GD hr rfl mD FD.kp bD .nil Z6 (zP (pv 0) (zP zg zb))) (fun _ _=>rfl)) zb))))
    (Xj (Z3 (Yi (pv 1)) (zo (ZQ (i:=2) nd rfl (Or.inl rfl) zg) (zC (ZQ (i:=3) nd rfl (Or.inl rfl) zg))) Zr)
    (zo (ZQ (i:=4) nd rfl (Or.inl rfl) (zI Xn (Zg ["page","hand"] [none,some 0] rfl (Zk rfl zr (zP (pv 2) zb))
     (by show ∀ y:Str×NameKind,y∈_→y.2=NameKind.free→(zw JT).names.lookup y.1=some .cell;decide +kernel) (by decide) rfl (by decide +kernel) ⟨⟨rfl,rfl,.inl rfl⟩,trivial⟩
     (fun cl C s H fp=>zQ (i:=0) ndP rfl (Or.inl rfl) (.inr rfl))
     (fun cl C s H fp=>YD (Zf jq (Zs GD hr rfl mD FD.kp bD .nil Z6 (zP (pv 1) (zP zg zb))) zg (z0 _)))
     (fun cl C s H fp=>pv 0)) (Ze (zP (zI Yx (pv 2) zg) zb))))
    (zo (ZQ (i:=5) nd rfl (Or.inl rfl) (Ze zb))
    (zo (JV PassesOwn.never rfl (Zk rfl zr (zP (pv 3) zb)) (zQ (i:=6) nd rfl (Or.inl rfl))
     (zC (qd (jR PySem.F.plainAttrs_list PySem.F.slot_list_append PySem.F.type_list_append ym (pv 5)
      (zP (zq (zP (zD z9 (pv 4) (Zs GD hr rfl mD FD.kp bD .nil Z6 (zP (pv 0) (zP (zX Zh (by rfl) zl boot_len (zP (pv 4) zb)) zb))) (fun _ _=>rfl))
       (zP (Zs GD hr rfl mD FD.kp bD .nil Z6 (zP (pv 0) (zP (pv 2) zb))) zb))) zb)))))
    (zC (zS (zq (zP (pv 2) (zP (Zd ZK (by rfl) zt boot_tuple (zP (zX Qx (by rfl) zs boot_sorted (zP (pv 5) zb)) zb)) zb)))))))))),?_⟩
   refine⟨_,rfl,(by show 3≤sizeLine;decide),fun l1 H1 s1 n1 e1=>?_⟩
   refine⟨_,rfl,p,3,rfl,by decide,by decide,hh.same s1,fun v1 H2 a1 b1 h2 k2=>?_⟩
   have q1:H2 l1=_:=k2 l1 _ e1 (hh.ne n1)
   obtain⟨lim,hm,hat⟩:=Xu (ns:=[4,8,12]) a1 (by simpa using b1)
   have hlim:4≤lim∧lim≤12:=by simp at hm;omega
   refine⟨l1,_,v1,.int lim,rfl,rfl,z7.of q1,hat,?_⟩
   refine⟨p,lim,rfl,by omega,by omega,h2,fun v2 H3 a2 b2 h3 k3=>?_⟩
   have K3:Kp p H H3:=(zu.kp s1).trans (k2.trans k3)
   refine⟨_,_,rfl,rfl,?_⟩
   refine⟨_,rfl,_,rfl,_,_,rfl,rfl,.inl ⟨by decide,by decide⟩,_,_,rfl,rfl,(by show 4≤sizeLine;decide),fun l2 H4 s4 n4 e4=>?_⟩
   refine⟨_,rfl,p,4,rfl,by decide,by decide,h3.same s4,fun v3 H5 a3 b3 h5 k5=>?_⟩
   have q4:H5 l2=_:=k5 l2 _ e4 (h3.ne n4)
   obtain⟨lim2,hm2,hat2⟩:=Xu (ns:=[4,2 * (1+v2)+1,25,61]) a3 (by simpa using b3)
   have hlim2:3≤lim2∧lim2≤61:=by simp at hm2;omega
   refine⟨l2,_,v3,.int lim2,rfl,rfl,z7.of q4,hat2,?_⟩
   refine⟨p,lim2,rfl,by omega,by omega,h5,fun v4 H6 a4 b4 h6 k6=>?_⟩
   have K6:Kp p H H6:=K3.trans ((zu.kp s4).trans (k5.trans k6))
   refine⟨fun σ H'=>H6=H'∧∃ pages many:Int,1≤pages∧pages≤12∧0≤many∧many≤60∧σ=[some (.ref p),some (.bl great),some (.int pages),some (.int many),none,none,none],?_,?_⟩
   · refine⟨_,rfl,great,rfl,?_⟩
     cases great with
     | true=>exact z6n ⟨rfl,12,60,by decide,by decide,by decide,by decide,rfl⟩
     | false=>exact z4f ⟨rfl,1+v2,v4,by omega,by omega,by omega,by omega,rfl⟩
   rintro σ H' ⟨rfl,pages,many,hp1,hp2,hm1,hm2',rfl⟩
   refine⟨_,rfl,pages,rfl,by omega,by omega,fun D hD=>?_⟩
   have hDp:=h6.ne hD
   refine Z1 (lo:=0) (n:=pages.toNat) (D:=D) (fun i ys σ H'=>z4 H' p∧Kp p H6 H'∧H' D=some (.lst ys)∧(∃ ns:List Int,ys=ns.map V.int∧ns.length≤i∧∀ n∈ns,0≤n∧n<pages)∧∃ x,σ=[x,some (.ref p)]) ?_ ?_ ?_ ?_
   · exact⟨h6.new hD,Kp.new hD,zj,⟨[],rfl,Nat.le_refl _,fun n hn=>by simp at hn⟩,none,rfl⟩
   · rintro i ys σ H' ⟨_,_,e,_⟩
     exact e
   · rintro i ys σ H' hi ⟨g1,g2,g3,⟨ns,rfl,g4,g5⟩,x,rfl⟩
     refine⟨_,rfl,p,4,rfl,by decide,by decide,g1,fun v H7 a b h7 k7=>?_⟩
     have g3':H7 D=_:=k7 D _ g3 hDp
     refine⟨_,_,rfl,rfl,_,rfl,?_⟩
     refine if2 (fun _=>?_) (fun _=>?_)
     · refine⟨_,rfl,g3',?_,Wt.next hi ⟨h7.set (Ne.symm hDp),fun b o e n=>?_,zj,⟨ns ++ [0+(i:Int)],?_,?_,?_⟩,_,rfl⟩⟩
       · rw[List.length_map]
         exact zU (by omega)
       · have hb:b≠D:=zh e hD
         rw[zp hb];exact k7 b o (g2 b o e n) n
       · rw[List.map_append];rfl
       · rw[List.length_append,List.length_singleton];omega
       · intro n hn
         rcases List.mem_append.mp hn with hn | hn
         · exact g5 n hn
         · simp at hn
           omega
     · exact Wt.next hi ⟨h7,g2.trans k7,g3',⟨ns,rfl,by omega,g5⟩,_,rfl⟩
   rintro ys σ H7 ⟨g1,g2,g3,⟨ns,rfl,g4,g5⟩,_⟩
   refine⟨_,rfl,_,_,rfl,rfl,(by show 1≤sizeLine;decide),fun l3 H8 s8 n8 e8=>?_⟩
   refine⟨D,l3,ns.map V.int,[V.int (pages - 1)],rfl,rfl,s8 _ _ g3,e8,?_,fun st H9 s9 n9 e9=>?_⟩
   · rw[List.length_map]
     exact Nat.le_of_lt (zU (by simp;omega))
   have e9':H9 st=some (.lst ((ns ++ [pages - 1]).map V.int)):=by rw[List.map_append];exact e9
   have hst:∀ n∈ns ++ [pages - 1],0≤n∧n<pages:=fun n hn=>by
    rcases List.mem_append.mp hn with hn | hn
    · exact g5 n hn
    · simp at hn
      omega
   generalize hss:ns ++ [pages - 1]=ss at e9' hst
   have hsl:1≤ss.length∧ss.length≤13:=by rw[← hss,List.length_append,List.length_singleton];omega
   have h9:z4 H9 p:=(g1.same s8).same s9
   have K9:Kp p H H9:=K6.trans (g2.trans ((zu.kp s8).trans (zu.kp s9)))
   refine⟨(by show 0≤sizeLine;decide),fun lk HA sA nA eA=>?_⟩
   have hA:=h9.same sA
   have KA:Kp p H HA:=K9.trans (zu.kp sA)
   have lkn:H lk=none:=K9.free h9 nA
   have stp:st≠p:=(g1.same s8).ne n9
   have lkp:lk≠p:=h9.ne nA
   have stlk:st≠lk:=zh e9' nA
   refine⟨_,rfl,many,rfl,by omega,by omega,?_⟩
   refine Z5 (lo:=0) (n:=many.toNat) (fun i σ H'=>z4 H' p∧Kp p H H'∧H' st=some (.lst (ss.map V.int))∧(∃ (vs:List V) (ps:List (Int×Int)),H' lk=some (.lst vs)∧xT K H' ps vs∧ps.length=i∧∀ q∈ps,0≤q.1∧q.1<pages∧0≤q.2∧q.2<pages) ∧
    ∃ kv,σ=[some (.ref p),some (.bl great),some (.int pages),some (.int many),some (.ref st),some (.ref lk),kv]) ?_ ?_ ?_
   · exact⟨hA,KA,sA _ _ e9',⟨[],[],eA,Xh,rfl,fun q hq=>by simp at hq⟩,none,rfl⟩
   · rintro i σ H' hi ⟨c1,c2,c3,⟨vs,ps,c4,c5,c6,c7⟩,kv,rfl⟩
     refine⟨_,rfl,.inl ⟨rfl,_,z7.of c4⟩,?_⟩
     refine⟨_,rfl,_,rfl,_,rfl,st,_,rfl,.inl (z7.of c3),p,_,rfl,?_,?_,c1,fun v HB a b hB kB=>?_⟩
     · show (0:Int)<((ss.map V.int).length:Nat)
       rw[List.length_map];omega
     · show (((ss.map V.int).length:Nat):Int)<2 ^ 60
       rw[List.length_map];omega
     have b':v<ss.length:=by rw[List.length_map] at b;exact b
     obtain⟨z,hz,hzat⟩:=Xu (ns:=ss) a b'
     refine⟨st,_,v,.int z,rfl,rfl,z7.of (kB _ _ c3 stp),hzat,?_⟩
     refine⟨_,rfl,_,rfl,p,pages,rfl,by omega,by omega,hB,fun v' HC a' b'' hC kC=>?_⟩
     refine⟨(by show 2≤sizeLine;decide),fun t HE sE nE eE=>?_⟩
     have klE:KL H' HE:=(c1.kl kB).trans ((hB.kl kC).trans sE.kl)
     have kpE:Kp p H' HE:=kB.trans (kC.trans (zu.kp sE))
     have lkE:HE lk=some (.lst vs):=kpE _ _ c4 lkp
     have hE:=hC.same sE
     have szz:=hst z hz
     refine⟨lk,vs,_,rfl,rfl,lkE,?_,?_⟩
     · rw[c5.len,c6]
       exact zU (by omega)
     have klF:KL HE (upd HE lk (.lst (vs ++ [.ref t]))):=KL.set lkE
     refine⟨hE.set (Ne.symm lkp),fun x o e n=>?_,?_,⟨vs ++ [.ref t],ps ++ [(z,v')],zj,?_,?_,?_⟩,_,rfl⟩
     · rw[zp (zh e lkn)]
       exact kpE x o (c2 x o e n) n
     · rw[zp stlk]
       exact kpE _ _ c3 stp
     · exact xT.snoc (p:=(z,v')) (klF.V9 (z5.of eE)) ((c5.kl klE).kl klF)
     · rw[List.length_append,List.length_singleton];omega
     · intro q hq
       rcases List.mem_append.mp hq with hq | hq
       · exact c7 q hq
       · simp at hq
         subst hq
         exact⟨szz.1,szz.2,a',b''⟩
   · rintro σ H' ⟨c1,c2,c3,⟨vs,ps,c4,c5,c6,c7⟩,kv,rfl⟩
     refine⟨_,rfl,_,rfl,lk,vs,ps,rfl,z7.of c4,c5,by omega,fun us ms D2 HD pm up hp2 sD hD2 eD2=>?_⟩
     refine⟨D2,us,rfl,z7.of eD2,fun ws HF sF nF eF=>?_⟩
     refine⟨(by show 2≤sizeLine;decide),fun wa HG sG nG eG=>?_⟩
     have sAll:zu H' HG:=sD.trans (sF.trans sG)
     refine k wa HG pages ms ⟨hp1,‹pages≤12›,?_,up,fun q hq=>c7 q (pm.mem_iff.mp hq)⟩ ⟨ws,us,eG,sG _ _ eF,(hp2.kl sF.kl).kl sG.kl⟩ (c1.same sAll) (c2.trans (zu.kp sAll))
     rw[pm.length_eq,c6]
     omega
theorem jK:zT ["hand","below","some"] ["hand"] (zw VC):=⟨rfl,rfl,rfl,by decide +kernel,rfl,by decide +kernel,by decide +kernel⟩
theorem z0t{f fD fF:Addr}{fd fdD fdF:FuncData}(F:XZ K "_law_leap" "_law_leap" VC f fd)(zabs:mg "abs"=none)(FD:XZ K "_law_draw" "_law_draw" xh fD fdD)(mD:mg "_law_draw"=some (.ref fD))(bD:Binds K fdD ["hand","limit"] [])
 (FF:XZ K "_law_frac" "_law_frac" XY fF fdF) (mF:mg "_law_frac"=some (.ref fF)) (bF:Binds K fdF ["above","below"] []):ZY P w K mg base XR 2 f fd ["hand"] (U0 K):=by
 have GD:ZY P w K mg base XR 1 fD fdD ["hand","limit"] XE:=X7 FD
 have GF:ZY P w K mg base XR 1 fF fdF ["above","below"] Yd:=z0r (Vf FF zabs)
 have nd:=jK.nd
 refine F.ok jK (fun vs H Q E h=>?_) (fun cdv A' outer s H vs Q E hr h=>?_)
 · obtain⟨x,rfl,_⟩:=h
   rfl
 · obtain⟨p,rfl,hh,k⟩:=h
   refine⟨_,@zo _ _ _ _ _ (@zK _ _ 1 _ _ _ _ (by rfl) (Or.inl rfl) nd rfl (Or.inl rfl) (zI ZZ (zI YT zg (zI xN zg zg)) (Zs GD hr rfl mD FD.kp bD .nil Z6 (@za _ _ _ _ _ (by rfl) (pv 0) (@za _ _ _ _ _ (by rfl) (zI xN zg zg) zb)))))
    (@zo _ _ _ _ _ (@zK _ _ 2 _ _ _ _ (by rfl) (Or.inl rfl) nd rfl (Or.inl rfl) (@Ze _ _ _ _ (@za _ _ _ _ _ (by rfl) (@zq _ _ _ _ _ (@za _ _ _ _ _ (by rfl) zg (@za _ _ _ _ _ (by rfl) zg zb))) (@za _ _ _ _ _ (by rfl) (@zq _ _ _ _ _ (@za _ _ _ _ _ (by rfl) zg (@za _ _ _ _ _ (by rfl) zg zb))) (@za _ _ _ _ _ (by rfl) (@zq _ _ _ _ _ (@za _ _ _ _ _ (by rfl) zg (@za _ _ _ _ _ (by rfl) zg zb)))
     (@za _ _ _ _ _ (by rfl) (Zs GF hr rfl mF FF.kp bF .nil Z6 (@za _ _ _ _ _ (by rfl) (zI ZZ zg (Zs GD hr rfl mD FD.kp bD .nil Z6 (@za _ _ _ _ _ (by rfl) (pv 0) (@za _ _ _ _ _ (by rfl) zg zb)))) (@za _ _ _ _ _ (by rfl) zg zb))) zb))))))
    (@zo _ _ _ _ _ (qd (jR PySem.F.plainAttrs_list PySem.F.slot_list_append PySem.F.type_list_append ym (pv 2) (@za _ _ _ _ _ (by rfl) (Zs GF hr rfl mF FF.kp bF .nil Z6 (@za _ _ _ _ _ (by rfl) (zI ZZ zg (Zs GD hr rfl mD FD.kp bD .nil Z6 (@za _ _ _ _ _ (by rfl) (pv 0) (@za _ _ _ _ _ (by rfl) (zI YT zg (zI xN zg zg)) zb)))) (@za _ _ _ _ _ (by rfl) (pv 1) zb))) zb)))
    (@zC _ _ _ (@zS _ _ _ _ (zD z9 (pv 2) (Zs GD hr rfl mD FD.kp bD .nil Z6 (@za _ _ _ _ _ (by rfl) (pv 0) (@za _ _ _ _ _ (by rfl) zg zb))) (fun _ _=>rfl)))))),?_⟩
   refine⟨_,_,rfl,rfl,⟨by decide,by decide,by decide⟩,_,_,rfl,rfl,.inl ⟨by decide,by decide⟩,_,rfl,_,_,rfl,rfl,⟨by decide,by decide,by decide⟩,p,_,rfl,by decide,by decide,hh,fun v1 H1 a1 b1 h1 k1=>⟨_,_,rfl,rfl,?_⟩⟩
   have b1':v1<100000000000:=b1
   refine⟨(by show 2≤sizeLine;decide),fun q1 G1 s1 n1 e1=>⟨(by show 2≤sizeLine;decide),fun q2 G2 s2 n2 e2=>⟨(by show 2≤sizeLine;decide),fun q3 G3 s3 n3 e3=>?_⟩⟩⟩
   have h3:=((h1.same s1).same s2).same s3
   refine⟨_,rfl,p,99,rfl,by decide,by decide,h3,fun v2 H2 a2 b2 h2 k2=>?_⟩
   refine⟨_,_,rfl,rfl,_,_,rfl,(by decide:(0:Int)<100),zR 41 (by omega),zR 41 (by decide),fun q4 G4 s4 n4 e4=>?_⟩
   refine⟨(by show 4≤sizeLine;decide),fun l G5 s5 n5 e5=>?_⟩
   have f1:xB K G5 q1 (1,1):=s5 _ _ (s4 _ _ (Kp.frA (K:=K) k2 (xB.ne (A:=(1,1)) (K:=K) (s3 _ _ (s2 _ _ e1)) h3) (s3 _ _ (s2 _ _ e1))))
   have f2:xB K G5 q2 (1,2):=s5 _ _ (s4 _ _ (Kp.frA (K:=K) k2 (xB.ne (A:=(1,2)) (K:=K) (s3 _ _ e2) h3) (s3 _ _ e2)))
   have f3:xB K G5 q3 (3,20):=s5 _ _ (s4 _ _ (Kp.frA (K:=K) k2 (xB.ne (A:=(3,20)) (K:=K) e3 h3) e3))
   have f4:xB K G5 q4 (Pw.mk (1+v2) 100):=s5 _ _ e4
   have h5:=(h2.same s4).same s5
   have L5:Zl K G5 [(1,1),(1,2),(3,20),Pw.mk (1+v2) 100] [.ref q1,.ref q2,.ref q3,.ref q4]:=⟨q1,_,rfl,f1,q2,_,rfl,f2,q3,_,rfl,f3,q4,_,rfl,f4,rfl⟩
   have K5:Kp p H G5:=k1.trans ((zu.kp (s1.trans (s2.trans s3))).trans (k2.trans (zu.kp (s4.trans s5))))
   have ln:H l=none:=(k1.trans ((zu.kp (s1.trans (s2.trans s3))).trans (k2.trans (zu.kp s4)))).free (h2.same s4) n5
   have lp:l≠p:=(h2.same s4).ne n5
   clear f1 f2 f3 f4 s1 s2 s3 s4 s5 k1 k2 n1 n2 n3 n4 e1 e2 e3 e4
   refine⟨_,rfl,.inl ⟨rfl,_,z7.of e5⟩,?_⟩
   refine⟨_,rfl,_,_,rfl,rfl,⟨by decide,by decide,by decide⟩,_,_,rfl,rfl,.inl ⟨by decide,by decide⟩,p,_,rfl,by decide,by decide,h5,fun v3 H6 a3 b3 h6 k6=>?_⟩
   have b3':v3<900000000000:=b3
   have eb:(9:Int) * (10:Int) ^ (11:Int).toNat+v1=900000000000+v1:=by
    have:(10:Int) ^ (11:Int).toNat=100000000000:=by decide
    rw[this];omega
   refine⟨_,_,rfl,rfl,_,rfl,_,_,rfl,(by rw[eb];omega),zR 41 (by omega),zR 41 (by rw[eb];omega),fun q5 G7 s7 n7 e7=>?_⟩
   have el7:G7 l=_:=s7 _ _ (k6 _ _ e5 lp)
   refine⟨l,_,_,rfl,rfl,el7,zU (by show 4≤1000;decide),?_⟩
   have h7:=h6.same s7
   have L7:Zl K G7 [(1,1),(1,2),(3,20),Pw.mk (1+v2) 100] [.ref q1,.ref q2,.ref q3,.ref q4]:=L5.kp ((h5.kl k6).trans s7.kl)
   have L8:=(L7.snoc (A:=Pw.mk (1+v3) (9 * 10 ^ (11:Int).toNat+v1)) e7).kp (KL.set (ys:=[.ref q1,.ref q2,.ref q3,.ref q4] ++ [.ref q5]) el7)
   have h8:z4 (upd G7 l (.lst ([.ref q1,.ref q2,.ref q3,.ref q4] ++ [.ref q5]))) p:=h7.set (Ne.symm lp)
   have e8:(upd G7 l (.lst ([.ref q1,.ref q2,.ref q3,.ref q4] ++ [.ref q5]))) l=some (.lst ([.ref q1,.ref q2,.ref q3,.ref q4] ++ [.ref q5])):=zj
   have K8:Kp p H (upd G7 l (.lst ([.ref q1,.ref q2,.ref q3,.ref q4] ++ [.ref q5]))):=fun b o e n=>by
    rw[zp (zh e ln)]
    exact s7 _ _ (k6 _ _ (K5 _ _ e n) n)
   refine⟨_,rfl,_,rfl,p,5,rfl,by decide,by decide,h8,fun v4 H9 a4 b4 h9 k9=>?_⟩
   have L9:=L8.kp (h8.kl k9)
   obtain⟨q,A,hA,fA,hat⟩:=L9.jt a4 (by simpa using b4)
   refine⟨l,_,v4,.ref q,rfl,rfl,z7.of (k9 _ _ e8 lp),hat,?_⟩
   have key:Pw.Canon A∧0<A.1∧A.1≤A.2∧Z9 41 A:=by
    simp only[List.cons_append,List.nil_append,List.mem_cons,List.not_mem_nil,or_false] at hA
    rcases hA with rfl | rfl | rfl | rfl | rfl
    · exact⟨⟨by decide,by decide⟩,by decide,by decide,zR 41 (by decide),zR 41 (by decide)⟩
    · exact⟨⟨by decide,by decide⟩,by decide,by decide,zR 41 (by decide),zR 41 (by decide)⟩
    · exact⟨⟨by decide,by decide⟩,by decide,by decide,zR 41 (by decide),zR 41 (by decide)⟩
    · exact⟨(Pw.ZV (by decide)).1,Pw.mk_pos (by decide) (by omega),Pw.z1y (by decide) (by omega),xq (by decide) (zR 41 (by omega)) (zR 41 (by decide))⟩
    · rw[eb]
      exact⟨(Pw.ZV (by omega)).1,Pw.mk_pos (by omega) (by omega),Pw.z1y (by omega) (by omega),xq (by omega) (zR 41 (by omega)) (zR 41 (by omega))⟩
   exact k q H9 A key.1 key.2.1 key.2.2.1 key.2.2.2 h9 fA (K8.trans k9)
theorem uS:zT ["hand","pages","kind","weights","at"] ["hand","pages"] (zw YB):=⟨rfl,rfl,rfl,by decide +kernel,rfl,by decide +kernel,by decide +kernel⟩
theorem ndA:(["page","hand","kind"]:List Str).Nodup:=by decide +kernel
theorem ndB:(["page","at"]:List Str).Nodup:=by decide +kernel
theorem ndC:(["weight","weights"]:List Str).Nodup:=by decide +kernel
theorem Jt{f fD fF:Addr}{fd fdD fdF:FuncData}(F:XZ K "_law_leaps" "_law_leaps" YB f fd)(zabs:mg "abs"=none)(zr:mg "range"=none)(zi:mg "int"=none)(zt:mg "tuple"=none)(zs:mg "sum"=none)
 (FD:XZ K "_law_draw" "_law_draw" xh fD fdD) (mD:mg "_law_draw"=some (.ref fD)) (bD:Binds K fdD ["hand","limit"] [])
 (FF:XZ K "_law_frac" "_law_frac" XY fF fdF) (mF:mg "_law_frac"=some (.ref fF)) (bF:Binds K fdF ["above","below"] []):ZY P w K mg base XR 2 f fd ["hand","pages"] (VI K):=by
 have GD:ZY P w K mg base XR 1 fD fdD ["hand","limit"] XE:=X7 FD
 have GF:ZY P w K mg base XR 1 fF fdF ["above","below"] Yd:=z0r (Vf FF zabs)
 have nd:=uS.nd
 refine F.ok uS (fun vs H Q E h=>?_) (fun cdv A' outer s H vs Q E hr h=>?_)
 · obtain⟨x,y,rfl,_⟩:=h
   rfl
 · obtain⟨p,pages,rfl,plo,phi,hh,k⟩:=h
   refine⟨_,@zo _ _ _ _ _ (@zK _ _ 2 _ _ _ _ (by rfl) (Or.inl rfl) nd rfl (Or.inr rfl) (Zs GD hr rfl mD FD.kp bD .nil Z6 (@za _ _ _ _ _ (by rfl) (pv 0) (@za _ _ _ _ _ (by rfl) zg zb))))
    (@zo _ _ _ _ _ (@Z3 _ _ _ _ _ _ _ _ (Zf YI (pv 2) zg (z0 _)) (@zC _ _ _ (@zS _ _ _ _ (zI qm (@zq _ _ _ _ _ (@za _ _ _ _ _ (by rfl) (@zq _ _ _ _ _ (@za _ _ _ _ _ (by rfl) zg (@za _ _ _ _ _ (by rfl) (pv 1) zb))) zb)) (pv 1)))) Zr)
    (@zo _ _ _ _ _ (@zK _ _ 3 _ _ _ _ (by rfl) (Or.inl rfl) nd rfl (Or.inr rfl) (Zg ["page","hand","kind"] [none,some 0,some 2] rfl (Zk rfl zr (@za _ _ _ _ _ (by rfl) (pv 1) zb))
     (by show ∀ y:Str×NameKind,y∈_→y.2=NameKind.free→(zw YB).names.lookup y.1=some .cell;decide +kernel) (by decide) rfl (by decide +kernel) ⟨⟨rfl,rfl,.inl rfl⟩,⟨rfl,rfl,.inl rfl⟩,trivial⟩
     (fun cl C s H fp=>zQ (i:=0) ndA rfl (Or.inl rfl) (.inr rfl)) (fun cl C s H fp=>Zz)
     (fun cl C s H fp=>Zs GD hr rfl mD FD.kp bD .nil Z6 (@za _ _ _ _ _ (by rfl) (pv 1) (@za _ _ _ _ _ (by rfl) (zD (ZG (K:=K) rfl) (@Ze _ _ _ _ (@za _ _ _ _ _ (by rfl) zg (@za _ _ _ _ _ (by rfl) zg (@za _ _ _ _ _ (by rfl) (zI YT zg (zI xN zg zg)) zb)))) (zI Yx (pv 2) zg) (fun _ _=>rfl)) zb)))))
    (@zo _ _ _ _ _ (z2f (pv 3) (Zs GD hr rfl mD FD.kp bD .nil Z6 (@za _ _ _ _ _ (by rfl) (pv 0) (@za _ _ _ _ _ (by rfl) (pv 1) zb))) z1D zg z4s set_list)
    (@Xj _ _ _ _ _ (@Z3 _ _ _ _ _ _ _ _ (Zf YI (pv 2) zg (z0 _)) (@zo _ _ _ _ _ (@zK _ _ 4 _ _ _ _ (by rfl) (Or.inl rfl) nd rfl (Or.inr rfl) (Zs GD hr rfl mD FD.kp bD .nil Z6 (@za _ _ _ _ _ (by rfl) (pv 0) (@za _ _ _ _ _ (by rfl) (pv 1) zb))))
     (@zC _ _ _ (@zK _ _ 3 _ _ _ _ (by rfl) (Or.inl rfl) nd rfl (Or.inr rfl) (Zg ["page","at"] [none,some 4] rfl (Zk rfl zr (@za _ _ _ _ _ (by rfl) (pv 1) zb))
     (by show ∀ y:Str×NameKind,y∈_→y.2=NameKind.free→(zw YB).names.lookup y.1=some .cell;decide +kernel) (by decide) rfl (by decide +kernel) ⟨⟨rfl,rfl,.inl rfl⟩,trivial⟩
     (fun cl C s H fp=>zQ (i:=0) ndB rfl (Or.inl rfl) (.inr rfl)) (fun cl C s H fp=>Zz)
     (fun cl C s H fp=>Zd XO (by rfl) zi boot_int (@za _ _ _ _ _ (by rfl) (Zu YI (pv 0) (pv 1) (z0 _)) zb)))))) Zr)
    (@zC _ _ _ (@zS _ _ _ _ (Zd ZK (by rfl) zt boot_tuple (@za _ _ _ _ _ (by rfl) (Zg ["weight","weights"] [none,some 3] rfl (yI (pv 3))
     (by show ∀ y:Str×NameKind,y∈_→y.2=NameKind.free→(zw YB).names.lookup y.1=some .cell;decide +kernel) (by decide) rfl (by decide +kernel) ⟨⟨rfl,rfl,.inl rfl⟩,trivial⟩
     (fun cl C s H fp=>zQ (i:=0) ndC rfl (Or.inl rfl) (.inr rfl)) (fun cl C s H fp=>Zz)
     (fun cl C s H fp=>Zs GF hr rfl mF FF.kp bF .nil Z6 (@za _ _ _ _ _ (by rfl) (pv 0) (@za _ _ _ _ _ (by rfl) (zX (QT (K:=K) rfl rfl) (by rfl) zs boot_sum (@za _ _ _ _ _ (by rfl) (pv 1) zb)) zb)))) zb)))))))),?_⟩
   refine⟨_,rfl,p,4,rfl,by decide,by decide,hh,fun kd H1 a1 b1 h1 k1=>?_⟩
   refine⟨_,rfl,rfl,_,rfl,if2 (fun hk=>?_) (fun hk=>?_)⟩
   · refine⟨_,rfl,(by show 2≤sizeLine;decide),fun r G1 s1 n1 e1=>⟨(by show 1≤sizeLine;decide),fun t G2 s2 n2 e2=>?_⟩⟩
     refine⟨_,rfl,t,pages,_,rfl,rfl,e2,by simp,plo,by omega,?_,fun q H' s3 e3=>?_⟩
     · show 1 * pages.toNat≤sizeLine
       exact Nat.le_of_lt (zU (by omega))
     · have f:xB K H' r (1,pages):=s3 _ _ (s2 _ _ e1)
       have hs:(List.replicate pages.toNat (1:Int)).sum=pages:=by rw[List.sum_replicate_int];omega
       refine k q H' (List.replicate pages.toNat 1) _ ⟨by rw[List.length_replicate];omega,fun w hw=>?_,by rw[hs];omega⟩ (((h1.same s1).same s2).same s3) e3 ?_ (k1.trans (zu.kp (s1.trans (s2.trans s3))))
       · rw[(List.mem_replicate.mp hw).2];decide
       · unfold Uo
         rw[hs,List.map_replicate,Pw.z7R (by omega)]
         exact Zl.rep f _
   have hk0:kd≠0:=fun z=>by
    subst z
    exact absurd rfl (of_decide_eq_false hk)
   refine⟨_,rfl,pages,rfl,by omega,by omega,fun D hD=>?_⟩
   have hDp:=h1.ne hD
   refine Z1 (lo:=0) (n:=pages.toNat) (D:=D) (fun i ys σ H'=>z4 H' p∧Kp p H1 H'∧H' D=some (.lst ys)∧(∃ ns:List Int,ys=ns.map V.int∧ns.length=i∧∀ n∈ns,0≤n∧n<80000000000)∧∃ x,σ=[x,some (.ref p),some (.int kd)]) ?_ ?_ ?_ ?_
   · exact⟨h1.new hD,Kp.new hD,zj,⟨[],rfl,rfl,fun n hn=>by simp at hn⟩,none,rfl⟩
   · rintro i ys σ H' ⟨_,_,e,_⟩
     exact e
   · rintro i ys σ H' hi ⟨g1,g2,g3,⟨ns,rfl,g4,g5⟩,x,rfl⟩
     dsimp only [ZU]
     rw[if_pos rfl]
     refine⟨_,rfl,_,_,rfl,rfl,⟨by decide,by decide,by decide⟩,_,_,rfl,rfl,.inl ⟨by decide,by decide⟩,(by show 3≤sizeLine;decide),fun l G s n e=>?_⟩
     obtain⟨lim,hm,hat⟩:=Xu (ns:=[2,4,8 * 10 ^ (10:Int).toNat]) (i:=kd - 1) (by omega) (by show kd - 1<3;omega)
     have hlim:2≤lim∧lim≤80000000000:=by
      have e0:(10:Int) ^ (10:Int).toNat=10000000000:=by decide
      rw[e0] at hm
      simp at hm
      omega
     refine⟨_,rfl,_,_,rfl,rfl,l,_,kd - 1,.int lim,rfl,rfl,z7.of e,hat,p,lim,rfl,by omega,by omega,g1.same s,fun v H7 a b h7 k7=>?_⟩
     have g3':H7 D=_:=k7 D _ (s _ _ g3) hDp
     refine⟨g3',zU (by rw[List.length_map];omega),Wt.next hi ⟨h7.set (Ne.symm hDp),fun b o e n=>?_,zj,⟨ns ++ [v],?_,?_,?_⟩,_,rfl⟩⟩
     · rw[zp (zh e hD)];exact k7 b o (s _ _ (g2 b o e n)) n
     · rw[List.map_append];rfl
     · rw[List.length_append,List.length_singleton];omega
     · intro n hn
       rcases List.mem_append.mp hn with hn | hn
       · exact g5 n hn
       · simp at hn
         omega
   rintro ys σ H2 ⟨g1,g2,g3,⟨ns,rfl,g4,g5⟩,_⟩
   refine⟨_,rfl,_,rfl,_,rfl,p,pages,rfl,by omega,by omega,g1,fun v H3 a3 b3 h3 k3=>?_⟩
   obtain⟨j,rfl⟩:∃ j:Nat,v=j:=⟨v.toNat,by omega⟩
   have hj:j<ns.length:=by omega
   have e3:H3 D=some (.lst (ns.map V.int)):=k3 _ _ g3 hDp
   refine⟨D,_,(j:Int),.int ns[j],rfl,rfl,z7.of e3,zY (by simp[hj]),_,_,rfl,rfl,D,_,(j:Int),j,rfl,rfl,e3,?_,?_⟩
   · unfold ixN
     rw[if_pos (by omega),if_pos (by rw[List.length_map];omega),Int.toNat_natCast]
   have eU:(upd H3 D (.lst ((ns.map V.int).set j (.int (ns[j]+1))))) D=some (.lst ((ns.set j (ns[j]+1)).map V.int)):=by rw[zj,List.map_set]
   have hU:z4 (upd H3 D (.lst ((ns.map V.int).set j (.int (ns[j]+1))))) p:=h3.set (Ne.symm hDp)
   have kU:Kp p H (upd H3 D (.lst ((ns.map V.int).set j (.int (ns[j]+1))))):=fun b o e n=>by
    rw[zp (zh (k1 _ _ e n) hD)]
    exact k3 _ _ (g2 _ _ (k1 _ _ e n) n) n
   have wU:JW pages (ns.set j (ns[j]+1)):=by
    have hz:=g5 ns[j] (List.getElem_mem hj)
    have nn:∀ n∈ns.set j (ns[j]+1),0≤n∧n<2 ^ 37:=fun n hn=>by
     rcases List.mem_or_eq_of_mem_set hn with hn | hn
     · have:=g5 n hn
       omega
     · omega
    refine⟨by rw[List.length_set];omega,nn,Pw.Vy (m:=ns[j]+1) (fun n hn=>(nn n hn).1) (List.mem_set hj _) (by omega)⟩
   generalize upd H3 D (.lst ((ns.map V.int).set j (.int (ns[j]+1))))=U at *
   generalize ns.set j (ns[j]+1)=ws at *
   clear g1 g2 g3 g4 g5 e3 k3 h3 a3 b3
   refine⟨fun σ H'=>∃ (W:Addr) (ws:List Int) (v4:Option V),JW pages ws∧H' W=some (.lst (ws.map V.int))∧z4 H' p∧Kp p H H'∧σ=[some (.ref p),some (.int pages),some (.int kd),some (.ref W),v4],?_,?_⟩
   · refine⟨_,rfl,rfl,_,rfl,if2 (fun _=>?_) (fun _=>?_)⟩
     · refine⟨_,rfl,_,rfl,p,pages,rfl,by omega,by omega,hU,fun v H4 a4 b4 h4 k4=>?_⟩
       refine⟨_,rfl,pages,rfl,by omega,by omega,fun D2 hD2=>?_⟩
       refine Z1 (lo:=0) (n:=pages.toNat) (D:=D2) (fun i ys σ H'=>zu H4 H'∧H' D2=some (.lst ys)∧ys=((List.range i).map fun (m:Nat)=>if (m:Int)=v then (1:Int) else 0).map V.int∧∃ x,σ=[x,some (.int v)]) ?_ ?_ ?_ ?_
       · exact⟨zu.new hD2,zj,rfl,none,rfl⟩
       · rintro i ys σ H' ⟨_,e,_⟩
         exact e
       · rintro i ys σ H' hi ⟨g1,g2,rfl,x,rfl⟩
         dsimp only [ZU]
         rw[if_pos rfl]
         refine⟨_,rfl,_,rfl,rfl,.inr ⟨_,rfl,g2,zU (by rw[List.length_map,List.length_map,List.length_range];omega),Wt.next hi ⟨fun b o e=>?_,zj,?_,_,rfl⟩⟩⟩
         · rw[zp (zh e hD2)];exact g1 _ _ e
         · rw[List.range_succ,List.map_append,List.map_append]
           by_cases c:(i:Int)=v <;> simp[c]
       · rintro ys σ H' ⟨g1,g2,rfl,_⟩
         refine⟨D2,_,_,⟨?_,?_,?_⟩,g2,h4.same g1,kU.trans (k4.trans (zu.kp g1)),rfl⟩
         · rw[List.length_map,List.length_range];omega
         · intro n hn
           obtain⟨m,_,rfl⟩:=List.mem_map.mp hn
           split <;> decide
         · refine Pw.Vy (m:=1) (fun n hn=>?_) (List.mem_map.mpr ⟨v.toNat,List.mem_range.mpr (by omega),by rw[if_pos (by omega)]⟩) (by decide)
           obtain⟨m,_,rfl⟩:=List.mem_map.mp hn
           split <;> decide
     · exact⟨D,ws,_,wU,eU,hU,kU,rfl⟩
   rintro σ G ⟨W,ws,v4,wt,eW,hG,kG,rfl⟩
   have hl:=wt.len
   have hsum:ws.sum≤12 * 2 ^ 37:=by
    have h1:=Pw.qv (B:=2 ^ 37) fun n hn=>Int.le_of_lt (wt.nn n hn).2
    have h2:(ws.length:Int) * 2 ^ 37≤12 * 2 ^ 37:=Int.mul_le_mul_of_nonneg_right (by omega) (by decide)
    omega
   have hpos:=wt.pos
   refine⟨_,rfl,W,rfl,⟨_,z7.of eW⟩,fun D3 hD3=>?_⟩
   refine Yk (K:=K) (a:=W) (D:=D3) (xs:=ws.map V.int) (fun i ys σ H'=>zu G H'∧H' D3=some (.lst ys)∧Zl K H' ((ws.take i).map fun w=>Pw.mk w ws.sum) ys∧∃ x,σ=[x,some (.ref W)]) ?_ ?_ ?_ ?_
   · exact⟨zu.new hD3,zj,rfl,none,rfl⟩
   · rintro i ys σ H' ⟨s1,e1,_⟩
     exact⟨z7.of (s1 _ _ eW),e1⟩
   · rintro i u ys σ H' hi hlt ⟨s1,e1,fl,x,rfl⟩
     obtain⟨z,hz,rfl⟩:∃ z,ws[i]?=some z∧u=V.int z:=by
      rw[List.getElem?_map] at hi
      cases h:ws[i]? with
      | none=>rw[h] at hi;cases hi
      | some z=>rw[h] at hi;cases hi;exact⟨z,rfl,rfl⟩
     have hzb:=wt.nn z (List.mem_of_getElem? hz)
     dsimp only [ZU]
     rw[if_pos rfl]
     refine⟨_,rfl,_,rfl,W,ws,rfl,z7.of (s1 _ _ eW),z,ws.sum,rfl,hpos,zR 41 (by omega),zR 41 (by omega),fun q G' s' n' e'=>?_⟩
     have e1':=s' _ _ e1
     refine⟨e1',?_,Wt.next hlt ⟨fun b o e=>?_,zj,?_,_,rfl⟩⟩
     · rw[fl.len,List.length_map,List.length_take]
       exact zU (by omega)
     · rw[zp (zh e hD3)];exact s' _ _ (s1 _ _ e)
     · rw[List.take_succ,hz,List.map_append]
       exact ((fl.same s').snoc (A:=Pw.mk z ws.sum) e').kp (KL.set e1')
   rintro ys σ G2 ⟨s2,e2,fl,_⟩
   rw[List.length_map,List.take_of_length_le (Nat.le_refl _)] at fl
   refine⟨D3,ys,rfl,z7.of e2,fun t G3 s3 n3 e3=>?_⟩
   exact k t G3 ws ys wt ((hG.same s2).same s3) e3 (fl.same s3) (kG.trans (zu.kp (s2.trans s3)))
theorem ndL:(["here","there","page"]:List Str).Nodup:=by decide +kernel
theorem z2J:zT ["web","page"] ["web","page"] (zw qB):=⟨rfl,rfl,rfl,by decide +kernel,rfl,by decide +kernel,by decide +kernel⟩
theorem z0W{f:Addr}{fd:FuncData}(F:XZ K "leads" "leads" qB f fd):ZY P w K mg base XR 1 f fd ["web","page"] (X9 K Pw.outs):=by
 refine F.ok z2J (fun vs H Q E h=>?_) (fun cdv A outer s H vs Q E hr h=>?_)
 · obtain⟨x,y,z,ps,rfl,_⟩:=h
   rfl
 · obtain⟨wa,pages,page,ps,rfl,⟨ws,us,hw,hws,hp⟩,few,k⟩:=h
   refine⟨_,zC (zS (Zg ["here","there","page"] [none,none,some 1] rfl (YY (zD zN (pv 0) zg (fun _ _=>rfl))) (by show ∀ y:Str×NameKind,y∈_→y.2=NameKind.free→(zw qB).names.lookup y.1=some .cell;decide +kernel) (by decide) rfl (by decide +kernel) ⟨⟨rfl,rfl,.inl rfl⟩,trivial⟩
    (fun cl C s H fp=>qt (K:=K) 2 rfl rfl (Zn (zQ (i:=0) ndL rfl (Or.inl rfl) (.inr rfl)) (Zn (zQ (i:=1) ndL rfl (Or.inl rfl) (.inr rfl)) yJ)))
    (fun cl C s H fp=>YD (Zf YI (pv 0) (pv 2) (z0 _)))
    (fun cl C s H fp=>pv 1))),?_⟩
   refine⟨_,rfl,wa,_,_,_,rfl,rfl,z5.of hw,rfl,ws,rfl,⟨_,z5.of hws⟩,fun D hD=>?_⟩
   have hl:=hp.len
   refine yC (K:=K) (a:=ws) (D:=D) (xs:=us) (fun i ys σ H'=>zu H H'∧H' ws=some (.tup us)∧H' D=some (.lst ys)∧ys=(Pw.outs (ps.take i) page).map V.int∧∃ x y,σ=[x,y,some (.int page)]) ?_ ?_ ?_ ?_
   · exact⟨zu.new hD,zu.new hD _ _ hws,zj,rfl,none,none,rfl⟩
   · rintro i ys σ H' ⟨s1,hw1,hD1,_,_⟩
     exact⟨z5.of hw1,hD1⟩
   · rintro i v ys σ H' hi hlt ⟨s1,hw1,hD1,rfl,x,y,rfl⟩
     obtain⟨a,p,e1,rfl,e2⟩:=hp.get hi
     have et:ps.take (i+1)=ps.take i ++ [p]:=by rw[List.take_succ,e1];rfl
     refine⟨a,_,rfl,s1.V9 e2,rfl,_,_,rfl,_,_,rfl,rfl,?_⟩
     refine⟨_,rfl,_,rfl,rfl,_,rfl,?_⟩
     have hlen:((Pw.outs (ps.take i) page).map V.int).length<sizeLine:=by
      rw[List.length_map]
      have h1:=Pw.ZO (ps.take i) page
      have h2:(ps.take i).length≤ps.length:=by rw[List.length_take];omega
      have:(sizeLine:Nat)=16777216:=sizeLine_eq
      omega
     by_cases c:p.1=page
     · refine YN (by rw[c];simp) ?_
       refine⟨_,rfl,hD1,hlen,Wt.next hlt ⟨fun b o e=>?_,?_,zj,?_,_,_,rfl⟩⟩
       · rw[zp (zh e hD)];exact s1 b o e
       · rw[zp (zh hws hD)];exact hw1
       · rw[et,Pw.Y5,if_pos c,List.map_append];rfl
     · refine yH (by simpa using c) ?_
       exact Wt.next hlt ⟨s1,hw1,hD1,by rw[et,Pw.Y5,if_neg c,List.append_nil],_,_,rfl⟩
   · rintro ys σ H' ⟨s1,hw1,hD1,rfl,_⟩
     rw[hl,List.take_of_length_le (Nat.le_refl _)] at hD1
     exact k D H' s1 hD hD1
theorem z4P(S:yW K mg "made" jU ["above","below"])(C:yW K mg "common" Y4 ["one","other"])(T:Txt mg):Def P w K mg base 2 "made" ["above","below"] YH:=by
 obtain⟨fC,fdC,FC,mC,bC⟩:=C
 exact S.def fun f fd F=>(z1W F T.abs FC mC bC).imp fun vs H Q E ⟨x,y,e,h1,h2,h3,h4⟩=>⟨x,y,e,h1,h2,h3,fun p hp=>h4 p _ (zu.new hp) zj⟩
theorem z4M(S:yW K mg "_law_frac" XY ["above","below"])(T:Txt mg):Def P w K mg base 1 "_law_frac" ["above","below"] Yd:=S.def fun f fd F=>z0r (Vf F T.abs)
theorem z5f(S:yW K mg "_law_draw" xh ["hand","limit"]):Def P w K mg base 1 "_law_draw" ["hand","limit"] XE:=S.def fun f fd F=>X7 F
theorem z3T(S:yW K mg "_law_hand" jj ["cell","k"]):Def P w K mg base 1 "_law_hand" ["cell","k"] UX:=S.def fun f fd F=>z2l F
theorem z2A(S:yW K mg "_law_cells" vF ["script","many"])(T:Txt mg):Def P w K mg base 1 "_law_cells" ["script","many"] (Vb K):=S.def fun f fd F=>JS F T.lst T.enu T.int
theorem z2X(S:yW K mg "_law_great" vz ["script"])(T:Txt mg):Def P w K mg base 1 "_law_great" ["script"] (vG K):=S.def fun f fd F=>z0b F T.sum
theorem z5G(S:yW K mg "_law_web" JT ["hand","great"])(T:Txt mg)(D:yW K mg "_law_draw" xh ["hand","limit"]):Def P w K mg base 2 "_law_web" ["hand","great"] (z0Y K):=by
 obtain⟨fD,fdD,FD,mD,bD⟩:=D
 exact S.def fun f fd F=>z4Q F T.range T.len T.tup T.srt FD mD bD
theorem z1V(S:yW K mg "_law_leap" VC ["hand"])(T:Txt mg)(D:yW K mg "_law_draw" xh ["hand","limit"])(R:yW K mg "_law_frac" XY ["above","below"]):Def P w K mg base 2 "_law_leap" ["hand"] (U0 K):=by
 obtain⟨fD,fdD,FD,mD,bD⟩:=D
 obtain⟨fF,fdF,FF,mF,bF⟩:=R
 exact S.def fun f fd F=>z0t F T.abs FD mD bD FF mF bF
theorem z1L(S:yW K mg "_law_leaps" YB ["hand","pages"])(T:Txt mg)(D:yW K mg "_law_draw" xh ["hand","limit"])(R:yW K mg "_law_frac" XY ["above","below"]):Def P w K mg base 2 "_law_leaps" ["hand","pages"] (VI K):=by
 obtain⟨fD,fdD,FD,mD,bD⟩:=D
 obtain⟨fF,fdF,FF,mF,bF⟩:=R
 exact S.def fun f fd F=>Jt F T.abs T.range T.int T.tup T.sum FD mD bD FF mF bF
theorem z2e(S:yW K mg "leads" qB ["web","page"]):Def P w K mg base 1 "leads" ["web","page"] (X9 K Pw.outs):=S.def fun f fd F=>z0W F
end
end Lw
set_option pp.maxSteps 800
namespace Lw
open PySem L2 PyProof.Rows
section
variable{P:Program}{w:World}{K:PySem.W.Frag}{mg:Str→Option Value}{base:Heap}
theorem xy:zT ["rows","many","at","place","above","below","sign","k","often"] ["rows"] (zw ZM):=⟨rfl,rfl,rfl,by decide +kernel,rfl,by decide +kernel,by decide +kernel⟩
set_option maxHeartbeats 0 in
theorem vy(S:yW K mg "_law_solved" ZM ["rows"])(T:Txt mg)(Pl:Def P w K mg base 2 "_law_plus" ["one","other"] (yh K Pw.ZI))(Ti:Def P w K mg base 2 "_law_times" ["one","other"] (yh K Pw.Zm)):Def P w K mg base 3 "_law_solved" ["rows"] (QH K):=S.def fun f fd F=>by
 have nd:=xy.nd
 refine F.ok xy (fun vs H Q E h=>?_) (fun cdv A' outer s H vs Q E hr h=>?_)
 · obtain⟨_,_,_,_,_,_,_,_,rfl,_⟩:=h
   rfl
 · obtain⟨r,n,M0,us0,L,dn,x,A0,rfl,er0,hM0,gs,g0,k⟩:=h
   refine⟨_,(@zo _ _ _ _ _ (@zK _ _ 1 _ _ _ _ (by rfl) (Or.inl rfl) nd rfl (Or.inr rfl) (zX Zh (by rfl) T.len PySem.boot_len (@za _ _ _ _ _ (by rfl) (pv 0) zb)))
    (@zo _ _ _ _ _ (@ZW _ _ _ _ _ _ _ _ (fun _=>rfl) PassesOwn.never rfl (Zk rfl T.range (@za _ _ _ _ _ (by rfl) (pv 1) zb)) (zQ (i:=2) nd rfl (Or.inr rfl))
     (@zo _ _ _ _ _ (@zK _ _ 3 _ _ _ _ (by rfl) (Or.inl rfl) nd rfl (Or.inl rfl) (zD z9 (Zg ["k","at","rows"] [none,some 2,some 0] rfl (Q4 rfl T.range (@za _ _ _ _ _ (by rfl) (pv 2) (@za _ _ _ _ _ (by rfl) (pv 1) zb))) (by show ∀ y:Str×NameKind,y∈_→y.2=NameKind.free→(zw ZM).names.lookup y.1=some .cell;decide +kernel) (by decide) rfl (by decide +kernel) ⟨⟨rfl,rfl,.inl rfl⟩,⟨rfl,rfl,.inl rfl⟩,trivial⟩
      (fun cl C s H fp=>(zQ (i:=0) (show (["k","at","rows"]:List Str).Nodup by decide +kernel) rfl (Or.inl rfl) (.inr rfl)))
      (fun cl C s H fp=>(YD (Zf qH (zD (qh (K:=K) rfl) (zD (ZG (K:=K) rfl) (zD (ZG (K:=K) rfl) (pv 2) (pv 0) (fun _ _=>rfl)) (pv 1) (fun _ _=>rfl)) zg (fun _ _=>rfl)) zg (z0 _))))
      (fun cl C s H fp=>(pv 0))) zg (fun _ _=>rfl)))
    (@zo _ _ _ _ _ (yT (@zq _ _ _ _ _ (@za _ _ _ _ _ (by rfl) (zD z9 (pv 0) (pv 3) (fun _ _=>rfl)) (@za _ _ _ _ _ (by rfl) (zD z9 (pv 0) (pv 2) (fun _ _=>rfl)) zb))) (Xx rfl (Zn (yV (pv 0) (pv 2) set_list) (Zn (yV (pv 0) (pv 3) set_list) yJ))))
    (@zo _ _ _ _ _ (yT (zD z9 (zD z9 (pv 0) (pv 2) (fun _ _=>rfl)) (pv 2) (fun _ _=>rfl)) (Xx rfl (Zn (zQ (i:=4) nd rfl (Or.inr rfl)) (Zn (zQ (i:=5) nd rfl (Or.inr rfl)) yJ))))
    (@zo _ _ _ _ _ (@zK _ _ 6 _ _ _ _ (by rfl) (Or.inl rfl) nd rfl (Or.inr rfl) (zD z9 (@Ze _ _ _ _ (@za _ _ _ _ _ (by rfl) zg (@za _ _ _ _ _ (by rfl) qo zb))) (Zd XO (by rfl) T.int boot_int (@za _ _ _ _ _ (by rfl) (Zu z3y (pv 4) zg (z0 _)) zb)) (fun _ _=>rfl)))
    (@zo _ _ _ _ _ (yT (Zg ["one","below","sign","above"] [none,some 5,some 6,some 4] rfl (@yI _ _ _ _ (zD z9 (pv 0) (pv 2) (fun _ _=>rfl))) (by show ∀ y:Str×NameKind,y∈_→y.2=NameKind.free→(zw ZM).names.lookup y.1=some .cell;decide +kernel) (by decide) rfl (by decide +kernel) ⟨⟨rfl,rfl,.inl rfl⟩,⟨rfl,rfl,.inl rfl⟩,⟨rfl,rfl,.inl rfl⟩,trivial⟩
     (fun cl C s H fp=>(zQ (i:=0) (show (["one","below","sign","above"]:List Str).Nodup by decide +kernel) rfl (Or.inl rfl) (.inr rfl)))
     (fun cl C s H fp=>Zz)
     (fun cl C s H fp=>(zH (by rfl) (by rfl) (by rfl) (by decide) Ti (hr.mono (by decide)) (@za _ _ _ _ _ (by rfl) (pv 0) (@za _ _ _ _ _ (by rfl) (@zq _ _ _ _ _ (@za _ _ _ _ _ (by rfl) (zI Zo (pv 1) (pv 2)) (@za _ _ _ _ _ (by rfl) (zI Zo (pv 3) (pv 2)) zb))) zb))))) (yV (pv 0) (pv 2) set_list))
    (@zC _ _ _ (@ZW _ _ _ _ _ _ _ _ (fun _=>rfl) PassesOwn.never rfl (Zk rfl T.range (@za _ _ _ _ _ (by rfl) (pv 1) zb)) (zQ (i:=7) nd rfl (Or.inr rfl))
     (@zC _ _ _ (@Z3 _ _ _ _ _ _ _ _ (PW.pt (Um (Zf qH (pv 7) (pv 2) (z0 _)) (jn (Zf qH (zD zN (zD z9 (zD z9 (pv 0) (pv 7) (fun _ _=>rfl)) (pv 2) (fun _ _=>rfl)) zg (fun _ _=>rfl)) zg (z0 _)))))
     (@zo _ _ _ _ _ (@zK _ _ 8 _ _ _ _ (by rfl) (Or.inl rfl) nd rfl (Or.inr rfl) (@zq _ _ _ _ _ (@za _ _ _ _ _ (by rfl) (zI Yx zg (zD zN (zD z9 (zD z9 (pv 0) (pv 7) (fun _ _=>rfl)) (pv 2) (fun _ _=>rfl)) zg (fun _ _=>rfl))) (@za _ _ _ _ _ (by rfl) (zD zN (zD z9 (zD z9 (pv 0) (pv 7) (fun _ _=>rfl)) (pv 2) (fun _ _=>rfl)) zg (fun _ _=>rfl)) zb))))
    (@zC _ _ _ (yT (Zg ["j","often","rows","k","at"] [none,some 8,some 0,some 7,some 2] rfl (Zk rfl T.range (@za _ _ _ _ _ (by rfl) (zI ZZ (pv 1) zg) zb)) (by show ∀ y:Str×NameKind,y∈_→y.2=NameKind.free→(zw ZM).names.lookup y.1=some .cell;decide +kernel) (by decide) rfl (by decide +kernel) ⟨⟨rfl,rfl,.inl rfl⟩,⟨rfl,rfl,.inl rfl⟩,⟨rfl,rfl,.inl rfl⟩,⟨rfl,rfl,.inl rfl⟩,trivial⟩
     (fun cl C s H fp=>(zQ (i:=0) (show (["j","often","rows","k","at"]:List Str).Nodup by decide +kernel) rfl (Or.inl rfl) (.inr rfl)))
     (fun cl C s H fp=>Zz)
     (fun cl C s H fp=>(zH (by rfl) (by rfl) (by rfl) (by decide) Pl (hr.mono (by decide)) (@za _ _ _ _ _ (by rfl) (zD (ZG (K:=K) rfl) (zD (ZG (K:=K) rfl) (pv 2) (pv 3) (fun _ _=>rfl)) (pv 0) (fun _ _=>rfl)) (@za _ _ _ _ _ (by rfl) (zH (by rfl) (by rfl) (by rfl) (by decide) Ti (hr.mono (by decide)) (@za _ _ _ _ _ (by rfl) (pv 1) (@za _ _ _ _ _ (by rfl) (zD (ZG (K:=K) rfl) (zD (ZG (K:=K) rfl) (pv 2) (pv 4) (fun _ _=>rfl)) (pv 0) (fun _ _=>rfl)) zb))) zb))))) (yV (pv 0) (pv 7) set_list))))
     Zr))))))))))
    (@zC _ _ _ (@zS _ _ _ _ (Zd ZK (by rfl) T.tup boot_tuple (@za _ _ _ _ _ (by rfl) (Zg ["row","many"] [none,some 1] rfl (@yI _ _ _ _ (pv 0)) (by show ∀ y:Str×NameKind,y∈_→y.2=NameKind.free→(zw ZM).names.lookup y.1=some .cell;decide +kernel) (by decide) rfl (by decide +kernel) ⟨⟨rfl,rfl,.inl rfl⟩,trivial⟩
     (fun cl C s H fp=>(zQ (i:=0) (show (["row","many"]:List Str).Nodup by decide +kernel) rfl (Or.inl rfl) (.inr rfl)))
     (fun cl C s H fp=>Zz)
     (fun cl C s H fp=>(zD (ZG (K:=K) rfl) (pv 0) (pv 1) (fun _ _=>rfl)))) zb)))))),?_⟩
   have n1:=gs.n1
   have n12:=gs.n12
   refine⟨_,rfl,r,_,rfl,.inl (z7.of er0),?_⟩
   rw[hM0.len]
   refine⟨_,rfl,(n:Int),rfl,by omega,by omega,?_⟩
   rw[Int.toNat_natCast]
   refine Z5 (lo:=0) (n:=n) (fun a σ G=>Kp r H G∧∃ (us:List V) (M:Nat→Nat→Rat) (A:Nat→Pw.ZA) (R:List Pw.ZA) (v2 v3 v4 v5 v6 v7 v8:Option V),G r=some (.lst us)∧yg K G r n M us∧Pw.GJ n a L dn x A R M∧σ=[some (.ref r),some (.int (n:Int)),v2,v3,v4,v5,v6,v7,v8]) ?_ ?_ ?_
   · exact⟨(zu.refl _).kp,us0,M0,A0,L,none,none,none,none,none,none,none,er0,hM0,g0,rfl⟩
   · rintro a σ G ha ⟨kG,us,M,A,R,v2,v3,v4,v5,v6,v7,v8,er,hM,g,rfl⟩
     rw[Int.zero_add]
     refine⟨_,rfl,_,rfl,(a:Int),(n:Int),rfl,⟨by omega,by omega,by omega,by omega⟩,fun D hD=>?_⟩
     rw[show ((n:Int) - (a:Int)).toNat=n - a by omega]
     refine Z1 (lo:=(a:Int)) (n:=n - a) (D:=D) (fun i ys σ G'=>zu G G'∧G' D=some (.lst ys)∧(∃ ks:List Nat,ys=ks.map (fun k:Nat=>V.int (k:Int))∧ks.length≤i∧(∀ k∈ks,a≤k∧k<n∧M k a≠0)∧∀ j,j<i→M (a+j) a≠0→ks≠[])∧∃ p,σ=[p,some (.int (a:Int)),some (.ref r)]) ?_ ?_ ?_ ?_
     · exact⟨zu.new hD,zj,⟨[],rfl,Nat.le_refl _,fun k hk=>by simp at hk,fun j hj=>absurd hj (Nat.not_lt_zero _)⟩,none,rfl⟩
     · rintro i ys σ G' ⟨_,e,_⟩
       exact e
     · rintro i ys σ G' hi ⟨s,eD,⟨ks,rfl,lk,ak,zk⟩,p0,rfl⟩
       rw[show (a:Int)+(i:Int)=((a+i:Nat):Int) from rfl]
       obtain⟨q,vs,eu,ne,eq,fl⟩:=(hM.upd ⟨_,er⟩ s).row (a+i) (by omega)
       obtain⟨p,evp,fp⟩:=fl.at (Pw.ZP (c:=a) (by omega))
       refine⟨_,rfl,_,rfl,r,_,_,_,rfl,rfl,z7.of (s _ _ er),zY eu,_,rfl,q,_,_,_,rfl,rfl,z7.of eq,zY evp,p,_,_,_,rfl,rfl,z5.of fp,rfl,rfl,_,rfl,?_⟩
       by_cases hz:M (a+i) a=0
       · refine yH (by rw[hz];rfl) (Wt.next hi ⟨s,eD,⟨ks,rfl,by omega,ak,fun j hj mj=>?_⟩,_,rfl⟩)
         by_cases e:j=i
         · subst e;exact absurd hz mj
         · exact zk j (by omega) mj
       · refine YN ?_ ⟨_,rfl,eD,?_,Wt.next hi ⟨fun b o e=>?_,zj,⟨ks ++ [a+i],?_,?_,?_,?_⟩,_,rfl⟩⟩
         · have:=Pw.Vg.mpr hz
           rw[decide_eq_false (fun z=>this (V.int.inj z))];rfl
         · rw[List.length_map];exact zU (by omega)
         · rw[zp (zh e hD)];exact s _ _ e
         · rw[List.map_append];rfl
         · rw[List.length_append,List.length_singleton];omega
         · intro k hk
           rcases List.mem_append.mp hk with hk | hk
           · exact ak k hk
           · rw[List.mem_singleton.mp hk];exact⟨by omega,by omega,hz⟩
         · intro j _ _ z
           simp at z
     rintro ys σ G1 ⟨s1,eD,⟨ks,rfl,lk,ak,zk⟩,_⟩
     obtain⟨i0,h1,h2,h3⟩:=g.pivot gs ha
     have nk:ks≠[]:=zk (i0 - a) (by omega) (by rw[show a+(i0 - a)=i0 by omega];exact h3)
     obtain⟨p,kr,rfl⟩:=List.exists_cons_of_ne_nil nk
     obtain⟨ap,pn,hz⟩:=ak p List.mem_cons_self
     refine⟨D,_,_,V.int (p:Int),rfl,rfl,z7.of eD,zY (j:=0) rfl,?_⟩
     have hM1:=hM.upd ⟨_,er⟩ s1
     have er1:=s1 _ _ er
     have g':=g.step ha ap pn hz
     have szM:∀ {i c:Nat},i<n→c≤n→Z9 1320 (Pw.ZL (M i c)):=fun hi hc=>g.sz gs hi hc
     have szN:∀ {i c:Nat},i<n→c≤n→Z9 1320 (Pw.ZL (Pw.qq M a p i c)):=fun hi hc=>g'.sz gs hi hc
     clear ak zk lk eD
     obtain⟨qp,vsp,eup,nep,eqp,flp⟩:=hM1.row p pn
     obtain⟨qa,vsa,eua,nea,eqa,fla⟩:=hM1.row a ha
     refine⟨_,rfl,_,rfl,r,_,_,_,rfl,rfl,z7.of er1,zY eup,_,rfl,_,rfl,r,_,_,_,rfl,rfl,z7.of er1,zY eua,(by show 2≤sizeLine;decide),fun t2 G2 s2 m2 e2=>?_⟩
     refine⟨t2,_,rfl,z5.of e2,rfl,_,_,rfl,_,rfl,_,rfl,r,us,_,a,rfl,rfl,s2 _ _ er1,Yz ha hM.len,_,_,rfl,_,rfl,_,rfl,r,_,_,p,rfl,rfl,zj,Yz pn (by rw[List.length_set];exact hM.len),rfl,?_⟩
     rw[VJ]
     have hM2:=(hM1.upd ⟨_,er1⟩ s2).swap (s2 _ _ er1) ha pn eua eup
     have k2:Kp r G (upd G2 r (.lst ((us.set a (.ref qp)).set p (.ref qa)))):=fun b o e ne=>by rw[zp ne];exact s2 _ _ (s1 _ _ e)
     have er2:(upd G2 r (.lst ((us.set a (.ref qp)).set p (.ref qa)))) r=_:=zj
     generalize upd G2 r (.lst ((us.set a (.ref qp)).set p (.ref qa)))=G3 at *
     generalize (us.set a (.ref qp)).set p (.ref qa)=us2 at *
     clear eqp flp eqa fla hM1 eup eua nep nea
     obtain⟨qp,vsp,eup,nep,eqp,flp⟩:=hM2.row a ha
     rw[Pw.Z4 (N:=M) (j:=p) (fun c _=>by unfold Xe;rw[if_pos rfl])] at flp
     obtain⟨pp,evp,fpp⟩:=flp.at (Pw.ZP (c:=a) (by omega))
     refine⟨_,rfl,_,rfl,r,_,_,_,rfl,rfl,z7.of er2,zY eup,_,rfl,qp,_,_,_,rfl,rfl,z7.of eqp,zY evp,pp,_,rfl,z5.of fpp,rfl,_,_,rfl,_,_,rfl,rfl,?_⟩
     have b10:(Pw.ZL (M p a)).1≠0:=Pw.Vg.mpr hz
     have b20:0<(Pw.ZL (M p a)).2:=(Pw.z8 _).1
     have vb:Pw.val (Pw.ZL (M p a))=M p a:=Pw.Zq _
     have sb:Z9 1320 (Pw.ZL (M p a)):=szM pn (by omega)
     generalize Pw.ZL (M p a)=B at b10 b20 vb sb
     refine⟨(by show 2≤sizeLine;decide),fun l3 G4 s4 m4 e4=>?_⟩
     refine⟨_,rfl,_,_,rfl,rfl,.inr ⟨_,rfl,?_⟩⟩
     obtain⟨sg,hsg,esg,psg⟩:∃ sg:Int,(sg=1∨sg=-1)∧jt [V.int 1,V.int (-1)] (if decide (B.1<0)=true then 1 else 0)=some (.int sg)∧0<B.1 * sg:=by
      by_cases hb:B.1<0
      · exact⟨-1,.inr rfl,by rw[decide_eq_true hb];rfl,by omega⟩
      · exact⟨1,.inl rfl,by rw[decide_eq_false hb];rfl,by omega⟩
     refine⟨l3,_,_,_,rfl,rfl,z7.of e4,esg,?_⟩
     have zsg:Sz 1 sg:=by rcases hsg with rfl | rfl <;> (unfold Sz;decide)
     refine⟨_,rfl,_,rfl,r,_,_,_,rfl,rfl,z7.of (s4 _ _ er2),zY eup,qp,rfl,⟨_,z7.of (s4 _ _ eqp)⟩,fun D2 hD2=>?_⟩
     have flp4:=flp.same s4
     have lvp:vsp.length=n+1:=by rw[flp.len,Pw.yj]
     have Bpos:0<B.1 * sg:=psg
     have vB:Pw.val (B.2 * sg,B.1 * sg)=1 / M p a:=by
      rw[← vb]
      unfold Pw.val
      rw[Rat.intCast_mul,Rat.intCast_mul]
      have h1:(sg:Rat)≠0:=by rcases hsg with rfl | rfl <;> decide
      have h2:(B.1:Rat)≠0:=fun z=>b10 (by exact_mod_cast z)
      have h3:(B.2:Rat)≠0:=fun z=>absurd (show B.2=0 by exact_mod_cast z) (by omega)
      grind
     refine Yk (K:=K) (a:=qp) (D:=D2) (xs:=vsp) (fun i ys σ G'=>zu G4 G'∧G' D2=some (.lst ys)∧Zl K G' ((Pw.rowOf n (Pw.qq M a p) a).take i) ys∧∃ v,σ=[v,some (.int B.2),some (.int sg),some (.int B.1)]) ?_ ?_ ?_ ?_
     · exact⟨zu.new hD2,zj,rfl,none,rfl⟩
     · rintro i ys σ G' ⟨s,e,_⟩
       exact⟨z7.of (s _ _ (s4 _ _ eqp)),e⟩
     · rintro i u ys σ G' hu hlt ⟨s,eD2,fy,v,rfl⟩
       have hi:i<n+1:=by rw[← lvp];exact (List.getElem?_eq_some_iff.mp hu).1
       obtain⟨po,evo,fo⟩:=(flp4.same s).at (Pw.ZP (c:=i) (by omega))
       have:u=.ref po:=Option.some.inj (hu.symm.trans evo)
       subst this
       have so:Z9 1320 (Pw.ZL (M p i)):=szM pn (by omega)
       have sB2:Sz 1321 (B.2 * sg):=(sb.2.mul zsg).mono (by decide)
       have sB1:Sz 1321 (B.1 * sg):=(sb.1.mul zsg).mono (by decide)
       dsimp only [ZU]
       rw[if_pos rfl]
       refine⟨_,rfl,_,rfl,_,rfl,_,_,rfl,rfl,⟨sb.2.mono (by decide),zsg.mono (by decide)⟩,_,rfl,_,rfl,_,_,rfl,rfl,⟨sb.1.mono (by decide),zsg.mono (by decide)⟩,(by show 2≤sizeLine;decide),fun tt G5 s5 m5 e5=>?_⟩
       refine⟨po,tt,Pw.ZL (M p i),(B.2 * sg,B.1 * sg),rfl,z5.of (s5 _ _ fo),z5.of e5,(Pw.z8 _).1,Bpos,⟨so.1.mono (by decide),so.2.mono (by decide)⟩,⟨sB2.mono (by decide),sB1.mono (by decide)⟩,fun rr G6 s6 f6=>?_⟩
       have s56:=s5.trans s6
       have hD6:=s56 _ _ eD2
       refine⟨hD6,?_,Wt.next hlt ⟨fun b o e=>?_,zj,?_,_,rfl⟩⟩
       · have:=fy.len
         rw[List.length_take,Pw.yj] at this
         exact zU (by omega)
       · rw[zp (zh e hD2)];exact s56 _ _ (s _ _ e)
       · have e1:Pw.Zm (Pw.ZL (M p i)) (B.2 * sg,B.1 * sg)=Pw.ZL (Pw.qq M a p a i):=by
          rw[Pw.xO (by have:=(Pw.z8 (M p i)).1;omega) (by show B.1 * sg≠0;omega),Pw.Zq,vB]
          unfold Pw.qq
          rw[if_pos rfl]
          congr 1
          grind
         rw[List.take_add_one,Pw.ZP (by omega),← e1]
         exact ((fy.same s56).snoc f6).set hD6
     rintro ys σ G5 ⟨s5,eD2,fy,_⟩
     rw[lvp,List.take_of_length_le (by rw[Pw.yj];exact Nat.le_refl _)] at fy
     have s45:=s4.trans s5
     have er5:=s45 _ _ er2
     have neD2:D2≠r:=Ne.symm (zh (s4 _ _ er2) hD2)
     refine⟨_,rfl,_,rfl,r,us2,_,a,rfl,rfl,er5,Yz ha hM2.len,?_⟩
     have hM5:=(hM2.upd ⟨_,er2⟩ s45).put er5 ha neD2 eD2 (f:=Pw.qq M a p a) fy
     have k5:Kp r G (upd G5 r (.lst (us2.set a (.ref D2)))):=fun b o e ne=>by rw[zp ne];exact s45 _ _ (k2 _ _ e ne)
     have er6:(upd G5 r (.lst (us2.set a (.ref D2)))) r=_:=zj
     generalize upd G5 r (.lst (us2.set a (.ref D2)))=G6 at *
     generalize us2.set a (.ref D2)=us3 at *
     clear hM2 flp flp4 fy eqp eup er2 er5 s4 s5 s45 k2 eD2 e4 fpp evp s1 s2 er1 hD
     refine⟨_,rfl,(n:Int),rfl,by omega,by omega,?_⟩
     rw[Int.toNat_natCast]
     refine Z5 (lo:=0) (n:=n) (fun j σ G'=>Kp r G6 G'∧∃ (us:List V) (v7 v8:Option V),G' r=some (.lst us)∧yg K G' r n (fun i c=>if i=a then Pw.qq M a p a c else if i<j then Pw.qq M a p i c else Xe M a p i c) us∧σ=[some (.ref r),some (.int (n:Int)),some (.int (a:Int)),some (.int (p:Int)),some (.int B.1),some (.int B.2),some (.int sg),v7,v8]) ?_ ?_ ?_
     · refine⟨(zu.refl _).kp,us3,v7,v8,er6,hM5.ext fun i c hi hc=>?_,rfl⟩
       by_cases z:i=a
       · rw[if_pos z,if_pos z]
       · rw[if_neg z,if_neg z,if_neg (Nat.not_lt_zero _)]
     · rintro j σ G' hj ⟨kG',us4,v7,v8,er7,hM7,rfl⟩
       rw[Int.zero_add]
       by_cases ja:j=a
       · subst ja
         refine⟨_,rfl,_,rfl,rfl,_,rfl,yH (by rw[decide_eq_true rfl];rfl) ?_⟩
         refine⟨kG',us4,_,_,er7,hM7.ext fun i c hi hc=>?_,rfl⟩
         by_cases z:i=j
         · rw[if_pos z,if_pos z]
         · rw[if_neg z,if_neg z]
           by_cases z2:i<j
           · rw[if_pos z2,if_pos (by omega)]
           · rw[if_neg z2,if_neg (by omega)]
       refine⟨_,rfl,_,rfl,rfl,_,rfl,YN (by rw[decide_eq_false (fun z=>ja (by have:=V.int.inj z;omega))];rfl) ?_⟩
       obtain⟨qj,vsj,euj,nej,eqj,flj⟩:=hM7.row j hj
       rw[Pw.Z4 (N:=Xe M a p) (j:=j) (fun c _=>by rw[if_neg ja,if_neg (by omega)])] at flj
       obtain⟨pj,evj,fpj⟩:=flj.at (Pw.ZP (c:=a) (by omega))
       have enx:∀ c,Pw.qq M a p j c=Xe M a p j c - Xe M a p j a * Pw.qq M a p a c:=fun c=>by
        unfold Pw.qq Xe
        rw[if_neg ja,if_pos rfl,if_neg ja,if_neg ja]
       have ssw:∀ {c:Nat},c≤n→Z9 1320 (Pw.ZL (Xe M a p j c)):=fun hc=>by
        unfold Xe
        rw[if_neg ja]
        split
        · exact szM ha hc
        · exact szM hj hc
       refine⟨_,rfl,_,rfl,r,_,_,_,rfl,rfl,z7.of er7,zY euj,_,rfl,qj,_,_,_,rfl,rfl,z7.of eqj,zY evj,pj,_,_,_,rfl,rfl,z5.of fpj,rfl,rfl,_,rfl,?_⟩
       by_cases hzj:Xe M a p j a=0
       · refine yH (by rw[hzj];rfl) ?_
         refine⟨kG',us4,_,_,er7,hM7.ext fun i c hi hc=>?_,rfl⟩
         by_cases z:i=a
         · rw[if_pos z,if_pos z]
         · rw[if_neg z,if_neg z]
           by_cases z2:i<j
           · rw[if_pos z2,if_pos (by omega)]
           · rw[if_neg z2]
             by_cases z3:i=j
             · subst z3
               rw[if_pos (by omega),enx,hzj];grind
             · rw[if_neg (by omega)]
       refine YN (by have:=Pw.Vg.mpr hzj;rw[decide_eq_false (fun z=>this (V.int.inj z))];rfl) ?_
       refine⟨_,rfl,_,rfl,r,_,_,_,rfl,rfl,z7.of er7,zY euj,_,rfl,qj,_,_,_,rfl,rfl,z7.of eqj,zY evj,pj,_,_,_,rfl,rfl,z5.of fpj,rfl,_,_,rfl,rfl,?_⟩
       refine⟨_,rfl,_,rfl,r,_,_,_,rfl,rfl,z7.of er7,zY euj,_,rfl,qj,_,_,_,rfl,rfl,z7.of eqj,zY evj,pj,_,_,_,rfl,rfl,z5.of fpj,rfl,(by show 2≤sizeLine;decide),fun to G7 s7 m7 e7=>?_⟩
       have hC:0<(Pw.ZL (Xe M a p j a)).2:=(Pw.z8 _).1
       have vC:Pw.val (0 - (Pw.ZL (Xe M a p j a)).1,(Pw.ZL (Xe M a p j a)).2)=-(Xe M a p j a):=by
        have:=Pw.Zq (Xe M a p j a)
        unfold Pw.val at this ⊢
        rw[Rat.intCast_sub]
        have h0:((0:Int):Rat)=0:=rfl
        rw[h0]
        grind
       have sC:Z9 1320 (Pw.ZL (Xe M a p j a)):=ssw (by omega)
       have sC':Z9 1321 (0 - (Pw.ZL (Xe M a p j a)).1,(Pw.ZL (Xe M a p j a)).2):=⟨(Sz.sub (zR 1 (by decide)) sC.1).mono (by decide),sC.2.mono (by decide)⟩
       generalize Pw.ZL (Xe M a p j a)=C at *
       refine⟨_,rfl,_,_,rfl,rfl,_,rfl,by omega,by omega,fun D3 hD3=>?_⟩
       rw[show ((n:Int)+1).toNat=n+1 by omega]
       have hM8:=hM7.upd ⟨_,er7⟩ s7
       refine Z1 (lo:=0) (n:=n+1) (D:=D3) (fun c ys σ G8=>zu G7 G8∧G8 D3=some (.lst ys)∧Zl K G8 ((Pw.rowOf n (Pw.qq M a p) j).take c) ys∧∃ v,σ=[v,some (.ref to),some (.ref r),some (.int (j:Int)),some (.int (a:Int))]) ?_ ?_ ?_ ?_
       · exact⟨zu.new hD3,zj,rfl,none,rfl⟩
       · rintro c ys σ G8 ⟨_,e,_⟩
         exact e
       · rintro c ys σ G8 hc ⟨s8,eD3,fy,v,rfl⟩
         rw[Int.zero_add]
         have hM9:=hM8.upd ⟨_,s7 _ _ er7⟩ s8
         obtain⟨qj,vsj,euj,nej,eqj,flj⟩:=hM9.row j hj
         rw[Pw.Z4 (N:=Xe M a p) (j:=j) (fun c _=>by rw[if_neg ja,if_neg (by omega)])] at flj
         obtain⟨pj,evj,fpj⟩:=flj.at (Pw.ZP (c:=c) (by omega))
         obtain⟨qa,vsa,eua,nea,eqa,fla⟩:=hM9.row a ha
         rw[Pw.Z4 (N:=Pw.qq M a p) (j:=a) (fun c _=>by rw[if_pos rfl])] at fla
         obtain⟨pa,eva,fpa⟩:=fla.at (Pw.ZP (c:=c) (by omega))
         have er8:=s8 _ _ (s7 _ _ er7)
         have sJ:Z9 1320 (Pw.ZL (Xe M a p j c)):=ssw (by omega)
         have sA:Z9 1320 (Pw.ZL (Pw.qq M a p a c)):=szN ha (by omega)
         have pA:=(Pw.z8 (Pw.qq M a p a c)).1
         have pJ:=(Pw.z8 (Xe M a p j c)).1
         dsimp only [ZU]
         rw[if_pos rfl]
         refine⟨_,rfl,_,rfl,r,_,_,_,rfl,rfl,z7.of er8,zY euj,_,rfl,qj,_,_,_,rfl,rfl,z7.of eqj,zY evj,_,rfl,_,rfl,_,rfl,r,_,_,_,rfl,rfl,z7.of er8,zY eua,_,rfl,qa,_,_,_,rfl,rfl,z7.of eqa,zY eva,to,pa,(0 - C.1,C.2),Pw.ZL (Pw.qq M a p a c),rfl,z5.of (s8 _ _ e7),z5.of fpa,hC,pA,⟨sC'.1.mono (by decide),sC'.2.mono (by decide)⟩,⟨sA.1.mono (by decide),sA.2.mono (by decide)⟩,fun rr G9 s9 f9=>?_⟩
         have eT:=Pw.xO (A:=(0 - C.1,C.2)) (B:=Pw.ZL (Pw.qq M a p a c)) (by show C.2≠0;omega) (by omega)
         have sT:=yo sC' sA (by show C.2≠0;omega) (by omega)
         rw[eT] at f9 sT
         refine⟨pj,rr,Pw.ZL (Xe M a p j c),_,rfl,z5.of (s9 _ _ fpj),z5.of f9,pJ,(Pw.z8 _).1,⟨sJ.1.mono (by decide),sJ.2.mono (by decide)⟩,⟨sT.1.mono (by decide),sT.2.mono (by decide)⟩,fun r2 G10 s10 f10=>?_⟩
         have s90:=s9.trans s10
         have hD9:=s90 _ _ eD3
         refine⟨hD9,?_,Wt.next hc ⟨fun b o e=>?_,zj,?_,_,rfl⟩⟩
         · have:=fy.len
           rw[List.length_take,Pw.yj] at this
           exact zU (by omega)
         · rw[zp (zh e hD3)];exact s90 _ _ (s8 _ _ e)
         · have e1:Pw.ZI (Pw.ZL (Xe M a p j c)) (Pw.ZL (Pw.val (0 - C.1,C.2) * Pw.val (Pw.ZL (Pw.qq M a p a c))))=Pw.ZL (Pw.qq M a p j c):=by
            rw[Pw.Y7 (by omega) (by have:=(Pw.z8 (Pw.val (0 - C.1,C.2) * Pw.val (Pw.ZL (Pw.qq M a p a c)))).1;omega),Pw.Zq,Pw.Zq,Pw.Zq,vC,enx]
            congr 1
            grind
           rw[List.take_add_one,Pw.ZP (by omega),← e1]
           exact ((fy.same s90).snoc f10).set hD9
       rintro ys σ G8 ⟨s8,eD3,fy,_⟩
       rw[List.take_of_length_le (by rw[Pw.yj];exact Nat.le_refl _)] at fy
       have er8:=s8 _ _ (s7 _ _ er7)
       have neD3:D3≠r:=Ne.symm (zh (s7 _ _ er7) hD3)
       refine⟨_,rfl,_,rfl,r,us4,_,j,rfl,rfl,er8,Yz hj hM7.len,?_⟩
       have hM9:=(hM8.upd ⟨_,s7 _ _ er7⟩ s8).put er8 hj neD3 eD3 (f:=Pw.qq M a p j) fy
       refine⟨fun b o e ne=>?_,_,_,_,zj,hM9.ext fun i c hi hc=>?_,rfl⟩
       · rw[zp ne];exact s8 _ _ (s7 _ _ (kG' _ _ e ne))
       · by_cases z:i=j
         · subst z
           rw[if_pos rfl,if_neg ja,if_pos (by omega)]
         · rw[if_neg z]
           by_cases z1:i=a
           · rw[if_pos z1,if_pos z1]
           · rw[if_neg z1,if_neg z1]
             by_cases z2:i<j
             · rw[if_pos z2,if_pos (by omega)]
             · rw[if_neg z2,if_neg (by omega)]
     · rintro σ G' ⟨kG',us4,v7,v8,er7,hM7,rfl⟩
       refine⟨kG.trans (k5.trans kG'),us4,Pw.qq M a p,_,_,_,_,_,_,_,_,_,er7,hM7.ext fun i c hi hc=>?_,g',rfl⟩
       by_cases z:i=a
       · rw[if_pos z,z]
       · rw[if_neg z,if_pos hi]
   · rintro σ G ⟨kG,us,M,A,R,v2,v3,v4,v5,v6,v7,v8,er,hM,g,rfl⟩
     refine⟨_,rfl,r,rfl,⟨_,z7.of er⟩,fun D hD=>?_⟩
     have hl:=hM.len
     refine Yk (K:=K) (a:=r) (D:=D) (xs:=us) (fun i ys σ G'=>zu G G'∧G' D=some (.lst ys)∧Zl K G' (((List.range n).map fun i=>Pw.ZL (x i)).take i) ys∧∃ v,σ=[v,some (.int (n:Int))]) ?_ ?_ ?_ ?_
     · exact⟨zu.new hD,zj,rfl,none,rfl⟩
     · rintro i ys σ G' ⟨s,e,_⟩
       exact⟨z7.of (s _ _ er),e⟩
     · rintro i u ys σ G' hu hlt ⟨s,eD,fy,v,rfl⟩
       have hi:i<n:=by rw[← hl];exact (List.getElem?_eq_some_iff.mp hu).1
       obtain⟨q,vs,eu,ne,eq,fl⟩:=(hM.upd ⟨_,er⟩ s).row i hi
       have:u=.ref q:=Option.some.inj (hu.symm.trans eu)
       subst this
       obtain⟨pp,evp,fp⟩:=fl.at (Pw.ZP (c:=n) (Nat.le_refl _))
       rw[g.done hi] at fp
       dsimp only [ZU]
       rw[if_pos rfl]
       refine⟨_,rfl,_,rfl,q,_,_,_,rfl,rfl,z7.of eq,zY evp,eD,?_,Wt.next hlt ⟨fun b o e=>?_,zj,?_,_,rfl⟩⟩
       · have:=fy.len
         rw[List.length_take,List.length_map,List.length_range] at this
         exact zU (by omega)
       · rw[zp (zh e hD)];exact s _ _ e
       · rw[List.take_add_one,List.getElem?_map,List.getElem?_range hi]
         exact (fy.snoc fp).set eD
     rintro ys σ G1 ⟨s1,eD,fy,_⟩
     rw[hl,List.take_of_length_le (by rw[List.length_map,List.length_range];exact Nat.le_refl _)] at fy
     refine⟨D,_,rfl,z7.of eD,fun t G2 s2 m2 e2=>?_⟩
     exact k t G2 ys (kG.trans (s1.kp.trans s2.kp)) e2 (fy.same s2)
end
end Lw
set_option pp.maxSteps 800
namespace Lw
open PySem L2 PyProof.Rows
section
variable{P:Program}{w:World}{K:PySem.W.Frag}{mg:Str→Option Value}{base:Heap}
theorem xC:zT ["web","leap","leaps","steps","rows","other","row"] ["web","leap","leaps"] (zw ya):=⟨rfl,rfl,rfl,by decide +kernel,rfl,by decide +kernel,by decide +kernel⟩
set_option maxHeartbeats 0 in
theorem vV(S:yW K mg "_law_shares" ya ["web","leap","leaps"])(T:Txt mg)(Wy:Def P w K mg base 3 "_law_ways" ["web","leap","leaps","page"] (qY K))(Pl:Def P w K mg base 2 "_law_plus" ["one","other"] (yh K Pw.ZI))(Sv:Def P w K mg base 3 "_law_solved" ["rows"] (QH K)):Def P w K mg base 4 "_law_shares" ["web","leap","leaps"] (z3x K):=S.def fun f fd F=>by
 have nd:=xC.nd
 refine F.ok xC (fun vs H Q E h=>?_) (fun cdv A' outer s H vs Q E hr h=>?_)
 · obtain⟨_,_,_,_,_,_,_,_,_,rfl,_⟩:=h
   rfl
 · obtain⟨wa,lp,ls,n,ps,A,Bs,us,S,rfl,g,pr,n12,sA,sS,k⟩:=h
   refine⟨_,(@zo _ _ _ _ _ (@zK _ _ 3 _ _ _ _ (by rfl) (Or.inl rfl) nd rfl (Or.inr rfl) (Zg ["page","web","leap","leaps"] [none,some 0,some 1,some 2] rfl (Zk rfl T.range (@za _ _ _ _ _ (by rfl) (zD zN (pv 0) zg (fun _ _=>rfl)) zb)) (by show ∀ y:Str×NameKind,y∈_→y.2=NameKind.free→(zw ya).names.lookup y.1=some .cell;decide +kernel) (by decide) rfl (by decide +kernel) ⟨⟨rfl,rfl,.inl rfl⟩,⟨rfl,rfl,.inl rfl⟩,⟨rfl,rfl,.inl rfl⟩,trivial⟩
    (fun cl C s H fp=>(zQ (i:=0) (show (["page","web","leap","leaps"]:List Str).Nodup by decide +kernel) rfl (Or.inl rfl) (.inr rfl)))
    (fun cl C s H fp=>Zz)
    (fun cl C s H fp=>(zH (by rfl) (by rfl) (by rfl) (by decide) Wy (hr.mono (by decide)) (@za _ _ _ _ _ (by rfl) (pv 1) (@za _ _ _ _ _ (by rfl) (pv 2) (@za _ _ _ _ _ (by rfl) (pv 3) (@za _ _ _ _ _ (by rfl) (pv 0) zb))))))))
    (@zo _ _ _ _ _ (@zK _ _ 4 _ _ _ _ (by rfl) (Or.inl rfl) nd rfl (Or.inl rfl) (@Ze _ _ _ _ (@za _ _ _ _ _ (by rfl) (zI jG (@Ze _ _ _ _ (@za _ _ _ _ _ (by rfl) (@zq _ _ _ _ _ (@za _ _ _ _ _ (by rfl) zg (@za _ _ _ _ _ (by rfl) zg zb))) zb)) (zI ZZ (zD zN (pv 0) zg (fun _ _=>rfl)) zg)) zb)))
    (@zo _ _ _ _ _ (@ZW _ _ _ _ _ _ _ _ (fun _=>rfl) PassesOwn.never rfl (Q4 rfl T.range (@za _ _ _ _ _ (by rfl) zg (@za _ _ _ _ _ (by rfl) (zD zN (pv 0) zg (fun _ _=>rfl)) zb))) (zQ (i:=5) nd rfl (Or.inr rfl))
     (@zo _ _ _ _ _ (@zK _ _ 6 _ _ _ _ (by rfl) (Or.inl rfl) nd rfl (Or.inl rfl) (zI Xn (Zg ["page","other","steps"] [none,some 5,some 3] rfl (Zk rfl T.range (@za _ _ _ _ _ (by rfl) (zD zN (pv 0) zg (fun _ _=>rfl)) zb)) (by show ∀ y:Str×NameKind,y∈_→y.2=NameKind.free→(zw ya).names.lookup y.1=some .cell;decide +kernel) (by decide) rfl (by decide +kernel) ⟨⟨rfl,rfl,.inl rfl⟩,⟨rfl,rfl,.inl rfl⟩,trivial⟩
      (fun cl C s H fp=>(zQ (i:=0) (show (["page","other","steps"]:List Str).Nodup by decide +kernel) rfl (Or.inl rfl) (.inr rfl)))
      (fun cl C s H fp=>Zz)
      (fun cl C s H fp=>(zD (ZG (K:=K) rfl) (zD (ZG (K:=K) rfl) (pv 2) (pv 0) (fun _ _=>rfl)) (pv 1) (fun _ _=>rfl)))) (@Ze _ _ _ _ (@za _ _ _ _ _ (by rfl) (@zq _ _ _ _ _ (@za _ _ _ _ _ (by rfl) zg (@za _ _ _ _ _ (by rfl) zg zb))) zb))))
    (@zo _ _ _ _ _ (yT (zH (by rfl) (by rfl) (by rfl) (by decide) Pl (hr.mono (by decide)) (@za _ _ _ _ _ (by rfl) (zD z9 (pv 6) (pv 5) (fun _ _=>rfl)) (@za _ _ _ _ _ (by rfl) (@zq _ _ _ _ _ (@za _ _ _ _ _ (by rfl) qo (@za _ _ _ _ _ (by rfl) zg zb))) zb))) (yV (pv 6) (pv 5) set_list))
    (@zC _ _ _ (qd (jR PySem.F.plainAttrs_list PySem.F.slot_list_append PySem.F.type_list_append ym (pv 4) (@za _ _ _ _ _ (by rfl) (pv 6) zb)))))))
    (@zC _ _ _ (@zS _ _ _ _ (zH (by rfl) (by rfl) (by rfl) (by decide) Sv (hr.mono (by decide)) (@za _ _ _ _ _ (by rfl) (pv 4) zb))))))),?_⟩
   have n1:1≤n:=by have:=g.plo;omega
   have hn:Bs.length=n:=by have:=g.len;omega
   have lk:∀ p∈ps,0≤p.2∧p.2<(n:Int):=fun p hp=>(g.lk p hp).2.2
   obtain⟨Ss,V',ok,_⟩:=z3m g.few lk g.ca g.cb hn n12 pr sA.2 sS
   obtain⟨_,_,ew,_,_⟩:=id g.web
   refine⟨_,rfl,wa,_,_,_,rfl,rfl,z5.of ew,rfl,(n:Int),rfl,by omega,by omega,fun D hD=>?_⟩
   rw[Int.toNat_natCast]
   refine Z1 (lo:=0) (n:=n) (D:=D) (fun i ys σ G=>zu H G∧G D=some (.lst ys)∧(ys.length=i∧∀ j,j<i→∃ q vs,ys[j]?=some (.ref q)∧q≠D∧G q=some (.lst vs)∧Zl K G (Pw.zG ps A Bs (j:Int)) vs)∧∃ p,σ=[p,some (.ref wa),some (.ref lp),some (.ref ls)]) ?_ ?_ ?_ ?_
   · exact⟨zu.new hD,zj,⟨rfl,fun j hj=>absurd hj (Nat.not_lt_zero _)⟩,none,rfl⟩
   · rintro i ys σ G ⟨_,e,_⟩
     exact e
   · rintro i ys σ G hi ⟨s,eD,⟨ly,ay⟩,p0,rfl⟩
     rw[Int.zero_add]
     dsimp only [ZU]
     rw[if_pos rfl]
     refine⟨_,rfl,_,rfl,_,rfl,_,rfl,wa,lp,ls,n,i,ps,A,Bs,us,rfl,g.same s,fun t G2 vs s2 m2 e2 f2=>?_⟩
     have eD2:=s2 _ _ eD
     have ht:t≠D:=by rintro rfl;rw[m2] at eD;cases eD
     refine⟨eD2,by rw[ly];exact zU (by omega),Wt.next hi ⟨fun b o e=>?_,zj,⟨by rw[List.length_append,ly];rfl,fun j hj=>?_⟩,_,rfl⟩⟩
     · rw[zp (zh e hD)];exact s2 _ _ (s _ _ e)
     · by_cases z:j<i
       · obtain⟨q,ws,e1,ne,eq,fl⟩:=ay j z
         exact⟨q,ws,by rw[List.getElem?_append_left (by omega)];exact e1,ne,by rw[zp ne];exact s2 _ _ eq,(fl.same s2).set eD2⟩
       · obtain rfl:j=i:=by omega
         exact⟨t,vs,by rw[List.getElem?_append_right (by omega),ly,Nat.sub_self];rfl,ht,by rw[zp ht];exact e2,f2.set eD2⟩
   rintro ys σ H1 ⟨s1,eD,⟨ly,ay⟩,_⟩
   refine⟨(by show 2≤sizeLine;decide),fun t1 H2 s2 m2 e2=>⟨(by show 1≤sizeLine;decide),fun l1 H3 s3 m3 e3=>?_⟩⟩
   refine⟨_,rfl,wa,_,_,_,rfl,rfl,z5.of ((s1.trans (s2.trans s3)) _ _ ew),rfl,_,_,rfl,rfl,l1,_,_,rfl,rfl,e3,by omega,by omega,(by show 1 * ((n:Int)+1).toNat≤sizeLine;rw[sizeLine_eq];omega),fun l0 H4 s4 m4 e4=>?_⟩
   have er0:(List.replicate ((n:Int)+1).toNat [V.ref t1]).flatten=List.replicate (n+1) (V.ref t1):=by
    rw[show ((n:Int)+1).toNat=n+1 by omega,List.flatten_replicate_singleton]
   rw[er0] at e4
   refine⟨(by show 1≤sizeLine;decide),fun r H5 s5 m5 e5=>?_⟩
   have S5:=s1.trans (s2.trans (s3.trans (s4.trans s5)))
   have S15:zu H1 H5:=s2.trans (s3.trans (s4.trans s5))
   have cw:∀ j:Nat,Pw.zW (Pw.zG ps A Bs (j:Int)):=fun j=>Pw.ZJ g.ca g.cb
   have lw:∀ j:Nat,(Pw.zG ps A Bs (j:Int)).length=n:=fun j=>by rw[Pw.ZX];exact hn
   have fr0:Zl K H5 (Pw.rowOf n (Pw.mQ ps A Bs n) 0) (List.replicate (n+1) (.ref t1)):=by
    have:Pw.rowOf n (Pw.mQ ps A Bs n) 0=List.replicate (n+1) (1,1):=by
     apply List.ext_getElem?
     intro c
     by_cases hc:c≤n
     · rw[Pw.ZP hc,List.getElem?_replicate,if_pos (by omega)]
       show some (Pw.ZL (if 0=0 then 1 else _))=_
       rw[if_pos rfl];rfl
     · rw[List.getElem?_eq_none (by rw[Pw.yj];omega),List.getElem?_eq_none (by rw[List.length_replicate];omega)]
    rw[this]
    exact Zl.repl ((s3.trans (s4.trans s5)) _ _ e2) _
   have l0r:l0≠r:=zh e4 m5
   have Dr:D≠r:=zh ((s2.trans (s3.trans s4)) _ _ eD) m5
   refine⟨_,rfl,wa,_,_,_,rfl,rfl,z5.of (S5 _ _ ew),rfl,1,(n:Int),rfl,⟨by decide,by decide,by omega,by omega⟩,?_⟩
   rw[show ((n:Int) - 1).toNat=n - 1 by omega]
   refine Z5 (lo:=1) (n:=n - 1) (fun q σ G=>Kp r H5 G∧∃ (us1:List V) (v5 v6:Option V),G r=some (.lst us1)∧us1.length=q+1∧(∀ i,i<q+1→∃ qi vs,us1[i]?=some (.ref qi)∧qi≠r∧G qi=some (.lst vs)∧Zl K G (Pw.rowOf n (Pw.mQ ps A Bs n) i) vs)∧σ=[some (.ref wa),some (.ref lp),some (.ref ls),some (.ref D),some (.ref r),v5,v6]) ?_ ?_ ?_
   · refine⟨(zu.refl _).kp,[.ref l0],none,none,e5,rfl,fun i hi=>?_,rfl⟩
     obtain rfl:i=0:=by omega
     exact⟨l0,_,rfl,l0r,s5 _ _ e4,fr0⟩
   · rintro q σ G hq ⟨kG,us1,v5,v6,er,lu,au,rfl⟩
     have e1q:(1:Int)+(q:Int)=((q+1:Nat):Int):=by omega
     rw[e1q]
     have klG:∀ b o,H5 b=some o→(∀ xs,o≠.lst xs)→G b=some o:=fun b o e no=>kG b o e (by rintro rfl;rw[e5] at e;cases e;exact no _ rfl)
     have ewG:G wa=_:=klG _ _ (S5 _ _ ew) (fun xs z=>by cases z)
     have eDG:=kG _ _ (S15 _ _ eD) Dr
     refine⟨_,rfl,wa,_,_,_,rfl,rfl,z5.of ewG,rfl,(n:Int),rfl,by omega,by omega,fun C hC=>?_⟩
     rw[Int.toNat_natCast]
     have frG:∀ {As:List (Int×Int)}{vs:List V},Zl K H1 As vs→Zl K G As vs:=fun {As vs} f=>by
      have f5:=f.same S15
      clear f
      induction As generalizing vs with
      | nil=>exact f5
      | cons X As ih =>
        obtain⟨p,rr,e,fp,ft⟩:=f5
        exact⟨p,rr,e,klG _ _ fp (fun xs z=>by cases z),ih ft⟩
     refine Z1 (lo:=0) (n:=n) (D:=C) (fun c ws σ G'=>zu G G'∧G' C=some (.lst ws)∧Zl K G' ((List.range c).map fun j:Nat=>(Pw.zG ps A Bs (j:Int)).getD (q+1) (0,1)) ws∧∃ p,σ=[p,some (.int ((q+1:Nat):Int)),some (.ref D)]) ?_ ?_ ?_ ?_
     · exact⟨zu.new hC,zj,rfl,none,rfl⟩
     · rintro c ws σ G' ⟨_,e,_⟩
       exact e
     · rintro c ws σ G' hc ⟨sg,eC,fw,p0,rfl⟩
       rw[Int.zero_add]
       obtain⟨qc,vc,e1,ne,eqc,flc⟩:=ay c hc
       have eqG:G qc=some (.lst vc):=by
        refine kG _ _ (S15 _ _ eqc) ?_
        have:=zh ((s2.trans (s3.trans s4)) _ _ eqc) m5
        exact this
       have hget:(Pw.zG ps A Bs (c:Int))[q+1]?=some ((Pw.zG ps A Bs (c:Int)).getD (q+1) (0,1)):=by
        rw[List.getD_eq_getElem?_getD,List.getElem?_eq_getElem (by rw[lw];omega)];rfl
       obtain⟨p,evp,fp⟩:=((frG flc).same sg).at hget
       dsimp only [ZU]
       rw[if_pos rfl]
       refine⟨_,rfl,_,rfl,D,_,_,_,rfl,rfl,z7.of (sg _ _ eDG),zY e1,_,rfl,qc,_,_,_,rfl,rfl,z7.of (sg _ _ eqG),zY evp,eC,?_,Wt.next hc ⟨fun b o e=>?_,zj,?_,_,rfl⟩⟩
       · rw[fw.len,List.length_map,List.length_range];exact zU (by omega)
       · rw[zp (zh e hC)];exact sg _ _ e
       · rw[List.range_succ,List.map_append]
         exact (fw.snoc fp).set eC
     rintro ws σ G1 ⟨sg,eC,fw,_⟩
     refine⟨(by show 2≤sizeLine;decide),fun t0 G2 u2 w2 f2=>⟨(by show 1≤sizeLine;decide),fun l2 G3 u3 w3 f3=>?_⟩⟩
     have lws:ws.length=n:=by rw[fw.len,List.length_map,List.length_range]
     refine⟨C,l2,_,_,rfl,rfl,(u2.trans u3) _ _ eC,f3,(by rw[lws,List.length_singleton,sizeLine_eq];omega),fun rw_ G4 u4 w4 f4=>?_⟩
     have uA:=u2.trans (u3.trans u4)
     have frow:Zl K G4 (((List.range n).map fun j:Nat=>(Pw.zG ps A Bs (j:Int)).getD (q+1) (0,1)) ++ [(0,1)]) (ws ++ [V.ref t0]):=(fw.same uA).snoc ((u3.trans u4) _ _ f2)
     have hat:(((List.range n).map fun j:Nat=>(Pw.zG ps A Bs (j:Int)).getD (q+1) (0,1)) ++ [(0,1)])[q+1]?=some ((Pw.zG ps A Bs ((q+1:Nat):Int)).getD (q+1) (0,1)):=by
      rw[List.getElem?_append_left (by rw[List.length_map,List.length_range];omega),List.getElem?_map,List.getElem?_range (by omega)];rfl
     obtain⟨px,evx,fx⟩:=frow.at hat
     have cX:Pw.Canon ((Pw.zG ps A Bs ((q+1:Nat):Int)).getD (q+1) (0,1)):=by
      refine cw (q+1) _ ?_
      rw[List.getD_eq_getElem?_getD,List.getElem?_eq_getElem (by rw[lw];omega)];exact List.getElem_mem _
     have sX:Z9 3000 ((Pw.zG ps A Bs ((q+1:Nat):Int)).getD (q+1) (0,1)):=by
      have:=xZ (page:=((q+1:Nat):Int)) g.few g.ca g.cb g.sa g.sb ((Pw.zG ps A Bs ((q+1:Nat):Int)).getD (q+1) (0,1)) (by rw[List.getD_eq_getElem?_getD,List.getElem?_eq_getElem (by rw[lw];omega)];exact List.getElem_mem _)
      exact this.mono (by decide)
     refine⟨_,rfl,_,rfl,rw_,_,_,_,rfl,rfl,z7.of f4,zY evx,(by show 2≤sizeLine;decide),fun tm G5 u5 w5 f5=>?_⟩
     refine⟨px,tm,_,(-1,1),rfl,z5.of (u5 _ _ fx),z5.of f5,cX.1,by decide,sX,⟨zR 1 (by decide),zR 1 (by decide)⟩,fun pr_ G6 u6 f6=>?_⟩
     have f46:=(u5.trans u6) _ _ f4
     refine⟨_,rfl,_,rfl,rw_,_,_,q+1,rfl,rfl,f46,Yz (n:=n+1) (by omega) (by rw[List.length_append,lws];rfl),?_⟩
     have frow6:Zl K G6 ((((List.range n).map fun j:Nat=>(Pw.zG ps A Bs (j:Int)).getD (q+1) (0,1)) ++ [(0,1)]).set (q+1) (Pw.ZI ((Pw.zG ps A Bs ((q+1:Nat):Int)).getD (q+1) (0,1)) (-1,1))) ((ws ++ [V.ref t0]).set (q+1) (V.ref pr_)):=(frow.same (u5.trans u6)).putAt f6 (q+1)
     have erow:(((List.range n).map fun j:Nat=>(Pw.zG ps A Bs (j:Int)).getD (q+1) (0,1)) ++ [(0,1)]).set (q+1) (Pw.ZI ((Pw.zG ps A Bs ((q+1:Nat):Int)).getD (q+1) (0,1)) (-1,1))=Pw.rowOf n (Pw.mQ ps A Bs n) (q+1):=by
      apply List.ext_getElem?
      intro c
      rw[List.getElem?_set]
      by_cases hc:c≤n
      · rw[Pw.ZP hc]
        have i0:¬ q+1=0:=by omega
        by_cases e:q+1=c
        · rw[if_pos e,if_pos (by rw[List.length_append,List.length_map,List.length_range];simp;omega)]
          subst e
          rw[Pw.Y7 (by have:=cX.1;omega) (by decide)]
          congr 2
          unfold Pw.mQ Pw.wQ
          rw[if_neg i0,if_pos (by omega),if_pos rfl]
          have:Pw.val (-1,1)=-1:=by
           have h:=Pw.yO (A:=(-1,1)) (by decide)
           have h:Pw.val (-1,1) * (1:Rat)=(-1:Rat):=h
           grind
          rw[this]
          grind
        · rw[if_neg e]
          by_cases cn:c<n
          · rw[List.getElem?_append_left (by rw[List.length_map,List.length_range];exact cn),List.getElem?_map,List.getElem?_range cn]
            have cc:Pw.Canon ((Pw.zG ps A Bs (c:Int)).getD (q+1) (0,1)):=by
             refine cw c _ ?_
             rw[List.getD_eq_getElem?_getD,List.getElem?_eq_getElem (by rw[lw];omega)];exact List.getElem_mem _
            show some _=some _
            congr 1
            unfold Pw.mQ
            rw[if_neg i0,if_pos cn,if_neg (fun z=>e z.symm)]
            have:Pw.wQ ps A Bs c (q+1) - 0=Pw.val ((Pw.zG ps A Bs (c:Int)).getD (q+1) (0,1)):=by unfold Pw.wQ;grind
            rw[this,Pw.qb cc]
          · obtain rfl:c=n:=by omega
            rw[List.getElem?_append_right (by rw[List.length_map,List.length_range];exact Nat.le_refl _),List.length_map,List.length_range,Nat.sub_self]
            unfold Pw.mQ
            rw[if_neg i0,if_neg cn]
            rfl
      · rw[if_neg (by omega),List.getElem?_eq_none (by rw[List.length_append,List.length_map,List.length_range];simp;omega),List.getElem?_eq_none (by rw[Pw.yj];omega)]
     rw[erow] at frow6
     have nR:rw_≠r:=Ne.symm (zh ((sg.trans (u2.trans u3)) _ _ er) w4)
     have s6:∀ b o,G b=some o→upd G6 rw_ (.lst ((ws ++ [V.ref t0]).set (q+1) (V.ref pr_))) b=some o:=fun b o e=>by
      rw[zp (zh ((sg.trans (u2.trans u3)) _ _ e) w4)]
      exact (sg.trans (uA.trans (u5.trans u6))) _ _ e
     have frow7:=frow6.set (o:=.lst ((ws ++ [V.ref t0]).set (q+1) (V.ref pr_))) f46
     have eW:upd G6 rw_ (.lst ((ws ++ [V.ref t0]).set (q+1) (V.ref pr_))) rw_=_:=zj
     generalize upd G6 rw_ (.lst ((ws ++ [V.ref t0]).set (q+1) (V.ref pr_)))=U at s6 frow7 eW
     have erU:=s6 _ _ er
     refine⟨_,rfl,.inl ⟨rfl,_,z7.of erU⟩,_,rfl,r,_,_,rfl,rfl,erU,by rw[lu];exact zU (by omega),?_⟩
     refine⟨fun b o e ne=>?_,_,_,_,zj,by rw[List.length_append,lu];rfl,fun i hi=>?_,rfl⟩
     · rw[zp ne];exact s6 _ _ (kG _ _ e ne)
     · by_cases z:i<q+1
       · obtain⟨qi,vs,e1,ne,eqi,fl⟩:=au i z
         exact⟨qi,vs,by rw[List.getElem?_append_left (by omega)];exact e1,ne,by rw[zp ne];exact s6 _ _ eqi,(fl.same s6).set erU⟩
       · obtain rfl:i=q+1:=by omega
         exact⟨rw_,_,by rw[List.getElem?_append_right (by omega),lu,Nat.sub_self];rfl,nR,by rw[zp nR];exact eW,frow7.set erU⟩
   · rintro σ G ⟨kG,us1,v5,v6,er,lu,au,rfl⟩
     rw[show n - 1+1=n by omega] at lu au
     have gs:=Pw.z5L (Ss:=Ss) n1 n12 g.few lk g.ca g.cb hn pr sA.2 sS ok
     have gj:=Pw.JK (S:=S) n1 g.ca pr ok
     refine⟨_,rfl,r,n,Pw.mQ ps A Bs n,us1,_,_,_,_,rfl,er,⟨lu,au⟩,gs,gj,fun t G' ds kG' et fl=>?_⟩
     rw[z0l ok.canon ok.len] at fl
     refine k t G' ds Ss ok (fun b o e=>?_) et fl
     have ne:b≠r:=zh ((s1.trans (s2.trans (s3.trans s4))) _ _ e) m5
     exact kG' _ _ (kG _ _ (S5 _ _ e) ne) ne
end
end Lw
set_option pp.maxSteps 800
namespace Lw
open PySem L2 PyProof.Rows
section
variable{P:Program}{w:World}{K:PySem.W.Frag}{mg:Str→Option Value}{base:Heap}
theorem jC:zT ["thing"] ["thing"] (zw Uy):=⟨rfl,rfl,rfl,by decide +kernel,rfl,by decide +kernel,by decide +kernel⟩
set_option maxHeartbeats 0 in
theorem Ul(S:yW K mg "is_whole" Uy ["thing"])(T:Txt mg) :Def P w K mg base 1 "is_whole" ["thing"] (Ql K):=S.def fun f fd F=>by
 have nd:=jC.nd
 refine F.ok jC (fun vs H Q E h=>?_) (fun cdv A' outer s H vs Q E hr h=>?_)
 · obtain⟨_,_,rfl,_⟩:=h
   rfl
 · obtain⟨v,o,rfl,h,k⟩:=h
   refine⟨_,(@zC _ _ _ (@zS _ _ _ _ (yi (zX uM (by rfl) T.isi boot_isinstance (@za _ _ _ _ _ (by rfl) (pv 0) (@za _ _ _ _ _ (by rfl) (yt (v:=.ty "int") (by rfl) T.int boot_int rfl) zb))) (Ye (z5b (zX uM (by rfl) T.isi boot_isinstance (@za _ _ _ _ _ (by rfl) (pv 0) (@za _ _ _ _ _ (by rfl) (yt (v:=.ty "bool") (by rfl) T.bool boot_bool rfl) zb)))))))),?_⟩
   cases h with
   | int i=>exact⟨_,rfl,_,_,_,true,rfl,.int i,z1j _,_,rfl,YN rfl ⟨_,rfl,_,_,_,false,rfl,.int i,JX _,_,rfl,k⟩⟩
   | bl b=>exact⟨_,rfl,_,_,_,true,rfl,.bl b,z1g _,_,rfl,YN rfl ⟨_,rfl,_,_,_,true,rfl,.bl b,UH _,_,rfl,k⟩⟩
   | oth ty e=>exact⟨_,rfl,_,_,_,false,rfl,ty,e,_,rfl,yH rfl k⟩
theorem JL:zT ["thing"] ["thing"] (zw z0Q):=⟨rfl,rfl,rfl,by decide +kernel,rfl,by decide +kernel,by decide +kernel⟩
set_option maxHeartbeats 0 in
theorem Y9(S:yW K mg "is_pair_of_wholes" z0Q ["thing"])(T:Txt mg)(Wh:Def P w K mg base 1 "is_whole" ["thing"] (Ql K)):Def P w K mg base 2 "is_pair_of_wholes" ["thing"] (jS K):=S.def fun f fd F=>by
 have nd:=JL.nd
 refine F.ok JL (fun vs H Q E h=>?_) (fun cdv A' outer s H vs Q E hr h=>?_)
 · obtain⟨_,_,rfl,_⟩:=h
   rfl
 · obtain⟨v,o,rfl,ht,k⟩:=h
   refine⟨_,(@zC _ _ _ (@zS _ _ _ _ (yi (zX yn (by rfl) T.isi boot_isinstance (@za _ _ _ _ _ (by rfl) (pv 0) (@za _ _ _ _ _ (by rfl) (yt (v:=.ty "tuple") (by rfl) T.tup boot_tuple rfl) zb))) (yi (Zu YI (zX Zh (by rfl) T.len PySem.boot_len (@za _ _ _ _ _ (by rfl) (pv 0) zb)) zg (z0 _)) (yi (zH (by rfl) (by rfl) (by rfl) (by decide) Wh (hr.mono (by decide)) (@za _ _ _ _ _ (by rfl) (zD zN (pv 0) zg (fun _ _=>rfl)) zb)) (Ye (zH (by rfl) (by rfl) (by rfl) (by decide) Wh (hr.mono (by decide)) (@za _ _ _ _ _ (by rfl) (zD zN (pv 0) zg (fun _ _=>rfl)) zb)))))))),?_⟩
   cases ht with
   | no ty e=>exact⟨_,rfl,_,_,_,false,rfl,ty,e,_,rfl,yH rfl k⟩
   | @len q xs e l =>
     refine⟨_,rfl,_,_,_,true,rfl,QS.tup e,xH _,_,rfl,YN rfl ?_⟩
     refine⟨_,rfl,q,_,rfl,.inr e,rfl,_,rfl,yH (decide_eq_false fun z=>?_) ?_⟩
     · have:=V.int.inj z
       omega
     · exact k
   | @two q x y ox oy hq hx hy =>
     refine⟨_,rfl,_,_,_,true,rfl,QS.tup hq,xH _,_,rfl,YN rfl ?_⟩
     refine⟨_,rfl,q,_,rfl,.inr hq,rfl,_,rfl,YN rfl ?_⟩
     refine⟨_,rfl,q,_,_,_,rfl,rfl,hq,rfl,_,_,rfl,hx,_,rfl,?_⟩
     cases ox with
     | none=>exact yH rfl k
     | some i =>
       refine YN rfl ⟨_,rfl,q,_,_,_,rfl,rfl,hq,rfl,_,_,rfl,hy,?_⟩
       cases oy with
       | none=>exact k
       | some j=>exact k
end
end Lw
set_option pp.maxSteps 800
namespace Lw
open PySem L2 PyProof.Rows
section
variable{P:Program}{w:World}{K:PySem.W.Frag}{mg:Str→Option Value}{base:Heap}
theorem z3w:zT ["thing"] ["thing"] (zw z3V):=⟨rfl,rfl,rfl,by decide +kernel,rfl,by decide +kernel,by decide +kernel⟩
set_option maxHeartbeats 0 in
theorem Qw(S:yW K mg "is_fraction" z3V ["thing"])(T:Txt mg)(Pa:Def P w K mg base 2 "is_pair_of_wholes" ["thing"] (jS K))(Co:Def P w K mg base 1 "common" ["one","other"] Yl):Def P w K mg base 3 "is_fraction" ["thing"] (jd K):=S.def fun f fd F=>by
 have nd:=z3w.nd
 refine F.ok z3w (fun vs H Q E h=>?_) (fun cdv A' outer s H vs Q E hr h=>?_)
 · obtain⟨_,_,rfl,_⟩:=h
   rfl
 · obtain⟨v,o,rfl,ht,k⟩:=h
   refine⟨_,(@zC _ _ _ (@zS _ _ _ _ (yi (zH (by rfl) (by rfl) (by rfl) (by decide) Pa (hr.mono (by decide)) (@za _ _ _ _ _ (by rfl) (pv 0) zb)) (yi (Zu z0j (zD zN (pv 0) zg (fun _ _=>rfl)) zg (z0 _)) (Ye (Zu YI (zH (by rfl) (by rfl) (by rfl) (by decide) Co (hr.mono (by decide)) (@za _ _ _ _ _ (by rfl) (zX x6 (by rfl) T.abs boot_abs (@za _ _ _ _ _ (by rfl) (zD zN (pv 0) zg (fun _ _=>rfl)) zb)) (@za _ _ _ _ _ (by rfl) (zD zN (pv 0) zg (fun _ _=>rfl)) zb))) zg (z0 _))))))),?_⟩
   refine⟨_,rfl,v,o,rfl,ht.tp2,_,rfl,?_⟩
   cases ht with
   | no ty e=>exact yH rfl k
   | len e l=>exact yH rfl k
   | @two p x y ox oy hA hx hy =>
     cases ox with
     | none=>exact yH rfl k
     | some i =>
     cases oy with
     | none=>exact yH rfl k
     | some j =>
     cases hx
     cases hy
     refine YN rfl ?_
     have hA:=z5.of (K:=K) hA
     refine⟨_,rfl,p,_,_,_,rfl,rfl,hA,rfl,_,_,rfl,rfl,_,rfl,?_⟩
     have k:Q (.bl (decide (1≤j∧Int.gcd i j=1))) H:=k
     by_cases h1:1≤j
     case neg =>
      rw[decide_eq_false h1]
      rw[decide_eq_false (fun z=>h1 z.1)] at k
      exact yH rfl k
     rw[decide_eq_true h1]
     refine YN rfl ?_
     refine⟨_,rfl,p,_,_,_,rfl,rfl,hA,rfl,_,rfl,_,rfl,p,_,_,_,rfl,rfl,hA,rfl,_,_,rfl,by split <;> omega,by omega,rfl,?_⟩
     have e:Int.gcd (if i<0 then -i else i) j=Int.gcd i j:=by
      split
      · rw[Int.neg_gcd]
      · rfl
     rw[e]
     have e2:decide (V.int ((Int.gcd i j:Nat):Int)=V.int 1)=decide (1≤j∧Int.gcd i j=1):=by
      rw[decide_eq_decide]
      constructor
      · intro z
        have:=V.int.inj z
        exact⟨h1,by omega⟩
      · rintro⟨_,z⟩
        rw[z];rfl
     rw[e2]
     exact k
theorem j5:zT ["thing"] ["thing"] (zw Ub):=⟨rfl,rfl,rfl,by decide +kernel,rfl,by decide +kernel,by decide +kernel⟩
set_option maxHeartbeats 0 in
theorem UJ(S:yW K mg "is_share" Ub ["thing"])(T:Txt mg)(If:Def P w K mg base 3 "is_fraction" ["thing"] (jd K)):Def P w K mg base 4 "is_share" ["thing"] (jL K):=S.def fun f fd F=>by
 have nd:=j5.nd
 refine F.ok j5 (fun vs H Q E h=>?_) (fun cdv A' outer s H vs Q E hr h=>?_)
 · obtain⟨_,_,rfl,_⟩:=h
   rfl
 · obtain⟨v,o,rfl,ht,k⟩:=h
   refine⟨_,(@zC _ _ _ (@zS _ _ _ _ (yi (zH (by rfl) (by rfl) (by rfl) (by decide) If (hr.mono (by decide)) (@za _ _ _ _ _ (by rfl) (pv 0) zb)) (Ye (Zu z0j (zD zN (pv 0) zg (fun _ _=>rfl)) zg (z0 _)))))),?_⟩
   refine⟨_,rfl,v,o,rfl,ht,_,rfl,?_⟩
   cases ht with
   | no ty e=>exact yH rfl k
   | len e l=>exact yH rfl k
   | @two p x y ox oy hA hx hy =>
     cases ox with
     | none=>exact yH rfl k
     | some i =>
     cases oy with
     | none=>exact yH rfl k
     | some j =>
     cases hx
     cases hy
     have k:Q (.bl (yf (some (i,j)) && decide (0≤i))) H:=k
     show (if yf (some (i,j))=true then _ else _)
     cases hf:yf (some (i,j)) with
     | false =>
       rw[hf] at k
       exact yH rfl k
     | true =>
       rw[hf] at k
       exact YN rfl ⟨_,rfl,p,_,_,_,rfl,rfl,z5.of hA,rfl,_,_,rfl,rfl,k⟩
end
end Lw
set_option pp.maxSteps 800
namespace Lw
open PySem L2 PyProof.Rows
section
variable{P:Program}{w:World}{K:PySem.W.Frag}{mg:Str→Option Value}{base:Heap}
theorem U8:zT ["some","whole","each"] ["some"] (zw UW):=⟨rfl,rfl,rfl,by decide +kernel,rfl,by decide +kernel,by decide +kernel⟩
theorem z2H(S:yW K mg "total" UW ["some"]){zZ:Addr}(mZ:mg "ZERO"=some (.ref zZ))(hZ:∀ H,xA K H zZ (0,1))(Pl:Def P w K mg base 3 "plus" ["one","other"] (yh K Pw.ZI)):Def P w K mg base 4 "total" ["some"] (z3r K):=S.def fun f fd F=>by
 have nd:=U8.nd
 refine F.ok U8 (fun vs H Q E h=>?_) (fun cdv A' outer s H vs Q E hr h=>?_)
 · obtain⟨_,_,_,_,_,_,rfl,_⟩:=h
   rfl
 · obtain⟨t,us,As,n,DD,CC,rfl,ht,fl,rw,n13,k⟩:=h
   refine⟨_,@zo _ _ _ _ _ (@zK _ _ 1 _ _ _ _ (by rfl) (Or.inl rfl) nd rfl (Or.inl rfl) (VB (v:=.ref zZ) (by rfl) mZ rfl)) (@zo _ _ _ _ _ (@ZW _ _ _ _ _ _ _ _ (fun _=>rfl) PassesOwn.never rfl (YY (pv 0)) (zQ (i:=2) nd rfl (Or.inl rfl)) (@zC _ _ _ (@zK _ _ 1 _ _ _ _ (by rfl) (Or.inl rfl) nd rfl (Or.inl rfl) (zH (by rfl) (by rfl) (by rfl) (by decide) Pl hr (@za _ _ _ _ _ (by rfl) (pv 1) (@za _ _ _ _ _ (by rfl) (pv 2) zb)))))) (@zC _ _ _ (@zS _ _ _ _ (pv 1)))),?_⟩
   have hl:=fl.len
   have hn:=rw.len
   refine⟨_,rfl,t,rfl,⟨_,z5.of ht⟩,?_⟩
   refine jz (K:=K) (a:=t) (xs:=us) (fun m σ G=>zu H G∧∃ (q:Addr) (v:Option V),xA K G q (Pw.ZL (Pw.qs m (fun t=>Pw.val (As.getD t (0,1)))))∧σ=[some (.ref t),some (.ref q),v]) ⟨zu.refl _,zZ,none,hZ _,rfl⟩ (fun m σ G _ h=>z5.of (h.1 _ _ ht)) ?_ ?_
   · rintro m v σ G hm ⟨sG,q,v',fq,rfl⟩
     have hml:m<us.length:=(List.getElem?_eq_some_iff.mp hm).1
     have hmS:m<As.length:=by omega
     obtain⟨q',eq',fq'⟩:=(fl.same sG).at (j:=m) (A:=As[m]) (by simp[hmS])
     rw[hm] at eq'
     cases eq'
     have mS:=List.getElem_mem hmS
     have cS:=rw.canon _ mS
     have cQ:=Pw.z8 (Pw.qs m (fun t=>Pw.val (As.getD t (0,1))))
     refine⟨_,rfl,_,rfl,q,q',_,_,rfl,fq,xA.of fq',cQ.1,cS.1,(z2R rw n13 (j:=m) (by omega)).mono (by decide),(rw.jr mS).mono (by decide),fun r G3 s4 f4=>?_⟩
     refine⟨sG.trans s4,r,_,?_,rfl⟩
     rw[Pw.Y7 (Pw.zE cQ) (Pw.zE cS),Pw.Zq] at f4
     have e:Pw.qs (m+1) (fun t=>Pw.val (As.getD t (0,1)))=Pw.qs m (fun t=>Pw.val (As.getD t (0,1)))+Pw.val As[m]:=by
      show _+Pw.val (As.getD m (0,1))=_
      rw[List.getD_eq_getElem?_getD,List.getElem?_eq_getElem hmS];rfl
     rw[e]
     exact xA.of f4
   · rintro σ G ⟨sG,q,v',fq,rfl⟩
     rw[hl,hn] at fq
     exact⟨_,rfl,k q G sG fq⟩
theorem z3q:zT ["web","thing"] ["web","thing"] (zw z2x):=⟨rfl,rfl,rfl,by decide +kernel,rfl,by decide +kernel,by decide +kernel⟩
set_option maxHeartbeats 0 in
theorem VW(S:yW K mg "are_leaps" z2x ["web","thing"])(T:Txt mg)(zall:mg "all"=none){zO:Addr}(mO:mg "ONE"=some (.ref zO))(hO:∀ H,xA K H zO (1,1))(Is:Def P w K mg base 4 "is_share" ["thing"] (jL K))(To:Def P w K mg base 4 "total" ["some"] (z3r K)):Def P w K mg base 5 "are_leaps" ["web","thing"] (jT K):=S.def fun f fd F=>by
 have nd:=z3q.nd
 refine F.ok z3q (fun vs H Q E h=>?_) (fun cdv A' outer s H vs Q E hr h=>?_)
 · obtain⟨_,_,_,_,_,rfl,_⟩:=h
   rfl
 · obtain⟨wa,r,n,v,o,rfl,hw,n13,ht,k⟩:=h
   refine⟨_,(@zo _ _ _ _ _ (@Z3 _ _ _ _ _ _ _ _ (PW.pt (uW (xJ (Yi (zX yn (by rfl) T.isi boot_isinstance (@za _ _ _ _ _ (by rfl) (pv 1) (@za _ _ _ _ _ (by rfl) (yt (v:=.ty "tuple") (by rfl) T.tup boot_tuple rfl) zb))))) (qJ (Zf qH (zX Zh (by rfl) T.len PySem.boot_len (@za _ _ _ _ _ (by rfl) (pv 1) zb)) (zD zN (pv 0) zg (fun _ _=>rfl)) (z0 _)))))
    (@zC _ _ _ (@zS _ _ _ _ ZT))
    Zr)
    (@zC _ _ _ (@zS _ _ _ _ (yi (zX (JQ rfl) (by rfl) zall boot_all (@za _ _ _ _ _ (by rfl) (Zg ["each"] [none] rfl (YY (pv 1)) (by show ∀ y:Str×NameKind,y∈_→y.2=NameKind.free→(zw z2x).names.lookup y.1=some .cell;decide +kernel) (by decide) rfl (by decide +kernel) trivial
     (fun cl C s H fp=>(zQ (i:=0) (show (["each"]:List Str).Nodup by decide +kernel) rfl (Or.inl rfl) (.inr rfl)))
     (fun cl C s H fp=>Zz)
     (fun cl C s H fp=>(zH (by rfl) (by rfl) (by rfl) (by decide) Is (hr.mono (by decide)) (@za _ _ _ _ _ (by rfl) (pv 0) zb)))) zb)) (Ye (Zu (qN hr) (zH (by rfl) (by rfl) (by rfl) (by decide) To (hr.mono (by decide)) (@za _ _ _ _ _ (by rfl) (pv 1) zb)) (VB (v:=.ref zO) (by rfl) mO rfl) (z0 _))))))),?_⟩
   cases ht with
   | no ty e =>
     have k:=k _ (zu.refl _)
     rw[y9 (fun ⟨_,z,_⟩=>by cases z)] at k
     exact⟨_,rfl,_,_,_,false,rfl,ty,e,_,rfl,YN rfl k⟩
   | @tup t us os e f l rw_ =>
     have hl:=YG f
     refine⟨_,rfl,_,_,_,true,rfl,QS.tup (z5.of e),xH _,_,rfl,yH rfl ?_⟩
     refine⟨_,rfl,t,_,rfl,.inr (z5.of e),_,rfl,wa,_,_,.int (n:Int),rfl,rfl,z5.of hw,zY (j:=0) rfl,rfl,_,rfl,?_⟩
     by_cases hn:us.length=n
     case neg =>
      have k:=k _ (zu.refl _)
      rw[y9 (fun ⟨Rs,z,l2,_⟩=>hn (by have z:=Option.some.inj z;rw[hl,z,List.length_map,l2]))] at k
      exact YN (by rw[decide_eq_false fun z=>by have:=V.int.inj z;omega];rfl) k
     refine yH (by rw[decide_eq_true (by rw[hn])];rfl) ?_
     refine⟨_,rfl,t,rfl,⟨_,z5.of e⟩,fun D hD=>?_⟩
     refine yC (K:=K) (a:=t) (D:=D) (xs:=us) (fun i ys σ G=>zu H G∧G D=some (.lst ys)∧ys=((os.take i).map j7).map V.bl∧∃ v,σ=[v]) ⟨zu.new hD,zj,rfl,none,rfl⟩ ?_ ?_ ?_
     · rintro i ys σ G ⟨s,eD,_⟩
       exact⟨z5.of (s _ _ e),eD⟩
     · rintro i x ys σ G hx hlt ⟨sG,eD,rfl,v,rfl⟩
       obtain⟨o,ex,tx⟩:=xR f hx
       dsimp only [ZU]
       rw[if_pos rfl]
       refine⟨_,rfl,_,o,rfl,tx.kv (h:=0) sG.kv,eD,(by rw[List.length_map,List.length_map,List.length_take,sizeLine_eq];omega),Wt.next hlt ⟨fun b o e=>by rw[zp (zh e hD)];exact sG _ _ e,zj,?_,_,rfl⟩⟩
       rw[List.take_add_one,ex,List.map_append,List.map_append]
       rfl
     · rintro ys σ G ⟨s,eD,rfl,_⟩
       refine⟨D,_,rfl,z7.of eD,?_⟩
       rw[List.take_of_length_le (by omega),List.all_map]
       have ea:os.all (id ∘ j7)=os.all j7:=rfl
       rw[ea]
       cases hs:os.all j7 with
       | false =>
         have k:=k _ s
         rw[y9 (fun ⟨Rs,z,l2,c,nn,_⟩=>by
          have z:=Option.some.inj z
          rw[z,List.all_map] at hs
          rw[List.all_eq_true.mpr fun R hR=>?_] at hs
          · cases hs
          · show (yf (some R) && decide (0≤R.1))=true
            rw[qL.mpr (c R hR),decide_eq_true (nn R hR)];rfl)] at k
         exact⟨_,rfl,yH rfl k⟩
       | true =>
         have hf:os.all yf=true:=List.all_eq_true.mpr fun o ho=>by
          have:=List.all_eq_true.mp hs o ho
          unfold j7 at this
          rw[Bool.and_eq_true] at this
          exact this.1
         obtain⟨Rs,rfl,c⟩:=Vr hf
         have lR:Rs.length=n:=by rw[List.length_map] at hl;omega
         have nn:∀ R∈Rs,0≤R.1:=fun R hR=>by
          have:=List.all_eq_true.mp hs (some R) (List.mem_map.mpr ⟨R,hR,rfl⟩)
          have:(yf (some R) && decide (0≤R.1))=true:=this
          rw[Bool.and_eq_true,decide_eq_true_iff] at this
          exact this.2
         obtain⟨DD,CC,rw1⟩:=rw_ Rs rfl c lR
         have fl:=YW f
         refine⟨_,rfl,YN rfl ⟨_,rfl,t,us,Rs,n,DD,CC,rfl,s _ _ e,fl.same s,rw1,n13,fun q H2 s2 f2=>?_⟩⟩
         refine z7f (B:=(1,1)) f2 (hO _) ?_
         have k:=k _ (s.trans s2)
         have:decide (Pw.ZL (Pw.qs n (fun t=>Pw.val (Rs.getD t (0,1))))=(1,1))=bOf (AlP n (some (Rs.map some))):=by
          by_cases h1:Pw.qs n (fun t=>Pw.val (Rs.getD t (0,1)))=1
          · rw[vh ⟨Rs,rfl,lR,c,nn,h1⟩,decide_eq_true (by rw[h1];rfl)]
          · rw[y9 (fun ⟨Rs',z,_,_,_,z2⟩=>h1 (by rw[ZD (Option.some.inj z)];exact z2)),decide_eq_false (fun z=>h1 ?_)]
            have v1:=Pw.Zq (Pw.qs n (fun t=>Pw.val (Rs.getD t (0,1))))
            rw[z,Pw.uE] at v1
            exact v1.symm
         rw[this]
         exact k
theorem jy:zT ["web","leap","leaps","thing"] ["web","leap","leaps","thing"] (zw UY):=⟨rfl,rfl,rfl,by decide +kernel,rfl,by decide +kernel,by decide +kernel⟩
set_option maxHeartbeats 0 in
theorem vX(S:yW K mg "are_shares" UY ["web","leap","leaps","thing"])(T:Txt mg)(Al:Def P w K mg base 5 "are_leaps" ["web","thing"] (jT K))(Bh:Def P w K mg base 7 "behind" ["web","leap","leaps","row"] (Xg K)):Def P w K mg base 8 "are_shares" ["web","leap","leaps","thing"] (z1A K):=S.def fun f fd F=>by
 have nd:=jy.nd
 refine F.ok jy (fun vs H Q E h=>?_) (fun cdv A' outer s H vs Q E hr h=>?_)
 · obtain⟨_,_,_,_,_,_,_,_,_,_,_,rfl,_⟩:=h
   rfl
 · obtain⟨wa,lp,ls,n,ps,A,Bs,us,SS,v,o,rfl,g,pr,ht,k⟩:=h
   refine⟨_,(@zC _ _ _ (@zS _ _ _ _ (yi (zH (by rfl) (by rfl) (by rfl) (by decide) Al (hr.mono (by decide)) (@za _ _ _ _ _ (by rfl) (pv 0) (@za _ _ _ _ _ (by rfl) (pv 3) zb))) (Ye (Zu (qN hr) (zH (by rfl) (by rfl) (by rfl) (by decide) Bh (hr.mono (by decide)) (@za _ _ _ _ _ (by rfl) (pv 0) (@za _ _ _ _ _ (by rfl) (pv 1) (@za _ _ _ _ _ (by rfl) (pv 2) (@za _ _ _ _ _ (by rfl) (pv 3) zb))))) (pv 3) (z0 _)))))),?_⟩
   have plo:=g.plo
   have phi:=g.phi
   have hn:Bs.length=n:=by have:=g.len;omega
   obtain⟨ws,uw,hwa,_,_⟩:=id g.web
   refine⟨_,rfl,_,rfl,wa,_,n,v,o,rfl,hwa,by omega,ht,fun H1 s1=>⟨_,rfl,?_⟩⟩
   by_cases al:AlP n o
   case neg =>
    have k:=k _ s1
    rw[y9 (fun ⟨Rs,z,ok⟩=>al ⟨Rs,z,ok.len,ok.canon,ok.nn,ok.one⟩)] at k
    rw[y9 al]
    exact yH rfl k
   rw[vh al]
   obtain⟨Rs,rfl,lR,c,nn,one⟩:=al
   cases ht with
   | @tup t ys _ e f l rw_ =>
     obtain⟨DD,CC,rw1⟩:=rw_ Rs rfl c lR
     have fl:=YW f
     refine YN rfl ?_
     refine⟨_,rfl,_,rfl,_,rfl,_,rfl,wa,lp,ls,t,(n:Int),ps,A,Bs,Rs,us,ys,SS,DD,CC,rfl,g.same s1,pr,s1 _ _ e,fl.same s1,by rw[Int.toNat_natCast];exact rw1,fun t2 H2 ys2 s2 e2 f2=>?_⟩
     refine⟨_,rfl,z3N (z5.of e2) (z5.of (s2 _ _ (s1 _ _ e))) f2 (fl.same (s1.trans s2)) ?_⟩
     have k:=k _ (s1.trans s2)
     have:decide (Pw.YM ps A Bs Rs=Rs)=bOf (AsP ps A Bs n (some (Rs.map some))):=by
      have iff:=z4m (ps:=ps) (A:=A) hn lR c nn one
      by_cases h1:Pw.YM ps A Bs Rs=Rs
      · rw[decide_eq_true h1,vh ⟨Rs,rfl,iff.mp h1⟩]
      · rw[decide_eq_false h1,y9 (fun ⟨Rs',z,ok⟩=>h1 (iff.mpr (by rw[ZD (Option.some.inj z)];exact ok)))]
     rw[this]
     exact k
end
end Lw
set_option pp.maxSteps 800
namespace Lw
open PySem L2 PyProof.Rows
section
variable{P:Program}{w:World}{K:PySem.W.Frag}{mg:Str→Option Value}{base:Heap}
theorem xn:zT ["hand","row","at","other","little","both","changed","a","b","many","odd","strange","some"] ["hand","row"] (zw yL):=⟨rfl,rfl,rfl,by decide +kernel,rfl,by decide +kernel,by decide +kernel⟩
set_option maxHeartbeats 0 in
theorem Vw(S:yW K mg "_law_spoilt" yL ["hand","row"])(T:Txt mg)(zstr:mg "str"=none)(Dw:Def P w K mg base 1 "_law_draw" ["hand","limit"] XE)(Pl:Def P w K mg base 2 "_law_plus" ["one","other"] (yh K Pw.ZI))(Ti:Def P w K mg base 2 "_law_times" ["one","other"] (yh K Pw.Zm)):Def P w K mg base 3 "_law_spoilt" ["hand","row"] (xE K):=S.def fun f fd F=>by
 have nd:=xn.nd
 refine F.ok xn (fun vs H Q E h=>?_) (fun cdv A' outer s H vs Q E hr h=>?_)
 · obtain⟨_,_,_,_,_,_,_,rfl,_⟩:=h
   rfl
 · obtain⟨h,a,ys,Rs,z,c,D,rfl,hh,ea,fl,rb,m1,m13,hz,c1,c40,ko⟩:=h
   refine⟨_,(@zo _ _ _ _ _ (@zK _ _ 2 _ _ _ _ (by rfl) (Or.inl rfl) nd rfl (Or.inl rfl) (zH (by rfl) (by rfl) (by rfl) (by decide) Dw (hr.mono (by decide)) (@za _ _ _ _ _ (by rfl) (pv 0) (@za _ _ _ _ _ (by rfl) (zX Zh (by rfl) T.len PySem.boot_len (@za _ _ _ _ _ (by rfl) (pv 1) zb)) zb))))
    (@zo _ _ _ _ _ (@zK _ _ 3 _ _ _ _ (by rfl) (Or.inl rfl) nd rfl (Or.inl rfl) (zH (by rfl) (by rfl) (by rfl) (by decide) Dw (hr.mono (by decide)) (@za _ _ _ _ _ (by rfl) (pv 0) (@za _ _ _ _ _ (by rfl) (zX Zh (by rfl) T.len PySem.boot_len (@za _ _ _ _ _ (by rfl) (pv 1) zb)) zb))))
    (@zo _ _ _ _ _ (@zK _ _ 4 _ _ _ _ (by rfl) (Or.inl rfl) nd rfl (Or.inl rfl) (@zq _ _ _ _ _ (@za _ _ _ _ _ (by rfl) zg (@za _ _ _ _ _ (by rfl) (zI ZZ zg (zH (by rfl) (by rfl) (by rfl) (by decide) Dw (hr.mono (by decide)) (@za _ _ _ _ _ (by rfl) (pv 0) (@za _ _ _ _ _ (by rfl) (zI xN zg zg) zb)))) zb))))
    (@zo _ _ _ _ _ (@zK _ _ 5 _ _ _ _ (by rfl) (Or.inl rfl) nd rfl (Or.inl rfl) (Zd yk (by rfl) T.lst boot_list (@za _ _ _ _ _ (by rfl) (pv 1) zb)))
    (@zo _ _ _ _ _ (yT (zH (by rfl) (by rfl) (by rfl) (by decide) Pl (hr.mono (by decide)) (@za _ _ _ _ _ (by rfl) (zD z9 (pv 5) (pv 2) (fun _ _=>rfl)) (@za _ _ _ _ _ (by rfl) (pv 4) zb))) (yV (pv 5) (pv 2) set_list))
    (@zo _ _ _ _ _ (yT (zH (by rfl) (by rfl) (by rfl) (by decide) Pl (hr.mono (by decide)) (@za _ _ _ _ _ (by rfl) (zD z9 (pv 5) (pv 3) (fun _ _=>rfl)) (@za _ _ _ _ _ (by rfl) (@zq _ _ _ _ _ (@za _ _ _ _ _ (by rfl) qo (@za _ _ _ _ _ (by rfl) (zD zN (pv 4) zg (fun _ _=>rfl)) zb))) zb))) (yV (pv 5) (pv 3) set_list))
    (@zo _ _ _ _ _ (@zK _ _ 6 _ _ _ _ (by rfl) (Or.inl rfl) nd rfl (Or.inl rfl) (Zd yk (by rfl) T.lst boot_list (@za _ _ _ _ _ (by rfl) (pv 1) zb)))
    (@zo _ _ _ _ _ (yT (@zq _ _ _ _ _ (@za _ _ _ _ _ (by rfl) (zD zN (pv 1) (pv 3) (fun _ _=>rfl)) (@za _ _ _ _ _ (by rfl) (zD zN (pv 1) (pv 2) (fun _ _=>rfl)) zb))) (Xx rfl (Zn (yV (pv 6) (pv 2) set_list) (Zn (yV (pv 6) (pv 3) set_list) yJ))))
    (@zo _ _ _ _ _ (yT (zD zN (pv 1) (pv 2) (fun _ _=>rfl)) (Xx rfl (Zn (zQ (i:=7) nd rfl (Or.inl rfl)) (Zn (zQ (i:=8) nd rfl (Or.inl rfl)) yJ))))
    (@zo _ _ _ _ _ (@zK _ _ 9 _ _ _ _ (by rfl) (Or.inl rfl) nd rfl (Or.inl rfl) (zI ZZ zg (zH (by rfl) (by rfl) (by rfl) (by decide) Dw (hr.mono (by decide)) (@za _ _ _ _ _ (by rfl) (pv 0) (@za _ _ _ _ _ (by rfl) (zD z9 (@Ze _ _ _ _ (@za _ _ _ _ _ (by rfl) zg (@za _ _ _ _ _ (by rfl) (zI xN zg zg) zb))) (zH (by rfl) (by rfl) (by rfl) (by decide) Dw (hr.mono (by decide)) (@za _ _ _ _ _ (by rfl) (pv 0) (@za _ _ _ _ _ (by rfl) zg zb))) (fun _ _=>rfl)) zb)))))
    (@zo _ _ _ _ _ (@zK _ _ 10 _ _ _ _ (by rfl) (Or.inl rfl) nd rfl (Or.inl rfl) (@Ze _ _ _ _ (@za _ _ _ _ _ (by rfl) (@Ze _ _ _ _ (@za _ _ _ _ _ (by rfl) (pv 7) (@za _ _ _ _ _ (by rfl) (pv 8) zb))) (@za _ _ _ _ _ (by rfl) (@zq _ _ _ _ _ (@za _ _ _ _ _ (by rfl) (zI Zo (pv 9) (pv 7)) (@za _ _ _ _ _ (by rfl) (zI Zo (pv 9) (pv 8)) zb))) (@za _ _ _ _ _ (by rfl) Ve (@za _ _ _ _ _ (by rfl) ZT (@za _ _ _ _ _ (by rfl) zg (@za _ _ _ _ _ (by rfl) Vc (@za _ _ _ _ _ (by rfl) (@zq _ _ _ _ _ (@za _ _ _ _ _ (by rfl) (pv 7) (@za _ _ _ _ _ (by rfl) (pv 8) (@za _ _ _ _ _ (by rfl) zg zb)))) (@za _ _ _ _ _ (by rfl) (@zq _ _ _ _ _ (@za _ _ _ _ _ (by rfl) (zI Yx zg (pv 7)) (@za _ _ _ _ _ (by rfl) (pv 8) zb))) (@za _ _ _ _ _ (by rfl) (@zq _ _ _ _ _ (@za _ _ _ _ _ (by rfl) zg (@za _ _ _ _ _ (by rfl) zg zb))) (@za _ _ _ _ _ (by rfl) (@zq _ _ _ _ _ (@za _ _ _ _ _ (by rfl) (pv 7) (@za _ _ _ _ _ (by rfl) (zI Yx zg (pv 8)) zb))) zb))))))))))))
    (@zo _ _ _ _ _ (@zK _ _ 10 _ _ _ _ (by rfl) (Or.inl rfl) nd rfl (Or.inl rfl) (zI Xn (pv 10) (@Ze _ _ _ _ (@za _ _ _ _ _ (by rfl) (@zq _ _ _ _ _ (@za _ _ _ _ _ (by rfl) Ve (@za _ _ _ _ _ (by rfl) (pv 8) zb))) (@za _ _ _ _ _ (by rfl) (@zq _ _ _ _ _ (@za _ _ _ _ _ (by rfl) (Zd VH (by rfl) zstr boot_str (@za _ _ _ _ _ (by rfl) (pv 7) zb)) (@za _ _ _ _ _ (by rfl) (pv 8) zb))) (@za _ _ _ _ _ (by rfl) (@zq _ _ _ _ _ (@za _ _ _ _ _ (by rfl) (pv 7) (@za _ _ _ _ _ (by rfl) Ve zb))) (@za _ _ _ _ _ (by rfl) (@zq _ _ _ _ _ (@za _ _ _ _ _ (by rfl) (pv 7) (@za _ _ _ _ _ (by rfl) (Zu YI (pv 8) zg (z0 _)) zb))) (@za _ _ _ _ _ (by rfl) (@zq _ _ _ _ _ (@za _ _ _ _ _ (by rfl) (Zu YI (pv 7) zg (z0 _)) (@za _ _ _ _ _ (by rfl) (pv 8) zb))) (@za _ _ _ _ _ (by rfl) (@zq _ _ _ _ _ (@za _ _ _ _ _ (by rfl) (pv 7) (@za _ _ _ _ _ (by rfl) zg zb))) (@za _ _ _ _ _ (by rfl) (@zq _ _ _ _ _ (@za _ _ _ _ _ (by rfl) zg (@za _ _ _ _ _ (by rfl) zg zb))) (@za _ _ _ _ _ (by rfl) (@zq _ _ _ _ _ (@za _ _ _ _ _ (by rfl) (@zq _ _ _ _ _ (@za _ _ _ _ _ (by rfl) (pv 7) zb)) (@za _ _ _ _ _ (by rfl) (pv 8) zb))) (@za _ _ _ _ _ (by rfl) (@zq _ _ _ _ _ (@za _ _ _ _ _ (by rfl) (zI Yx zg (pv 7)) (@za _ _ _ _ _ (by rfl) (zI Yx zg (pv 8)) zb))) zb))))))))))))
    (@zo _ _ _ _ _ (@zK _ _ 11 _ _ _ _ (by rfl) (Or.inl rfl) nd rfl (Or.inl rfl) (zI qM (zI qM (Xl Vs (pv 1) X5 (qg (pv 2))) (@zq _ _ _ _ _ (@za _ _ _ _ _ (by rfl) (zD z9 (pv 10) (zH (by rfl) (by rfl) (by rfl) (by decide) Dw (hr.mono (by decide)) (@za _ _ _ _ _ (by rfl) (pv 0) (@za _ _ _ _ _ (by rfl) zg zb))) (fun _ _=>rfl)) zb))) (Xl Vs (pv 1) (qg (zI ZZ (pv 2) zg)) X5)))
    (@zo _ _ _ _ _ (@zK _ _ 12 _ _ _ _ (by rfl) (Or.inl rfl) nd rfl (Or.inl rfl) (@Ze _ _ _ _ (@za _ _ _ _ _ (by rfl) (Zd ZK (by rfl) T.tup boot_tuple (@za _ _ _ _ _ (by rfl) (pv 5) zb)) (@za _ _ _ _ _ (by rfl) (Zd ZK (by rfl) T.tup boot_tuple (@za _ _ _ _ _ (by rfl) (pv 6) zb)) (@za _ _ _ _ _ (by rfl) (pv 11) (@za _ _ _ _ _ (by rfl) (Xl Vs (pv 1) (qg zg) X5) (@za _ _ _ _ _ (by rfl) (zI qM (pv 1) (@zq _ _ _ _ _ (@za _ _ _ _ _ (by rfl) (@zq _ _ _ _ _ (@za _ _ _ _ _ (by rfl) zg (@za _ _ _ _ _ (by rfl) zg zb))) zb))) (@za _ _ _ _ _ (by rfl) (Zd yk (by rfl) T.lst boot_list (@za _ _ _ _ _ (by rfl) (pv 1) zb)) (@za _ _ _ _ _ (by rfl) (z4e (pv 1) qo) zb)))))))))
    (@zo _ _ _ _ _ (@zK _ _ 12 _ _ _ _ (by rfl) (Or.inl rfl) nd rfl (Or.inl rfl) (zI Xn (pv 12) (@Ze _ _ _ _ (@za _ _ _ _ _ (by rfl) (Zd ZK (by rfl) T.tup boot_tuple (@za _ _ _ _ _ (by rfl) (Zg ["share"] [none] rfl (YY (pv 1)) (by show ∀ y:Str×NameKind,y∈_→y.2=NameKind.free→(zw yL).names.lookup y.1=some .cell;decide +kernel) (by decide) rfl (by decide +kernel) trivial
     (fun cl C s H fp=>(zQ (i:=0) (show (["share"]:List Str).Nodup by decide +kernel) rfl (Or.inl rfl) (.inr rfl)))
     (fun cl C s H fp=>Zz)
     (fun cl C s H fp=>(zH (by rfl) (by rfl) (by rfl) (by decide) Ti (hr.mono (by decide)) (@za _ _ _ _ _ (by rfl) (pv 0) (@za _ _ _ _ _ (by rfl) (@zq _ _ _ _ _ (@za _ _ _ _ _ (by rfl) zg (@za _ _ _ _ _ (by rfl) zg zb))) zb))))) zb)) (@za _ _ _ _ _ (by rfl) Ve (@za _ _ _ _ _ (by rfl) (@zq _ _ _ _ _ zb) (@za _ _ _ _ _ (by rfl) z0T (@za _ _ _ _ _ (by rfl) (zI qm (@zq _ _ _ _ _ (@za _ _ _ _ _ (by rfl) (@zq _ _ _ _ _ (@za _ _ _ _ _ (by rfl) zg (@za _ _ _ _ _ (by rfl) zg zb))) zb)) (zX Zh (by rfl) T.len PySem.boot_len (@za _ _ _ _ _ (by rfl) (pv 1) zb))) (@za _ _ _ _ _ (by rfl) zg zb)))))))))
    (@zC _ _ _ (@zS _ _ _ _ (zD z9 (pv 12) (zH (by rfl) (by rfl) (by rfl) (by decide) Dw (hr.mono (by decide)) (@za _ _ _ _ _ (by rfl) (pv 0) (@za _ _ _ _ _ (by rfl) zg zb))) (fun _ _=>rfl))))))))))))))))))),?_⟩
   have hl:=fl.len
   have cC:∀ R∈Rs,Pw.Canon R:=rb.canon
   have s2:∀ R∈Rs,Z9 807 R:=fun R hR=>⟨(rb.jr (by omega) (by omega) hR).1.mono (by omega),(rb.jr (by omega) (by omega) hR).2.mono (by omega)⟩
   refine⟨_,rfl,_,rfl,a,_,rfl,.inr (z5.of ea),h,_,rfl,(by omega),(by omega),hh,fun at_ G1 a1 b1 hh1 k1=>?_⟩
   obtain⟨j,rfl⟩:=Int.eq_ofNat_of_zero_le a1
   have hj:j<Rs.length:=by omega
   have kv1:Kv h K H G1:=hh.kv hh1 k1
   refine⟨_,rfl,_,rfl,a,_,rfl,.inr (z5.of (kv1.tp _ _ ea)),h,_,rfl,(by omega),(by omega),hh1,fun ot_ G2 a2 b2 hh2 k2=>?_⟩
   obtain⟨i,rfl⟩:=Int.eq_ofNat_of_zero_le a2
   have hi:i<Rs.length:=by omega
   have kv2:Kv h K G1 G2:=hh1.kv hh2 k2
   refine⟨_,rfl,_,_,rfl,rfl,⟨by decide,by decide,by decide⟩,h,_,rfl,by decide,by decide,hh2,fun dw G3 a3 b3 hh3 k3=>⟨_,_,rfl,rfl,(by show 2≤sizeLine;decide),fun tl J0 u0 w0 f0=>?_⟩⟩
   have kv3:Kv h K G2 G3:=hh2.kv hh3 k3
   have kvA:Kv h K H J0:=kv1.trans (kv2.trans (kv3.trans u0.kv))
   have kpA:Kp h H J0:=k1.trans (k2.trans (k3.trans u0.kp))
   have hj0:z4 J0 h:=hh3.same u0
   have ea:=kvA.tp _ _ ea
   have fl:Zl K J0 Rs ys:=fl.kt fun a xs e=>kvA.tp a xs e
   clear kv1 kv2 kv3 k1 k2 k3 hh1 hh2 hh3 u0
   have b3:dw<10 ^ 12:=b3
   have l0:0<1+dw:=by omega
   have sl:Sz 40 (1+dw):=by
    show (1+dw).natAbs<2 ^ 40
    have:(10:Int) ^ 12<2 ^ 40:=by decide
    omega
   have f0:J0 tl=some (.tup [.int 1,.int (1+dw)]):=f0
   generalize 1+dw=l at *
   refine⟨_,rfl,a,_,rfl,.inr (z5.of ea),fun bo J1 u1 w1 f1=>?_⟩
   have gR:∀ {t:Nat},t<Rs.length→Rs[t]?=some (Rs.getD t (0,1))∧Rs.getD t (0,1)∈Rs:=fun ht=>by
    rw[List.getD_eq_getElem?_getD,List.getElem?_eq_getElem ht]
    exact⟨rfl,List.getElem_mem _⟩
   obtain⟨p1,ep1,fp1⟩:=(fl.same u1).at (gR hj).1
   have cR:=cC _ (gR hj).2
   have sR:=s2 _ (gR hj).2
   refine⟨_,rfl,_,rfl,bo,_,_,_,rfl,rfl,z7.of f1,zY ep1,_,rfl,p1,tl,_,(1,l),rfl,z5.of fp1,z5.of (u1 _ _ f0),cR.1,l0,⟨sR.1.mono (by decide),sR.2.mono (by decide)⟩,⟨(zR 1 (by decide):Sz 3000 (1:Int)),sl.mono (by decide)⟩,fun q1 J2 u2 g2=>?_⟩
   have eb2:=u2 _ _ f1
   refine⟨_,rfl,_,rfl,bo,_,_,j,rfl,rfl,eb2,Yz hj hl,?_⟩
   have B1:=jc l0 (.inl rfl) cR (rb.dvd _ (gR hj).2) (rb.bnd _ (gR hj).2)
   generalize hX1:Pw.ZI (Rs.getD j (0,1)) (1,l)=X1 at B1 g2
   have fl3:Zl K (upd J2 bo (.lst (ys.set j (.ref q1)))) (Rs.set j X1) (ys.set j (.ref q1)):=(((fl.same (u1.trans u2)).putAt g2 j)).set eb2
   have k3:∀ b o,J0 b=some o→upd J2 bo (.lst (ys.set j (.ref q1))) b=some o:=fun b o e=>by rw[zp (zh e w1)];exact (u1.trans u2) _ _ e
   have f3:upd J2 bo (.lst (ys.set j (.ref q1))) bo=some (.lst (ys.set j (.ref q1))):=zj
   generalize upd J2 bo (.lst (ys.set j (.ref q1)))=J3 at *
   have k3:zu J0 J3:=k3
   have dl:∀ R∈Rs,R.2∣D * l:=fun R hR=>Int.dvd_trans (rb.dvd R hR) (Int.dvd_mul_right ..)
   have up1:∀ R∈Rs,-((c+1) * R.2)≤R.1∧R.1≤(c+1) * R.2:=fun R hR=>by
    have b:=rb.bnd R hR
    have p:=(cC R hR).1
    have e:(c+1) * R.2=c * R.2+R.2:=by grind
    rw[e];omega
   have C1:∀ R∈Rs.set j X1,Pw.Canon R∧R.2∣D * l∧(-((c+1) * R.2)≤R.1∧R.1≤(c+1) * R.2):=fun R hR=>by
    rcases List.mem_or_eq_of_mem_set hR with z | rfl
    · exact⟨cC R z,dl R z,up1 R z⟩
    · exact B1
   have gS:((Rs.set j X1))[i]?=some ((Rs.set j X1).getD i (0,1))∧(Rs.set j X1).getD i (0,1)∈Rs.set j X1:=by
    rw[List.getD_eq_getElem?_getD,List.getElem?_eq_getElem (by rw[List.length_set];exact hi)]
    exact⟨rfl,List.getElem_mem _⟩
   obtain⟨p2,ep2,fp2⟩:=fl3.at gS.1
   have cS:=C1 _ gS.2
   generalize (Rs.set j X1).getD i (0,1)=Y at *
   have sY:Z9 900 Y:=by
    have le:Y.2≤D * l:=Int.le_of_dvd (Int.mul_pos rb.dpos l0) cS.2.1
    have sD:Sz 840 (D * l):=(rb.sz.mul sl).mono (by omega)
    have sD:(D * l).natAbs<2 ^ 840:=sD
    have p:=cS.1.1
    have hc':(c+1) * Y.2≤41 * Y.2:=Int.mul_le_mul_of_nonneg_right (by omega) (Int.le_of_lt p)
    have b:=cS.2.2
    have e:(2:Nat) ^ 900=2 ^ 840 * 2 ^ 60:=by rw[← Nat.pow_add]
    have:(41:Nat)<2 ^ 60:=by decide
    have m:41 * (2 ^ 840)≤2 ^ 840 * 2 ^ 60:=by rw[Nat.mul_comm];exact Nat.mul_le_mul_left _ (by decide)
    constructor
    · show Y.1.natAbs<2 ^ 900
      omega
    · show Y.2.natAbs<2 ^ 900
      omega
   refine⟨_,rfl,_,rfl,bo,_,_,_,rfl,rfl,z7.of f3,zY ep2,_,rfl,tl,_,_,_,rfl,rfl,z5.of (k3 _ _ f0),rfl,(by show 2≤sizeLine;decide),fun tm J4 u4 w4 f4=>?_⟩
   refine⟨p2,tm,Y,(-1,l),rfl,z5.of (u4 _ _ fp2),z5.of f4,cS.1.1,l0,⟨sY.1.mono (by decide),sY.2.mono (by decide)⟩,⟨(zR 1 (by decide):Sz 3000 (-1:Int)),sl.mono (by decide)⟩,fun q2 J5 u5 g5=>?_⟩
   have eb5:=(u4.trans u5) _ _ f3
   refine⟨_,rfl,_,rfl,bo,_,_,i,rfl,rfl,eb5,Yz hi (by rw[List.length_set];exact hl),?_⟩
   have B2:=jc l0 (.inr rfl) cS.1 cS.2.1 cS.2.2
   generalize Pw.ZI Y (-1,l)=X2 at B2 g5
   have fl6:Zl K (upd J5 bo (.lst ((ys.set j (.ref q1)).set i (.ref q2)))) ((Rs.set j X1).set i X2) ((ys.set j (.ref q1)).set i (.ref q2)):=(((fl3.same (u4.trans u5)).putAt g5 i)).set eb5
   have k6:zu J0 (upd J5 bo (.lst ((ys.set j (.ref q1)).set i (.ref q2)))):=fun b o e=>by rw[zp (zh e w1)];exact (u4.trans u5) _ _ (k3 _ _ e)
   have f6:upd J5 bo (.lst ((ys.set j (.ref q1)).set i (.ref q2))) bo=some (.lst ((ys.set j (.ref q1)).set i (.ref q2))):=zj
   generalize upd J5 bo (.lst ((ys.set j (.ref q1)).set i (.ref q2)))=J6 at *
   have Dp:0<D * l * l:=Int.mul_pos (Int.mul_pos rb.dpos l0) l0
   have wide:∀ {e:Int}{R:Int×Int},e≤2 * c+2→0<R.2→(-(e * R.2)≤R.1∧R.1≤e * R.2)→-((2 * c+2) * R.2)≤R.1∧R.1≤(2 * c+2) * R.2:=fun he p b=>by
    have:=Int.mul_le_mul_of_nonneg_right he (Int.le_of_lt p)
    omega
   have rbB:RB (z+81) (2 * c+2) ((Rs.set j X1).set i X2) (D * l * l):=by
    have key:∀ R∈(Rs.set j X1).set i X2,Pw.Canon R∧R.2∣D * l * l∧-((2 * c+2) * R.2)≤R.1∧R.1≤(2 * c+2) * R.2:=fun R hR=>by
     rcases List.mem_or_eq_of_mem_set hR with z' | rfl
     · have:=C1 R z'
       exact⟨this.1,Int.dvd_trans this.2.1 (Int.dvd_mul_right ..),wide (by omega) this.1.1 this.2.2⟩
     · exact⟨B2.1,B2.2.1,wide (by omega) B2.1.1 B2.2.2⟩
    exact⟨fun R hR=>(key R hR).1,Dp,((rb.sz.mul sl).mul sl).mono (by omega),fun R hR=>(key R hR).2.1,fun R hR=>(key R hR).2.2⟩
   have rbR:RB (z+81) (2 * c+2) Rs D:=rb.mono (by omega) (by omega)
   have lb:((Rs.set j X1).set i X2).length=Rs.length:=by rw[List.length_set,List.length_set]
   generalize (Rs.set j X1).set i X2=Rb at *
   generalize (ys.set j (V.ref q1)).set i (V.ref q2)=yb at *
   clear B1 B2 C1 cS sY gS up1 dl fl3 f3 k3 eb2 eb5 fp1 fp2 ep1 ep2 u1 u2 u4 u5 f1 f4 g2 g5 w4 w0
   have eaJ:=k6 _ _ ea
   have flJ:=fl.same k6
   refine⟨_,rfl,a,_,rfl,.inr (z5.of eaJ),fun ch J7 u7 w7 f7=>?_⟩
   obtain⟨pi,epi,fpi⟩:=(flJ.same u7).at (gR hi).1
   obtain⟨pj,epj,fpj⟩:=(flJ.same u7).at (gR hj).1
   refine⟨_,rfl,_,rfl,a,_,_,_,rfl,rfl,z5.of (u7 _ _ eaJ),zY epi,_,rfl,_,rfl,a,_,_,_,rfl,rfl,z5.of (u7 _ _ eaJ),zY epj,(by show 2≤sizeLine;decide),fun t8 J8 u8 w8 f8=>?_⟩
   refine⟨t8,_,rfl,z5.of f8,rfl,_,_,rfl,_,rfl,_,rfl,ch,ys,_,j,rfl,rfl,u8 _ _ f7,Yz hj hl,_,_,rfl,_,rfl,_,rfl,ch,_,_,i,rfl,rfl,zj,Yz hi (by rw[List.length_set];exact hl),rfl,?_⟩
   rw[VJ]
   have flc:Zl K (upd J8 ch (.lst ((ys.set j (.ref pi)).set i (.ref pj)))) ((Rs.set j (Rs.getD i (0,1))).set i (Rs.getD j (0,1))) ((ys.set j (.ref pi)).set i (.ref pj)):=((((flJ.same (u7.trans u8)).putAt (u8 _ _ fpi) j)).putAt (u8 _ _ fpj) i).set (u8 _ _ f7)
   have k9:zu J6 (upd J8 ch (.lst ((ys.set j (.ref pi)).set i (.ref pj)))):=fun b o e=>by rw[zp (zh e w7)];exact (u7.trans u8) _ _ e
   have f9:upd J8 ch (.lst ((ys.set j (.ref pi)).set i (.ref pj))) ch=some (.lst ((ys.set j (.ref pi)).set i (.ref pj))):=zj
   have nch:ch≠h:=(hj0.same k6).ne w7
   have nbo:bo≠h:=hj0.ne w1
   generalize upd J8 ch (.lst ((ys.set j (V.ref pi)).set i (V.ref pj)))=J9 at *
   have rbC:RB (z+81) (2 * c+2) ((Rs.set j (Rs.getD i (0,1))).set i (Rs.getD j (0,1))) D:=rbR.sub fun R hR=>by
    rcases List.mem_or_eq_of_mem_set hR with z' | rfl
    · rcases List.mem_or_eq_of_mem_set z' with z' | rfl
      · exact z'
      · exact (gR hi).2
    · exact (gR hj).2
   have lc:((Rs.set j (Rs.getD i (0,1))).set i (Rs.getD j (0,1))).length=Rs.length:=by rw[List.length_set,List.length_set]
   generalize (Rs.set j (Rs.getD i (0,1))).set i (Rs.getD j (0,1))=Rc at *
   generalize (ys.set j (V.ref pi)).set i (V.ref pj)=yc at *
   have k09:=k6.trans k9
   obtain⟨pa,epa,fpa⟩:=(fl.same k09).at (gR hj).1
   refine⟨_,rfl,_,rfl,a,_,_,_,rfl,rfl,z5.of (k09 _ _ ea),zY epa,pa,_,rfl,z5.of fpa,rfl,_,_,rfl,_,_,rfl,rfl,?_⟩
   have bA:=rb.bnd _ (gR hj).2
   have dA:=rb.dvd _ (gR hj).2
   generalize hA:Rs.getD j (0,1)=A at cR sR bA dA
   refine⟨_,rfl,_,_,rfl,rfl,⟨by decide,by decide,by decide⟩,(by show 2≤sizeLine;decide),fun lm Ja ua wa fa=>?_⟩
   have hha:=hj0.same (k09.trans ua)
   refine⟨_,rfl,h,2,rfl,by decide,by decide,hha,fun v1 Jb a4 b4 hhb kb=>?_⟩
   have nlm:lm≠h:=(hj0.same k09).ne wa
   obtain⟨lim,el,lim0,lim1⟩:∃ lim:Int,jt [V.int 9,V.int ((10:Int) ^ (6:Int).toNat)] v1=some (.int lim)∧0<lim∧lim≤1000000:=by
    have c:v1=0∨v1=1:=by omega
    rcases c with rfl | rfl
    · exact⟨9,rfl,by decide,by decide⟩
    · exact⟨_,rfl,by decide,by decide⟩
   refine⟨lm,_,_,_,rfl,rfl,z7.of (kb _ _ fa nlm),el,h,lim,rfl,lim0,by omega,hhb,fun v2 B0 a5 b5 hB kc=>⟨_,_,rfl,rfl,?_⟩⟩
   have kvB:Kv h K J9 B0:=(zu.kv ua).trans ((hha.kv hhb kb).trans (hhb.kv hB kc))
   have kpB:Kp h H B0:=kpA.trans (k09.kp.trans (ua.kp.trans (kb.trans kc)))
   have zm:Sz 21 (2+v2):=by
    show (2+v2).natAbs<2 ^ 21
    omega
   have m2:2≤2+v2:=by omega
   have eaB:=kvB.tp _ _ (k09 _ _ ea)
   have flB:Zl K B0 Rs ys:=(fl.same k09).kt kvB.tp
   have fbB:=kvB.ls _ _ nbo (k9 _ _ f6)
   have flbB:Zl K B0 Rb yb:=(fl6.same k9).kt kvB.tp
   have fcB:=kvB.ls _ _ nch f9
   have flcB:Zl K B0 Rc yc:=flc.kt kvB.tp
   have prB:Paired (Tq K B0) ys (Rs.map some):=Yp flB fun R hR=>⟨(s2 R hR).1.mono (by decide),(s2 R hR).2.mono (by decide)⟩
   clear flc fl6 flJ fpa epa fpi fpj epi epj k9 k6 k09 kb kc ua u7 u8 f7 f8 f9 f6 fa el hhb hha
   have sa1:Sz 4000 A.1:=sR.1.mono (by decide)
   have sb1:Sz 4000 A.2:=sR.2.mono (by decide)
   have s0:Sz 4000 0:=zR 1 (by decide)
   have s1:Sz 4000 1:=zR 1 (by decide)
   have sna:Sz 4000 (0 - A.1):=(Sz.sub (zR 1 (by decide)) sR.1).mono (by decide)
   have snb:Sz 4000 (0 - A.2):=(Sz.sub (zR 1 (by decide)) sR.2).mono (by decide)
   have pA:=cR.1
   have S0:zu B0 B0:=zu.refl _
   have A0:QA K B0 D c []:=QA.nil
   refine⟨_,rfl,_,rfl,(by show 2≤sizeLine;decide),fun t1 B1 u1 w1 f1=>?_⟩
   have S1:=S0.trans u1
   have n1:t1≠h:=(hB.same S0).ne w1
   have A1:=(A0.same u1).add (V5 (.lst f1) (jb _))
   refine⟨_,rfl,_,rfl,_,_,rfl,rfl,⟨zm.mono (by decide),sR.1.mono (by decide)⟩,_,rfl,_,rfl,_,_,rfl,rfl,⟨zm.mono (by decide),sR.2.mono (by decide)⟩,(by show 2≤sizeLine;decide),fun t2 B2 u2 w2 f2=>?_⟩
   have S2:=S1.trans u2
   have n2:t2≠h:=(hB.same S1).ne w2
   have A2:=(A1.same u2).add (xD f2 ((zm.mul sR.1).mono (by decide)) ((zm.mul sR.2).mono (by decide)) fun cx=>absurd cx (QE m2))
   have A2:=A2.add (V5 .non (z3z _))
   have A2:=A2.add (V5 (.bl true) (z6x _))
   have A2:=A2.add (V5 (.int 0) (z0f _))
   have A2:=A2.add (V5 (.str (Str.ofString "1/2")) (jM _))
   refine⟨_,rfl,_,rfl,(by show 3≤sizeLine;decide),fun t3 B3 u3 w3 f3=>?_⟩
   have S3:=S2.trans u3
   have n3:t3≠h:=(hB.same S2).ne w3
   have A3:=(A2.same u3).add (z5c f3 (by simp))
   refine⟨_,rfl,_,_,rfl,rfl,_,rfl,(by show 2≤sizeLine;decide),fun t4 B4 u4 w4 f4=>?_⟩
   have S4:=S3.trans u4
   have n4:t4≠h:=(hB.same S3).ne w4
   have A4:=(A3.same u4).add (xD f4 sna sb1 fun _=>⟨dA,by omega,by omega⟩)
   refine⟨(by show 2≤sizeLine;decide),fun t5 B5 u5 w5 f5=>?_⟩
   have S5:=S4.trans u5
   have n5:t5≠h:=(hB.same S4).ne w5
   have A5:=(A4.same u5).add (xD f5 s0 s1 fun _=>⟨Int.one_dvd _,by omega,by omega⟩)
   refine⟨_,rfl,_,rfl,_,_,rfl,rfl,(by show 2≤sizeLine;decide),fun t6 B6 u6 w6 f6=>?_⟩
   have S6:=S5.trans u6
   have n6:t6≠h:=(hB.same S5).ne w6
   have A6:=(A5.same u6).add (xD f6 sa1 snb fun cx=>absurd cx.1 (by show ¬ 0<0 - A.2;omega))
   refine⟨(by show 10≤sizeLine;decide),fun t7 B7 u7 w7 f7=>?_⟩
   have S7:=S6.trans u7
   have n7:t7≠h:=(hB.same S6).ne w7
   have A7:=A6.same u7
   refine⟨_,rfl,?_⟩
   refine⟨_,rfl,(by show 2≤sizeLine;decide),fun t8 B8 u8 w8 f8=>?_⟩
   have S8:=S7.trans u8
   have n8:t8≠h:=(hB.same S7).ne w8
   have A8:=(A7.same u8).add (Vk f8 (.oth .non (z3p _)) (.int _ sb1))
   refine⟨_,rfl,_,rfl,Nat.lt_of_lt_of_le (sR.1.log2 (by decide)) (by decide),_,rfl,(by show 2≤sizeLine;decide),fun t9 B9 u9 w9 f9=>?_⟩
   have S9:=S8.trans u9
   have n9:t9≠h:=(hB.same S8).ne w9
   have A9:=(A8.same u9).add (Vk f9 (.oth (.str _) (z5V _)) (.int _ sb1))
   refine⟨_,rfl,(by show 2≤sizeLine;decide),fun t10 B10 u10 w10 f10=>?_⟩
   have S10:=S9.trans u10
   have n10:t10≠h:=(hB.same S9).ne w10
   have A10:=(A9.same u10).add (z1K f10 (.int _ sa1) (.oth .non (z3p _)))
   refine⟨_,rfl,_,rfl,rfl,(by show 2≤sizeLine;decide),fun t11 B11 u11 w11 f11=>?_⟩
   have S11:=S10.trans u11
   have n11:t11≠h:=(hB.same S10).ne w11
   have A11:=(A10.same u11).add (z1K f11 (.int _ sa1) (.bl _))
   refine⟨_,rfl,rfl,_,rfl,(by show 2≤sizeLine;decide),fun t12 B12 u12 w12 f12=>?_⟩
   have S12:=S11.trans u12
   have n12:t12≠h:=(hB.same S11).ne w12
   have A12:=(A11.same u12).add (Vk f12 (.bl _) (.int _ sb1))
   refine⟨_,rfl,(by show 2≤sizeLine;decide),fun t13 B13 u13 w13 f13=>?_⟩
   have S13:=S12.trans u13
   have n13:t13≠h:=(hB.same S12).ne w13
   have A13:=(A12.same u13).add (xD f13 sa1 s0 fun cx=>absurd cx.1 (by show ¬ (0:Int)<0;decide))
   refine⟨(by show 2≤sizeLine;decide),fun t14 B14 u14 w14 f14=>?_⟩
   have S14:=S13.trans u14
   have n14:t14≠h:=(hB.same S13).ne w14
   have A14:=(A13.same u14).add (xD f14 s0 s0 fun cx=>absurd cx.1 (by decide))
   refine⟨_,rfl,(by show 1≤sizeLine;decide),fun t15 B15 u15 w15 f15=>?_⟩
   have S15:=S14.trans u15
   have n15:t15≠h:=(hB.same S14).ne w15
   have A15:=A14.same u15
   refine⟨_,rfl,(by show 2≤sizeLine;decide),fun t16 B16 u16 w16 f16=>?_⟩
   have S16:=S15.trans u16
   have n16:t16≠h:=(hB.same S15).ne w16
   have A16:=(A15.same u16).add (Vk f16 (.oth (.tup (u16 _ _ f15)) (z5K _)) (.int _ sb1))
   refine⟨_,rfl,_,_,rfl,rfl,_,rfl,_,_,rfl,rfl,(by show 2≤sizeLine;decide),fun t17 B17 u17 w17 f17=>?_⟩
   have S17:=S16.trans u17
   have n17:t17≠h:=(hB.same S16).ne w17
   have A17:=(A16.same u17).add (xD f17 sna snb fun cx=>absurd cx.1 (by show ¬ 0<0 - A.2;omega))
   refine⟨(by show 9≤sizeLine;decide),fun t18 B18 u18 w18 f18=>?_⟩
   have S18:=S17.trans u18
   have n18:t18≠h:=(hB.same S17).ne w18
   have A18:=A17.same u18
   refine⟨t7,t18,_,_,rfl,rfl,(u8.trans ( u9.trans ( u10.trans ( u11.trans ( u12.trans ( u13.trans ( u14.trans ( u15.trans ( u16.trans ( u17.trans (u18))))))))))) _ _ f7,f18,(by show 19≤sizeLine;decide),fun t19 B19 u19 w19 f19=>?_⟩
   have S19:=S18.trans u19
   have n19:t19≠h:=(hB.same S18).ne w19
   have A19:=A18.same u19
   refine⟨_,rfl,_,rfl,_,rfl,a,ys,rfl,S19 _ _ eaB,fun tc E1 ue ge=>?_⟩
   have hE:=hB.same (S19.trans ue)
   refine⟨_,rfl,_,rfl,h,19,rfl,by decide,by decide,hE,fun v9 E2 a9 b9 hh9 k9=>?_⟩
   have kv9:Kv h K E1 E2:=hE.kv hh9 k9
   have f9:=k9 _ _ (ue _ _ f19) n19
   obtain⟨u9,e9,m9⟩:=z0A f9 a9 (by show v9<19;exact b9)
   have od9:Jg K E2 D c u9:=((A19 u9 (by simpa using m9)).kv (h:=h) ue.kv).kv kv9
   refine⟨t19,_,_,_,rfl,rfl,z7.of f9,e9,(by show 1≤sizeLine;decide),fun to E3 uo wo fo=>?_⟩
   have c1l:=jY ys none (some (j:Int))
   have c3l:=jY ys (some ((j:Int)+1)) none
   have e1c:yl ys none (some (j:Int))=ys.take j:=by
    unfold yl
    rw[HT.vJ,HT.Qq]
    show (ys.drop 0).take _=_
    rw[List.drop_zero,Nat.min_eq_left (by omega),Nat.sub_zero]
   have e3c:yl ys (some ((j:Int)+1)) none=ys.drop (j+1):=by
    unfold yl
    rw[show ((j:Int)+1)=((j+1:Nat):Int) from rfl,HT.vJ,HT.Qq,Nat.min_eq_left (by omega)]
    exact List.take_of_length_le (by rw[List.length_drop];exact Nat.le_refl _)
   rw[e1c] at ge
   refine⟨tc,to,_,_,rfl,rfl,uo _ _ (kv9.tp _ _ ge),fo,(by rw[List.length_take,List.length_singleton,sizeLine_eq];omega),fun tb E4 ub gb=>?_⟩
   have kvE:Kv h K B0 E4:=(zu.kv (S19.trans ue)).trans (kv9.trans ((zu.kv uo).trans ub.kv))
   refine⟨_,rfl,_,rfl,_,_,rfl,rfl,_,rfl,a,ys,rfl,kvE.tp _ _ eaB,fun td E5 ud gd=>?_⟩
   rw[e3c] at gd
   refine⟨tb,td,_,_,rfl,rfl,ud _ _ gb,gd,(by rw[List.length_append,List.length_take,List.length_singleton,List.length_drop,sizeLine_eq];omega),fun st C0 uf gf=>?_⟩
   have kvC:Kv h K B0 C0:=kvE.trans ((zu.kv ud).trans uf.kv)
   have kpC:Kp h H C0:=kpB.trans ((S19.trans ue).kp.trans (k9.trans ((uo.trans (ub.trans (ud.trans uf))).kp)))
   have hC:z4 C0 h:=hh9.same (uo.trans (ub.trans (ud.trans uf)))
   have odC:Jg K C0 D c u9:=od9.kv (h:=h) (uo.trans (ub.trans (ud.trans uf))).kv
   have eaC:=kvC.tp _ _ eaB
   have flC:Zl K C0 Rs ys:=flB.kt kvC.tp
   have prC:Paired (Tq K C0) ys (Rs.map some):=yq prB fun _ _ t=>t.kv kvC
   have fbC:=kvC.ls _ _ nbo fbB
   have flbC:Zl K C0 Rb yb:=flbB.kt kvC.tp
   have fcC:=kvC.ls _ _ nch fcB
   have flcC:Zl K C0 Rc yc:=flcB.kt kvC.tp
   have thst:QL K C0 (Rs.length+1) (z+81) (2 * c+2) (.ref st):=(Uq (L:=Rs.length+1) gf prC odC rb (by rw[List.length_append,List.length_append,List.length_take,List.length_singleton,List.length_drop];omega)).mono (Nat.le_refl _) (by omega) (by omega)
   clear eaB flB fbB flbB fcB flcB prB kvE kvC kpB od9 kv9 k9 uo ub ud uf ue ge gb gd gf fo f9
   have hlb:=flbC.len
   have hlc:=flcC.len
   clear A0 A1 A2 A3 A4 A5 A6 A7 A8 A9 A10 A11 A12 A13 A14 A15 A16 A17 A18 A19
   have e1d:yl ys (some 1) none=ys.drop 1:=by
    unfold yl
    rw[show (some (1:Int))=some ((1:Nat):Int) from rfl,HT.vJ,HT.Qq,Nat.min_eq_left (by omega)]
    exact List.take_of_length_le (by rw[List.length_drop];exact Nat.le_refl _)
   have rb01:RB (z+81) (2 * c+2) (Rs ++ [(0,1)]) D:=by
    have key:∀ R∈Rs ++ [(0,1)],Pw.Canon R∧R.2∣D∧-((2 * c+2) * R.2)≤R.1∧R.1≤(2 * c+2) * R.2:=fun R hR=>by
     rcases List.mem_append.mp hR with h' | h'
     · exact⟨cC R h',rb.dvd R h',rbR.bnd R h'⟩
     · rw[List.mem_singleton.mp h']
       exact⟨⟨by decide,by decide⟩,Int.one_dvd _,by show -((2 * c+2) * 1)≤0;omega,by show 0≤(2 * c+2) * 1;omega⟩
    exact⟨fun R hR=>(key R hR).1,rb.dpos,rb.sz.mono (by omega),fun R hR=>(key R hR).2.1,fun R hR=>(key R hR).2.2⟩
   have Sz0:zu C0 C0:=zu.refl _
   have Az0:Qy K C0 (Rs.length+1) (z+81) (2 * c+2) []:=Qy.nil
   refine⟨_,rfl,bo,_,rfl,z7.of (Sz0 _ _ fbC),fun tz1 Jz1 uz1 wz1 fz1=>?_⟩
   have Sz1:=Sz0.trans uz1
   have nz1:tz1≠h:=(hC.same Sz0).ne wz1
   have Az1:=(Az0.same uz1).add (qy fz1 (flbC.same Sz1) rbB (by omega) (by omega) (by omega) (by omega))
   refine⟨_,rfl,ch,_,rfl,z7.of (Sz1 _ _ fcC),fun tz2 Jz2 uz2 wz2 fz2=>?_⟩
   have Z9:=Sz1.trans uz2
   have nz2:tz2≠h:=(hC.same Sz1).ne wz2
   have Az2:=(Az1.same uz2).add (qy fz2 (flcC.same Z9) rbC (by omega) (by omega) (by omega) (by omega))
   have Az2:=Az2.add (thst.kv (h:=h) (zu.kv Z9))
   refine⟨_,rfl,_,rfl,_,rfl,a,ys,rfl,Z9 _ _ eaC,fun tz3 Jz3 uz3 fz3=>?_⟩
   have Sz3:=Z9.trans uz3
   have Az3:=(Az2.same uz3).add (Qc (Rs:=Rs.drop 1) fz3 (by rw[show yl ys (some 1) none=ys.drop 1 from e1d,List.map_drop];exact XW (yq prC fun _ _ t=>t.kv (h:=h) (zu.kv Sz3)) 1) (rbR.sub fun R hR=>List.mem_of_mem_drop hR) (by rw[show yl ys (some 1) none=ys.drop 1 from e1d,List.length_drop];omega))
   refine⟨_,rfl,(by show 2≤sizeLine;decide),fun tz4 Jz4 uz4 wz4 fz4=>?_⟩
   have Sz4:=Sz3.trans uz4
   have nz4:tz4≠h:=(hC.same Sz3).ne wz4
   have Az4:=Az3.same uz4
   refine⟨(by show 1≤sizeLine;decide),fun tz5 Jz5 uz5 wz5 fz5=>?_⟩
   have Sz5:=Sz4.trans uz5
   have nz5:tz5≠h:=(hC.same Sz4).ne wz5
   have Az5:=Az4.same uz5
   refine⟨a,tz5,_,_,rfl,rfl,Sz5 _ _ eaC,fz5,(by rw[List.length_singleton,sizeLine_eq];omega),fun tz6 Jz6 uz6 fz6=>?_⟩
   have Sz6:=Sz5.trans uz6
   have Az6:=(Az5.same uz6).add (Qc (Rs:=Rs ++ [(0,1)]) fz6 (by rw[List.map_append];exact YA (yq prC fun _ _ t=>t.kv (h:=h) (zu.kv Sz6)) (.cons (Tq.two (ox:=some 0) (oy:=some 1) ((uz5.trans uz6) _ _ fz4) (.int 0 s0) (.int 1 s1)) .nil)) rb01 (by rw[List.length_append,List.length_singleton];omega))
   refine⟨_,rfl,a,_,rfl,.inr (z5.of (Sz6 _ _ eaC)),fun tz7 Jz7 uz7 wz7 fz7=>?_⟩
   have Sz7:=Sz6.trans uz7
   have nz7:tz7≠h:=(hC.same Sz6).ne wz7
   have Az7:=(Az6.same uz7).add (.no (.inl (.lst fz7)) (jb _))
   refine⟨_,rfl,a,ys,rfl,Sz7 _ _ eaC,fun tz8 Jz8 uz8 wz8 fz8=>?_⟩
   have Sz8:=Sz7.trans uz8
   have nz8:tz8≠h:=(hC.same Sz7).ne wz8
   have Az8:=(Az7.same uz8).add (Qc (Rs:=Rs.reverse) fz8 (by rw[List.map_reverse];exact Uc (yq prC fun _ _ t=>t.kv (h:=h) (zu.kv Sz8))) (rbR.sub fun R hR=>List.mem_reverse.mp hR) (by rw[List.length_reverse];omega))
   refine⟨(by show 7≤sizeLine;decide),fun tz9 Jz9 uz9 wz9 fz9=>?_⟩
   have Sz9:=Sz8.trans uz9
   have nz9:tz9≠h:=(hC.same Sz8).ne wz9
   have Az9:=Az8.same uz9
   refine⟨_,rfl,?_⟩
   refine⟨_,rfl,a,rfl,⟨_,z5.of (Sz9 _ _ eaC)⟩,fun Dc hDc=>?_⟩
   refine yC (K:=K) (a:=a) (D:=Dc) (xs:=ys) (fun t zs σ G=>zu Jz9 G∧G Dc=some (.lst zs)∧Zl K G ((Rs.map fun R=>Pw.Zm R (2,1)).take t) zs∧∃ v,σ=[v]) ?_ ?_ ?_ ?_
   · exact⟨zu.new hDc,zj,rfl,none,rfl⟩
   · rintro t zs σ G ⟨s,e,_⟩
     exact⟨z5.of (s _ _ (Sz9 _ _ eaC)),e⟩
   · rintro t u zs σ G hu hlt ⟨s,eD,fz,v,rfl⟩
     have ht:t<Rs.length:=by rw[← hl];exact (List.getElem?_eq_some_iff.mp hu).1
     obtain⟨pt,ept,fpt⟩:=(flC.same (Sz9.trans s)).at (gR ht).1
     have:u=.ref pt:=Option.some.inj (hu.symm.trans ept)
     subst this
     have cT:=cC _ (gR ht).2
     have sT:=s2 _ (gR ht).2
     dsimp only [ZU]
     rw[if_pos rfl]
     refine⟨_,rfl,(by show 2≤sizeLine;decide),fun tt G5 s5 m5 e5=>?_⟩
     refine⟨pt,tt,_,(2,1),rfl,z5.of (s5 _ _ fpt),z5.of e5,cT.1,by decide,⟨sT.1.mono (by decide),sT.2.mono (by decide)⟩,⟨(zR 2 (by decide):Sz 3000 (2:Int)),(zR 1 (by decide):Sz 3000 (1:Int))⟩,fun rr G6 s6 f6=>?_⟩
     have s56:=s5.trans s6
     have hD6:=s56 _ _ eD
     refine⟨hD6,?_,Wt.next hlt ⟨fun b o e=>?_,zj,?_,_,rfl⟩⟩
     · have:=fz.len
       rw[List.length_take,List.length_map] at this
       exact zU (by omega)
     · rw[zp (zh e hDc)];exact s56 _ _ (s _ _ e)
     · rw[List.take_add_one,List.getElem?_map,(gR ht).1]
       exact ((fz.same s56).snoc f6).set hD6
   rintro zs σ Jc ⟨sc,eD,fz,_⟩
   rw[hl,List.take_of_length_le (by rw[List.length_map];exact Nat.le_refl _)] at fz
   have rb2:RB (z+81) (2 * c+2) (Rs.map fun R=>Pw.Zm R (2,1)) D:=by
    have key:∀ R∈Rs.map fun R=>Pw.Zm R (2,1),Pw.Canon R∧R.2∣D∧-((2 * c+2) * R.2)≤R.1∧R.1≤(2 * c+2) * R.2:=fun R hR=>by
     obtain⟨R0,h0,rfl⟩:=List.mem_map.mp hR
     have:=z1f (by omega) (cC R0 h0) (rb.dvd R0 h0) (rb.bnd R0 h0)
     exact⟨this.1,this.2.1,wide (by omega) this.1.1 this.2.2⟩
    exact⟨fun R hR=>(key R hR).1,rb.dpos,rb.sz.mono (by omega),fun R hR=>(key R hR).2.1,fun R hR=>(key R hR).2.2⟩
   have uz10:=sc
   have fz10:=eD
   generalize Jc=Jz10 at *
   have Sz10:=Sz9.trans uz10
   have Az10:=Az9.same uz10
   refine⟨Dc,_,rfl,z7.of fz10,fun tz11 Jz11 uz11 wz11 fz11=>?_⟩
   have Sz11:=Sz10.trans uz11
   have nz11:tz11≠h:=(hC.same Sz10).ne wz11
   have Az11:=(Az10.same uz11).add (qy fz11 (fz.same uz11) rb2 (by rw[List.length_map];omega) (by omega) (by omega) (by omega))
   have Az11:=Az11.add (.no (.inl .non) (z3z _))
   refine⟨(by show 0≤sizeLine;decide),fun tz12 Jz12 uz12 wz12 fz12=>?_⟩
   have Sz12:=Sz11.trans uz12
   have nz12:tz12≠h:=(hC.same Sz11).ne wz12
   have Az12:=(Az11.same uz12).add (Qc (Rs:=[]) fz12 .nil (rbR.sub fun R hR=>by cases hR) (by simp))
   intro tz13 wz13
   have uz13:zu Jz12 (upd Jz12 tz13 (Yg tz13 [] [])):=zu.new wz13
   have fz13:upd Jz12 tz13 (Yg tz13 [] []) tz13=some (Yg tz13 [] []):=zj
   generalize upd Jz12 tz13 (Yg tz13 [] [])=Jz13 at *
   have Sz13:=Sz12.trans uz13
   have nz13:tz13≠h:=(hC.same Sz12).ne wz13
   have Az13:=(Az12.same uz13).add (.no (.inr (.inl ⟨_,_,_,rfl,fz13,rfl⟩)) (z0x _))
   refine⟨(by show 2≤sizeLine;decide),fun tz14 Jz14 uz14 wz14 fz14=>?_⟩
   have Sz14:=Sz13.trans uz14
   have nz14:tz14≠h:=(hC.same Sz13).ne wz14
   have Az14:=Az13.same uz14
   refine⟨(by show 1≤sizeLine;decide),fun tz15 Jz15 uz15 wz15 fz15=>?_⟩
   have Sz15:=Sz14.trans uz15
   have nz15:tz15≠h:=(hC.same Sz14).ne wz15
   have Az15:=Az14.same uz15
   refine⟨_,rfl,a,_,rfl,.inr (z5.of (Sz15 _ _ eaC)),tz15,_,_,rfl,rfl,fz15,(by simp),(by omega),(by omega),(by rw[List.length_singleton,sizeLine_eq];omega),fun tz16 Jz16 uz16 fz16=>?_⟩
   have Sz16:=Sz15.trans uz16
   have Az16:=(Az15.same uz16).add (Qc (Rs:=List.replicate Rs.length (0,1)) fz16 (by rw[Int.toNat_natCast,hl,List.flatten_replicate_singleton,List.map_replicate];exact YZ (Tq.two (ox:=some 0) (oy:=some 1) ((uz15.trans uz16) _ _ fz14) (.int 0 s0) (.int 1 s1)) _) (rb01.sub fun R hR=>by rw[List.eq_of_mem_replicate hR];exact List.mem_append_right _ List.mem_cons_self) (by rw[Int.toNat_natCast,hl,List.flatten_replicate_singleton,List.length_replicate];omega))
   have Az16:=Az16.add (.no (.inl (.int 1)) (z0f _))
   refine⟨(by show 6≤sizeLine;decide),fun tz17 Jz17 uz17 wz17 fz17=>?_⟩
   have Sz17:=Sz16.trans uz17
   have nz17:tz17≠h:=(hC.same Sz16).ne wz17
   have Az17:=Az16.same uz17
   refine⟨tz9,tz17,_,_,rfl,rfl,(uz10.trans ( uz11.trans ( uz12.trans ( uz13.trans ( uz14.trans ( uz15.trans ( uz16.trans (uz17)))))))) _ _ fz9,fz17,(by show 13≤sizeLine;decide),fun tz18 Jz18 uz18 wz18 fz18=>?_⟩
   have Sz18:=Sz17.trans uz18
   have nz18:tz18≠h:=(hC.same Sz17).ne wz18
   have Az18:=Az17.same uz18
   refine⟨_,rfl,_,rfl,h,13,rfl,by decide,by decide,hC.same Sz18,fun v9 G9 a9 b9 hh9 k9=>?_⟩
   have f9:=k9 _ _ fz18 nz18
   have kv9:Kv h K Jz18 G9:=(hC.same Sz18).kv hh9 k9
   obtain⟨u9,e9,m9⟩:=z0A f9 a9 (by show v9<13;exact b9)
   refine⟨tz18,_,_,_,rfl,rfl,z7.of f9,e9,?_⟩
   exact ko _ _ hh9 ((kpC.trans Sz18.kp).trans k9) ((Az18 u9 (by simpa using m9)).kv kv9)
end
end Lw
set_option pp.maxSteps 800
namespace Lw
open PySem L2 PyProof.Rows
section
variable{P:Program}{w:World}{K:PySem.W.Frag}{mg:Str→Option Value}{base:Heap}
theorem z0z:zT ["thing"] ["thing"] (zw jv):=⟨rfl,rfl,rfl,by decide +kernel,rfl,by decide +kernel,by decide +kernel⟩
set_option maxHeartbeats 0 in
theorem Xo(S:yW K mg "_law_is_fraction" jv ["thing"])(T:Txt mg)(Fr:Def P w K mg base 1 "_law_frac" ["above","below"] Yd):Def P w K mg base 2 "_law_is_fraction" ["thing"] (U4 K):=S.def fun f fd F=>by
 have nd:=z0z.nd
 refine F.ok z0z (fun vs H Q E h=>?_) (fun cdv A' outer s H vs Q E hr h=>?_)
 · obtain⟨_,_,rfl,_⟩:=h
   rfl
 · obtain⟨v,o,rfl,ht,k⟩:=h
   refine⟨_,(@zo _ _ _ _ _ (@Z3 _ _ _ _ _ _ _ _ (PW.pt (uW (xJ (Yi (zX yn (by rfl) T.isi boot_isinstance (@za _ _ _ _ _ (by rfl) (pv 0) (@za _ _ _ _ _ (by rfl) (yt (v:=.ty "tuple") (by rfl) T.tup boot_tuple rfl) zb))))) (qJ (Zf qH (zX Zh (by rfl) T.len PySem.boot_len (@za _ _ _ _ _ (by rfl) (pv 0) zb)) zg (z0 _)))))
    (@zC _ _ _ (@zS _ _ _ _ ZT))
    Zr)
    (@zo _ _ _ _ _ (@Z3 _ _ _ _ _ _ _ _ (Zf (VZ hr) (Zg ["one"] [none] rfl (YY (pv 0)) (by show ∀ y:Str×NameKind,y∈_→y.2=NameKind.free→(zw jv).names.lookup y.1=some .cell;decide +kernel) (by decide) rfl (by decide +kernel) trivial
     (fun cl C s H fp=>(zQ (i:=0) (show (["one"]:List Str).Nodup by decide +kernel) rfl (Or.inl rfl) (.inr rfl)))
     (fun cl C s H fp=>(YD (PW.pt (uW (xJ (Yi (zX (qR (K:=K) rfl) (by rfl) T.isi boot_isinstance (@za _ _ _ _ _ (by rfl) (pv 0) (@za _ _ _ _ _ (by rfl) (yt (v:=.ty "int") (by rfl) T.int boot_int rfl) zb))))) (qJ (Yi (zX (qR (K:=K) rfl) (by rfl) T.isi boot_isinstance (@za _ _ _ _ _ (by rfl) (pv 0) (@za _ _ _ _ _ (by rfl) (yt (v:=.ty "bool") (by rfl) T.bool boot_bool rfl) zb)))))))))
     (fun cl C s H fp=>(pv 0))) (@Ze _ _ _ _ zb) (z0 _))
     (@zC _ _ _ (@zS _ _ _ _ ZT))
     Zr)
    (@zC _ _ _ (@zS _ _ _ _ (yi (Zu jq (zD zN (pv 0) zg (fun _ _=>rfl)) zg (z0 _)) (Ye (Zu (qN hr) (zH (by rfl) (by rfl) (by rfl) (by decide) Fr (hr.mono (by decide)) (@za _ _ _ _ _ (by rfl) (zD zN (pv 0) zg (fun _ _=>rfl)) (@za _ _ _ _ _ (by rfl) (zD zN (pv 0) zg (fun _ _=>rfl)) zb))) (pv 0) (z0 _)))))))),?_⟩
   cases ht with
   | no ty e=>exact⟨_,rfl,_,_,_,false,rfl,ty,e,_,rfl,YN rfl (k _ (zu.refl _))⟩
   | @len q xs e l =>
     refine⟨_,rfl,_,_,_,true,rfl,QS.tup (z5.of e),xH _,_,rfl,yH rfl ?_⟩
     refine⟨_,rfl,q,_,rfl,.inr (z5.of e),rfl,_,rfl,YN (by rw[decide_eq_false fun z=>by have:=V.int.inj z;omega];rfl) (k _ (zu.refl _))⟩
   | @two a x y ox oy hT hx hy =>
     refine⟨_,rfl,_,_,_,true,rfl,QS.tup (z5.of hT),xH _,_,rfl,yH rfl ?_⟩
     refine⟨_,rfl,a,_,rfl,.inr (z5.of hT),rfl,_,rfl,yH rfl ?_⟩
     refine⟨_,rfl,a,rfl,⟨_,z5.of hT⟩,fun D hD=>?_⟩
     let odd:V→Option Int→List V:=fun v o=>if o.isSome then [] else [v]
     refine yC (K:=K) (a:=a) (D:=D) (xs:=[x,y]) (fun i ys σ H'=>zu H H'∧H' D=some (.lst ys)∧ys=(if 1≤i then odd x ox else []) ++ (if 2≤i then odd y oy else [])∧∃ v,σ=[v]) ?_ ?_ ?_ ?_
     · exact⟨zu.new hD,zj,rfl,none,rfl⟩
     · rintro i ys σ H' ⟨s1,e1,_⟩
       exact⟨z5.of (s1 _ _ hT),e1⟩
     · rintro i u ys σ H' hi hlt ⟨s1,e1,ey,v,rfl⟩
       have hu:∃ ou,Mb K H' 4000 u ou∧(if 1≤i+1 then odd x ox else []) ++ (if 2≤i+1 then odd y oy else [])=ys ++ odd u ou∧ys.length<sizeLine:=by
        match i,hi,ey with
        | 0,hi,ey =>
          have e:x=u:=by simpa using hi
          subst e;subst ey
          exact⟨ox,hx.kt s1.kt,by simp,by rw[sizeLine_eq];simp⟩
        | 1,hi,ey =>
          have e:y=u:=by simpa using hi
          subst e;subst ey
          refine⟨oy,hy.kt s1.kt,by simp,?_⟩
          rw[sizeLine_eq]
          cases ox <;> simp[odd]
        | _+2,hi,ey=>simp at hi
       obtain⟨ou,mu,en,hz⟩:=hu
       have su:∀ zs,zu H (upd H' D (.lst zs)):=fun zs b o e=>by rw[zp (zh e hD)];exact s1 b o e
       cases mu with
       | int z hz' =>
         refine⟨_,rfl,_,_,_,true,rfl,.inl (.int z),z1j _,_,rfl,yH rfl ?_⟩
         refine⟨_,rfl,_,_,_,false,rfl,.inl (.int z),JX _,_,rfl,yH rfl ?_⟩
         exact Wt.next hlt ⟨s1,e1,by rw[en];simp[odd],_,rfl⟩
       | bl b =>
         refine⟨_,rfl,_,_,_,true,rfl,.inl (.bl b),z1g _,_,rfl,yH rfl ?_⟩
         refine⟨_,rfl,_,_,_,true,rfl,.inl (.bl b),UH _,_,rfl,YN rfl ?_⟩
         exact⟨_,rfl,e1,hz,Wt.next hlt ⟨su _,zj,en.symm,_,rfl⟩⟩
       | oth ty e =>
         refine⟨_,rfl,_,_,_,false,rfl,.inl ty,e,_,rfl,YN rfl ?_⟩
         exact⟨_,rfl,e1,hz,Wt.next hlt ⟨su _,zj,en.symm,_,rfl⟩⟩
     · rintro ys σ H' ⟨s1,e1,ey,_⟩
       have ey:ys=odd x ox ++ odd y oy:=by simpa using ey
       refine⟨(by show 0≤sizeLine;decide),fun l H2 s2 _ hl2=>?_⟩
       have s12:=s1.trans s2
       refine⟨D,l,ys,rfl,rfl,.inr ⟨z7.of (s2 _ _ e1),z7.of hl2⟩,_,rfl,?_⟩
       cases ox with
       | none=>subst ey;exact YN rfl (k _ s12)
       | some i =>
       cases oy with
       | none=>subst ey;exact YN rfl (k _ s12)
       | some j =>
       subst ey
       cases hx with | int _ zx=>?_
       cases hy with | int _ zy=>?_
       have hT2:=s12 _ _ hT
       have k:∀ H',zu H H'→Q (.bl (decide (1≤j∧Int.gcd i j=1))) H':=k
       refine yH rfl ?_
       refine⟨_,rfl,a,_,_,_,rfl,rfl,z5.of hT2,rfl,_,_,rfl,rfl,_,rfl,?_⟩
       by_cases h1:0<j
       case neg =>
        rw[decide_eq_false h1]
        have:=k _ s12
        rw[decide_eq_false (fun z=>absurd z.1 (by omega))] at this
        exact yH rfl this
       rw[decide_eq_true h1]
       refine YN rfl ?_
       refine⟨_,rfl,a,_,_,_,rfl,rfl,z5.of hT2,rfl,_,rfl,a,_,_,_,rfl,rfl,z5.of hT2,rfl,i,j,rfl,by omega,zx.mono (by decide),zy.mono (by decide),fun r H3 s4 _ hr'=>?_⟩
       refine⟨_,rfl,uP (A:=Pw.mk i j) (B:=(i,j)) hr' (s4 _ _ hT2) ?_⟩
       have e:decide (Pw.mk i j=(i,j))=decide (1≤j∧Int.gcd i j=1):=by
        rw[decide_eq_decide]
        constructor
        · intro z
          have:=(Pw.ZV (a:=i) (b:=j) (by omega)).1
          rw[z] at this
          exact⟨by omega,this.2⟩
        · rintro⟨_,g⟩
          exact Pw.uc (p:=(i,j)) ⟨by show 0<j;omega,g⟩
       rw[e]
       exact k _ (s12.trans s4)
end
end Lw
set_option pp.maxSteps 800
namespace Lw
open PySem L2 PyProof.Rows
section
variable{P:Program}{w:World}{K:PySem.W.Frag}{mg:Str→Option Value}{base:Heap}
theorem Xq:zT ["hand","thing"] ["hand","thing"] (zw yY):=⟨rfl,rfl,rfl,by decide +kernel,rfl,by decide +kernel,by decide +kernel⟩
set_option maxHeartbeats 0 in
theorem uh(S:yW K mg "_law_again" yY ["hand","thing"])(T:Txt mg)(Lf:Def P w K mg base 2 "_law_is_fraction" ["thing"] (U4 K))(So:Def P w K mg base 3 "_law_spoilt" ["hand","row"] (xE K)):Def P w K mg base 4 "_law_again" ["hand","thing"] (Q7 K):=S.def fun f fd F=>by
 have nd:=Xq.nd
 refine F.ok Xq (fun vs H Q E h=>?_) (fun cdv A' outer s H vs Q E hr h=>?_)
 · obtain⟨_,_,_,_,rfl,_⟩:=h
   rfl
 · obtain⟨h,v,z,c,rfl,hh,ht,hz,c1,c40,ko⟩:=h
   refine⟨_,(@zo _ _ _ _ _ (@Z3 _ _ _ _ _ _ _ _ (PW.pt (Um (Yi (zX yn (by rfl) T.isi boot_isinstance (@za _ _ _ _ _ (by rfl) (pv 1) (@za _ _ _ _ _ (by rfl) (yt (v:=.ty "tuple") (by rfl) T.tup boot_tuple rfl) zb)))) (Um (Zf (VZ hr) (pv 1) (@zq _ _ _ _ _ zb) (z0 _)) (jn (Zf (Qp hr) (Zg ["one"] [none] rfl (YY (pv 1)) (by show ∀ y:Str×NameKind,y∈_→y.2=NameKind.free→(zw yY).names.lookup y.1=some .cell;decide +kernel) (by decide) rfl (by decide +kernel) trivial
    (fun cl C s H fp=>(zQ (i:=0) (show (["one"]:List Str).Nodup by decide +kernel) rfl (Or.inl rfl) (.inr rfl)))
    (fun cl C s H fp=>(YD (xJ (Yi (zH (by rfl) (by rfl) (by rfl) (by decide) Lf (hr.mono (by decide)) (@za _ _ _ _ _ (by rfl) (pv 0) zb))))))
    (fun cl C s H fp=>(pv 0))) (@Ze _ _ _ _ zb) (z0 _))))))
    (@zC _ _ _ (@zS _ _ _ _ (zH (by rfl) (by rfl) (by rfl) (by decide) So (hr.mono (by decide)) (@za _ _ _ _ _ (by rfl) (pv 0) (@za _ _ _ _ _ (by rfl) (pv 1) zb)))))
    Zr)
    (@zC _ _ _ (@zS _ _ _ _ (pv 1)))),?_⟩
   have els:∀ J,zu H J→Q v J:=fun J s=>ko v J (hh.same s) s.kp ((ht.kv (h:=h) s.kv).mono (by decide) (by omega) (by omega))
   cases ht with
   | no ty e=>exact⟨_,rfl,_,_,_,false,rfl,ty,e,_,rfl,yH rfl ⟨_,rfl,els _ (zu.refl _)⟩⟩
   | @tup a ys os e f l rb =>
     have hl:=YG f
     refine⟨_,rfl,_,_,_,true,rfl,QS.tup (z5.of e),xH _,_,rfl,YN rfl ?_⟩
     refine⟨_,rfl,(by show 0≤sizeLine;decide),fun t1 J1 u1 w1 f1=>⟨a,t1,ys,rfl,rfl,.inl ⟨z5.of (u1 _ _ e),z5.of f1⟩,_,rfl,?_⟩⟩
     cases hys:ys.isEmpty with
     | true=>exact yH rfl ⟨_,rfl,els _ u1⟩
     | false =>
     have n0:0<ys.length:=by
      cases ys with
      | nil=>cases hys
      | cons y ys=>exact Nat.succ_pos _
     refine YN rfl ?_
     refine⟨_,rfl,a,rfl,⟨_,z5.of (u1 _ _ e)⟩,fun D hD=>?_⟩
     refine yC (K:=K) (a:=a) (D:=D) (xs:=ys) (fun i zs σ G=>zu J1 G∧G D=some (.lst zs)∧zs.length≤i∧(zs=[]→(os.take i).all yf=true)∧∃ v,σ=[v]) ?_ ?_ ?_ ?_
     · exact⟨zu.new hD,zj,Nat.le_refl _,fun _=>rfl,none,rfl⟩
     · rintro i zs σ G ⟨s,eD,_⟩
       exact⟨z5.of (s _ _ (u1 _ _ e)),eD⟩
     · rintro i u zs σ G hi hlt ⟨s,eD,lz,ez,v,rfl⟩
       obtain⟨o,eo,tx⟩:=xR f hi
       refine⟨_,rfl,u,o,rfl,tx.kv (h:=h) (zu.kv (u1.trans s)),fun G2 s2=>⟨_,rfl,?_⟩⟩
       cases hf:yf o with
       | true =>
         refine yH rfl (Wt.next hlt ⟨s.trans s2,s2 _ _ eD,by omega,fun z=>?_,_,rfl⟩)
         rw[List.take_add_one,eo,List.all_append,ez z]
         show (true && [o].all yf)=true
         rw[List.all_cons,hf];rfl
       | false =>
         refine YN rfl ⟨_,rfl,s2 _ _ eD,by rw[sizeLine_eq];omega,Wt.next hlt ⟨fun b o e=>?_,zj,by rw[List.length_append,List.length_singleton];omega,fun z=>by simp at z,_,rfl⟩⟩
         rw[zp (zh e hD)];exact s2 _ _ (s _ _ e)
     · rintro zs σ G ⟨s,eD,lz,ez,_⟩
       refine⟨(by show 0≤sizeLine;decide),fun l2 H2 s2 _ hl2=>?_⟩
       have s12:=u1.trans (s.trans s2)
       refine⟨D,l2,zs,rfl,rfl,.inr ⟨z7.of (s2 _ _ eD),z7.of hl2⟩,_,rfl,?_⟩
       cases zs with
       | cons z zs=>exact yH rfl ⟨_,rfl,els _ s12⟩
       | nil =>
         refine YN rfl ?_
         have all:=ez rfl
         rw[List.take_of_length_le (by omega)] at all
         obtain⟨Rs,rfl,cR⟩:=Vr all
         obtain⟨DD,rb1⟩:=rb Rs rfl cR
         rw[List.length_map] at hl
         refine⟨_,rfl,_,rfl,h,a,ys,Rs,z,c,DD,rfl,hh.same s12,s12 _ _ e,(YW f).same s12,rb1,by omega,by omega,hz,c1,c40,fun v G2 hG kG th=>?_⟩
         exact ko _ _ hG (s12.kp.trans kG) (th.mono (by omega) (Nat.le_refl _) (Int.le_refl _))
end
end Lw
set_option pp.maxSteps 800
namespace Lw
open PySem L2 PyProof.Rows
section
variable{P:Program}{w:World}{K:PySem.W.Frag}{mg:Str→Option Value}{base:Heap}
theorem z3F:zT ["script","deep","k","cell","hand","web","leap","leaps","due","held","spoilt","some","thing","right","told"] ["script"] (zw QD):=⟨rfl,rfl,rfl,by decide +kernel,rfl,by decide +kernel,by decide +kernel⟩
set_option maxHeartbeats 0 in
theorem z4W{f:Addr}{fd:FuncData}(F:XZ K "law" "law" QD f fd)(T:Txt mg)(As:Def P w K mg base 8 "are_shares" ["web","leap","leaps","thing"] (z1A K))(Lf:Def P w K mg base 2 "_law_is_fraction" ["thing"] (U4 K))(Ce:Def P w K mg base 1 "_law_cells" ["script","many"] (Vb K))(Hd:Def P w K mg base 1 "_law_hand" ["cell","k"] UX)(Wb:Def P w K mg base 2 "_law_web" ["hand","great"] (z0Y K))(Gr:Def P w K mg base 1 "_law_great" ["script"] (vG K))(Lp:Def P w K mg base 2 "_law_leap" ["hand"] (U0 K))(Ls:Def P w K mg base 2 "_law_leaps" ["hand","pages"] (VI K))(Sf:Def P w K mg base 4 "_law_shares" ["web","leap","leaps"] (z3x K))(So:Def P w K mg base 3 "_law_spoilt" ["hand","row"] (xE K))(Ag:Def P w K mg base 4 "_law_again" ["hand","thing"] (Q7 K))(Lb:Def P w K mg base 4 "_law_behind" ["web","leap","leaps","row"] (Xg K)):ZY P w K mg base XR 9 f fd ["script"] (jl K):=by
 have nd:=z3F.nd
 refine F.ok z3F (fun vs H Q E h=>?_) (fun cdv A' outer s H vs Q E hr h=>?_)
 · obtain⟨_,_,rfl,_⟩:=h
   rfl
 · obtain⟨a,ns,rfl,hS,hlen,k⟩:=h
   refine⟨_,(@zo _ _ _ _ _ (@zK _ _ 1 _ _ _ _ (by rfl) (Or.inl rfl) nd rfl (Or.inl rfl) (@zq _ _ _ _ _ zb))
    (@zo _ _ _ _ _ (@ZW _ _ _ _ _ _ _ _ (fun _=>rfl) PassesOwn.never rfl (Zk rfl T.range (@za _ _ _ _ _ (by rfl) zg zb)) (zQ (i:=2) nd rfl (Or.inl rfl))
     (@zC _ _ _ (@zK _ _ 1 _ _ _ _ (by rfl) (Or.inl rfl) nd rfl (Or.inl rfl) (@zq _ _ _ _ _ (@za _ _ _ _ _ (by rfl) (pv 1) zb)))))
    (@zo _ _ _ _ _ (@ZW _ _ _ _ _ _ _ _ (fun _=>rfl) PassesOwn.never rfl (@yI _ _ _ _ (zH (by rfl) (by rfl) (by rfl) (by decide) Ce (hr.mono (by decide)) (@za _ _ _ _ _ (by rfl) (pv 0) (@za _ _ _ _ _ (by rfl) zg zb)))) (Xx rfl (Zn (zQ (i:=2) nd rfl (Or.inl rfl)) (Zn (zQ (i:=3) nd rfl (Or.inl rfl)) yJ)))
     (@zo _ _ _ _ _ (@zK _ _ 4 _ _ _ _ (by rfl) (Or.inl rfl) nd rfl (Or.inl rfl) (zH (by rfl) (by rfl) (by rfl) (by decide) Hd (hr.mono (by decide)) (@za _ _ _ _ _ (by rfl) (pv 3) (@za _ _ _ _ _ (by rfl) (pv 2) zb))))
    (@Xj _ _ _ _ _ (@zK _ _ 5 _ _ _ _ (by rfl) (Or.inl rfl) nd rfl (Or.inl rfl) (zH (by rfl) (by rfl) (by rfl) (by decide) Wb (hr.mono (by decide)) (@za _ _ _ _ _ (by rfl) (pv 4) (@za _ _ _ _ _ (by rfl) (yi (Zu YI (pv 2) zg (z0 _)) (Ye (zH (by rfl) (by rfl) (by rfl) (by decide) Gr (hr.mono (by decide)) (@za _ _ _ _ _ (by rfl) (pv 0) zb)))) zb))))
    (@zo _ _ _ _ _ (@zK _ _ 6 _ _ _ _ (by rfl) (Or.inl rfl) nd rfl (Or.inl rfl) (zH (by rfl) (by rfl) (by rfl) (by decide) Lp (hr.mono (by decide)) (@za _ _ _ _ _ (by rfl) (pv 4) zb)))
    (@zo _ _ _ _ _ (@zK _ _ 7 _ _ _ _ (by rfl) (Or.inl rfl) nd rfl (Or.inl rfl) (zH (by rfl) (by rfl) (by rfl) (by decide) Ls (hr.mono (by decide)) (@za _ _ _ _ _ (by rfl) (pv 4) (@za _ _ _ _ _ (by rfl) (zD zN (pv 5) zg (fun _ _=>rfl)) zb))))
    (@zo _ _ _ _ _ (@zK _ _ 8 _ _ _ _ (by rfl) (Or.inl rfl) nd rfl (Or.inl rfl) (zH (by rfl) (by rfl) (by rfl) (by decide) Sf (hr.mono (by decide)) (@za _ _ _ _ _ (by rfl) (pv 5) (@za _ _ _ _ _ (by rfl) (pv 6) (@za _ _ _ _ _ (by rfl) (pv 7) zb)))))
    (@zo _ _ _ _ _ (@Z3 _ _ _ _ _ _ _ _ (Zf Xf (zH (by rfl) (by rfl) (by rfl) (by decide) As (hr.mono (by decide)) (@za _ _ _ _ _ (by rfl) (pv 5) (@za _ _ _ _ _ (by rfl) (pv 6) (@za _ _ _ _ _ (by rfl) (pv 7) (@za _ _ _ _ _ (by rfl) (pv 8) zb))))) ZT (z0 _))
     (@zC _ _ _ (@zS _ _ _ _ ZT))
     Zr)
    (@zo _ _ _ _ _ (@Z3 _ _ _ _ _ _ _ _ (Zf Xf (zH (by rfl) (by rfl) (by rfl) (by decide) As (hr.mono (by decide)) (@za _ _ _ _ _ (by rfl) (pv 5) (@za _ _ _ _ _ (by rfl) (pv 6) (@za _ _ _ _ _ (by rfl) (pv 7) (@za _ _ _ _ _ (by rfl) (zI qm (@zq _ _ _ _ _ (@za _ _ _ _ _ (by rfl) (pv 1) zb)) (zD zN (pv 5) zg (fun _ _=>rfl))) zb))))) ZT (z0 _))
     (@zC _ _ _ (@zS _ _ _ _ ZT))
     Zr)
    (@zo _ _ _ _ _ (@zK _ _ 9 _ _ _ _ (by rfl) (Or.inl rfl) nd rfl (Or.inl rfl) (Zd yk (by rfl) T.lst boot_list (@za _ _ _ _ _ (by rfl) (pv 8) zb)))
    (@zo _ _ _ _ _ (@Z3 _ _ _ _ _ _ _ _ (PW.pt (uW (Zf Xf (zH (by rfl) (by rfl) (by rfl) (by decide) As (hr.mono (by decide)) (@za _ _ _ _ _ (by rfl) (pv 5) (@za _ _ _ _ _ (by rfl) (pv 6) (@za _ _ _ _ _ (by rfl) (pv 7) (@za _ _ _ _ _ (by rfl) (pv 9) zb))))) ZT (z0 _)) (qJ (Zf (z5m hr) (pv 9) (Zd yk (by rfl) T.lst boot_list (@za _ _ _ _ _ (by rfl) (pv 8) zb)) (z0 _)))))
     (@zC _ _ _ (@zS _ _ _ _ ZT))
     Zr)
    (@zo _ _ _ _ _ (@zK _ _ 10 _ _ _ _ (by rfl) (Or.inl rfl) nd rfl (Or.inl rfl) (zH (by rfl) (by rfl) (by rfl) (by decide) So (hr.mono (by decide)) (@za _ _ _ _ _ (by rfl) (pv 4) (@za _ _ _ _ _ (by rfl) (pv 8) zb))))
    (@zo _ _ _ _ _ (@zK _ _ 11 _ _ _ _ (by rfl) (Or.inl rfl) nd rfl (Or.inl rfl) (@Ze _ _ _ _ (@za _ _ _ _ _ (by rfl) (pv 10) (@za _ _ _ _ _ (by rfl) (zH (by rfl) (by rfl) (by rfl) (by decide) Ag (hr.mono (by decide)) (@za _ _ _ _ _ (by rfl) (pv 4) (@za _ _ _ _ _ (by rfl) (pv 10) zb))) (@za _ _ _ _ _ (by rfl) (zH (by rfl) (by rfl) (by rfl) (by decide) So (hr.mono (by decide)) (@za _ _ _ _ _ (by rfl) (pv 4) (@za _ _ _ _ _ (by rfl) (pv 8) zb))) (@za _ _ _ _ _ (by rfl) (pv 7) (@za _ _ _ _ _ (by rfl) (zI qm (@zq _ _ _ _ _ (@za _ _ _ _ _ (by rfl) (@zq _ _ _ _ _ (@za _ _ _ _ _ (by rfl) zg (@za _ _ _ _ _ (by rfl) (zD zN (pv 5) zg (fun _ _=>rfl)) zb))) zb)) (zD zN (pv 5) zg (fun _ _=>rfl))) (@za _ _ _ _ _ (by rfl) (pv 1) zb))))))))
    (@zC _ _ _ (@ZW _ _ _ _ _ _ _ _ (fun _=>rfl) PassesOwn.never rfl (@yI _ _ _ _ (zI Xn (pv 11) (@Ze _ _ _ _ (@za _ _ _ _ _ (by rfl) (zH (by rfl) (by rfl) (by rfl) (by decide) Lb (hr.mono (by decide)) (@za _ _ _ _ _ (by rfl) (pv 5) (@za _ _ _ _ _ (by rfl) (pv 6) (@za _ _ _ _ _ (by rfl) (pv 7) (@za _ _ _ _ _ (by rfl) (pv 7) zb))))) zb)))) (zQ (i:=12) nd rfl (Or.inl rfl))
     (@Xj _ _ _ _ _ (@zK _ _ 13 _ _ _ _ (by rfl) (Or.inl rfl) nd rfl (Or.inl rfl) (yi (zX yn (by rfl) T.isi boot_isinstance (@za _ _ _ _ _ (by rfl) (pv 12) (@za _ _ _ _ _ (by rfl) (yt (v:=.ty "tuple") (by rfl) T.tup boot_tuple rfl) zb))) (Ye (Zu YI (zX Zh (by rfl) T.len PySem.boot_len (@za _ _ _ _ _ (by rfl) (pv 12) zb)) (zD zN (pv 5) zg (fun _ _=>rfl)) (z0 _)))))
    (@Xj _ _ _ _ _ (@Z3 _ _ _ _ _ _ _ _ (Yi (pv 13))
     (@zC _ _ _ (@zK _ _ 13 _ _ _ _ (by rfl) (Or.inl rfl) nd rfl (Or.inl rfl) (yi (Zu (Qp hr) (Zg ["one"] [none] rfl (YY (pv 12)) (by show ∀ y:Str×NameKind,y∈_→y.2=NameKind.free→(zw QD).names.lookup y.1=some .cell;decide +kernel) (by decide) rfl (by decide +kernel) trivial
      (fun cl C s H fp=>(zQ (i:=0) (show (["one"]:List Str).Nodup by decide +kernel) rfl (Or.inl rfl) (.inr rfl)))
      (fun cl C s H fp=>(YD (xJ (Yi (zH (by rfl) (by rfl) (by rfl) (by decide) Lf (hr.mono (by decide)) (@za _ _ _ _ _ (by rfl) (pv 0) zb))))))
      (fun cl C s H fp=>(pv 0))) (@Ze _ _ _ _ zb) (z0 _)) (Ye (Zu (qN hr) (pv 12) (pv 8) (z0 _))))))
     Zr)
    (@zo _ _ _ _ _ (@zK _ _ 14 _ _ _ _ (by rfl) (Or.inl rfl) nd rfl (Or.inl rfl) (zH (by rfl) (by rfl) (by rfl) (by decide) As (hr.mono (by decide)) (@za _ _ _ _ _ (by rfl) (pv 5) (@za _ _ _ _ _ (by rfl) (pv 6) (@za _ _ _ _ _ (by rfl) (pv 7) (@za _ _ _ _ _ (by rfl) (pv 12) zb))))))
    (@zC _ _ _ (@Z3 _ _ _ _ _ _ _ _ (PW.pt (uW (xJ (Yi (zX yn (by rfl) T.isi boot_isinstance (@za _ _ _ _ _ (by rfl) (pv 14) (@za _ _ _ _ _ (by rfl) (yt (v:=.ty "bool") (by rfl) T.bool boot_bool rfl) zb))))) (qJ (Zf qH (pv 14) (pv 13) (z0 _)))))
     (@zC _ _ _ (@zS _ _ _ _ ZT))
     Zr)))))))))))))))))))
    (@zo _ _ _ _ _ (@ZW _ _ _ _ _ _ _ _ (fun _=>rfl) PassesOwn.never rfl (@yI _ _ _ _ (@Ze _ _ _ _ (@za _ _ _ _ _ (by rfl) (@zq _ _ _ _ _ (@za _ _ _ _ _ (by rfl) (@zq _ _ _ _ _ (@za _ _ _ _ _ (by rfl) ZT (@za _ _ _ _ _ (by rfl) zg zb))) zb)) (@za _ _ _ _ _ (by rfl) (@zq _ _ _ _ _ (@za _ _ _ _ _ (by rfl) (@zq _ _ _ _ _ (@za _ _ _ _ _ (by rfl) zg (@za _ _ _ _ _ (by rfl) ZT zb))) zb)) (@za _ _ _ _ _ (by rfl) (@Ze _ _ _ _ (@za _ _ _ _ _ (by rfl) (@zq _ _ _ _ _ (@za _ _ _ _ _ (by rfl) zg (@za _ _ _ _ _ (by rfl) zg zb))) zb)) (@za _ _ _ _ _ (by rfl) (@zq _ _ _ _ _ (@za _ _ _ _ _ (by rfl) (@zq _ _ _ _ _ (@za _ _ _ _ _ (by rfl) ZT (@za _ _ _ _ _ (by rfl) ZT zb))) zb)) (@za _ _ _ _ _ (by rfl) (@zq _ _ _ _ _ (@za _ _ _ _ _ (by rfl) Vc zb)) (@za _ _ _ _ _ (by rfl) Vc (@za _ _ _ _ _ (by rfl) (ux (K:=K) rfl hr (qV (@zq _ _ _ _ _ (@za _ _ _ _ _ (by rfl) zg (@za _ _ _ _ _ (by rfl) zg zb))) zg j0) rfl rfl (by simp) (by decide)) zb))))))))) (zQ (i:=12) nd rfl (Or.inl rfl))
     (@zC _ _ _ (@Z3 _ _ _ _ _ _ _ _ (Zf Xf (zH (by rfl) (by rfl) (by rfl) (by decide) As (hr.mono (by decide)) (@za _ _ _ _ _ (by rfl) (@zq _ _ _ _ _ (@za _ _ _ _ _ (by rfl) zg (@za _ _ _ _ _ (by rfl) (@zq _ _ _ _ _ zb) zb))) (@za _ _ _ _ _ (by rfl) (@zq _ _ _ _ _ (@za _ _ _ _ _ (by rfl) zg (@za _ _ _ _ _ (by rfl) zg zb))) (@za _ _ _ _ _ (by rfl) (@zq _ _ _ _ _ (@za _ _ _ _ _ (by rfl) (@zq _ _ _ _ _ (@za _ _ _ _ _ (by rfl) zg (@za _ _ _ _ _ (by rfl) zg zb))) zb)) (@za _ _ _ _ _ (by rfl) (pv 12) zb))))) ZT (z0 _))
     (@zC _ _ _ (@zS _ _ _ _ ZT))
     Zr)))
    (@zo _ _ _ _ _ (@ZW _ _ _ _ _ _ _ _ (fun _=>rfl) PassesOwn.never rfl (@yI _ _ _ _ (@Ze _ _ _ _ (@za _ _ _ _ _ (by rfl) (@zq _ _ _ _ _ (@za _ _ _ _ _ (by rfl) (@zq _ _ _ _ _ (@za _ _ _ _ _ (by rfl) zg (@za _ _ _ _ _ (by rfl) zg zb))) (@za _ _ _ _ _ (by rfl) (@zq _ _ _ _ _ (@za _ _ _ _ _ (by rfl) ZT (@za _ _ _ _ _ (by rfl) zg zb))) zb))) (@za _ _ _ _ _ (by rfl) (@zq _ _ _ _ _ (@za _ _ _ _ _ (by rfl) (@zq _ _ _ _ _ (@za _ _ _ _ _ (by rfl) zg (@za _ _ _ _ _ (by rfl) zg zb))) (@za _ _ _ _ _ (by rfl) (@zq _ _ _ _ _ (@za _ _ _ _ _ (by rfl) zg (@za _ _ _ _ _ (by rfl) ZT zb))) zb))) (@za _ _ _ _ _ (by rfl) (@zq _ _ _ _ _ (@za _ _ _ _ _ (by rfl) (@zq _ _ _ _ _ (@za _ _ _ _ _ (by rfl) ZT (@za _ _ _ _ _ (by rfl) zg zb))) (@za _ _ _ _ _ (by rfl) (@zq _ _ _ _ _ (@za _ _ _ _ _ (by rfl) zg (@za _ _ _ _ _ (by rfl) zg zb))) zb))) (@za _ _ _ _ _ (by rfl) (@zq _ _ _ _ _ (@za _ _ _ _ _ (by rfl) (@zq _ _ _ _ _ (@za _ _ _ _ _ (by rfl) zg (@za _ _ _ _ _ (by rfl) zg zb))) (@za _ _ _ _ _ (by rfl) (@zq _ _ _ _ _ (@za _ _ _ _ _ (by rfl) zg (@za _ _ _ _ _ (by rfl) zg zb))) zb))) (@za _ _ _ _ _ (by rfl) Vc (@za _ _ _ _ _ (by rfl) (ux (K:=K) rfl hr (qV zg zg (qV zg zg j0)) rfl rfl (by simp) (by decide)) zb)))))))) (zQ (i:=12) nd rfl (Or.inl rfl))
     (@zC _ _ _ (@Z3 _ _ _ _ _ _ _ _ (Zf Xf (zH (by rfl) (by rfl) (by rfl) (by decide) As (hr.mono (by decide)) (@za _ _ _ _ _ (by rfl) (@zq _ _ _ _ _ (@za _ _ _ _ _ (by rfl) zg (@za _ _ _ _ _ (by rfl) (@zq _ _ _ _ _ zb) zb))) (@za _ _ _ _ _ (by rfl) (@zq _ _ _ _ _ (@za _ _ _ _ _ (by rfl) zg (@za _ _ _ _ _ (by rfl) zg zb))) (@za _ _ _ _ _ (by rfl) (@zq _ _ _ _ _ (@za _ _ _ _ _ (by rfl) (@zq _ _ _ _ _ (@za _ _ _ _ _ (by rfl) zg (@za _ _ _ _ _ (by rfl) zg zb))) (@za _ _ _ _ _ (by rfl) (@zq _ _ _ _ _ (@za _ _ _ _ _ (by rfl) zg (@za _ _ _ _ _ (by rfl) zg zb))) zb))) (@za _ _ _ _ _ (by rfl) (pv 12) zb))))) ZT (z0 _))
     (@zC _ _ _ (@zS _ _ _ _ ZT))
     Zr)))
    (@zC _ _ _ (@zS _ _ _ _ (Zu z4D (zH (by rfl) (by rfl) (by rfl) (by decide) As (hr.mono (by decide)) (@za _ _ _ _ _ (by rfl) (@zq _ _ _ _ _ (@za _ _ _ _ _ (by rfl) zg (@za _ _ _ _ _ (by rfl) (@zq _ _ _ _ _ zb) zb))) (@za _ _ _ _ _ (by rfl) (@zq _ _ _ _ _ (@za _ _ _ _ _ (by rfl) zg (@za _ _ _ _ _ (by rfl) zg zb))) (@za _ _ _ _ _ (by rfl) (@zq _ _ _ _ _ (@za _ _ _ _ _ (by rfl) (@zq _ _ _ _ _ (@za _ _ _ _ _ (by rfl) zg (@za _ _ _ _ _ (by rfl) zg zb))) (@za _ _ _ _ _ (by rfl) (@zq _ _ _ _ _ (@za _ _ _ _ _ (by rfl) zg (@za _ _ _ _ _ (by rfl) zg zb))) zb))) (@za _ _ _ _ _ (by rfl) (@zq _ _ _ _ _ (@za _ _ _ _ _ (by rfl) (@zq _ _ _ _ _ (@za _ _ _ _ _ (by rfl) zg (@za _ _ _ _ _ (by rfl) zg zb))) (@za _ _ _ _ _ (by rfl) (@zq _ _ _ _ _ (@za _ _ _ _ _ (by rfl) zg (@za _ _ _ _ _ (by rfl) zg zb))) zb))) zb))))) ZT (z0 _))))))))),?_⟩
   refine⟨(by show 0≤sizeLine;decide),fun x0 G1 s1 m1 e1=>⟨2000,rfl,by decide,by decide,?_⟩⟩
   refine Z5 (lo:=0) (n:=(2000:Int).toNat) (fun i σ G=>∃ (x:Addr) (xs:List V) (v2:Option V),zu H G∧G x=some (.tup xs)∧xs.length≤1∧(∀ u∈xs,∃ q zs,u=.ref q∧G q=some (.tup zs)∧zs.length≠2)∧σ=[some (.ref a),some (.ref x),v2,none,none,none,none,none,none,none,none,none,none,none,none]) ⟨x0,_,none,s1,e1,by simp,by simp,rfl⟩ ?_ ?_
   · rintro i σ G hi ⟨x,xs,v2,sG,ex,lx,cx,rfl⟩
     refine⟨_,rfl,(by show 1≤sizeLine;decide),fun t1 J1 u1 w1 f1=>?_⟩
     refine⟨t1,_,_,sG.trans u1,f1,by simp,fun u hu=>?_,rfl⟩
     rw[List.mem_singleton.mp hu]
     exact⟨x,xs,rfl,u1 _ _ ex,by omega⟩
   rintro σ G ⟨x,xs,v2,sH,ex,lx,cx,rfl⟩
   refine⟨_,rfl,a,8,ns,rfl,sH.seq hS,hlen,fun H1 L xs1 ts s1 hL hLl hts hT hAI hxl=>⟨L,rfl,⟨_,z7.of hLl⟩,?_⟩⟩
   have hSa:=s1.seq (sH.seq hS)
   have ex:=s1 _ _ ex
   have cx:∀ u∈xs,∃ q zs,u=.ref q∧H1 q=some (.tup zs)∧zs.length≠2:=fun u hu=>by
    obtain⟨q,zs,e,z,l⟩:=cx u hu
    exact⟨q,zs,e,s1 _ _ z,l⟩
   refine Y0 (K:=K) (a:=L) (xs:=ts) (fun i σ G=>zu H1 G∧∃ v2 v3 v4 v5 v6 v7 v8 v9 v10 v11 v12 v13 v14:Option V,σ=[some (.ref a),some (.ref x),v2,v3,v4,v5,v6,v7,v8,v9,v10,v11,v12,v13,v14])
    ⟨zu.refl _,v2,none,none,none,none,none,none,none,none,none,none,none,none,rfl⟩ (fun i σ G _ ⟨k2,_⟩=>z7.of (k2 _ _ hLl)) ?_ ?_
   · rintro i t σ G0 hi ⟨s2,v2,v3,v4,v5,v6,v7,v8,v9,v10,v11,v12,v13,v14,rfl⟩
     have hil:i<ts.length:=(List.getElem?_eq_some_iff.mp hi).1
     obtain⟨c0,T',hc,rfl,hTT⟩:=hT i t hi
     obtain⟨c,rfl⟩:=hAI i c0 hc
     refine⟨T',_,rfl,z5.of (s2 _ _ hTT),rfl,_,_,rfl,_,_,rfl,rfl,?_⟩
     refine⟨_,rfl,_,rfl,c,i,rfl,by omega,by omega,fun h Ga hp hh s3=>?_⟩
     have hSb:=s3.seq (s2.seq hSa)
     refine⟨fun σ G'=>∃ wa pages ps,Pw.z0E pages ps∧YS K G' wa pages ps∧z4 G' h∧Kp h Ga G'∧σ=[some (.ref a),some (.ref x),some (.int i),some (.int c),some (.ref h),some (.ref wa),v6,v7,v8,v9,v10,v11,v12,v13,v14],?_,?_⟩
     · refine⟨_,rfl,_,rfl,rfl,_,rfl,?_⟩
       refine if2 (fun _=>?_) (fun _=>?_)
       · exact⟨_,rfl,a,ns,rfl,hSb,fun b=>⟨h,b,rfl,hh,fun wa H' pages ps ok hw hd' kp=>⟨wa,pages,ps,ok,hw,hd',kp,rfl⟩⟩⟩
       · exact⟨h,false,rfl,hh,fun wa H' pages ps ok hw hd' kp=>⟨wa,pages,ps,ok,hw,hd',kp,rfl⟩⟩
     rintro σ H4 ⟨wa,pages,ps,ok,hw,hd4,k4,rfl⟩
     refine⟨_,rfl,h,rfl,hd4,fun lp H5 A ca a0 a1 sa hd5 fA k5=>?_⟩
     have hw5:=hw.kl (hd4.kl k5)
     obtain⟨ws0,uw0,hwa0,_,_⟩:=id hw5
     refine⟨_,rfl,_,rfl,wa,_,_,_,rfl,rfl,z5.of hwa0,rfl,h,pages,rfl,ok.lo,ok.hi,hd5,fun ls H6 ws us wt hd6 eLs fl k6=>?_⟩
     have g6:Gv K H6 wa lp ls pages ps A (Uo ws) us:=Gv.drawn ok (hw5.kl (hd5.kl k6)) ca sa (k6 _ _ fA (fA.ne hd5)) wt eLs fl
     have pr:Pr A (Uo ws) ws.sum:=Pr.drawn a0 a1 ok.hi wt
     obtain⟨n,rfl⟩:∃ n:Nat,pages=(n:Int):=⟨pages.toNat,by have:=ok.lo;omega⟩
     have n1:1≤n:=by have:=ok.lo;omega
     have n12:n≤12:=by have:=ok.hi;omega
     have sS:Sz 41 ws.sum:=wt.sz ok.hi
     have kp6:Kp h Ga H6:=k4.trans (k5.trans k6)
     have kv6:Kv h K Ga H6:=hh.kv hd6 kp6
     generalize ws.sum=S at pr sS
     generalize Uo ws=Bs at g6 pr fl
     have hn:Bs.length=n:=by have:=g6.len;omega
     have lk:∀ p∈ps,0≤p.2∧p.2<(n:Int):=fun p hp=>(g6.lk p hp).2.2
     have ex6:H6 x=some (.tup xs):=kv6.tp _ _ (s3 _ _ (s2 _ _ ex))
     have cx6:∀ u∈xs,∃ q zs,u=.ref q∧H6 q=some (.tup zs)∧zs.length≠2:=fun u hu=>by
      obtain⟨q,zs,e,z,l⟩:=cx u hu
      exact⟨q,zs,e,kv6.tp _ _ (s3 _ _ (s2 _ _ z)),l⟩
     refine⟨_,rfl,_,rfl,_,rfl,wa,lp,ls,n,ps,A,Bs,us,S,rfl,g6,pr,n12,sa,sS,fun du H7 ds Ss ok7 s7 e7 f7=>?_⟩
     obtain⟨Ss',V',ok',hV,zV,dv⟩:=z3m g6.few lk g6.ca g6.cb hn n12 pr sa.2 sS
     have eS:Ss'=Ss:=Pw.yF.unique lk g6.ca g6.cb hn pr ok' ok7
     subst eS
     have rwS:Rw Ss' n V' 1:=Rw.z7r ok7 hV (show 41≤140 by decide) zV dv
     have rbS:RB 696 1 Ss' V':=⟨ok7.canon,hV,zV.mono (by decide),dv,rwS.bnd⟩
     have lS:=ok7.len
     have hd7:=hd6.same s7
     have shD:∀ {J:Hp},zu H7 J→jo K J n (.ref du) (some (Ss'.map some)):=fun s=>.tup (s _ _ e7) (Yp (f7.same s) fun R hR=>⟨(rwS.jr hR).1.mono (by decide),(rwS.jr hR).2.mono (by decide)⟩) (by rw[f7.len];omega) fun Rs e c l=>by rw[← ZD e];exact⟨V',1,rwS⟩
     refine⟨_,rfl,_,rfl,_,rfl,_,rfl,wa,lp,ls,n,ps,A,Bs,us,S,_,_,rfl,g6.same s7,pr,shD (zu.refl _),fun H8 s8=>⟨_,_,rfl,rfl,_,rfl,yH (by rw[vh ⟨Ss',rfl,ok7⟩];rfl) ?_⟩⟩
     have g8:=g6.same (s7.trans s8)
     obtain⟨_,_,ew8,_,_⟩:=id g8.web
     have ex8:=(s7.trans s8) _ _ ex6
     refine⟨_,rfl,_,rfl,_,rfl,_,rfl,(by show 1≤sizeLine;decide),fun td H9 s9 w9 f9=>?_⟩
     refine⟨_,rfl,wa,_,_,_,rfl,rfl,z5.of (s9 _ _ ew8),rfl,td,(n:Int),_,rfl,rfl,f9,by simp,by omega,by omega,(by rw[List.length_singleton,sizeLine_eq];omega),fun tr HA sA fA'=>?_⟩
     rw[Int.toNat_natCast,List.flatten_replicate_singleton] at fA'
     have s79:=s8.trans (s9.trans sA)
     have gA:=g6.same (s7.trans s79)
     have dd:(List.replicate n (none:Option (Int×Int))).all yf=false:=by
      obtain⟨m,rfl⟩:∃ m,n=m+1:=⟨n - 1,by omega⟩
      rfl
     have shDeep:jo K HA n (.ref tr) (some (List.replicate n none)):=.tup fA' (YZ (Tq.len ((s9.trans sA) _ _ ex8) (by omega)) n) (by rw[List.length_replicate];omega) (xj dd n)
     refine⟨wa,lp,ls,n,ps,A,Bs,us,S,_,_,rfl,gA,pr,shDeep,fun HB sB=>⟨_,_,rfl,rfl,_,rfl,yH (by rw[y9 (xu dd)];rfl) ?_⟩⟩
     have s7B:=s79.trans sB
     refine⟨_,rfl,du,_,rfl,.inr (z5.of (s7B _ _ e7)),fun he HC sC wC fC=>?_⟩
     have gC:=gA.same (sB.trans sC)
     refine⟨_,rfl,_,rfl,_,rfl,_,rfl,wa,lp,ls,n,ps,A,Bs,us,S,_,_,rfl,gC,pr,.no (.inl (.lst fC)) (jb _),fun HD sD=>⟨_,_,rfl,rfl,_,rfl,yH (by rw[y9 xM];rfl) ?_⟩⟩
     have s7D:=s7B.trans (sC.trans sD)
     refine⟨_,rfl,_,rfl,du,_,rfl,.inr (z5.of (s7D _ _ e7)),fun he2 HE sE wE fE=>?_⟩
     refine z7z (z7.of ((sD.trans sE) _ _ fC)) (z7.of fE) (f7.same (s7D.trans sE)) (f7.same (s7D.trans sE)) ⟨_,rfl,yH rfl ?_⟩
     have s7E:=s7D.trans sE
     have hdE:=hd7.same s7E
     clear shDeep dd fA' f9 fC fE sA s9 s8 sB sC sD sE s79 s7B s7D gA gC g8 ex8 ew8
     refine⟨_,rfl,_,rfl,h,du,ds,Ss',696,1,V',rfl,hdE,s7E _ _ e7,f7.same s7E,rbS,by omega,by omega,by decide,by decide,by decide,fun u1 Gc hh2 kk2 th1=>?_⟩
     have kv2:Kv h K HE Gc:=hdE.kv hh2 kk2
     have th1:QL K Gc 13 777 4 u1:=th1.mono (by omega) (by decide) (by decide)
     refine⟨_,rfl,_,rfl,_,rfl,h,u1,777,4,rfl,hh2,th1,by decide,by decide,by decide,fun u2 Gd hh3 kk3 th2=>?_⟩
     have kv3:Kv h K Gc Gd:=hh2.kv hh3 kk3
     have kvD:Kv h K H7 Gd:=(zu.kv s7E).trans (kv2.trans kv3)
     refine⟨_,rfl,_,rfl,h,du,ds,Ss',696,1,V',rfl,hh3,kvD.tp _ _ e7,f7.kt kvD.tp,rbS,by omega,by omega,by decide,by decide,by decide,fun u3 Ge hh4 kk4 th3=>?_⟩
     have kv4:Kv h K Gd Ge:=hh3.kv hh4 kk4
     have kvE:Kv h K H7 Ge:=kvD.trans kv4
     have kvE6:Kv h K H6 Ge:=(zu.kv s7).trans kvE
     have kpE:Kp h Ga Ge:=kp6.trans (s7.kp.trans (s7E.kp.trans (kk2.trans (kk3.trans kk4))))
     have gE:Gv K Ge wa lp ls (n:Int) ps A Bs us:=g6.kl (hd6.kl (s7.kp.trans (s7E.kp.trans (kk2.trans (kk3.trans kk4)))))
     obtain⟨_,_,ewE,_,_⟩:=id gE.web
     refine⟨_,rfl,_,rfl,wa,_,_,_,rfl,rfl,z5.of ewE,rfl,(by show 2≤sizeLine;decide),fun t1 J1 v1 w1 f1=>⟨(by show 1≤sizeLine;decide),fun t2 J2 y2 w2 f2=>?_⟩⟩
     refine⟨_,rfl,wa,_,_,_,rfl,rfl,z5.of ((v1.trans y2) _ _ ewE),rfl,t2,(n:Int),_,rfl,rfl,f2,by simp,by omega,by omega,(by rw[List.length_singleton,sizeLine_eq];omega),fun t3 J3 y3 f3=>?_⟩
     rw[Int.toNat_natCast,List.flatten_replicate_singleton] at f3
     refine⟨_,rfl,(by show 6≤sizeLine;decide),fun so J4 y4 w4 f4=>?_⟩
     have S14:=v1.trans (y2.trans (y3.trans y4))
     have g4:=gE.same S14
     have rbB:RB 41 1 Bs S:=pr.rb g6.cb sS
     have rwB:Rw Bs n S 1:=by have:=rbB.rw (by decide) (by decide) (by decide);rw[hn] at this;exact this
     refine⟨_,rfl,_,rfl,_,rfl,_,rfl,_,rfl,wa,lp,ls,ls,(n:Int),ps,A,Bs,Bs,us,us,S,S,1,rfl,g4,pr,g4.leaps,g4.row,by rw[Int.toNat_natCast];exact rwB,fun tb J5 yb y5 f5 fb=>⟨(by show 1≤sizeLine;decide),fun l6 J6 y6 w6 f6=>?_⟩⟩
     refine⟨so,l6,_,_,rfl,rfl,(y5.trans y6) _ _ f4,f6,(by show 7≤sizeLine;decide),fun lt J7 y7 w7 f7'=>⟨lt,rfl,⟨_,z7.of f7'⟩,?_⟩⟩
     have S17:=S14.trans (y5.trans (y6.trans y7))
     have g7:=gE.same S17
     have S67:=y6.trans y7
     have S37:=y4.trans (y5.trans S67)
     have zM:Sz 174 (Pw.Mw ps A S n):=(z3P sa.2 sS g6.few (by omega)).mono (by decide)
     have rwb:Rw (Pw.YM ps A Bs Bs) n (S * Pw.Mw ps A S n) (16 * 1):=Pw.z4N lk g6.ca g6.cb hn (by omega) pr rwB (by
      have:=(Sz.mul (show Sz 5 (16 * 1:Int) by unfold Sz;decide) (sS.mul zM)).mono (show 5+(41+174)≤2000 by decide)
      exact this)
     have lbeh:(Pw.YM ps A Bs Bs).length=n:=by rw[Pw.um];exact hn
     have all:∀ u∈([u1,u2,u3,.ref ls,.ref t3,.ref x] ++ [.ref tb]:List V),∃ o,jo K J7 n u o:=by
      intro u hu
      simp only[List.cons_append,List.nil_append,List.mem_cons,List.not_mem_nil,or_false] at hu
      rcases hu with rfl | rfl | rfl | rfl | rfl | rfl | rfl
      · exact (th1.kv (kv3.trans (kv4.trans (zu.kv S17)))).sh (by decide) (by decide) (by decide) (by decide)
      · exact (th2.kv (kv4.trans (zu.kv S17))).sh (by decide) (by decide) (by decide) (by decide)
      · exact (th3.kv (h:=h) (zu.kv S17)).sh (by omega) (by decide) (by decide) (by decide)
      · exact (qy (L:=20) g7.leaps g7.row rbB (by omega) (by decide) (by decide) (by decide)).sh (by decide) (by decide) (by decide) (by decide)
      · have rb1:RB 10 1 (List.replicate n ((1:Int),(n:Int))) (n:Int):=by
         have key:∀ R∈List.replicate n ((1:Int),(n:Int)),R=(1,(n:Int)):=fun R hR=>List.eq_of_mem_replicate hR
         refine⟨fun R hR=>?_,by omega,by show (n:Int).natAbs<2 ^ 10;omega,fun R hR=>?_,fun R hR=>?_⟩
         · rw[key R hR];exact⟨by show 0<(n:Int);omega,by show Int.gcd 1 (n:Int)=1;exact Int.one_gcd⟩
         · rw[key R hR];exact Int.dvd_refl _
         · rw[key R hR];exact⟨by show -(1 * (n:Int))≤1;omega,by show 1≤1 * (n:Int);omega⟩
        exact (qy (L:=20) (S37 _ _ f3) (Zl.repl ((y2.trans (y3.trans S37)) _ _ f1) n) rb1 (by rw[List.length_replicate];omega) (by decide) (by decide) (by decide)).sh (by decide) (by decide) (by decide) (by decide)
      · have pd:∃ os,Paired (Tq K J7) xs os∧(os=[]∨os=[none]):=by
         match xs,lx,cx6 with
         | [],_,_=>exact⟨[],.nil,.inl rfl⟩
         | [u],_,cx6 =>
           obtain⟨q,zs,rfl,eq,l⟩:=cx6 u (by simp)
           exact⟨[none],.cons (.len (S17 _ _ (kvE6.tp _ _ eq)) l) .nil,.inr rfl⟩
        obtain⟨os,pd,ho⟩:=pd
        refine⟨some os,.tup (S17 _ _ (kvE6.tp _ _ ex6)) pd (by omega) fun Rs e c l=>?_⟩
        rcases ho with rfl | rfl
        · have:Rs=[]:=List.map_eq_nil_iff.mp e.symm
          subst this
          simp at l;omega
        · exact xj (by rfl) n Rs e c l
      · exact⟨_,.tup (S67 _ _ f5) (Yp (fb.same S67) fun R hR=>⟨(rwb.jr hR).1.mono (by decide),(rwb.jr hR).2.mono (by decide)⟩) (by rw[fb.len];omega) fun Rs e c l=>by rw[← ZD e];exact⟨_,_,rwb⟩⟩
     have e77:J7 du=some (.tup ds):=S17 _ _ (kvE.tp _ _ e7)
     have f77:Zl K J7 Ss' ds:=f7.kt fun a xs e=>S17 _ _ (kvE.tp _ _ e)
     have sEnd:zu H1 J7:=s2.trans (Kp.same hp (s3.kp.trans (kpE.trans S17.kp)))
     clear th1 th2 th3 rbB rwB rwb zM fb f5 f3 f2 f1 y5 y4 y3 y2 v1 S37 S67 S14 g4 gE kvE6 kvE kv4 kv3 kv2 kvD kpE kk2 kk3 kk4 shD rbS rwS s7E
     refine Y0 (K:=K) (a:=lt) (xs:=[u1,u2,u3,.ref ls,.ref t3,.ref x] ++ [.ref tb]) (fun j σ G'=>zu J7 G'∧∃ v12 v13 v14:Option V,σ=[some (.ref a),some (.ref x),some (.int i),some (.int c),some (.ref h),some (.ref wa),some (.ref lp),some (.ref ls),some (.ref du),some (.ref he),some u1,some (.ref so),v12,v13,v14])
      ⟨zu.refl _,v12,v13,v14,rfl⟩ (fun j σ G' _ ⟨k2,_⟩=>z7.of (k2 _ _ f7')) ?_ ?_
     · rintro j u σ G' hj ⟨sG,v12,v13,v14,rfl⟩
       obtain⟨o,sh⟩:=all u (List.mem_of_getElem? hj)
       have sh:=sh.kv (h:=h) (zu.kv sG)
       have gG:=g7.same sG
       obtain⟨_,_,ewG,_,_⟩:=id gG.web
       refine⟨fun σ G2=>∃ b:Bool,G2=G'∧(b=false→¬ AsP ps A Bs n o)∧(b=true→∃ q ys os,u=.ref q∧o=some os∧G' q=some (.tup ys)∧Paired (Tq K G') ys os∧ys.length=n)∧σ=[some (.ref a),some (.ref x),some (.int i),some (.int c),some (.ref h),some (.ref wa),some (.ref lp),some (.ref ls),some (.ref du),some (.ref he),some u1,some (.ref so),some u,some (.bl b),v14],?_,?_⟩
       · cases sh with
         | no ty e=>exact⟨_,rfl,_,_,_,false,rfl,ty,e,_,rfl,yH rfl ⟨false,rfl,fun _=>xM,(fun z=>by cases z),rfl⟩⟩
         | @tup q ys os e f l rw_ =>
           refine⟨_,rfl,_,_,_,true,rfl,QS.tup (z5.of e),xH _,_,rfl,YN rfl ?_⟩
           refine⟨_,rfl,q,_,rfl,.inr (z5.of e),_,rfl,wa,_,_,_,rfl,rfl,z5.of ewG,rfl,rfl,?_⟩
           refine⟨_,rfl,fun z=>?_,fun z=>⟨q,ys,os,rfl,rfl,e,f,by have:=V.int.inj (of_decide_eq_true z);omega⟩,rfl⟩
           rintro⟨Rs,eo,ok⟩
           have eo:=Option.some.inj eo
           have:ys.length=n:=by rw[YG f,eo,List.length_map,ok.len]
           exact absurd z (by rw[decide_eq_true (by rw[this])];decide)
       rintro σ G2 ⟨b,rfl,hbf,hbt,rfl⟩
       refine⟨fun σ G3=>zu G2 G3∧σ=[some (.ref a),some (.ref x),some (.int i),some (.int c),some (.ref h),some (.ref wa),some (.ref lp),some (.ref ls),some (.ref du),some (.ref he),some u1,some (.ref so),some u,some (.bl (bOf (AsP ps A Bs n o))),v14],?_,?_⟩
       · refine⟨_,rfl,b,rfl,?_⟩
         cases b with
         | false=>exact yH rfl ⟨zu.refl _,by rw[y9 (hbf rfl)]⟩
         | true =>
           refine YN rfl ?_
           obtain⟨q,ys,os,rfl,rfl,e,f,ly⟩:=hbt rfl
           refine⟨_,rfl,q,rfl,⟨_,z5.of e⟩,fun D hD=>?_⟩
           refine yC (K:=K) (a:=q) (D:=D) (xs:=ys) (fun i zs σ G=>zu G2 G∧G D=some (.lst zs)∧zs.length≤i∧(zs=[]↔(os.take i).all yf=true)∧∃ v,σ=[v]) ?_ ?_ ?_ ?_
           · exact⟨zu.new hD,zj,Nat.le_refl _,⟨fun _=>rfl,fun _=>rfl⟩,none,rfl⟩
           · rintro i zs σ G ⟨s,eD,_⟩
             exact⟨z5.of (s _ _ e),eD⟩
           · rintro i u zs σ G hi hlt ⟨s,eD,lz,ez,v,rfl⟩
             obtain⟨o,eo,tx⟩:=xR f hi
             refine⟨_,rfl,u,o,rfl,tx.kv (h:=h) (zu.kv s),fun G3 s3=>⟨_,rfl,?_⟩⟩
             have etk:(os.take (i+1)).all yf=((os.take i).all yf && yf o):=by
              rw[List.take_add_one,eo,List.all_append]
              show (_ && [o].all yf)=_
              rw[List.all_cons,List.all_nil,Bool.and_true]
             cases hf:yf o with
             | true =>
               refine yH rfl (Wt.next hlt ⟨s.trans s3,s3 _ _ eD,by omega,?_,_,rfl⟩)
               rw[etk,hf,Bool.and_true];exact ez
             | false =>
               refine YN rfl ⟨_,rfl,s3 _ _ eD,by rw[sizeLine_eq];omega,Wt.next hlt ⟨fun b o e=>?_,zj,by rw[List.length_append,List.length_singleton];omega,?_,_,rfl⟩⟩
               · rw[zp (zh e hD)];exact s3 _ _ (s _ _ e)
               · rw[etk,hf,Bool.and_false];exact⟨fun z=>by simp at z,fun z=>by cases z⟩
           · rintro zs σ G ⟨s,eD,lz,ez,_⟩
             rw[List.take_of_length_le (by rw[YG f];exact Nat.le_refl _)] at ez
             refine⟨(by show 0≤sizeLine;decide),fun l2 G3 s3 _ hl2=>?_⟩
             have s23:=s.trans s3
             refine⟨D,l2,zs,rfl,rfl,.inr ⟨z7.of (s3 _ _ eD),z7.of hl2⟩,_,rfl,?_⟩
             cases zs with
             | cons z zs =>
               have nf:os.all yf=false:=by
                cases hh:os.all yf with
                | false=>rfl
                | true=>exact absurd (ez.mpr hh) (by simp)
               exact yH rfl ⟨s23,by rw[y9 (xu nf)];rfl⟩
             | nil =>
               refine YN rfl ?_
               obtain⟨Rs,rfl,cR⟩:=Vr (ez.mp rfl)
               refine⟨_,rfl,_,rfl,z3N (z5.of (s23 _ _ e)) (z5.of (s23 _ _ (sG _ _ e77))) ((YW f).same s23) (f77.same (sG.trans s23)) ⟨s23,?_⟩⟩
               rw[z5j lk g6.ca g6.cb hn pr ok7]
               rfl
       rintro σ G3 ⟨s3',rfl⟩
       refine⟨_,rfl,_,rfl,_,rfl,_,rfl,wa,lp,ls,n,ps,A,Bs,us,S,u,o,rfl,gG.same s3',pr,sh.kv (h:=h) (zu.kv s3'),fun G4 s4=>?_⟩
       refine⟨_,rfl,_,_,_,true,rfl,.inl (.bl _),UH _,_,rfl,yH rfl ?_⟩
       refine⟨_,rfl,_,rfl,rfl,_,rfl,yH (by simp) ?_⟩
       exact⟨sG.trans (s3'.trans s4),_,_,_,rfl⟩
     · rintro σ G' ⟨sG,w12,w13,w14,rfl⟩
       exact⟨sEnd.trans sG,_,_,_,_,_,_,_,_,_,_,_,_,_,rfl⟩
   · rintro σ G ⟨sG,v2,v3,v4,v5,v6,v7,v8,v9,v10,v11,v12,v13,v14,rfl⟩
     have s1:Sz 4000 1:=zR 1 (by decide)
     have s0:Sz 4000 0:=zR 1 (by decide)
     refine⟨(by show 2≤sizeLine;decide),fun ta1 Ja1 ua1 wa1 fa1=>?_⟩
     refine⟨(by show 1≤sizeLine;decide),fun ta2 Ja2 ua2 wa2 fa2=>?_⟩
     refine⟨(by show 2≤sizeLine;decide),fun ta3 Ja3 ua3 wa3 fa3=>?_⟩
     refine⟨(by show 1≤sizeLine;decide),fun ta4 Ja4 ua4 wa4 fa4=>?_⟩
     refine⟨(by show 2≤sizeLine;decide),fun ta5 Ja5 ua5 wa5 fa5=>?_⟩
     refine⟨(by show 1≤sizeLine;decide),fun ta6 Ja6 ua6 wa6 fa6=>?_⟩
     refine⟨(by show 2≤sizeLine;decide),fun ta7 Ja7 ua7 wa7 fa7=>?_⟩
     refine⟨(by show 1≤sizeLine;decide),fun ta8 Ja8 ua8 wa8 fa8=>?_⟩
     refine⟨(by show 1≤sizeLine;decide),fun ta9 Ja9 ua9 wa9 fa9=>?_⟩
     intro ta10 wa10
     refine⟨(by show 2≤sizeLine;decide),fun qk Gk sk mk ek=>⟨sk _ _ zj,.inl ⟨1,_,_,rfl,.tup (z5.of ek) (fun z hz=>?_),by decide⟩,fun ks vs ak bk lk mk2=>?_⟩⟩
     · simp only[List.mem_cons,List.not_mem_nil,or_false] at hz
       rcases hz with rfl | rfl <;> exact .int 1
     have ua10:zu Ja9 (upd Gk ta10 (Yg ta10 ks vs)):=fun x o ex=>by rw[zp (zh ex wa10)];exact sk _ _ (by rw[zp (zh ex wa10)];exact ex)
     have fa10:upd Gk ta10 (Yg ta10 ks vs) ta10=some (Yg ta10 ks vs):=zj
     generalize upd Gk ta10 (Yg ta10 ks vs)=Ja10 at *
     refine⟨(by show 7≤sizeLine;decide),fun ta11 Ja11 ua11 wa11 fa11=>?_⟩
     refine⟨ta11,rfl,⟨_,z7.of fa11⟩,?_⟩
     have ws1:∀ u∈([.ref ta2,.ref ta4,.ref ta6,.ref ta8,.ref ta9,.str (Str.ofString "1"),.ref ta10]:List V),∃ o,jo K Ja11 1 u o∧¬ AsP [] (1,2) [(1,1)] 1 o:=by
      intro u hu
      simp only[List.mem_cons,List.not_mem_nil,or_false] at hu
      rcases hu with rfl | rfl | rfl | rfl | rfl | rfl | rfl
      · exact⟨_,.tup ((ua3.trans ( ua4.trans ( ua5.trans ( ua6.trans ( ua7.trans ( ua8.trans ( ua9.trans ( ua10.trans (ua11))))))))) _ _ fa2) (.cons (Tq.two (ox:=none) (oy:=some 1) ((ua2.trans ( ua3.trans ( ua4.trans ( ua5.trans ( ua6.trans ( ua7.trans ( ua8.trans ( ua9.trans ( ua10.trans (ua11)))))))))) _ _ fa1) (.bl true) (.int 1 s1)) <| .nil) (by simp) (xj rfl _),xu rfl⟩
      · exact⟨_,.tup ((ua5.trans ( ua6.trans ( ua7.trans ( ua8.trans ( ua9.trans ( ua10.trans (ua11))))))) _ _ fa4) (.cons (Tq.two (ox:=some 1) (oy:=none) ((ua4.trans ( ua5.trans ( ua6.trans ( ua7.trans ( ua8.trans ( ua9.trans ( ua10.trans (ua11)))))))) _ _ fa3) (.int 1 s1) (.bl true)) <| .nil) (by simp) (xj rfl _),xu rfl⟩
      · exact⟨_,.no (.inl (.lst ((ua7.trans ( ua8.trans ( ua9.trans ( ua10.trans (ua11))))) _ _ fa6))) (jb _),xM⟩
      · exact⟨_,.tup ((ua9.trans ( ua10.trans (ua11))) _ _ fa8) (.cons (Tq.two (ox:=none) (oy:=none) ((ua8.trans ( ua9.trans ( ua10.trans (ua11)))) _ _ fa7) (.bl true) (.bl true)) <| .nil) (by simp) (xj rfl _),xu rfl⟩
      · exact⟨_,.tup ((ua10.trans (ua11)) _ _ fa9) (.cons (Tq.no (.inl (.str _)) (jM _)) <| .nil) (by simp) (xj rfl _),xu rfl⟩
      · exact⟨_,.no (.inl (.str _)) (jM _),xM⟩
      · exact⟨_,.no (.inr (.inl ⟨_,_,_,rfl,(ua11 _ _ fa10),rfl⟩)) (z0x _),xM⟩
     refine Y0 (K:=K) (a:=ta11) (xs:=[.ref ta2,.ref ta4,.ref ta6,.ref ta8,.ref ta9,.str (Str.ofString "1"),.ref ta10]) (fun i σ G'=>zu Ja11 G'∧∃ v12:Option V,σ=[some (.ref a),some (.ref x),v2,v3,v4,v5,v6,v7,v8,v9,v10,v11,v12,v13,v14])
      ⟨zu.refl _,v12,rfl⟩ (fun i σ G' _ ⟨k2,_⟩=>z7.of (k2 _ _ fa11)) ?_ ?_
     · rintro i u σ G' hu ⟨s,v12,rfl⟩
       obtain⟨o,sh,no⟩:=ws1 u (List.mem_of_getElem? hu)
       refine⟨(by show 0≤sizeLine;decide),fun tb1 Jb1 ub1 wb1 fb1=>?_⟩
       refine⟨(by show 2≤sizeLine;decide),fun tb2 Jb2 ub2 wb2 fb2=>?_⟩
       refine⟨(by show 2≤sizeLine;decide),fun tb3 Jb3 ub3 wb3 fb3=>?_⟩
       refine⟨(by show 2≤sizeLine;decide),fun tb4 Jb4 ub4 wb4 fb4=>?_⟩
       refine⟨(by show 1≤sizeLine;decide),fun tb5 Jb5 ub5 wb5 fb5=>?_⟩
       refine⟨_,rfl,tb2,tb3,tb5,1,[],(1,2),[(1,1)],_,1,u,o,rfl,z4n ((ub2.trans ( ub3.trans ( ub4.trans (ub5)))) _ _ fb1) ((ub3.trans ( ub4.trans (ub5))) _ _ fb2) ((ub4.trans (ub5)) _ _ fb3) (ub5 _ _ fb4) fb5,z5q,sh.kv (h:=0) (zu.kv (s.trans ((ub1.trans ( ub2.trans ( ub3.trans ( ub4.trans (ub5)))))))),fun G9 s9=>⟨_,_,rfl,rfl,_,rfl,yH (by rw[y9 no];rfl) ?_⟩⟩
       exact⟨s.trans (((ub1.trans ( ub2.trans ( ub3.trans ( ub4.trans (ub5)))))).trans s9),_,rfl⟩
     rintro σ G' ⟨sG1,v12,rfl⟩
     clear ws1
     refine⟨(by show 2≤sizeLine;decide),fun tc1 Jc1 uc1 wc1 fc1=>?_⟩
     refine⟨(by show 2≤sizeLine;decide),fun tc2 Jc2 uc2 wc2 fc2=>?_⟩
     refine⟨(by show 2≤sizeLine;decide),fun tc3 Jc3 uc3 wc3 fc3=>?_⟩
     refine⟨(by show 2≤sizeLine;decide),fun tc4 Jc4 uc4 wc4 fc4=>?_⟩
     refine⟨(by show 2≤sizeLine;decide),fun tc5 Jc5 uc5 wc5 fc5=>?_⟩
     refine⟨(by show 2≤sizeLine;decide),fun tc6 Jc6 uc6 wc6 fc6=>?_⟩
     refine⟨(by show 2≤sizeLine;decide),fun tc7 Jc7 uc7 wc7 fc7=>?_⟩
     refine⟨(by show 2≤sizeLine;decide),fun tc8 Jc8 uc8 wc8 fc8=>?_⟩
     refine⟨(by show 2≤sizeLine;decide),fun tc9 Jc9 uc9 wc9 fc9=>?_⟩
     refine⟨(by show 2≤sizeLine;decide),fun tc10 Jc10 uc10 wc10 fc10=>?_⟩
     refine⟨(by show 2≤sizeLine;decide),fun tc11 Jc11 uc11 wc11 fc11=>?_⟩
     refine⟨(by show 2≤sizeLine;decide),fun tc12 Jc12 uc12 wc12 fc12=>?_⟩
     intro tc13 wc13
     refine⟨zj,.inr ⟨0,_,_,_,_,rfl,.int 0,.int 1,by decide⟩,fun ks vs ak bk lk mk2=>?_⟩
     rw[VJ]
     have uc13:zu Jc12 (upd Jc12 tc13 (Yg tc13 ks vs)):=zu.new wc13
     have fc13:upd Jc12 tc13 (Yg tc13 ks vs) tc13=some (Yg tc13 ks vs):=zj
     generalize upd Jc12 tc13 (Yg tc13 ks vs)=Jc13 at *
     refine⟨(by show 6≤sizeLine;decide),fun tc14 Jc14 uc14 wc14 fc14=>?_⟩
     refine⟨tc14,rfl,⟨_,z7.of fc14⟩,?_⟩
     have ws2:∀ u∈([.ref tc3,.ref tc6,.ref tc9,.ref tc12,.str (Str.ofString "ab"),.ref tc13]:List V),∃ o,jo K Jc14 2 u o∧¬ AsP [] (1,2) [(1,1),(0,1)] 2 o:=by
      intro u hu
      simp only[List.mem_cons,List.not_mem_nil,or_false] at hu
      rcases hu with rfl | rfl | rfl | rfl | rfl | rfl
      · exact⟨_,.tup ((uc4.trans ( uc5.trans ( uc6.trans ( uc7.trans ( uc8.trans ( uc9.trans ( uc10.trans ( uc11.trans ( uc12.trans ( uc13.trans (uc14))))))))))) _ _ fc3) (.cons (Tq.two (ox:=some 1) (oy:=some 1) ((uc2.trans ( uc3.trans ( uc4.trans ( uc5.trans ( uc6.trans ( uc7.trans ( uc8.trans ( uc9.trans ( uc10.trans ( uc11.trans ( uc12.trans ( uc13.trans (uc14))))))))))))) _ _ fc1) (.int 1 s1) (.int 1 s1)) (.cons (Tq.two (ox:=none) (oy:=some 1) ((uc3.trans ( uc4.trans ( uc5.trans ( uc6.trans ( uc7.trans ( uc8.trans ( uc9.trans ( uc10.trans ( uc11.trans ( uc12.trans ( uc13.trans (uc14)))))))))))) _ _ fc2) (.bl false) (.int 1 s1)) .nil)) (by simp) (xj (by decide) _),xu (by decide)⟩
      · exact⟨_,.tup ((uc7.trans ( uc8.trans ( uc9.trans ( uc10.trans ( uc11.trans ( uc12.trans ( uc13.trans (uc14)))))))) _ _ fc6) (.cons (Tq.two (ox:=some 1) (oy:=some 1) ((uc5.trans ( uc6.trans ( uc7.trans ( uc8.trans ( uc9.trans ( uc10.trans ( uc11.trans ( uc12.trans ( uc13.trans (uc14)))))))))) _ _ fc4) (.int 1 s1) (.int 1 s1)) (.cons (Tq.two (ox:=some 0) (oy:=none) ((uc6.trans ( uc7.trans ( uc8.trans ( uc9.trans ( uc10.trans ( uc11.trans ( uc12.trans ( uc13.trans (uc14))))))))) _ _ fc5) (.int 0 s0) (.bl true)) .nil)) (by simp) (xj (by decide) _),xu (by decide)⟩
      · exact⟨_,.tup ((uc10.trans ( uc11.trans ( uc12.trans ( uc13.trans (uc14))))) _ _ fc9) (.cons (Tq.two (ox:=none) (oy:=some 1) ((uc8.trans ( uc9.trans ( uc10.trans ( uc11.trans ( uc12.trans ( uc13.trans (uc14))))))) _ _ fc7) (.bl true) (.int 1 s1)) (.cons (Tq.two (ox:=some 0) (oy:=some 1) ((uc9.trans ( uc10.trans ( uc11.trans ( uc12.trans ( uc13.trans (uc14)))))) _ _ fc8) (.int 0 s0) (.int 1 s1)) .nil)) (by simp) (xj (by decide) _),xu (by decide)⟩
      · exact⟨_,.tup ((uc13.trans (uc14)) _ _ fc12) (.cons (Tq.two (ox:=some 1) (oy:=some 1) ((uc11.trans ( uc12.trans ( uc13.trans (uc14)))) _ _ fc10) (.int 1 s1) (.int 1 s1)) (.cons (Tq.two (ox:=some 0) (oy:=some 0) ((uc12.trans ( uc13.trans (uc14))) _ _ fc11) (.int 0 s0) (.int 0 s0)) .nil)) (by simp) (xj (by decide) _),xu (by decide)⟩
      · exact⟨_,.no (.inl (.str _)) (jM _),xM⟩
      · exact⟨_,.no (.inr (.inl ⟨_,_,_,rfl,(uc14 _ _ fc13),rfl⟩)) (z0x _),xM⟩
     refine Y0 (K:=K) (a:=tc14) (xs:=[.ref tc3,.ref tc6,.ref tc9,.ref tc12,.str (Str.ofString "ab"),.ref tc13]) (fun i σ G'=>zu Jc14 G'∧∃ v12:Option V,σ=[some (.ref a),some (.ref x),v2,v3,v4,v5,v6,v7,v8,v9,v10,v11,v12,v13,v14])
      ⟨zu.refl _,v12,rfl⟩ (fun i σ G' _ ⟨k2,_⟩=>z7.of (k2 _ _ fc14)) ?_ ?_
     · rintro i u σ G' hu ⟨s,v12,rfl⟩
       obtain⟨o,sh,no⟩:=ws2 u (List.mem_of_getElem? hu)
       refine⟨(by show 0≤sizeLine;decide),fun td1 Jd1 ud1 wd1 fd1=>?_⟩
       refine⟨(by show 2≤sizeLine;decide),fun td2 Jd2 ud2 wd2 fd2=>?_⟩
       refine⟨(by show 2≤sizeLine;decide),fun td3 Jd3 ud3 wd3 fd3=>?_⟩
       refine⟨(by show 2≤sizeLine;decide),fun td4 Jd4 ud4 wd4 fd4=>?_⟩
       refine⟨(by show 2≤sizeLine;decide),fun td5 Jd5 ud5 wd5 fd5=>?_⟩
       refine⟨(by show 2≤sizeLine;decide),fun td6 Jd6 ud6 wd6 fd6=>?_⟩
       refine⟨_,rfl,td2,td3,td6,2,[],(1,2),[(1,1),(0,1)],_,1,u,o,rfl,z0q ((ud2.trans ( ud3.trans ( ud4.trans ( ud5.trans (ud6))))) _ _ fd1) ((ud3.trans ( ud4.trans ( ud5.trans (ud6)))) _ _ fd2) ((ud4.trans ( ud5.trans (ud6))) _ _ fd3) ((ud5.trans (ud6)) _ _ fd4) (ud6 _ _ fd5) fd6,UR,sh.kv (h:=0) (zu.kv (s.trans ((ud1.trans ( ud2.trans ( ud3.trans ( ud4.trans ( ud5.trans (ud6))))))))),fun G9 s9=>⟨_,_,rfl,rfl,_,rfl,yH (by rw[y9 no];rfl) ?_⟩⟩
       exact⟨s.trans (((ud1.trans ( ud2.trans ( ud3.trans ( ud4.trans ( ud5.trans (ud6))))))).trans s9),_,rfl⟩
     rintro σ G' ⟨sG2,v12,rfl⟩
     clear ws2
     refine⟨(by show 0≤sizeLine;decide),fun te1 Je1 ue1 we1 fe1=>?_⟩
     refine⟨(by show 2≤sizeLine;decide),fun te2 Je2 ue2 we2 fe2=>?_⟩
     refine⟨(by show 2≤sizeLine;decide),fun te3 Je3 ue3 we3 fe3=>?_⟩
     refine⟨(by show 2≤sizeLine;decide),fun te4 Je4 ue4 we4 fe4=>?_⟩
     refine⟨(by show 2≤sizeLine;decide),fun te5 Je5 ue5 we5 fe5=>?_⟩
     refine⟨(by show 2≤sizeLine;decide),fun te6 Je6 ue6 we6 fe6=>?_⟩
     refine⟨(by show 2≤sizeLine;decide),fun te7 Je7 ue7 we7 fe7=>?_⟩
     refine⟨(by show 2≤sizeLine;decide),fun te8 Je8 ue8 we8 fe8=>?_⟩
     refine⟨(by show 2≤sizeLine;decide),fun te9 Je9 ue9 we9 fe9=>?_⟩
     have fT:Zl K Je9 [(1,1),(0,1)] [.ref te7,.ref te8]:=⟨_,_,rfl,((ue8.trans (ue9)) _ _ fe7),_,_,rfl,(ue9 _ _ fe8),rfl⟩
     have rbT:RB 10 1 [(1,1),(0,1)] 1:=UR.rb (fun B hB=>by
      simp only[List.mem_cons,List.not_mem_nil,or_false] at hB
      rcases hB with rfl | rfl <;> exact⟨by decide,by decide⟩) (zR 1 (by decide))
     have shT:jo K Je9 2 (.ref te9) (some ([(1,1),(0,1)].map some)):=.tup fe9 (Yp fT fun R hR=>⟨(rbT.jr (by decide) (by decide) hR).1.mono (by decide),(rbT.jr (by decide) (by decide) hR).2.mono (by decide)⟩) (by simp) fun Rs e c l=>by rw[← ZD e];exact⟨1,1,rbT.rw (by decide) (by decide) (by decide)⟩
     refine⟨te2,te3,te6,2,[],(1,2),[(1,1),(0,1)],_,1,_,_,rfl,z0q ((ue2.trans ( ue3.trans ( ue4.trans ( ue5.trans ( ue6.trans ( ue7.trans ( ue8.trans (ue9)))))))) _ _ fe1) ((ue3.trans ( ue4.trans ( ue5.trans ( ue6.trans ( ue7.trans ( ue8.trans (ue9))))))) _ _ fe2) ((ue4.trans ( ue5.trans ( ue6.trans ( ue7.trans ( ue8.trans (ue9)))))) _ _ fe3) ((ue5.trans ( ue6.trans ( ue7.trans ( ue8.trans (ue9))))) _ _ fe4) ((ue6.trans ( ue7.trans ( ue8.trans (ue9)))) _ _ fe5) ((ue7.trans ( ue8.trans (ue9))) _ _ fe6),UR,shT,fun G9 s9=>⟨_,_,rfl,rfl,?_⟩⟩
     rw[vh z4t]
     exact k _
end
end Lw
set_option pp.maxSteps 800
namespace Lw
open PySem L2 PyProof.Rows
section
variable{P:Program}{w:World}{K:PySem.W.Frag}{mg:Str→Option Value}{base:Heap}
theorem z3Z:zT ["one","other"] ["one","other"] (zw z1r):=⟨rfl,rfl,rfl,by decide +kernel,rfl,by decide +kernel,by decide +kernel⟩
theorem z3W(S:yW K mg "plus" z1r ["one","other"])(M:Def P w K mg base 2 "made" ["above","below"] YH):Def P w K mg base 3 "plus" ["one","other"] (yh K Pw.ZI):=S.def fun f fd F=>by
 refine F.ok z3Z (fun vs H Q E h=>?_) (fun cdv A' outer s H vs Q E hr h=>?_)
 · obtain⟨p,q,A,B,rfl,_⟩:=h
   rfl
 · obtain⟨p,q,A,B,rfl,hA,hB,na,nb,sa,sb,k⟩:=h
   refine⟨_,@zC _ _ _ (@zS _ _ _ _ (zH (by rfl) (by rfl) (by rfl) (by decide) M hr (@za _ _ _ _ _ (by rfl) (zI ZZ (zI Zo (zD zN (pv 0) zg (fun _ _=>rfl)) (zD zN (pv 1) zg (fun _ _=>rfl))) (zI Zo (zD zN (pv 1) zg (fun _ _=>rfl)) (zD zN (pv 0) zg (fun _ _=>rfl)))) (@za _ _ _ _ _ (by rfl) (zI Zo (zD zN (pv 0) zg (fun _ _=>rfl)) (zD zN (pv 1) zg (fun _ _=>rfl))) zb)))),?_⟩
   refine⟨_,rfl,p,_,_,_,rfl,rfl,hA,rfl,_,rfl,q,_,_,_,rfl,rfl,hB,rfl,_,_,rfl,rfl,⟨sa.1.mono (by decide),sb.2.mono (by decide)⟩,_,rfl,q,_,_,_,rfl,rfl,hB,rfl,_,rfl,p,_,_,_,rfl,rfl,hA,rfl,_,_,rfl,rfl,⟨sb.1.mono (by decide),sa.2.mono (by decide)⟩,_,_,rfl,rfl,_,rfl,p,_,_,_,rfl,rfl,hA,rfl,_,rfl,q,_,_,_,rfl,rfl,hB,rfl,_,_,rfl,rfl,⟨sa.2.mono (by decide),sb.2.mono (by decide)⟩,_,_,rfl,Int.mul_ne_zero (by omega) (by omega),((sa.1.mul sb.2).add (sb.1.mul sa.2)).mono (by decide),(sa.2.mul sb.2).mono (by decide),fun r H1 s1 f1=>?_⟩
   exact k r _ s1 f1
theorem z5s:zT ["one","other"] ["one","other"] (zw JJ):=⟨rfl,rfl,rfl,by decide +kernel,rfl,by decide +kernel,by decide +kernel⟩
theorem z4G(S:yW K mg "less" JJ ["one","other"])(M:Def P w K mg base 2 "made" ["above","below"] YH):Def P w K mg base 3 "less" ["one","other"] (yh K Pw.XT):=S.def fun f fd F=>by
 refine F.ok z5s (fun vs H Q E h=>?_) (fun cdv A' outer s H vs Q E hr h=>?_)
 · obtain⟨p,q,A,B,rfl,_⟩:=h
   rfl
 · obtain⟨p,q,A,B,rfl,hA,hB,na,nb,sa,sb,k⟩:=h
   refine⟨_,@zC _ _ _ (@zS _ _ _ _ (zH (by rfl) (by rfl) (by rfl) (by decide) M hr (@za _ _ _ _ _ (by rfl) (zI Yx (zI Zo (zD zN (pv 0) zg (fun _ _=>rfl)) (zD zN (pv 1) zg (fun _ _=>rfl))) (zI Zo (zD zN (pv 1) zg (fun _ _=>rfl)) (zD zN (pv 0) zg (fun _ _=>rfl)))) (@za _ _ _ _ _ (by rfl) (zI Zo (zD zN (pv 0) zg (fun _ _=>rfl)) (zD zN (pv 1) zg (fun _ _=>rfl))) zb)))),?_⟩
   refine⟨_,rfl,p,_,_,_,rfl,rfl,hA,rfl,_,rfl,q,_,_,_,rfl,rfl,hB,rfl,_,_,rfl,rfl,⟨sa.1.mono (by decide),sb.2.mono (by decide)⟩,_,rfl,q,_,_,_,rfl,rfl,hB,rfl,_,rfl,p,_,_,_,rfl,rfl,hA,rfl,_,_,rfl,rfl,⟨sb.1.mono (by decide),sa.2.mono (by decide)⟩,_,_,rfl,rfl,_,rfl,p,_,_,_,rfl,rfl,hA,rfl,_,rfl,q,_,_,_,rfl,rfl,hB,rfl,_,_,rfl,rfl,⟨sa.2.mono (by decide),sb.2.mono (by decide)⟩,_,_,rfl,Int.mul_ne_zero (by omega) (by omega),((sa.1.mul sb.2).sub (sb.1.mul sa.2)).mono (by decide),(sa.2.mul sb.2).mono (by decide),fun r H1 s1 f1=>?_⟩
   exact k r _ s1 f1
theorem z2Y:zT ["one","other"] ["one","other"] (zw US):=⟨rfl,rfl,rfl,by decide +kernel,rfl,by decide +kernel,by decide +kernel⟩
theorem z1Y(S:yW K mg "times" US ["one","other"])(M:Def P w K mg base 2 "made" ["above","below"] YH):Def P w K mg base 3 "times" ["one","other"] (yh K Pw.Zm):=S.def fun f fd F=>by
 refine F.ok z2Y (fun vs H Q E h=>?_) (fun cdv A' outer s H vs Q E hr h=>?_)
 · obtain⟨p,q,A,B,rfl,_⟩:=h
   rfl
 · obtain⟨p,q,A,B,rfl,hA,hB,na,nb,sa,sb,k⟩:=h
   refine⟨_,@zC _ _ _ (@zS _ _ _ _ (zH (by rfl) (by rfl) (by rfl) (by decide) M hr (@za _ _ _ _ _ (by rfl) (zI Zo (zD zN (pv 0) zg (fun _ _=>rfl)) (zD zN (pv 1) zg (fun _ _=>rfl))) (@za _ _ _ _ _ (by rfl) (zI Zo (zD zN (pv 0) zg (fun _ _=>rfl)) (zD zN (pv 1) zg (fun _ _=>rfl))) zb)))),?_⟩
   refine⟨_,rfl,p,_,_,_,rfl,rfl,hA,rfl,_,rfl,q,_,_,_,rfl,rfl,hB,rfl,_,_,rfl,rfl,⟨sa.1.mono (by decide),sb.1.mono (by decide)⟩,_,rfl,p,_,_,_,rfl,rfl,hA,rfl,_,rfl,q,_,_,_,rfl,rfl,hB,rfl,_,_,rfl,rfl,⟨sa.2.mono (by decide),sb.2.mono (by decide)⟩,_,_,rfl,Int.mul_ne_zero (by omega) (by omega),(sa.1.mul sb.1).mono (by decide),(sa.2.mul sb.2).mono (by decide),fun r H1 s1 f1=>?_⟩
   exact k r _ s1 f1
theorem z2P:zT ["one","other"] ["one","other"] (zw Ut):=⟨rfl,rfl,rfl,by decide +kernel,rfl,by decide +kernel,by decide +kernel⟩
theorem Uk(S:yW K mg "_law_plus" Ut ["one","other"])(M:Def P w K mg base 1 "_law_frac" ["above","below"] Yd):Def P w K mg base 2 "_law_plus" ["one","other"] (yh K Pw.ZI):=S.def fun f fd F=>by
 refine F.ok z2P (fun vs H Q E h=>?_) (fun cdv A' outer s H vs Q E hr h=>?_)
 · obtain⟨p,q,A,B,rfl,_⟩:=h
   rfl
 · obtain⟨p,q,A,B,rfl,hA,hB,na,nb,sa,sb,k⟩:=h
   refine⟨_,@zC _ _ _ (@zS _ _ _ _ (zH (by rfl) (by rfl) (by rfl) (by decide) M hr (@za _ _ _ _ _ (by rfl) (zI ZZ (zI Zo (zD zN (pv 0) zg (fun _ _=>rfl)) (zD zN (pv 1) zg (fun _ _=>rfl))) (zI Zo (zD zN (pv 1) zg (fun _ _=>rfl)) (zD zN (pv 0) zg (fun _ _=>rfl)))) (@za _ _ _ _ _ (by rfl) (zI Zo (zD zN (pv 0) zg (fun _ _=>rfl)) (zD zN (pv 1) zg (fun _ _=>rfl))) zb)))),?_⟩
   refine⟨_,rfl,p,_,_,_,rfl,rfl,hA,rfl,_,rfl,q,_,_,_,rfl,rfl,hB,rfl,_,_,rfl,rfl,⟨sa.1.mono (by decide),sb.2.mono (by decide)⟩,_,rfl,q,_,_,_,rfl,rfl,hB,rfl,_,rfl,p,_,_,_,rfl,rfl,hA,rfl,_,_,rfl,rfl,⟨sb.1.mono (by decide),sa.2.mono (by decide)⟩,_,_,rfl,rfl,_,rfl,p,_,_,_,rfl,rfl,hA,rfl,_,rfl,q,_,_,_,rfl,rfl,hB,rfl,_,_,rfl,rfl,⟨sa.2.mono (by decide),sb.2.mono (by decide)⟩,_,_,rfl,Int.mul_pos na nb,((sa.1.mul sb.2).add (sb.1.mul sa.2)).mono (by decide),(sa.2.mul sb.2).mono (by decide),fun r H1 s1 _ f1=>?_⟩
   exact k r _ s1 f1
theorem z1o:zT ["one","other"] ["one","other"] (zw vt):=⟨rfl,rfl,rfl,by decide +kernel,rfl,by decide +kernel,by decide +kernel⟩
theorem ur(S:yW K mg "_law_times" vt ["one","other"])(M:Def P w K mg base 1 "_law_frac" ["above","below"] Yd):Def P w K mg base 2 "_law_times" ["one","other"] (yh K Pw.Zm):=S.def fun f fd F=>by
 refine F.ok z1o (fun vs H Q E h=>?_) (fun cdv A' outer s H vs Q E hr h=>?_)
 · obtain⟨p,q,A,B,rfl,_⟩:=h
   rfl
 · obtain⟨p,q,A,B,rfl,hA,hB,na,nb,sa,sb,k⟩:=h
   refine⟨_,@zC _ _ _ (@zS _ _ _ _ (zH (by rfl) (by rfl) (by rfl) (by decide) M hr (@za _ _ _ _ _ (by rfl) (zI Zo (zD zN (pv 0) zg (fun _ _=>rfl)) (zD zN (pv 1) zg (fun _ _=>rfl))) (@za _ _ _ _ _ (by rfl) (zI Zo (zD zN (pv 0) zg (fun _ _=>rfl)) (zD zN (pv 1) zg (fun _ _=>rfl))) zb)))),?_⟩
   refine⟨_,rfl,p,_,_,_,rfl,rfl,hA,rfl,_,rfl,q,_,_,_,rfl,rfl,hB,rfl,_,_,rfl,rfl,⟨sa.1.mono (by decide),sb.1.mono (by decide)⟩,_,rfl,p,_,_,_,rfl,rfl,hA,rfl,_,rfl,q,_,_,_,rfl,rfl,hB,rfl,_,_,rfl,rfl,⟨sa.2.mono (by decide),sb.2.mono (by decide)⟩,_,_,rfl,Int.mul_pos na nb,(sa.1.mul sb.1).mono (by decide),(sa.2.mul sb.2).mono (by decide),fun r H1 s1 _ f1=>?_⟩
   exact k r _ s1 f1
theorem z6G:zT ["leap","share","links","many"] ["leap","share","links","many"] (zw z5i):=⟨rfl,rfl,rfl,by decide +kernel,rfl,by decide +kernel,by decide +kernel⟩
theorem z6M{zO:Addr}(S:yW K mg "way" z5i ["leap","share","links","many"])(mO:mg "ONE"=some (.ref zO))(hO:∀ H,xA K H zO (1,1))(Pl:Def P w K mg base 3 "plus" ["one","other"] (yh K Pw.ZI))(Le:Def P w K mg base 3 "less" ["one","other"] (yh K Pw.XT))(Ti:Def P w K mg base 3 "times" ["one","other"] (yh K Pw.Zm))(M:Def P w K mg base 2 "made" ["above","below"] YH):Def P w K mg base 4 "way" ["leap","share","links","many"] (z3l K):=S.def fun f fd F=>by
 refine F.ok z6G (fun vs H Q E h=>?_) (fun cdv A' outer s H vs Q E hr h=>?_)
 · obtain⟨p,q,A,B,c,m,rfl,_⟩:=h
   rfl
 · obtain⟨p,q,A,B,c,m,rfl,hA,hB,ca,cb,sa,sb,hm,zc,zm,k⟩:=h
   refine⟨_,@zC _ _ _ (@zS _ _ _ _ (zH (by rfl) (by rfl) (by rfl) (by decide) Pl hr (@za _ _ _ _ _ (by rfl) (zH (by rfl) (by rfl) (by rfl) (by decide) Ti hr (@za _ _ _ _ _ (by rfl) (pv 0) (@za _ _ _ _ _ (by rfl) (pv 1) zb))) (@za _ _ _ _ _ (by rfl) (zH (by rfl) (by rfl) (by rfl) (by decide) Ti hr (@za _ _ _ _ _ (by rfl) (zH (by rfl) (by rfl) (by rfl) (by decide) Le hr (@za _ _ _ _ _ (by rfl) (VB (v:=.ref zO) (by rfl) mO rfl) (@za _ _ _ _ _ (by rfl) (pv 0) zb))) (@za _ _ _ _ _ (by rfl) (zH (by rfl) (by rfl) (by rfl) (by decide) M (hr.mono (by decide)) (@za _ _ _ _ _ (by rfl) (pv 2) (@za _ _ _ _ _ (by rfl) (pv 3) zb))) zb))) zb)))),?_⟩
   have ha:=Pw.zE ca
   have hb:=Pw.zE cb
   have h1:=yo sa sb ha hb
   have h2:=V4 (n:=1) (A:=(1,1)) ⟨zR 1 (by decide),zR 1 (by decide)⟩ sa (by decide) ha
   have h3:=xq (x:=c) (y:=m) (by omega) zc zm
   have c1:=Pw.Zc ha hb
   have c2:=Pw.ZR (A:=(1,1)) (by decide) ha
   have c3:=Pw.ZF (a:=c) (b:=m) (by omega)
   have c4:=Pw.Zc (Pw.zE c2) (Pw.zE c3)
   have h4:=yo h2 h3 (Pw.zE c2) (Pw.zE c3)
   refine⟨_,rfl,_,rfl,p,q,A,B,rfl,xA.of hA,xA.of hB,ca.1,cb.1,sa.mono (by decide),sb.mono (by decide),fun r1 G1 s1 f1=>?_⟩
   refine⟨_,rfl,zO,p,(1,1),A,rfl,hO _,xA.of (s1 _ _ hA),by decide,ca.1,⟨zR 1 (by decide),zR 1 (by decide)⟩,sa.mono (by decide),fun r2 G2 s2 f2=>?_⟩
   refine⟨_,rfl,_,rfl,c,m,rfl,by omega,zc.mono (by decide),zm.mono (by decide),fun r3 G3 s3 f3=>?_⟩
   refine⟨r2,r3,_,_,rfl,xA.of (s3 _ _ f2),xA.of (A:=Pw.mk c m) f3,c2.1,c3.1,h2.mono (by decide),h3.mono (by decide),fun r4 G4 s4 f4=>?_⟩
   refine⟨r1,r4,_,_,rfl,xA.of (s4 _ _ (s3 _ _ (s2 _ _ f1))),xA.of f4,c1.1,c4.1,h1.mono (by decide),h4.mono (by decide),fun r5 G5 s5 f5=>?_⟩
   exact k r5 _ (s1.trans (s2.trans (s3.trans (s4.trans s5)))) f5
theorem ndW:(["there","share","ends","leap"]:List Str).Nodup:=by decide +kernel
theorem z0p:zT ["web","leap","leaps","page","ends"] ["web","leap","leaps","page"] (zw jI):=⟨rfl,rfl,rfl,by decide +kernel,rfl,by decide +kernel,by decide +kernel⟩
theorem z4z(S:yW K mg "ways" jI ["web","leap","leaps","page"])(T:Txt mg)(Ld:Def P w K mg base 1 "leads" ["web","page"] (X9 K Pw.outs))(Wy:Def P w K mg base 4 "way" ["leap","share","links","many"] (z3l K)):Def P w K mg base 5 "ways" ["web","leap","leaps","page"] (z0R K):=S.def fun f fd F=>by
 have nd:=z0p.nd
 refine F.ok z0p (fun vs H Q E h=>?_) (fun cdv A' outer s H vs Q E hr h=>?_)
 · obtain⟨_,_,_,_,_,_,_,_,_,rfl,_⟩:=h
   rfl
 · obtain⟨wa,lp,ls,pages,page,ps,A,Bs,us,rfl,g,k⟩:=h
   refine⟨_,@zo _ _ _ _ _ (@zK _ _ 4 _ _ _ _ (by rfl) (Or.inl rfl) nd rfl (Or.inr rfl) (zH (by rfl) (by rfl) (by rfl) (by decide) Ld (hr.mono (by decide)) (@za _ _ _ _ _ (by rfl) (pv 0) (@za _ _ _ _ _ (by rfl) (pv 3) zb))))
    (@zo _ _ _ _ _ (@Z3 _ _ _ _ _ _ _ _ (xJ (Ji (fun _=>rfl) (pv 4))) (@zC _ _ _ (@zS _ _ _ _ (pv 2))) Zr)
    (@zC _ _ _ (@zS _ _ _ _ (Zd ZK (by rfl) T.tup boot_tuple (@za _ _ _ _ _ (by rfl) (Zg ["there","share","ends","leap"] [none,none,some 4,some 1] rfl (z2Q (by rfl) (by rfl) rfl T.enu (@za _ _ _ _ _ (by rfl) (pv 2) zb))
     (by show ∀ y:Str×NameKind,y∈_→y.2=NameKind.free→(zw jI).names.lookup y.1=some .cell;decide +kernel) (by decide) rfl (by decide +kernel) ⟨⟨rfl,rfl,.inl rfl⟩,⟨rfl,rfl,.inl rfl⟩,trivial⟩
     (fun cl C s H fp=>qt (K:=K) 2 rfl rfl (Zn (zQ (i:=0) ndW rfl (Or.inl rfl) (.inr rfl)) (Zn (zQ (i:=1) ndW rfl (Or.inl rfl) (.inr rfl)) yJ)))
     (fun cl C s H fp=>Zz)
     (fun cl C s H fp=>zH (by rfl) (by rfl) (by rfl) (by decide) Wy hr (@za _ _ _ _ _ (by rfl) (pv 3) (@za _ _ _ _ _ (by rfl) (pv 1) (@za _ _ _ _ _ (by rfl) (uZ (K:=K) rfl (by rfl) (by rfl) (by rfl) (by rfl) (by rfl) PySem.F.plainAttrs_list PySem.F.slot_list_count PySem.F.type_list_count (U3 (K:=K) rfl) (pv 2) (@za _ _ _ _ _ (by rfl) (pv 0) zb)) (@za _ _ _ _ _ (by rfl) (zX (Jm (K:=K) rfl) (by rfl) T.len PySem.boot_len (@za _ _ _ _ _ (by rfl) (pv 2) zb)) zb)))))) zb))))),?_⟩
   refine⟨_,rfl,_,rfl,wa,pages,page,ps,rfl,g.web,g.few,fun e H1 s1 n1 e1=>?_⟩
   refine⟨_,rfl,_,.inl ⟨_,z7.of e1,rfl⟩,?_⟩
   have g1:=g.same s1
   by_cases ho:Pw.outs ps page=[]
   · refine YN (by rw[ho];rfl) ⟨_,rfl,?_⟩
     refine k ls H1 us s1 g1.leaps ?_
     unfold Pw.zG
     rw[if_pos ho]
     exact g1.row
   · have hne:((Pw.outs ps page).map V.int).isEmpty=false:=by
      cases h:Pw.outs ps page with
      | nil=>exact absurd h ho
      | cons x l=>rfl
     refine yH (by rw[hne];rfl) ?_
     refine⟨_,rfl,ls,us,rfl,z5.of g1.leaps,fun D hD=>?_⟩
     have hlB:=g1.row.len
     have hol:=Pw.ZO ps page
     have hpos:=List.length_pos_iff.mpr ho
     have few:=g.few
     have hphi:=g.phi
     have hlen:=g.len
     refine z0M (K:=K) (a:=ls) (D:=D) (xs:=us) (fun i ys σ H'=>zu H1 H'∧H' D=some (.lst ys)∧Zl K H' ((List.range i).map fun t=>Pw.YF A (Bs.getD t (0,1)) ((Pw.outs ps page).count (t:Int):Nat) ((Pw.outs ps page).length:Nat)) ys∧∃ x y,σ=[x,y,some (.ref e),some (.ref lp)]) ?_ ?_ ?_ ?_
     · exact⟨zu.new hD,zj,rfl,none,none,rfl⟩
     · rintro i ys σ H' ⟨s2,e2,_⟩
       exact⟨z5.of (s2 _ _ g1.leaps),e2⟩
     · rintro i u ys σ H' TT G hi hlt ⟨s2,e2,fl,x,y,rfl⟩ hTT sG eT
       have hiB:i<Bs.length:=by omega
       obtain⟨q,eq1,fq⟩:=g1.row.at (j:=i) (A:=Bs[i]) (by simp[hiB])
       rw[hi] at eq1
       cases eq1
       have gG:=g1.same (s2.trans sG)
       have hc:=List.count_le_length (a:=(i:Int)) (l:=Pw.outs ps page)
       refine⟨TT,_,rfl,z5.of eT,rfl,_,_,rfl,_,_,rfl,rfl,?_⟩
       dsimp only [ZU]
       rw[if_pos rfl]
       have eG:=sG _ _ (s2 _ _ e1)
       refine⟨_,rfl,_,rfl,_,rfl,.inl ⟨rfl,_,z7.of eG⟩,_,rfl,e,_,_,rfl,rfl,z7.of eG,_,rfl,e,_,rfl,.inl (z7.of eG),?_⟩
       refine⟨lp,q,A,Bs[i],_,_,rfl,gG.leap,sG _ _ (s2 _ _ fq),g.ca,g.cb _ (List.getElem_mem hiB),g.sa.mono (by decide),(g.sb _ (List.getElem_mem hiB)).mono (by decide),by rw[List.length_map];omega,zR 10 (by omega),zR 10 (by rw[List.length_map];omega),fun r G3 s3 f3=>?_⟩
       have e3:=s3 _ _ (sG _ _ e2)
       refine⟨e3,?_,Wt.next hlt ⟨fun b o eb=>?_,zj,?_,_,_,rfl⟩⟩
       · rw[fl.len,List.length_map,List.length_range]
         exact zU (by omega)
       · rw[zp (zh eb hD)];exact s3 _ _ (sG _ _ (s2 _ _ eb))
       · rw[List.range_succ,List.map_append]
         refine ((fl.same (sG.trans s3)).snoc (A:=Pw.YF A (Bs.getD i (0,1)) ((Pw.outs ps page).count (i:Int):Nat) ((Pw.outs ps page).length:Nat)) ?_).kp (KL.set e3)
         rw[List.getD_eq_getElem?_getD,List.getElem?_eq_getElem hiB]
         rw[List.length_map] at f3
         exact f3
     · rintro ys σ G2 ⟨s2,e2,fl,_⟩
       rw[hlB] at fl
       refine⟨D,ys,rfl,z7.of e2,fun t G3 s3 n3 e3=>?_⟩
       refine k t G3 ys (s1.trans (s2.trans s3)) e3 ?_
       unfold Pw.zG
       rw[if_neg ho]
       exact fl.same s3
theorem ndY:(["start","to","page"]:List Str).Nodup:=by decide +kernel
theorem ji:zT ["web","leap","leaps","page","there","rest","found","other","along"] ["web","leap","leaps","page"] (zw Vz):=⟨rfl,rfl,rfl,by decide +kernel,rfl,by decide +kernel,by decide +kernel⟩
theorem z2a(S:yW K mg "_law_ways" Vz ["web","leap","leaps","page"])(T:Txt mg)(Pl:Def P w K mg base 2 "_law_plus" ["one","other"] (yh K Pw.ZI))(Ti:Def P w K mg base 2 "_law_times" ["one","other"] (yh K Pw.Zm)):Def P w K mg base 3 "_law_ways" ["web","leap","leaps","page"] (qY K):=S.def fun f fd F=>by
 have nd:=ji.nd
 refine F.ok ji (fun vs H Q E h=>?_) (fun cdv A' outer s H vs Q E hr h=>?_)
 · obtain⟨_,_,_,_,_,_,_,_,_,rfl,_⟩:=h
   rfl
 · obtain⟨wa,lp,ls,pages,page,ps,A,Bs,us,rfl,g,k⟩:=h
   refine⟨_,@zo _ _ _ _ _ (vp 4 ["start","to","page"] [none,none,some 3] (by rfl) nd rfl rfl rfl (YY (zD zN (pv 0) zg (fun _ _=>rfl))) (by show ∀ y:Str×NameKind,y∈_→y.2=NameKind.free→(zw Vz).names.lookup y.1=some .cell;decide +kernel) (by decide) rfl (by decide +kernel) ⟨⟨rfl,rfl,.inl rfl⟩,trivial⟩
    (fun cl C s H fp=>qt (K:=K) 2 rfl rfl (Zn (zQ (i:=0) ndY rfl (Or.inl rfl) (.inr rfl)) (Zn (zQ (i:=1) ndY rfl (Or.inl rfl) (.inr rfl)) yJ)))
    (fun cl C s H fp=>YD (Zf YI (pv 0) (pv 2) (z0 _)))
    (fun cl C s H fp=>pv 1))
    (@zo _ _ _ _ _ (@Z3 _ _ _ _ _ _ _ _ (Zf (Qp hr) (pv 4) (@Ze _ _ _ _ zb) (z0 _)) (@zC _ _ _ (@zS _ _ _ _ (Zd yk (by rfl) T.lst boot_list (@za _ _ _ _ _ (by rfl) (pv 2) zb)))) Zr)
    (@zo _ _ _ _ _ (@zK _ _ 5 _ _ _ _ (by rfl) (Or.inl rfl) nd rfl (Or.inl rfl) (@zq _ _ _ _ _ (@za _ _ _ _ _ (by rfl) (zI Yx (zD zN (pv 1) zg (fun _ _=>rfl)) (zD zN (pv 1) zg (fun _ _=>rfl))) (@za _ _ _ _ _ (by rfl) (zD zN (pv 1) zg (fun _ _=>rfl)) zb))))
    (@zo _ _ _ _ _ (@zK _ _ 6 _ _ _ _ (by rfl) (Or.inl rfl) nd rfl (Or.inl rfl) (@Ze _ _ _ _ zb))
    (@zo _ _ _ _ _ (@ZW _ _ _ _ _ _ _ _ (fun _=>rfl) PassesOwn.never rfl (Zk rfl T.range (@za _ _ _ _ _ (by rfl) (zD zN (pv 0) zg (fun _ _=>rfl)) zb)) (zQ (i:=7) nd rfl (Or.inl rfl))
     (@zo _ _ _ _ _ (@zK _ _ 8 _ _ _ _ (by rfl) (Or.inl rfl) nd rfl (Or.inl rfl) (zH (by rfl) (by rfl) (by rfl) (by decide) Ti hr (@za _ _ _ _ _ (by rfl) (pv 5) (@za _ _ _ _ _ (by rfl) (@zq _ _ _ _ _ (@za _ _ _ _ _ (by rfl) (uZ rfl (by rfl) (by rfl) (by rfl) (by rfl) (by rfl) PySem.F.plainAttrs_list PySem.F.slot_list_count PySem.F.type_list_count QX (pv 4) (@za _ _ _ _ _ (by rfl) (pv 7) zb)) (@za _ _ _ _ _ (by rfl) (zX Zh (by rfl) T.len PySem.boot_len (@za _ _ _ _ _ (by rfl) (pv 4) zb)) zb))) zb))))
     (@zC _ _ _ (qd (uZ rfl (by rfl) (by rfl) (by rfl) (by rfl) (by rfl) PySem.F.plainAttrs_list PySem.F.slot_list_append PySem.F.type_list_append ym (pv 6) (@za _ _ _ _ _ (by rfl) (zH (by rfl) (by rfl) (by rfl) (by decide) Pl hr (@za _ _ _ _ _ (by rfl) (zH (by rfl) (by rfl) (by rfl) (by decide) Ti hr (@za _ _ _ _ _ (by rfl) (pv 1) (@za _ _ _ _ _ (by rfl) (zD zN (pv 2) (pv 7) (fun _ _=>rfl)) zb))) (@za _ _ _ _ _ (by rfl) (pv 8) zb))) zb))))))
    (@zC _ _ _ (@zS _ _ _ _ (pv 6))))))),?_⟩
   have few:=g.few
   have plo:=g.plo
   have phi:=g.phi
   have hlen:=g.len
   have hlB:=g.row.len
   have hol:=Pw.ZO ps page
   have hA2:A.2≠0:=Pw.zE g.ca
   obtain⟨ws,uw,hw,hws,hp⟩:=g.web
   refine⟨_,rfl,wa,_,_,_,rfl,rfl,z5.of hw,rfl,ws,rfl,⟨_,z5.of hws⟩,fun D hD=>?_⟩
   have hl:=hp.len
   refine yC (K:=K) (a:=ws) (D:=D) (xs:=uw) (fun i ys σ H'=>zu H H'∧H' ws=some (.tup uw)∧H' D=some (.lst ys)∧ys=(Pw.outs (ps.take i) page).map V.int∧∃ x y,σ=[x,y,some (.int page)]) ?_ ?_ ?_ ?_
   · exact⟨zu.new hD,zu.new hD _ _ hws,zj,rfl,none,none,rfl⟩
   · rintro i ys σ H' ⟨s1,hw1,hD1,_,_⟩
     exact⟨z5.of hw1,hD1⟩
   · rintro i v ys σ H' hi hlt ⟨s1,hw1,hD1,rfl,x,y,rfl⟩
     obtain⟨a,p,e1,rfl,e2⟩:=hp.get hi
     have et:ps.take (i+1)=ps.take i ++ [p]:=by rw[List.take_succ,e1];rfl
     refine⟨a,_,rfl,s1.V9 e2,rfl,_,_,rfl,_,_,rfl,rfl,?_⟩
     refine⟨_,rfl,_,rfl,rfl,_,rfl,?_⟩
     have hlen:((Pw.outs (ps.take i) page).map V.int).length<sizeLine:=by
      rw[List.length_map]
      have h1:=Pw.ZO (ps.take i) page
      have h2:(ps.take i).length≤ps.length:=by rw[List.length_take];omega
      exact zU (by omega)
     by_cases c:p.1=page
     · refine YN (by rw[c];simp) ?_
       refine⟨_,rfl,hD1,hlen,Wt.next hlt ⟨fun b o e=>?_,?_,zj,?_,_,_,rfl⟩⟩
       · rw[zp (zh e hD)];exact s1 b o e
       · rw[zp (zh hws hD)];exact hw1
       · rw[et,Pw.Y5,if_pos c,List.map_append];rfl
     · refine yH (by simpa using c) ?_
       exact Wt.next hlt ⟨s1,hw1,hD1,by rw[et,Pw.Y5,if_neg c,List.append_nil],_,_,rfl⟩
   · rintro ys σ H1 ⟨s1,hw1,e1,rfl,_⟩
     rw[hl,List.take_of_length_le (Nat.le_refl _)] at e1
     refine⟨_,rfl,(by show 0≤sizeLine;decide),fun nl H2 s2 n2 e2=>⟨D,nl,_,rfl,rfl,.inr ⟨z7.of (s2 _ _ e1),z7.of e2⟩,_,rfl,?_⟩⟩
     have s12:=s1.trans s2
     have g2:=g.same s12
     by_cases ho:Pw.outs ps page=[]
     · refine YN (by rw[ho];rfl) ?_
       refine⟨_,rfl,ls,us,rfl,.inr (z5.of g2.leaps),fun t H3 s3 n3 e3=>?_⟩
       refine k t H3 us (s12.trans s3) (s12.none n3) e3 ?_
       unfold Pw.zG
       rw[if_pos ho]
       exact g2.row.same s3
     have hne:((Pw.outs ps page).map V.int).isEmpty=false:=by
      cases h:Pw.outs ps page with
      | nil=>exact absurd h ho
      | cons x l=>rfl
     have hpos:=List.length_pos_iff.mpr ho
     refine yH hne ?_
     refine⟨_,rfl,lp,_,_,_,rfl,rfl,z5.of g2.leap,rfl,_,rfl,lp,_,_,_,rfl,rfl,z5.of g2.leap,rfl,_,_,rfl,rfl,_,rfl,lp,_,_,_,rfl,rfl,z5.of g2.leap,rfl,(by show 2≤sizeLine;decide),fun rs H3 s3 n3 e3=>?_⟩
     refine⟨(by show 0≤sizeLine;decide),fun fo H4 s4 n4 e4=>?_⟩
     have g3:=g2.same s3
     have g4:=g3.same s4
     have eD:=s3 _ _ (s2 _ _ e1)
     have s123:=s12.trans s3
     refine⟨_,rfl,wa,_,_,_,rfl,rfl,z5.of (s4 _ _ (s123 _ _ hw)),rfl,pages,rfl,by omega,by omega,?_⟩
     refine Z5 (lo:=0) (n:=pages.toNat) (fun j σ G=>zu H3 G∧(∃ ys,G fo=some (.lst ys)∧Zl K G ((List.range j).map fun t=>Pw.YF A (Bs.getD t (0,1)) ((Pw.outs ps page).count (t:Int):Nat) ((Pw.outs ps page).length:Nat)) ys)∧∃ v7 v8:Option V,σ=[some (.ref wa),some (.ref lp),some (.ref ls),some (.int page),some (.ref D),some (.ref rs),some (.ref fo),v7,v8]) ?_ ?_ ?_
     · exact⟨s4,⟨[],e4,rfl⟩,none,none,rfl⟩
     · rintro j σ G hj ⟨sG,⟨ys,eF,fl⟩,v7,v8,rfl⟩
       rw[Int.zero_add]
       have hjB:j<Bs.length:=by omega
       have gG:=g3.same sG
       have eDG:=sG _ _ eD
       have hc:=List.count_le_length (a:=(j:Int)) (l:=Pw.outs ps page)
       have cB:=g.cb _ (List.getElem_mem hjB)
       have sB:=g.sb _ (List.getElem_mem hjB)
       refine⟨_,rfl,_,rfl,.inl ⟨rfl,_,z7.of eDG⟩,_,rfl,D,_,_,rfl,rfl,z7.of eDG,_,rfl,D,_,rfl,.inl (z7.of eDG),(by show 2≤sizeLine;decide),fun cm G1 s1' n1' e1'=>?_⟩
       rw[List.length_map] at e1'
       refine⟨rs,cm,(A.2 - A.1,A.2),(((Pw.outs ps page).count (j:Int):Nat),((Pw.outs ps page).length:Nat)),rfl,xA.of (s1' _ _ (sG _ _ e3)),xA.of e1',g.ca.1,(by show (0:Int)<((Pw.outs ps page).length:Nat);omega),⟨(g.sa.2.sub g.sa.1).mono (by decide),g.sa.2.mono (by decide)⟩,⟨zR 10 (by show (((Pw.outs ps page).count (j:Int):Nat):Int).natAbs<2 ^ 10;omega),zR 10 (by show (((Pw.outs ps page).length:Nat):Int).natAbs<2 ^ 10;omega)⟩,fun al G2 s2' f2=>?_⟩
       obtain⟨q,eq1,fq⟩:=gG.row.at (j:=j) (A:=Bs[j]) (by simp[hjB])
       have s12':=s1'.trans s2'
       refine⟨_,rfl,.inl ⟨rfl,_,z7.of (s12' _ _ eF)⟩,_,rfl,_,rfl,_,rfl,ls,us,(j:Int),.ref q,rfl,rfl,z5.of (s12' _ _ gG.leaps),zY eq1,?_⟩
       refine⟨lp,q,A,Bs[j],rfl,xA.of (s12' _ _ gG.leap),xA.of (s12' _ _ fq),g.ca.1,cB.1,g.sa.mono (by decide),sB.mono (by decide),fun r3 G3 s3' f3=>?_⟩
       have c1:=Pw.Zc (Pw.zE g.ca) (Pw.zE cB)
       have hmz:(((Pw.outs ps page).length:Nat):Int)≠0:=by omega
       have c2:=Pw.Zc (A:=(A.2 - A.1,A.2)) (B:=(((Pw.outs ps page).count (j:Int):Nat),((Pw.outs ps page).length:Nat))) hA2 hmz
       have z1:=yo g.sa sB (Pw.zE g.ca) (Pw.zE cB)
       have z2:=yo (n:=101) (m:=10) (A:=(A.2 - A.1,A.2)) (B:=(((Pw.outs ps page).count (j:Int):Nat),((Pw.outs ps page).length:Nat))) ⟨(g.sa.2.sub g.sa.1).mono (by decide),g.sa.2.mono (by decide)⟩ ⟨zR 10 (by show (((Pw.outs ps page).count (j:Int):Nat):Int).natAbs<2 ^ 10;omega),zR 10 (by show (((Pw.outs ps page).length:Nat):Int).natAbs<2 ^ 10;omega)⟩ hA2 hmz
       refine⟨_,rfl,r3,al,_,_,rfl,xA.of f3,xA.of (s3' _ _ f2),c1.1,c2.1,z1.mono (by decide),z2.mono (by decide),fun r4 G4 s4' f4=>?_⟩
       have sA:=s12'.trans (s3'.trans s4')
       have e4':=sA _ _ eF
       refine⟨fo,_,_,rfl,rfl,e4',?_,?_⟩
       · rw[fl.len,List.length_map,List.length_range]
         exact zU (by omega)
       refine⟨fun b o eb=>?_,⟨_,zj,?_⟩,_,_,rfl⟩
       · rw[zp (zh eb n4)];exact sA _ _ (sG _ _ eb)
       · rw[List.range_succ,List.map_append]
         refine ((fl.same sA).snoc (A:=Pw.YF A (Bs.getD j (0,1)) ((Pw.outs ps page).count (j:Int):Nat) ((Pw.outs ps page).length:Nat)) ?_).kp (KL.set e4')
         rw[List.getD_eq_getElem?_getD,List.getElem?_eq_getElem hjB]
         show xB K G4 r4 (Pw.YF A Bs[j] _ _)
         rw[← Pw.z2c g.ca cB hmz]
         exact f4
     · rintro σ G ⟨sG,⟨ys,eF,fl⟩,v7,v8,rfl⟩
       refine⟨_,rfl,k fo G ys (s123.trans sG) (s123.none n4) eF ?_⟩
       unfold Pw.zG
       rw[if_neg ho,show Bs.length=pages.toNat by omega]
       exact fl
theorem z1z(S:yW K mg "common" Y4 ["one","other"]):Def P w K mg base 1 "common" ["one","other"] Yl:=S.def fun f fd F=>QZ F
theorem jg:zT ["some","whole","each"] ["some"] (zw Uw):=⟨rfl,rfl,rfl,by decide +kernel,rfl,by decide +kernel,by decide +kernel⟩
theorem z2b(S:yW K mg "shared_below" Uw ["some"])(C:Def P w K mg base 1 "common" ["one","other"] Yl):Def P w K mg base 2 "shared_below" ["some"] (jO K):=S.def fun f fd F=>by
 have nd:=jg.nd
 refine F.ok jg (fun vs H Q E h=>?_) (fun cdv A' outer s H vs Q E hr h=>?_)
 · obtain⟨_,_,_,_,_,rfl,_⟩:=h
   rfl
 · obtain⟨b,a,us,As,M,rfl,hq,fl,pos,hM,zM,dv,k⟩:=h
   refine⟨_,@zo _ _ _ _ _ (@zK _ _ 1 _ _ _ _ (by rfl) (Or.inl rfl) nd rfl (Or.inl rfl) zg)
    (@zo _ _ _ _ _ (@ZW _ _ _ _ _ _ _ _ (fun _=>rfl) PassesOwn.never rfl (JY (pv 0)) (zQ (i:=2) nd rfl (Or.inl rfl))
     (@zC _ _ _ (@zK _ _ 1 _ _ _ _ (by rfl) (Or.inl rfl) nd rfl (Or.inl rfl) (zI Zo (zI yP (pv 1) (zH (by rfl) (by rfl) (by rfl) (by decide) C hr (@za _ _ _ _ _ (by rfl) (pv 1) (@za _ _ _ _ _ (by rfl) (zD zN (pv 2) zg (fun _ _=>rfl)) zb)))) (zD zN (pv 2) zg (fun _ _=>rfl))))))
    (@zC _ _ _ (@zS _ _ _ _ (pv 1)))),?_⟩
   refine⟨_,rfl,b,a,rfl,⟨us,hq⟩,?_⟩
   have hl:=fl.len
   refine z2v (b:=b) (K:=K) (a:=a) (xs:=us) (fun i σ G=>G=H∧∃ (L:Int) (v:Option V),Pw.yU (As.take i) L∧σ=[some (.ref a),some (.int L),v]) ⟨rfl,1,none,Pw.yU.nil,rfl⟩ (fun i σ G _ h=>h.1 ▸ hq) ?_ ?_
   · rintro i x σ G hi ⟨rfl,L,v,hL,rfl⟩
     have hlt:i<us.length:=(List.getElem?_eq_some_iff.mp hi).1
     have hA:As[i]?=some As[i]:=by simp
     obtain⟨p,ep,fp⟩:=fl.at hA
     rw[hi] at ep
     cases ep
     have mA:=List.mem_of_getElem? hA
     have pA:=pos _ mA
     have zL:Sz 8000 L:=yU.z0g hL hM (fun A hA=>dv A (List.mem_of_mem_take hA)) zM
     have zA:Sz 8000 As[i].2:=jV (by omega) (Int.le_of_dvd hM (dv _ mA)) zM
     obtain⟨g1,g2⟩:=z4B (x:=L) pA
     have hLp:=hL.pos
     refine⟨_,rfl,_,rfl,_,rfl,p,_,_,_,rfl,rfl,z5.of fp,rfl,L,As[i].2,rfl,by omega,by omega,_,_,rfl,rfl,⟨by omega,(jV (by omega) g2 zA).mono (by decide)⟩,_,rfl,p,_,_,_,rfl,rfl,z5.of fp,rfl,_,_,rfl,rfl,⟨(Vp hLp g1 zL).mono (by decide),zA.mono (by decide)⟩,rfl,_,_,?_,rfl⟩
     rw[List.take_succ,hA]
     exact hL.snoc pA
   · rintro σ G ⟨rfl,L,v,hL,rfl⟩
     rw[hl,List.take_of_length_le (Nat.le_refl _)] at hL
     exact⟨_,rfl,k L hL⟩
theorem z7d:(["each","below"]:List Str).Nodup:=by decide +kernel
theorem z1G:zT ["some","below"] ["some","below"] (zw X3):=⟨rfl,rfl,rfl,by decide +kernel,rfl,by decide +kernel,by decide +kernel⟩
theorem z0c(S:yW K mg "aboves" X3 ["some","below"]):Def P w K mg base 1 "aboves" ["some","below"] (qx K):=S.def fun f fd F=>by
 refine F.ok z1G (fun vs H Q E h=>?_) (fun cdv A' outer s H vs Q E hr h=>?_)
 · obtain⟨_,_,_,_,_,rfl,_⟩:=h
   rfl
 · obtain⟨b,a,us,As,L,rfl,hq,fl,few,pos,hL,zL,k⟩:=h
   refine⟨_,@zC _ _ _ (@zS _ _ _ _ (Zg ["each","below"] [none,some 1] rfl (JY (pv 0)) (by show ∀ y:Str×NameKind,y∈_→y.2=NameKind.free→(zw X3).names.lookup y.1=some .cell;decide +kernel) (by decide) rfl (by decide +kernel) ⟨⟨rfl,rfl,.inl rfl⟩,trivial⟩
    (fun cl C s H fp=>zQ (i:=0) z7d rfl (Or.inl rfl) (.inr rfl)) (fun cl C s H fp=>Zz)
    (fun cl C s H fp=>zI Zo (zD (qh (K:=K) rfl) (pv 0) zg (fun _ _=>rfl)) (zI yP (pv 1) (zD (qh (K:=K) rfl) (pv 0) zg (fun _ _=>rfl)))))),?_⟩
   refine⟨_,rfl,b,a,rfl,⟨us,hq⟩,fun D hD=>?_⟩
   have hl:=fl.len
   refine JU (b:=b) (K:=K) (a:=a) (D:=D) (xs:=us) (fun i ys σ H'=>zu H H'∧H' D=some (.lst ys)∧ys=(Pw.xx (As.take i) L).map V.int∧∃ x,σ=[x,some (.int L)]) ?_ ?_ ?_ ?_
   · exact⟨zu.new hD,zj,rfl,none,rfl⟩
   · rintro i ys σ H' ⟨s1,e1,_⟩
     exact⟨hq.same s1,e1⟩
   · rintro i x ys σ H' hi hlt ⟨s1,e1,rfl,x',rfl⟩
     have hA:As[i]?=some As[i]:=by simp
     obtain⟨p,ep,fp⟩:=fl.at hA
     rw[hi] at ep
     cases ep
     have mA:=List.mem_of_getElem? hA
     obtain⟨pA,zA⟩:=pos _ mA
     have fp':=s1 _ _ fp
     dsimp only [ZU]
     rw[if_pos rfl]
     refine⟨_,rfl,p,_,_,_,rfl,rfl,z5.of fp',rfl,_,rfl,_,rfl,p,_,_,_,rfl,rfl,z5.of fp',rfl,_,_,rfl,rfl,⟨by omega,zA.2.mono (by decide)⟩,_,_,rfl,rfl,⟨zA.1.mono (by decide),(Vp hL pA zL).mono (by decide)⟩,e1,?_,Wt.next hlt ⟨fun b o e=>?_,zj,?_,_,rfl⟩⟩
     · unfold Pw.xx
       rw[List.length_map,List.length_map,List.length_take]
       exact zU (by omega)
     · rw[zp (zh e hD)];exact s1 _ _ e
     · unfold Pw.xx
       rw[List.take_succ,hA,List.map_append,List.map_append]
       rfl
   · rintro ys σ H' ⟨s1,e1,rfl,_⟩
     rw[hl,List.take_of_length_le (Nat.le_refl _)] at e1
     exact k D H' s1 hD e1
end
end Lw
set_option pp.maxSteps 800
namespace Lw
open PySem L2 PyProof.Rows
section
variable{P:Program}{w:World}{K:PySem.W.Frag}{mg:Str→Option Value}{base:Heap}
theorem uC:zT ["numbers","from_each"] ["numbers","from_each"] (zw qf):=⟨rfl,rfl,rfl,by decide +kernel,rfl,by decide +kernel,by decide +kernel⟩
theorem z3g(S:yW K mg "moved" qf ["numbers","from_each"])(T:Txt mg) :Def P w K mg base 1 "moved" ["numbers","from_each"] (vN K):=S.def fun f fd F=>by
 have nd:=uC.nd
 refine F.ok uC (fun vs H Q E h=>?_) (fun cdv A' outer s H vs Q E hr h=>?_)
 · obtain⟨_,_,_,_,_,rfl,_⟩:=h
   rfl
 · obtain⟨nu,fe,ns,Fs,n,rfl,hn,⟨us,hf,hul,hrow⟩,ln,lF,lr,few,zn,zF,k⟩:=h
   refine⟨_,(@zC _ _ _ (@zS _ _ _ _ (j9 "there" ["there","numbers","from_each"] [none,some 0,some 1] rfl (Zk rfl T.range (@za _ _ _ _ _ (by rfl) (zX Zh (by rfl) T.len PySem.boot_len (@za _ _ _ _ _ (by rfl) (pv 0) zb)) zb)) (by show ∀ y:Str×NameKind,y∈_→y.2=NameKind.free→(zw qf).names.lookup y.1=some .cell;decide +kernel) (fun _ _=>by rfl) (fun _=>by rfl) (z1h (by decide +kernel)) (by decide +kernel) rfl (by decide +kernel) ⟨⟨rfl,rfl,.inl rfl⟩,⟨rfl,rfl,.inl rfl⟩,trivial⟩
    (fun cl C s H fp=>(zQ (i:=0) (show (["there","numbers","from_each"]:List Str).Nodup by decide +kernel) rfl (Or.inr rfl) (.inl rfl)))
    (fun cl C s H fp=>Zz)
    (fun cl C s H fp=>(zX (QT (K:=K) rfl rfl) (by rfl) T.sum boot_sum (@za _ _ _ _ _ (by rfl) (Zg ["number","each","there"] [none,none,some 0] rfl (z2I (by rfl) (by rfl) (by rfl) rfl T.zip (@za _ _ _ _ _ (by rfl) (pv 1) (@za _ _ _ _ _ (by rfl) (pv 2) zb))) (by intro y hy hf;rcases List.mem_cons.mp hy with rfl | hy;(· first | (cases hf;done) | rfl);rcases List.mem_cons.mp hy with rfl | hy;(· first | (cases hf;done) | rfl);rcases List.mem_cons.mp hy with rfl | hy;(· first | (cases hf;done) | rfl);rcases List.mem_cons.mp hy with rfl | hy;(· first | (cases hf;done) | rfl);cases hy) (by decide) rfl (by decide +kernel) ⟨⟨rfl,rfl,.inl rfl⟩,trivial⟩
    (fun cl C s H fp=>(qt (K:=K) 2 rfl rfl (Zn (zQ (i:=0) (show (["number","each","there"]:List Str).Nodup by decide +kernel) rfl (Or.inl rfl) (.inr rfl)) (Zn (zQ (i:=1) (show (["number","each","there"]:List Str).Nodup by decide +kernel) rfl (Or.inl rfl) (.inr rfl)) yJ))))
    (fun cl C s H fp=>Zz)
    (fun cl C s H fp=>(zI Zo (pv 0) (zD (ZG (K:=K) rfl) (pv 1) (pv 2) (fun _ _=>rfl))))) zb)))))),?_⟩
   refine⟨_,rfl,nu,_,rfl,.inl (z7.of hn),_,rfl,by omega,(by rw[List.length_map];omega),fun D hD=>?_⟩
   have hlm:((ns.map V.int).length:Int).toNat=n:=by rw[List.length_map];omega
   rw[hlm]
   refine Z1 (lo:=0) (n:=n) (D:=D) (fun i ys σ H'=>zu H H'∧H' D=some (.lst ys)∧ys=((Pw.vD ns Fs n).take i).map V.int∧∃ x,σ=[x,some (.ref nu),some (.ref fe)]) ?_ ?_ ?_ ?_
   · exact⟨zu.new hD,zj,rfl,none,rfl⟩
   · rintro i ys σ H' ⟨_,e,_⟩
     exact e
   · rintro t ys σ H' ht ⟨s1,e1,rfl,x,rfl⟩
     rw[Int.zero_add]
     dsimp only [ZU]
     rw[if_pos rfl]
     refine⟨_,rfl,_,rfl,nu,fe,_,_,rfl,z7.of (s1 _ _ hn),z7.of (s1 _ _ hf),fun D2 hD2=>?_⟩
     refine z1w (K:=K) (a:=nu) (b:=fe) (D:=D2) (xs:=ns.map V.int) (zs:=us) (by rw[List.length_map];omega) (fun i ys σ G=>zu H' G∧G D2=some (.lst ys)∧ys=((List.range i).map fun i=>ns.getD i 0 * (Fs.getD i []).getD t 0).map V.int∧∃ x y,σ=[x,y,some (.int (t:Nat))]) ?_ ?_ ?_ ?_
     · exact⟨zu.new hD2,zj,rfl,none,none,rfl⟩
     · rintro i ys σ G ⟨s2,e2,_⟩
       exact⟨z7.of (s2 _ _ (s1 _ _ hn)),z7.of (s2 _ _ (s1 _ _ hf)),e2⟩
     · rintro i x z ys σ G TT G' hi hz hlt ⟨s2,e2,rfl,x',y',rfl⟩ hTT sG eT
       rw[List.length_map] at hlt
       have ex:x=.int (ns.getD i 0):=by
        rw[List.getElem?_map,yp (by omega)] at hi
        cases hi;rfl
       have hFi:Fs[i]?=some Fs[i]:=by simp
       obtain⟨r,er,hr2⟩:=hrow i _ hFi
       rw[hz] at er
       cases er
       subst ex
       have eF:Fs.getD i []=Fs[i]:=by rw[List.getD_eq_getElem?_getD,hFi];rfl
       have mF:=List.mem_of_getElem? hFi
       have hrl:=lr _ mF
       have hrt:(Fs[i].map V.int)[t]?=some (.int (Fs[i].getD t 0)):=by rw[List.getElem?_map,yp (by omega)];rfl
       have mN:ns.getD i 0∈ns:=List.mem_of_getElem? (yp (by omega))
       have mR:Fs[i].getD t 0∈Fs[i]:=List.mem_of_getElem? (yp (by omega))
       refine⟨TT,_,rfl,z5.of eT,rfl,_,_,rfl,_,_,rfl,rfl,?_⟩
       dsimp only [ZU]
       rw[if_pos rfl]
       refine⟨_,rfl,_,rfl,_,rfl,r,_,_,_,rfl,rfl,z7.of (sG _ _ (s2 _ _ (s1 _ _ hr2))),zY hrt,_,_,rfl,rfl,⟨(zn _ mN).mono (by decide),(zF _ mF _ mR).mono (by decide)⟩,sG _ _ e2,?_,Wt.next (by rw[List.length_map];exact hlt) ⟨fun b o e=>?_,zj,?_,_,_,rfl⟩⟩
       · rw[List.length_map,List.length_map,List.length_range]
         exact zU (by omega)
       · rw[zp (zh e hD2)];exact sG _ _ (s2 _ _ e)
       · rw[List.range_succ,List.map_append,List.map_append,← eF];rfl
     · rintro ys σ G ⟨s2,e2,rfl,_⟩
       rw[List.length_map,ln] at e2
       refine⟨D2,_,rfl,z7.of e2,s2 _ _ e1,?_,Wt.next ht ⟨fun b o e=>?_,zj,?_,_,rfl⟩⟩
       · rw[List.length_map,List.length_take]
         exact zU (by omega)
       · rw[zp (zh e hD)];exact s2 _ _ (s1 _ _ e)
       · have hm:(Pw.vD ns Fs n)[t]?=some ((List.range n).map fun i=>ns.getD i 0 * (Fs.getD i []).getD t 0).sum:=by
          unfold Pw.vD
          rw[List.getElem?_map,List.getElem?_range ht];rfl
         rw[List.take_succ,hm,List.map_append]
         rfl
   · rintro ys σ H' ⟨s1,e1,rfl,_⟩
     rw[List.take_of_length_le (by rw[Pw.VQ];exact Nat.le_refl _)] at e1
     exact k D H' s1 hD e1
theorem yX:zT ["web","leap","leaps","row","many","table","step","from_each","below","numbers","turn"] ["web","leap","leaps","row","many"] (zw Zv):=⟨rfl,rfl,rfl,by decide +kernel,rfl,by decide +kernel,by decide +kernel⟩
set_option maxHeartbeats 0 in
theorem XA(S:yW K mg "behind_several" Zv ["web","leap","leaps","row","many"])(T:Txt mg)(Wy:Def P w K mg base 5 "ways" ["web","leap","leaps","page"] (z0R K))(Be:Def P w K mg base 2 "shared_below" ["some"] (jO K))(Ab:Def P w K mg base 1 "aboves" ["some","below"] (qx K))(Mo:Def P w K mg base 1 "moved" ["numbers","from_each"] (vN K))(M:Def P w K mg base 2 "made" ["above","below"] YH):Def P w K mg base 6 "behind_several" ["web","leap","leaps","row","many"] (vj K):=S.def fun f fd F=>by
 have nd:=yX.nd
 refine F.ok yX (fun vs H Q E h=>?_) (fun cdv A' outer s H vs Q E hr h=>?_)
 · obtain⟨_,_,_,_,_,_,_,_,_,_,_,_,_,_,_,rfl,_⟩:=h
   rfl
 · obtain⟨wa,lp,ls,ro,pages,m,ps,A,Bs,Rs,us,rs,SS,DD,CC,rfl,m0,m1,g,pr,hro,frs,rw,zM,k⟩:=h
   refine⟨_,(@zo _ _ _ _ _ (vp 5 ["page","web","leap","leaps"] [none,some 0,some 1,some 2] (by rfl) nd rfl rfl rfl (Zk rfl T.range (@za _ _ _ _ _ (by rfl) (zD zN (pv 0) zg (fun _ _=>rfl)) zb)) (by show ∀ y:Str×NameKind,y∈_→y.2=NameKind.free→(zw Zv).names.lookup y.1=some .cell;decide +kernel) (by decide) rfl (by decide +kernel) ⟨⟨rfl,rfl,.inl rfl⟩,⟨rfl,rfl,.inl rfl⟩,⟨rfl,rfl,.inl rfl⟩,trivial⟩
    (fun cl C s H fp=>(zQ (i:=0) (show (["page","web","leap","leaps"]:List Str).Nodup by decide +kernel) rfl (Or.inl rfl) (.inr rfl)))
    (fun cl C s H fp=>Zz)
    (fun cl C s H fp=>(zH (by rfl) (by rfl) (by rfl) (by decide) Wy (hr.mono (by decide)) (@za _ _ _ _ _ (by rfl) (pv 1) (@za _ _ _ _ _ (by rfl) (pv 2) (@za _ _ _ _ _ (by rfl) (pv 3) (@za _ _ _ _ _ (by rfl) (pv 0) zb)))))))
    (@zo _ _ _ _ _ (@zK _ _ 6 _ _ _ _ (by rfl) (Or.inl rfl) nd rfl (Or.inr rfl) (zH (by rfl) (by rfl) (by rfl) (by decide) Be (hr.mono (by decide)) (@za _ _ _ _ _ (by rfl) (z2n rfl (by rfl) T.sum (by rfl) (pv 5) (@zq _ _ _ _ _ zb)) zb)))
    (@zo _ _ _ _ _ (vp 7 ["each","step"] [none,some 6] (by rfl) nd rfl rfl rfl (@yI _ _ _ _ (pv 5)) (by show ∀ y:Str×NameKind,y∈_→y.2=NameKind.free→(zw Zv).names.lookup y.1=some .cell;decide +kernel) (by decide) rfl (by decide +kernel) ⟨⟨rfl,rfl,.inl rfl⟩,trivial⟩
     (fun cl C s H fp=>(zQ (i:=0) (show (["each","step"]:List Str).Nodup by decide +kernel) rfl (Or.inl rfl) (.inr rfl)))
     (fun cl C s H fp=>Zz)
     (fun cl C s H fp=>(zH (by rfl) (by rfl) (by rfl) (by decide) Ab (hr.mono (by decide)) (@za _ _ _ _ _ (by rfl) (pv 0) (@za _ _ _ _ _ (by rfl) (pv 1) zb)))))
    (@zo _ _ _ _ _ (@zK _ _ 8 _ _ _ _ (by rfl) (Or.inl rfl) nd rfl (Or.inr rfl) (zH (by rfl) (by rfl) (by rfl) (by decide) Be (hr.mono (by decide)) (@za _ _ _ _ _ (by rfl) (pv 3) zb)))
    (@zo _ _ _ _ _ (@zK _ _ 9 _ _ _ _ (by rfl) (Or.inl rfl) nd rfl (Or.inl rfl) (zH (by rfl) (by rfl) (by rfl) (by decide) Ab (hr.mono (by decide)) (@za _ _ _ _ _ (by rfl) (pv 3) (@za _ _ _ _ _ (by rfl) (pv 8) zb))))
    (@zo _ _ _ _ _ (@ZW _ _ _ _ _ _ _ _ (fun _=>rfl) PassesOwn.never rfl (Zk rfl T.range (@za _ _ _ _ _ (by rfl) (pv 4) zb)) (zQ (i:=10) nd rfl (Or.inl rfl))
     (@zo _ _ _ _ _ (@zK _ _ 9 _ _ _ _ (by rfl) (Or.inl rfl) nd rfl (Or.inl rfl) (zH (by rfl) (by rfl) (by rfl) (by decide) Mo (hr.mono (by decide)) (@za _ _ _ _ _ (by rfl) (pv 9) (@za _ _ _ _ _ (by rfl) (pv 7) zb))))
    (@zC _ _ _ (@zK _ _ 8 _ _ _ _ (by rfl) (Or.inl rfl) nd rfl (Or.inr rfl) (zI Zo (pv 8) (pv 6))))))
    (@zC _ _ _ (@zS _ _ _ _ (Zd ZK (by rfl) T.tup boot_tuple (@za _ _ _ _ _ (by rfl) (Zg ["each","below"] [none,some 8] rfl (@yI _ _ _ _ (pv 9)) (by show ∀ y:Str×NameKind,y∈_→y.2=NameKind.free→(zw Zv).names.lookup y.1=some .cell;decide +kernel) (by decide) rfl (by decide +kernel) ⟨⟨rfl,rfl,.inl rfl⟩,trivial⟩
     (fun cl C s H fp=>(zQ (i:=0) (show (["each","below"]:List Str).Nodup by decide +kernel) rfl (Or.inl rfl) (.inr rfl)))
     (fun cl C s H fp=>Zz)
     (fun cl C s H fp=>(zH (by rfl) (by rfl) (by rfl) (by decide) M (hr.mono (by decide)) (@za _ _ _ _ _ (by rfl) (pv 0) (@za _ _ _ _ _ (by rfl) (pv 1) zb))))) zb)))))))))),?_⟩
   have plo:=g.plo
   have phi:=g.phi
   have hlen:=g.len
   have hRl:=rw.len
   have hBn:Bs.length=pages.toNat:=by omega
   have hrl:=frs.len
   have mwp:=Pw.UO (ps:=ps) (n:=pages.toNat) g.ca pr.spos
   have zMw:=Pw.z3h (ps:=ps) (n:=pages.toNat) g.sa.2 pr.ssz g.few (by omega)
   have lk:∀ p∈ps,0≤p.2∧p.2<((pages.toNat:Nat):Int):=fun p hp=>by
    have:=g.lk p hp
    omega
   obtain⟨ws0,uw0,hwa,hws,hpw⟩:=id g.web
   refine⟨_,rfl,wa,_,_,_,rfl,rfl,z5.of hwa,rfl,pages,rfl,by omega,by omega,fun D hD=>?_⟩
   refine Z1 (lo:=0) (n:=pages.toNat) (D:=D) (fun i ys σ H'=>zu H H'∧H' D=some (.lst ys)∧VD K H' ps A Bs i ys∧∃ x,σ=[x,some (.ref wa),some (.ref lp),some (.ref ls)]) ?_ ?_ ?_ ?_
   · exact⟨zu.new hD,zj,⟨rfl,fun i hi=>by omega⟩,none,rfl⟩
   · rintro i ys σ H' ⟨_,e,_⟩
     exact e
   · rintro i ys σ H' hi ⟨s1,e1,wsa,x,rfl⟩
     rw[Int.zero_add]
     dsimp only [ZU]
     rw[if_pos rfl]
     refine⟨_,rfl,_,rfl,_,rfl,_,rfl,wa,lp,ls,pages,i,ps,A,Bs,us,rfl,g.same s1,fun t G1 ys1 t1 e2 f2=>?_⟩
     have e1':=t1 _ _ e1
     refine⟨e1',by rw[wsa.1];exact zU (by omega),Wt.next hi ⟨fun b o e=>?_,zj,?_,_,rfl⟩⟩
     · rw[zp (zh e hD)];exact t1 _ _ (s1 _ _ e)
     · exact ((wsa.kl t1.kl).snoc e2 f2).kl (KL.set e1')
   rintro fs σ H1 ⟨s1,e1,wsa,_⟩
   obtain⟨xss,xl,xr,xf,xz⟩:=wsa.rows
   have fcl:=wsa.1
   have hn13:pages.toNat≤13:=by omega
   have hxz:xss.flatten.length≤200:=by
    rw[xz,hBn]
    exact Nat.le_trans (Nat.mul_le_mul hn13 hn13) (by decide)
   refine⟨_,rfl,(by show 0≤sizeLine;decide),fun et H2 s2 _ e2=>?_⟩
   have s12:=s1.trans s2
   have wsa2:=wsa.kl s2.kl
   refine⟨D,et,fs,xss,rfl,rfl,s2 _ _ e1,e2,by omega,fun i ys e=>?_,Nat.le_of_lt (zU (by omega)),fun al H3 s3 e3=>?_⟩
   · obtain⟨r,h1,h2⟩:=xr i ys e
     exact⟨r,h1,s2 _ _ h2⟩
   have s13:=s12.trans s3
   have cAll:Pw.zW (Pw.Vq ps A Bs pages.toNat):=fun W hW=>by
    obtain⟨i,hi,hm⟩:=Pw.uz hW
    exact Pw.ZJ g.ca g.cb W hm
   have dAll:∀ W∈Pw.Vq ps A Bs pages.toNat,W.2∣Pw.Mw ps A SS pages.toNat:=fun W hW=>by
    obtain⟨i,hi,hm⟩:=Pw.uz hW
    exact Pw.qZ g.ca g.cb pr.sdvd hi W hm
   refine⟨false,al,_,_,_,rfl,z5.of e3,xf.same (s2.trans s3),zW.pos cAll,mwp,zMw.mono (by decide),dAll,fun L hL=>?_⟩
   have hLp:=hL.pos
   have hLM:L≤Pw.Mw ps A SS pages.toNat:=hL.le mwp dAll
   have zL:Sz 892 L:=yU.z0g hL mwp dAll zMw
   refine⟨_,rfl,D,rfl,⟨_,z7.of (s3 _ _ (s2 _ _ e1))⟩,fun D2 hD2=>?_⟩
   have wsa3:=wsa2.kl s3.kl
   have eD3:=s3 _ _ (s2 _ _ e1)
   refine Yk (K:=K) (a:=D) (D:=D2) (xs:=fs) (fun i ys σ G=>zu H3 G∧G D2=some (.lst ys)∧ys.length=i∧(∀ j,j<i→∃ r:Addr,r≠D2∧ys[j]?=some (V.ref r)∧G r=some (.lst ((Pw.xx (Pw.zG ps A Bs ((j:Nat):Int)) L).map V.int)))∧∃ x,σ=[x,some (.int L)]) ?_ ?_ ?_ ?_
   · exact⟨zu.new hD2,zj,rfl,fun j hj=>by omega,none,rfl⟩
   · rintro i ys σ G ⟨s4,e4,_⟩
     exact⟨z7.of (s4 _ _ eD3),e4⟩
   · rintro i u ys σ G hi hlt ⟨s4,e4,ly,hy,x,rfl⟩
     obtain⟨q,ys',eq,hq,fq⟩:=wsa3.2 i (by omega)
     rw[hi] at eq
     cases eq
     have cw:=Pw.ZJ (ps:=ps) (page:=((i:Nat):Int)) g.ca g.cb
     dsimp only [ZU]
     rw[if_pos rfl]
     refine⟨_,rfl,_,rfl,false,q,ys',_,L,rfl,z5.of (s4 _ _ hq),fq.same s4,(by rw[Pw.ZX];omega),fun W hW=>⟨(cw W hW).1,(xZ g.few g.ca g.cb g.sa g.sb W hW).mono (by decide)⟩,hLp,zL.mono (by decide),fun r G1 t1 hr1 er1=>?_⟩
     have hrD2:r≠D2:=by
      rintro rfl
      rw[e4] at hr1;cases hr1
     refine⟨t1 _ _ e4,by rw[ly];exact zU (by omega),Wt.next hlt ⟨fun b o e=>?_,zj,by rw[List.length_append,ly];rfl,fun j hj=>?_,_,rfl⟩⟩
     · rw[zp (zh e hD2)];exact t1 _ _ (s4 _ _ e)
     · by_cases hji:j=i
       · subst hji
         exact⟨r,hrD2,by rw[← ly];simp,by rw[zp hrD2];exact er1⟩
       · obtain⟨r',h0,h1,h2⟩:=hy j (by omega)
         exact⟨r',h0,by rw[List.getElem?_append_left (by omega)];exact h1,by rw[zp h0];exact t1 _ _ h2⟩
   rintro fes σ H4 ⟨s4,e4,ly,hy,_⟩
   have mat:V6 H4 D2 ((List.range pages.toNat).map fun i=>Pw.xx (Pw.zG ps A Bs ((i:Nat):Int)) L):=by
    refine⟨fes,e4,by rw[List.length_map,List.length_range];omega,fun i row e=>?_⟩
    rw[List.getElem?_map] at e
    have hi:i<pages.toNat:=by
     by_cases h:i<pages.toNat
     · exact h
     · rw[List.getElem?_eq_none (by rw[List.length_range];omega)] at e;cases e
    rw[List.getElem?_range hi] at e
    cases e
    obtain⟨r,_,h1,h2⟩:=hy i (by omega)
    exact⟨r,h1,h2⟩
   have s14:=s13.trans s4
   refine⟨_,rfl,false,ro,rs,Rs,DD,rfl,z5.of (s14 _ _ hro),frs.same s14,zW.pos rw.canon,rw.dpos,rw.dsz.mono (by decide),rw.dvd,fun L0 hL0=>?_⟩
   have hL0p:=hL0.pos
   have zL0:Sz 2000 L0:=yU.z0g hL0 rw.dpos rw.dvd rw.dsz
   have hL0D:L0≤DD:=hL0.le rw.dpos rw.dvd
   refine⟨_,rfl,_,rfl,false,ro,rs,Rs,L0,rfl,z5.of (s14 _ _ hro),frs.same s14,by omega,fun R hR=>⟨(rw.canon R hR).1,(rw.jr hR).mono (by decide)⟩,hL0p,zL0.mono (by decide),fun nu H5 s5 hn5 e5=>?_⟩
   have mat5:=mat.same s5
   have lab:(Pw.xx Rs L0).length=pages.toNat:=by unfold Pw.xx;rw[List.length_map,hRl]
   have hMb:∀ i,i≤m.toNat→0<L0 * L ^ i∧L0 * L ^ i≤DD * Pw.Mw ps A SS pages.toNat ^ m.toNat:=fun i hi=>by
    refine⟨Int.mul_pos hL0p (Int.pow_pos hLp),Int.mul_le_mul hL0D ?_ (Int.pow_nonneg (by omega)) (Int.le_of_lt rw.dpos)⟩
    exact Int.le_trans (vU (by omega) hLM i) (JA (by omega) hi)
   have cpos:=rw.cpos
   have zNum:∀ {i t:Nat}{z:Int},i≤m.toNat→t<pages.toNat→(z:Rat)=Pw.Uz ps A Bs pages.toNat i (fun i=>Pw.val (Rs.getD i (0,1))) t * ((L0 * L ^ i:Int):Rat)→Sz 7900 z:=fun {i t z} hi ht e =>
    z4q e (Pw.z4X lk g.ca g.cb hBn pr (fun t ht=>rw.Zx ht) i ht) (by omega) (by omega) (hMb i hi).1 (hMb i hi).2 zM
   have zB:∀ i,i≤m.toNat→Sz 7900 (L0 * L ^ i):=fun i hi=>by
    obtain⟨b1,b2⟩:=hMb i hi
    have x1:(DD * Pw.Mw ps A SS pages.toNat ^ m.toNat)≤16 * CC * (DD * Pw.Mw ps A SS pages.toNat ^ m.toNat):=z1q (by omega) (by omega)
    exact jV (Int.le_of_lt b1) (Int.le_trans b2 x1) zM
   refine⟨_,rfl,m,rfl,by omega,by omega,?_⟩
   refine Z5 (lo:=0) (n:=m.toNat) (fun i σ G=>zu H5 G∧∃ (nu:Addr) (ns:List Int) (v10:Option V),G nu=some (.lst (ns.map V.int))∧ns.length=pages.toNat∧(∀ t,t<pages.toNat→((ns.getD t 0:Int):Rat)=Pw.Uz ps A Bs pages.toNat i (fun i=>Pw.val (Rs.getD i (0,1))) t * ((L0 * L ^ i:Int):Rat)) ∧
    σ=[some (.ref wa),some (.ref lp),some (.ref ls),some (.ref ro),some (.int m),some (.ref D),some (.int L),some (.ref D2),some (.int (L0 * L ^ i)),some (.ref nu),v10]) ?_ ?_ ?_
   · refine⟨zu.refl _,nu,Pw.xx Rs L0,none,e5,lab,fun t ht=>?_,by rw[Int.pow_zero,Int.mul_one];rfl⟩
     have hCi:Rs[t]?=some Rs[t]:=by simp
     have mC:=List.getElem_mem (show t<Rs.length by omega)
     have q1:(Pw.xx Rs L0).getD t 0=Rs[t].1 * (L0.fdiv Rs[t].2):=by
      unfold Pw.xx
      rw[List.getD_eq_getElem?_getD,List.getElem?_map,hCi];rfl
     have q2:Rs.getD t (0,1)=Rs[t]:=by rw[List.getD_eq_getElem?_getD,hCi];rfl
     show _=Pw.val (Rs.getD t (0,1)) * _
     rw[q1,q2,Pw.vI (rw.canon _ mC).1 hL0p (hL0.dvd _ mC),Int.pow_zero,Int.mul_one]
   · rintro i σ G hi ⟨sG,nu,ns,v10,en,ln,hv,rfl⟩
     have hil:i≤m.toNat:=by omega
     refine⟨_,rfl,_,rfl,nu,D2,ns,_,pages.toNat,rfl,en,mat5.same sG,ln,by rw[List.length_map,List.length_range],fun row hrow=>?_,by omega,fun x hx=>?_,fun row hrow x hx=>?_,fun nu' G1 t1 _ en1=>?_⟩
     · obtain⟨j,hj,rfl⟩:=List.mem_map.mp hrow
       unfold Pw.xx
       rw[List.length_map,Pw.ZX,hBn]
     · obtain⟨t,ht,rfl⟩:=List.getElem_of_mem hx
       have et:ns.getD t 0=ns[t]:=by rw[List.getD_eq_getElem?_getD,List.getElem?_eq_getElem ht];rfl
       have:=hv t (by omega)
       rw[et] at this
       exact (zNum hil (by omega) this).mono (by decide)
     · obtain⟨j,hj,rfl⟩:=List.mem_map.mp hrow
       obtain⟨W,hW,rfl⟩:=List.mem_map.mp hx
       have cw:=Pw.ZJ (ps:=ps) (page:=((j:Nat):Int)) g.ca g.cb W hW
       exact ((xZ g.few g.ca g.cb g.sa g.sb W hW).1.mul (Vp hLp cw.1 zL)).mono (by decide)
     · refine⟨_,rfl,_,rfl,_,_,rfl,rfl,⟨(zB i hil).mono (by decide),zL.mono (by decide)⟩,?_⟩
       refine⟨sG.trans t1,nu',_,some (.int (0+((i:Nat):Int))),en1,Pw.VQ _ _ _,fun t ht=>?_,?_⟩
       · rw[Int.pow_succ,← Int.mul_assoc]
         exact Pw.z2M g.ca g.cb hBn hLp hL.dvd hv ht
       · rw[Int.pow_succ,← Int.mul_assoc];rfl
   · rintro σ G ⟨sG,nu,ns,v10,en,ln,hv,rfl⟩
     refine⟨_,rfl,nu,rfl,⟨_,z7.of en⟩,fun D3 hD3=>?_⟩
     have hM0:L0 * L ^ m.toNat≠0:=by have:=(hMb m.toNat (Nat.le_refl _)).1;omega
     refine Yk (K:=K) (a:=nu) (D:=D3) (xs:=ns.map V.int) (fun i ys σ G'=>zu G G'∧G' D3=some (.lst ys)∧Zl K G' ((Pw.itL ps A Bs pages.toNat m.toNat Rs).take i) ys∧∃ x,σ=[x,some (.int (L0 * L ^ m.toNat))]) ?_ ?_ ?_ ?_
     · exact⟨zu.new hD3,zj,rfl,none,rfl⟩
     · rintro i ys σ G' ⟨t4,e4',_⟩
       exact⟨z7.of (t4 _ _ en),e4'⟩
     · rintro i u ys σ G' hi hlt ⟨t4,e4',fl,x,rfl⟩
       rw[List.length_map] at hlt
       have eu:u=.int (ns.getD i 0):=by
        rw[List.getElem?_map,yp (by omega)] at hi
        cases hi;rfl
       subst eu
       have hin:i<pages.toNat:=by omega
       have hvi:=hv i hin
       dsimp only [ZU]
       rw[if_pos rfl]
       refine⟨_,rfl,_,rfl,_,_,rfl,hM0,(zNum (Nat.le_refl _) hin hvi).mono (by decide),(zB _ (Nat.le_refl _)).mono (by decide),fun r G1 t1 f1=>?_⟩
       have f1:xB K G1 r (Pw.mk (ns.getD i 0) (L0 * L ^ m.toNat)):=f1
       have eq:Pw.mk (ns.getD i 0) (L0 * L ^ m.toNat)=Pw.ZL (Pw.Uz ps A Bs pages.toNat m.toNat (fun i=>Pw.val (Rs.getD i (0,1))) i):=by
        rw[Pw.z4Z hM0,hvi]
        congr 1
        have:=Pw.Zi hM0
        grind
       rw[eq] at f1
       have hI:(Pw.itL ps A Bs pages.toNat m.toNat Rs)[i]?=some (Pw.ZL (Pw.Uz ps A Bs pages.toNat m.toNat (fun i=>Pw.val (Rs.getD i (0,1))) i)):=by
        unfold Pw.itL
        rw[List.getElem?_map,List.getElem?_range hin];rfl
       have e5':=t1 _ _ e4'
       refine⟨e5',by rw[fl.len,List.length_take];exact zU (by omega),Wt.next (by rw[List.length_map];exact hlt) ⟨fun b o e=>?_,zj,?_,_,rfl⟩⟩
       · rw[zp (zh e hD3)];exact t1 _ _ (t4 _ _ e)
       · rw[List.take_succ,hI]
         exact ((fl.same t1).snoc f1).kp (KL.set e5')
     · rintro ys σ G' ⟨t4,e4',fl,_⟩
       refine⟨D3,ys,rfl,z7.of e4',fun t G1 t1 _ e1'=>?_⟩
       refine k t G1 ys (s14.trans (s5.trans (sG.trans (t4.trans t1)))) e1' ?_
       rw[List.length_map,ln,List.take_of_length_le (by unfold Pw.itL;rw[List.length_map,List.length_range];exact Nat.le_refl _)] at fl
       exact fl.same t1
theorem V1:zT ["web","leap","leaps","row"] ["web","leap","leaps","row"] (zw Vl):=⟨rfl,rfl,rfl,by decide +kernel,rfl,by decide +kernel,by decide +kernel⟩
set_option maxHeartbeats 0 in
theorem z1k(S:yW K mg "behind" Vl ["web","leap","leaps","row"])(T:Txt mg)(Sv:Def P w K mg base 6 "behind_several" ["web","leap","leaps","row","many"] (vj K)):Def P w K mg base 7 "behind" ["web","leap","leaps","row"] (Xg K):=S.def fun f fd F=>by
 have nd:=V1.nd
 refine F.ok V1 (fun vs H Q E h=>?_) (fun cdv A' outer s H vs Q E hr h=>?_)
 · obtain⟨_,_,_,_,_,_,_,_,_,_,_,_,_,_,rfl,_⟩:=h
   rfl
 · obtain⟨wa,lp,ls,ro,pages,ps,A,Bs,Rs,us,rs,SS,DD,CC,rfl,g,pr,hro,frs,rw,k⟩:=h
   refine⟨_,(@zC _ _ _ (@zS _ _ _ _ (zH (by rfl) (by rfl) (by rfl) (by decide) Sv (hr.mono (by decide)) (@za _ _ _ _ _ (by rfl) (pv 0) (@za _ _ _ _ _ (by rfl) (pv 1) (@za _ _ _ _ _ (by rfl) (pv 2) (@za _ _ _ _ _ (by rfl) (pv 3) (@za _ _ _ _ _ (by rfl) zg zb)))))))),?_⟩
   have zz:Sz 7900 (16 * CC * (DD * Pw.Mw ps A SS pages.toNat ^ (1:Int).toNat)):=by
    have zm:=Pw.z4g (ps:=ps) (n:=pages.toNat) g.few g.sa.2 pr.ssz
    have z16:Sz 5 (16:Int):=zR 5 (by decide)
    have e:16 * CC * (DD * Pw.Mw ps A SS pages.toNat ^ (1:Int).toNat)=16 * (CC * DD) * Pw.Mw ps A SS pages.toNat:=by
     rw[show (1:Int).toNat=1 from rfl,Int.pow_one]
     grind
    rw[e]
    have phi:=g.phi
    exact ((z16.mul rw.sz).mul zm).mono (by omega)
   have hBn:Bs.length=pages.toNat:=by have:=g.len;omega
   refine⟨_,rfl,_,rfl,_,rfl,_,rfl,wa,lp,ls,ro,pages,1,ps,A,Bs,Rs,us,rs,SS,DD,CC,rfl,by decide,by decide,g,pr,hro,frs,rw,zz,fun t H' ys s e f=>k t H' ys s e ?_⟩
   have f:Zl K H' (Pw.itL ps A Bs pages.toNat 1 Rs) ys:=f
   rwa [Pw.z2q hBn] at f
theorem z7t:(["k","found","row","page","step"]:List Str).Nodup:=by decide +kernel
theorem ve:zT ["web","leap","leaps","row","found","page","step"] ["web","leap","leaps","row"] (zw xW):=⟨rfl,rfl,rfl,by decide +kernel,rfl,by decide +kernel,by decide +kernel⟩
theorem JB(S:yW K mg "_law_behind" xW ["web","leap","leaps","row"])(T:Txt mg)(LW:Def P w K mg base 3 "_law_ways" ["web","leap","leaps","page"] (qY K))(Pl:Def P w K mg base 2 "_law_plus" ["one","other"] (yh K Pw.ZI))(Ti:Def P w K mg base 2 "_law_times" ["one","other"] (yh K Pw.Zm)):Def P w K mg base 4 "_law_behind" ["web","leap","leaps","row"] (Xg K):=S.def fun f fd F=>by
 have nd:=ve.nd
 refine F.ok ve (fun vs H Q E h=>?_) (fun cdv A' outer s H vs Q E hr h=>?_)
 · obtain⟨_,_,_,_,_,_,_,_,_,_,_,_,_,_,rfl,_⟩:=h
   rfl
 · obtain⟨wa,lp,ls,ro,pages,ps,A,Bs,Rs,us,rs,SS,DD,CC,rfl,g,pr,hro,frs,rw,k⟩:=h
   have hr2:=hr.mono (show 2≤3 by decide)
   refine⟨_,@zo _ _ _ _ _ (@zK _ _ 4 _ _ _ _ (by rfl) (Or.inl rfl) nd rfl (Or.inr rfl) (zI jG (@Ze _ _ _ _ (@za _ _ _ _ _ (by rfl) (@zq _ _ _ _ _ (@za _ _ _ _ _ (by rfl) zg (@za _ _ _ _ _ (by rfl) zg zb))) zb)) (zD zN (pv 0) zg (fun _ _=>rfl))))
    (@zo _ _ _ _ _ (@ZW _ _ _ _ _ _ _ _ (fun _=>rfl) PassesOwn.never rfl (Zk rfl T.range (@za _ _ _ _ _ (by rfl) (zD zN (pv 0) zg (fun _ _=>rfl)) zb)) (zQ (i:=5) nd rfl (Or.inr rfl))
     (@zo _ _ _ _ _ (@zK _ _ 6 _ _ _ _ (by rfl) (Or.inl rfl) nd rfl (Or.inr rfl) (zH (by rfl) (by rfl) (by rfl) (by decide) LW hr (@za _ _ _ _ _ (by rfl) (pv 0) (@za _ _ _ _ _ (by rfl) (pv 1) (@za _ _ _ _ _ (by rfl) (pv 2) (@za _ _ _ _ _ (by rfl) (pv 5) zb))))))
     (@zC _ _ _ (@zK _ _ 4 _ _ _ _ (by rfl) (Or.inl rfl) nd rfl (Or.inr rfl) (Zg ["k","found","row","page","step"] [none,some 4,some 3,some 5,some 6] rfl (Zk rfl T.range (@za _ _ _ _ _ (by rfl) (zD zN (pv 0) zg (fun _ _=>rfl)) zb))
      (by show ∀ y:Str×NameKind,y∈_→y.2=NameKind.free→(zw xW).names.lookup y.1=some .cell;decide +kernel) (by decide) rfl (by decide +kernel) ⟨⟨rfl,rfl,.inl rfl⟩,⟨rfl,rfl,.inl rfl⟩,⟨rfl,rfl,.inl rfl⟩,⟨rfl,rfl,.inl rfl⟩,trivial⟩
      (fun cl C s H fp=>zQ (i:=0) z7t rfl (Or.inl rfl) (.inr rfl)) (fun cl C s H fp=>Zz)
      (fun cl C s H fp=>zH (by rfl) (by rfl) (by rfl) (by decide) Pl hr2 (@za _ _ _ _ _ (by rfl) (zD (ZG (K:=K) rfl) (pv 1) (pv 0) (fun _ _=>rfl)) (@za _ _ _ _ _ (by rfl) (zH (by rfl) (by rfl) (by rfl) (by decide) Ti hr2 (@za _ _ _ _ _ (by rfl) (zD (qh (K:=K) rfl) (pv 2) (pv 3) (fun _ _=>rfl)) (@za _ _ _ _ _ (by rfl) (zD (ZG (K:=K) rfl) (pv 4) (pv 0) (fun _ _=>rfl)) zb))) zb))))))))
    (@zC _ _ _ (@zS _ _ _ _ (Zd ZK (by rfl) T.tup boot_tuple (@za _ _ _ _ _ (by rfl) (pv 4) zb))))),?_⟩
   have plo:=g.plo
   have phi:=g.phi
   have hlen:=g.len
   have hRl:=rw.len
   have hBn:Bs.length=pages.toNat:=by omega
   have lk:∀ p∈ps,0≤p.2∧p.2<((pages.toNat:Nat):Int):=fun p hp=>by
    have:=g.lk p hp
    omega
   obtain⟨ws0,uw0,hwa,hws,hpw⟩:=id g.web
   refine⟨(by show 2≤sizeLine;decide),fun q0 G0 t0 m0 e0=>⟨(by show 1≤sizeLine;decide),fun l0 G1 t1 m1 e1=>?_⟩⟩
   have t01:=t0.trans t1
   refine⟨_,rfl,wa,_,_,_,rfl,rfl,z5.of (t01 _ _ hwa),rfl,l0,pages,_,rfl,rfl,e1,by omega,by omega,(by show 1 * pages.toNat≤sizeLine;exact Nat.le_of_lt (zU (by omega))),fun fo0 G2 t2 m2 e2=>?_⟩
   have t02:=t01.trans t2
   refine⟨_,rfl,wa,_,_,_,rfl,rfl,z5.of (t02 _ _ hwa),rfl,pages,rfl,by omega,by omega,?_⟩
   refine Z5 (lo:=0) (n:=pages.toNat) (fun j σ G=>zu H G∧∃ (fo:Addr) (ys:List V) (v5 v6:Option V),G fo=some (.lst ys)∧Zl K G ((List.range pages.toNat).map fun t=>Pw.ZL (Pw.qs j (fun i=>Pw.val (Rs.getD i (0,1)) * Pw.val ((Pw.zG ps A Bs i).getD t (0,1))))) ys∧σ=[some (.ref wa),some (.ref lp),some (.ref ls),some (.ref ro),some (.ref fo),v5,v6]) ?_ ?_ ?_
   · refine⟨t02,fo0,_,none,none,e2,?_,rfl⟩
     have:(List.range pages.toNat).map (fun t=>Pw.ZL (Pw.qs 0 (fun i=>Pw.val (Rs.getD i (0,1)) * Pw.val ((Pw.zG ps A Bs i).getD t (0,1)))))=List.replicate pages.toNat (0,1):=by
      show (List.range pages.toNat).map (fun _=>((0:Int),(1:Int)))=_
      rw[List.map_const',List.length_range]
     rw[this]
     exact Zl.rep (t2 _ _ (t1 _ _ e0)) _
   · rintro j σ G hj ⟨sG,fo,ys,v5,v6,eF,fl,rfl⟩
     rw[Int.zero_add]
     have gG:=g.same sG
     refine⟨_,rfl,_,rfl,_,rfl,_,rfl,wa,lp,ls,pages,j,ps,A,Bs,us,rfl,gG,fun st G3 zs t3 _ e3 f3=>?_⟩
     have s3:=sG.trans t3
     refine⟨_,rfl,wa,_,_,_,rfl,rfl,z5.of (s3 _ _ hwa),rfl,pages,rfl,by omega,by omega,fun D hD=>?_⟩
     have fl3:=fl.same t3
     have eF3:=t3 _ _ eF
     have fr3:=frs.same s3
     refine Z1 (lo:=0) (n:=pages.toNat) (D:=D) (fun i ws σ H'=>zu G3 H'∧H' D=some (.lst ws)∧Zl K H' ((List.range i).map fun t=>Pw.ZL (Pw.qs (j+1) (fun i=>Pw.val (Rs.getD i (0,1)) * Pw.val ((Pw.zG ps A Bs i).getD t (0,1))))) ws∧∃ x,σ=[x,some (.ref fo),some (.ref ro),some (.int j),some (.ref st)]) ?_ ?_ ?_ ?_
     · exact⟨zu.new hD,zj,rfl,none,rfl⟩
     · rintro i ws σ H' ⟨_,e,_⟩
       exact e
     · rintro t ws σ H' ht ⟨s4,e4,fl4,x,rfl⟩
       rw[Int.zero_add]
       dsimp only [ZU]
       rw[if_pos rfl]
       have htF:t<((List.range pages.toNat).map fun t=>Pw.ZL (Pw.qs j (fun i=>Pw.val (Rs.getD i (0,1)) * Pw.val ((Pw.zG ps A Bs i).getD t (0,1))))).length:=by rw[List.length_map,List.length_range];omega
       obtain⟨q1,eq1,fq1⟩:=(fl3.same s4).at (j:=t) (A:=Pw.ZL (Pw.qs j (fun i=>Pw.val (Rs.getD i (0,1)) * Pw.val ((Pw.zG ps A Bs i).getD t (0,1))))) (by rw[List.getElem?_map,List.getElem?_range ht];rfl)
       have hjR:j<Rs.length:=by omega
       obtain⟨q2,eq2,fq2⟩:=(fr3.same s4).at (j:=j) (A:=Rs.getD j (0,1)) (by rw[List.getD_eq_getElem?_getD,List.getElem?_eq_getElem hjR];rfl)
       have htW:t<(Pw.zG ps A Bs j).length:=by rw[Pw.ZX];omega
       obtain⟨q3,eq3,fq3⟩:=(f3.same s4).at (j:=t) (A:=(Pw.zG ps A Bs j).getD t (0,1)) (by rw[List.getD_eq_getElem?_getD,List.getElem?_eq_getElem htW];rfl)
       have mR:=mem_getD hjR
       have mW:=mem_getD htW
       have cR:=rw.canon _ mR
       have cW:=Pw.ZJ (ps:=ps) (page:=(j:Int)) g.ca g.cb _ mW
       obtain⟨z1,z2⟩:=z1U lk g.few g.ca g.sa g.cb hBn (by omega) pr rw (j:=j) (t:=t) (by omega) ht
       have cS:=Pw.z8 (Pw.qs j (fun i=>Pw.val (Rs.getD i (0,1)) * Pw.val ((Pw.zG ps A Bs i).getD t (0,1))))
       refine⟨_,rfl,_,rfl,fo,ys,(t:Nat),.ref q1,rfl,rfl,z7.of (s4 _ _ eF3),zY eq1,?_⟩
       refine⟨_,rfl,_,rfl,ro,rs,(j:Nat),.ref q2,rfl,rfl,z5.of (s4 _ _ (s3 _ _ hro)),zY eq2,?_⟩
       refine⟨_,rfl,_,rfl,st,zs,(t:Nat),.ref q3,rfl,rfl,z7.of (s4 _ _ e3),zY eq3,?_⟩
       refine⟨q2,q3,_,_,rfl,xA.of fq2,xA.of fq3,cR.1,cW.1,(rw.jr mR).mono (by decide),(xZ g.few g.ca g.cb g.sa g.sb _ mW).mono (by decide),fun r5 G5 s5 f5=>?_⟩
       rw[Pw.xO (Pw.zE cR) (Pw.zE cW)] at f5
       refine⟨q1,r5,_,_,rfl,xA.of (s5 _ _ fq1),xA.of f5,cS.1,(Pw.z8 _).1,z1.mono (by decide),(z2 j hj).mono (by decide),fun r6 G6 s6 f6=>?_⟩
       rw[Pw.Y7 (Pw.zE cS) (Pw.zE (Pw.z8 _)),Pw.Zq,Pw.Zq] at f6
       have e4':=s6 _ _ (s5 _ _ e4)
       refine⟨e4',?_,Wt.next ht ⟨fun b o e=>?_,zj,?_,_,rfl⟩⟩
       · rw[fl4.len,List.length_map,List.length_range]
         exact zU (by omega)
       · rw[zp (zh e hD)];exact s6 _ _ (s5 _ _ (s4 _ _ e))
       · rw[List.range_succ,List.map_append]
         exact ((fl4.same (s5.trans s6)).snoc (A:=Pw.ZL (Pw.qs (j+1) (fun i=>Pw.val (Rs.getD i (0,1)) * Pw.val ((Pw.zG ps A Bs i).getD t (0,1))))) f6).kp (KL.set e4')
     rintro ws σ H4 ⟨s4,e4,fl4,_⟩
     exact⟨s3.trans s4,D,ws,_,_,e4,fl4,rfl⟩
   · rintro σ G ⟨sG,fo,ys,v5,v6,eF,fl,rfl⟩
     refine⟨_,rfl,fo,ys,rfl,z7.of eF,fun t H4 s4 n4 e4=>?_⟩
     refine k t H4 ys (sG.trans s4) e4 ?_
     unfold Pw.YM Pw.Qv
     rw[hBn]
     exact fl.same s4
end
end Lw
namespace Lw
open PySem L2 PyProof.Rows
set_option maxHeartbeats 0 in
theorem all_mk{l:PySem.W.OpenLaw}{w:World}{K:PySem.W.Frag}{h:Heap}{mg:Str→Option Value}{fa f44 zONE zZERO:Addr}(XK:K.In h)(G:h.Ns mainGlobals mg)(hfa:mg "law"=some (.ref fa))
 {odONE:Option Addr}{slONE:Array (Option Value)}{nONE:Nat}{tONE uONE:Tok}
 {odZERO:Option Addr}{slZERO:Array (Option Value)}{nZERO:Nat}{tZERO uZERO:Tok}
 {od an:Option Addr}{sl:Array (Option Value)}{oc kV dc pm cd ct:Value}
 (aONE:PySem.W.nsIn K mainGlobals "ONE"=some (some (.ref zONE))) (lONE:K.lookup zONE=some ⟨.type "tuple",odONE,.seq #[.int 1 tONE,.int 1 uONE] nONE,slONE⟩)
 (aZERO:PySem.W.nsIn K mainGlobals "ZERO"=some (some (.ref zZERO))) (lZERO:K.lookup zZERO=some ⟨.type "tuple",odZERO,.seq #[.int 0 tZERO,.int 1 uZERO] nZERO,slZERO⟩)
 (A3:FnAt K "is_whole" Uy)
 (A4:FnAt K "common" Y4)
 (A5:FnAt K "is_pair_of_wholes" z0Q)
 (A6:FnAt K "is_fraction" z3V)
 (A7:FnAt K "made" jU)
 (A8:FnAt K "plus" z1r)
 (A9:FnAt K "less" JJ)
 (A10:FnAt K "times" US)
 (A11:FnAt K "total" UW)
 (A12:FnAt K "shared_below" Uw)
 (A13:FnAt K "aboves" X3)
 (A15:FnAt K "leads" qB)
 (A16:FnAt K "is_share" Ub)
 (A17:FnAt K "are_leaps" z2x)
 (A19:FnAt K "way" z5i)
 (A20:FnAt K "ways" jI)
 (A21:FnAt K "moved" qf)
 (A22:FnAt K "behind_several" Zv)
 (A23:FnAt K "behind" Vl)
 (A25:FnAt K "are_shares" UY)
 (A27:FnAt K "_law_hand" jj)
 (A28:FnAt K "_law_draw" xh)
 (A29:FnAt K "_law_cells" vF)
 (A30:FnAt K "_law_great" vz)
 (A31:FnAt K "_law_frac" XY)
 (A32:FnAt K "_law_plus" Ut)
 (A33:FnAt K "_law_times" vt)
 (A34:FnAt K "_law_web" JT)
 (A35:FnAt K "_law_leap" VC)
 (A36:FnAt K "_law_leaps" YB)
 (A37:FnAt K "_law_is_fraction" jv)
 (A38:FnAt K "_law_ways" Vz)
 (A39:FnAt K "_law_behind" xW)
 (A40:FnAt K "_law_solved" ZM)
 (A41:FnAt K "_law_shares" ya)
 (A42:FnAt K "_law_spoilt" yL)
 (A43:FnAt K "_law_again" yY)
 (aL:PySem.W.nsIn K mainGlobals "law"=some (some (.ref f44))) (lL:K.lookup f44=some ⟨oc,od,.func (PySem.W.fnOf "law" "law" (yZ QD) (yK QD) (zw QD) .none kV dc pm an cd ct),sl⟩) (cL:PySem.W.codeIn K cd "law"=true) (kL:PySem.W.keepIn K (.ref f44)=true)
 (zabs:PySem.W.nsIn K mainGlobals "abs"=some none)
 (zisi:PySem.W.nsIn K mainGlobals "isinstance"=some none)
 (ztup:PySem.W.nsIn K mainGlobals "tuple"=some none)
 (zint:PySem.W.nsIn K mainGlobals "int"=some none)
 (zbool:PySem.W.nsIn K mainGlobals "bool"=some none)
 (zlst:PySem.W.nsIn K mainGlobals "list"=some none)
 (zenu:PySem.W.nsIn K mainGlobals "enumerate"=some none)
 (zlen:PySem.W.nsIn K mainGlobals "len"=some none)
 (zrange:PySem.W.nsIn K mainGlobals "range"=some none)
 (zsrt:PySem.W.nsIn K mainGlobals "sorted"=some none)
 (zsum:PySem.W.nsIn K mainGlobals "sum"=some none)
 (zzip:PySem.W.nsIn K mainGlobals "zip"=some none)
 (zmax:PySem.W.nsIn K mainGlobals "max"=some none)
 (zall:PySem.W.nsIn K mainGlobals "all"=some none)
 (zstr:PySem.W.nsIn K mainGlobals "str"=some none)
:∃ fd:FuncData,(∀ (s:Shared) (v:Value),BindsTo s fd ⟨[v],[]⟩ [("script",v)])∧∀ base:Heap,K.In base→base.Ns mainGlobals mg→ZY l.prog w K mg base XR 9 fa fd ["script"] (jl K):=by
 have e:=hfa.symm.trans (PySem.W.mg_of XK G aL)
 cases e
 have F44:=z1B (st:=QD) lL cL kL
 have nWhole:=A3.YL ["thing"] XK G fun _ _ _ _ _ _ us hl=>match us,hl with | [_],_=>rfl
 have nCommon:=A4.YL ["one","other"] XK G fun _ _ _ _ _ _ us hl=>match us,hl with | [_,_],_=>rfl
 have nPair:=A5.YL ["thing"] XK G fun _ _ _ _ _ _ us hl=>match us,hl with | [_],_=>rfl
 have nIsF:=A6.YL ["thing"] XK G fun _ _ _ _ _ _ us hl=>match us,hl with | [_],_=>rfl
 have nMade:=A7.YL ["above","below"] XK G fun _ _ _ _ _ _ us hl=>match us,hl with | [_,_],_=>rfl
 have nPlus:=A8.YL ["one","other"] XK G fun _ _ _ _ _ _ us hl=>match us,hl with | [_,_],_=>rfl
 have nLess:=A9.YL ["one","other"] XK G fun _ _ _ _ _ _ us hl=>match us,hl with | [_,_],_=>rfl
 have nTimes:=A10.YL ["one","other"] XK G fun _ _ _ _ _ _ us hl=>match us,hl with | [_,_],_=>rfl
 have nTotal:=A11.YL ["some"] XK G fun _ _ _ _ _ _ us hl=>match us,hl with | [_],_=>rfl
 have nBelow:=A12.YL ["some"] XK G fun _ _ _ _ _ _ us hl=>match us,hl with | [_],_=>rfl
 have nAboves:=A13.YL ["some","below"] XK G fun _ _ _ _ _ _ us hl=>match us,hl with | [_,_],_=>rfl
 have nLeads:=A15.YL ["web","page"] XK G fun _ _ _ _ _ _ us hl=>match us,hl with | [_,_],_=>rfl
 have nShare:=A16.YL ["thing"] XK G fun _ _ _ _ _ _ us hl=>match us,hl with | [_],_=>rfl
 have nAre:=A17.YL ["web","thing"] XK G fun _ _ _ _ _ _ us hl=>match us,hl with | [_,_],_=>rfl
 have nWay:=A19.YL ["leap","share","links","many"] XK G fun _ _ _ _ _ _ us hl=>match us,hl with | [_,_,_,_],_=>rfl
 have nWays:=A20.YL ["web","leap","leaps","page"] XK G fun _ _ _ _ _ _ us hl=>match us,hl with | [_,_,_,_],_=>rfl
 have n_moved:=A21.YL ["numbers","from_each"] XK G fun _ _ _ _ _ _ us hl=>match us,hl with | [_,_],_=>rfl
 have n_behind_several:=A22.YL ["web","leap","leaps","row","many"] XK G fun _ _ _ _ _ _ us hl=>match us,hl with | [_,_,_,_,_],_=>rfl
 have nBehind:=A23.YL ["web","leap","leaps","row"] XK G fun _ _ _ _ _ _ us hl=>match us,hl with | [_,_,_,_],_=>rfl
 have nAreSh:=A25.YL ["web","leap","leaps","thing"] XK G fun _ _ _ _ _ _ us hl=>match us,hl with | [_,_,_,_],_=>rfl
 have nHand:=A27.YL ["cell","k"] XK G fun _ _ _ _ _ _ us hl=>match us,hl with | [_,_],_=>rfl
 have nDraw:=A28.YL ["hand","limit"] XK G fun _ _ _ _ _ _ us hl=>match us,hl with | [_,_],_=>rfl
 have nCells:=A29.YL ["script","many"] XK G fun _ _ _ _ _ _ us hl=>match us,hl with | [_,_],_=>rfl
 have nGreat:=A30.YL ["script"] XK G fun _ _ _ _ _ _ us hl=>match us,hl with | [_],_=>rfl
 have nFrac:=A31.YL ["above","below"] XK G fun _ _ _ _ _ _ us hl=>match us,hl with | [_,_],_=>rfl
 have nLPlus:=A32.YL ["one","other"] XK G fun _ _ _ _ _ _ us hl=>match us,hl with | [_,_],_=>rfl
 have nLTimes:=A33.YL ["one","other"] XK G fun _ _ _ _ _ _ us hl=>match us,hl with | [_,_],_=>rfl
 have nWeb:=A34.YL ["hand","great"] XK G fun _ _ _ _ _ _ us hl=>match us,hl with | [_,_],_=>rfl
 have nLLeap:=A35.YL ["hand"] XK G fun _ _ _ _ _ _ us hl=>match us,hl with | [_],_=>rfl
 have nLLeaps:=A36.YL ["hand","pages"] XK G fun _ _ _ _ _ _ us hl=>match us,hl with | [_,_],_=>rfl
 have nLIsF:=A37.YL ["thing"] XK G fun _ _ _ _ _ _ us hl=>match us,hl with | [_],_=>rfl
 have nLWays:=A38.YL ["web","leap","leaps","page"] XK G fun _ _ _ _ _ _ us hl=>match us,hl with | [_,_,_,_],_=>rfl
 have nLBehind:=A39.YL ["web","leap","leaps","row"] XK G fun _ _ _ _ _ _ us hl=>match us,hl with | [_,_,_,_],_=>rfl
 have n_law_solved:=A40.YL ["rows"] XK G fun _ _ _ _ _ _ us hl=>match us,hl with | [_],_=>rfl
 have n_law_shares:=A41.YL ["web","leap","leaps"] XK G fun _ _ _ _ _ _ us hl=>match us,hl with | [_,_,_],_=>rfl
 have n_law_spoilt:=A42.YL ["hand","row"] XK G fun _ _ _ _ _ _ us hl=>match us,hl with | [_,_],_=>rfl
 have n_law_again:=A43.YL ["hand","thing"] XK G fun _ _ _ _ _ _ us hl=>match us,hl with | [_,_],_=>rfl
 have T:Txt mg:=⟨PySem.W.mg_none_of XK G zabs,PySem.W.mg_none_of XK G zisi,PySem.W.mg_none_of XK G ztup,PySem.W.mg_none_of XK G zint,PySem.W.mg_none_of XK G zbool,PySem.W.mg_none_of XK G zlst,PySem.W.mg_none_of XK G zenu,PySem.W.mg_none_of XK G zlen,PySem.W.mg_none_of XK G zrange,PySem.W.mg_none_of XK G zsrt,PySem.W.mg_none_of XK G zsum,PySem.W.mg_none_of XK G zzip,PySem.W.mg_none_of XK G zmax⟩
 have zall:=PySem.W.mg_none_of XK G zall
 have zstr:=PySem.W.mg_none_of XK G zstr
 have hONE:∀ H,xA K H zONE (1,1):=fun H=>.inr ⟨_,_,_,lONE,rfl,rfl,(by show 2≤sizeLine;decide),.cons ⟨_,rfl⟩ (.cons ⟨_,rfl⟩ .nil)⟩
 have mONE:=PySem.W.mg_of XK G aONE
 have hZERO:∀ H,xA K H zZERO (0,1):=fun H=>.inr ⟨_,_,_,lZERO,rfl,rfl,(by show 2≤sizeLine;decide),.cons ⟨_,rfl⟩ (.cons ⟨_,rfl⟩ .nil)⟩
 have mZERO:=PySem.W.mg_of XK G aZERO
 refine⟨PySem.W.fnOf "law" "law" (yZ QD) (yK QD) (zw QD) .none kV dc pm an cd ct,fun s v=>.of_eq rfl,fun base _ _=>?_⟩
 · skip
   have dM:Def l.prog w K mg base 2 "made" ["above","below"] YH:=z4P nMade nCommon T
   have dF:Def l.prog w K mg base 1 "_law_frac" ["above","below"] Yd:=z4M nFrac T
   have dCo:Def l.prog w K mg base 1 "common" ["one","other"] Yl:=z1z nCommon
   have dBe:=z2b nBelow dCo
   have dAb:Def l.prog w K mg base 1 "aboves" ["some","below"] (qx K):=z0c nAboves
   have dLd:Def l.prog w K mg base 1 "leads" ["web","page"] (X9 K Pw.outs):=z2e nLeads
   have dPl:=z3W nPlus dM
   have dLe:=z4G nLess dM
   have dTi:=z1Y nTimes dM
   have dWy:=z6M nWay mONE hONE dPl dLe dTi dM
   have dWs:=z4z nWays T dLd dWy
   have dMo:Def l.prog w K mg base 1 "moved" ["numbers","from_each"] (vN K):=z3g n_moved T
   have dSv:=XA n_behind_several T dWs dBe dAb dMo dM
   have dBh:=z1k nBehind T dSv
   have dLPl:=Uk nLPlus dF
   have dLTi:=ur nLTimes dF
   have dWh:Def l.prog w K mg base 1 "is_whole" ["thing"] (Ql K):=Ul nWhole T
   have dPW:=Y9 nPair T dWh
   have dIF:=Qw nIsF T dPW dCo
   have dIS:=UJ nShare T dIF
   have dTo:=z2H nTotal mZERO hZERO dPl
   have dAL:=VW nAre T zall mONE hONE dIS dTo
   have dAS:=vX nAreSh T dAL dBh
   have dLW:=z2a nLWays T dLPl dLTi
   have dLB:=JB nLBehind T dLW dLPl dLTi
   have dSv:=vy n_law_solved T dLPl dLTi
   have dSF:=vV n_law_shares T dLW dLPl dSv
   have dLf:=Xo nLIsF T dF
   have dSo:=Vw n_law_spoilt T zstr (z5f nDraw) dLPl dLTi
   have dAg:=uh n_law_again T dLf dSo
   exact z4W F44 T dAS dLf (z2A nCells T) (z3T nHand) (z5G nWeb T nDraw) (z2X nGreat T) (z1V nLLeap T nDraw nFrac) (z1L nLLeaps T nDraw nFrac) dSF dSo dAg dLB
theorem walk{l:PySem.W.OpenLaw}{q:Program}{loose:List Str}{XP:(Str→Option Value)→Heap→Prop}{YP:World→Heap→Prop}{d:DefRec}{K:Params→PySem.W.Frag}(hn:l.most=some 63)(hdf:d.params.defaults=[])
 (hY:∀ (w:World) (h:Heap),YP w h→(K w.params).In h)
 (F:∀ (w:World) (mg:Str→Option Value) (fa:Addr) (h:Heap),(K w.params).In h→h.Ns mainGlobals mg→mg d.name=some (.ref fa) →
  ∃ fd:FuncData,(∀ (s:Shared) (u:Value),BindsTo s fd ⟨[u],[]⟩ [("script",u)])∧∀ base:Heap,(K w.params).In base→base.Ns mainGlobals mg→ZY l.prog w (K w.params) mg base XR 9 fa fd ["script"] (jl (K w.params))) :
 PySem.W.WalkO q loose XP YP l.row.toRowW d [] (fun f vs=>PySem.call f vs) :=
 L2.z2T (n:=63) (k:=9) (x:="script") (CX:=fun _=>XR) (sp:=fun w=>jl (K w.params)) hn (by decide) hdf ⟨rfl,by decide,by decide,rfl⟩ hY F (fun _ _ a ns hl _ hS=>⟨a,ns,rfl,hS,hl,fun _=>rfl⟩) fun _ _ _ _ _ z=>z
end Lw
open PySem PySem.W PyProof.Rows
set_option maxRecDepth 100000 in
set_option maxHeartbeats 0 in
theorem PySem.Challenge.cw_pagewalks_k12_shares_looked_at_holds : PySem.Challenge.rw_pagewalks_k12_shares_looked_at.Holds := by
 w_on;o_law;(set_option synthInstance.maxSize 1 in k_head);(case hw=>w_witness2)
 k_fill
 refine Lw.walk (l:=PySem.Challenge.rw_pagewalks_k12_shares_looked_at) rfl rfl (fun w h Y=>PySem.W.kIn_of Y) ?F
 case F =>
  intro w mg fa h KX G hmg
  refine' Lw.all_mk KX G hmg ?aONE ?lONE ?aZERO ?lZERO ?A3 ?A4 ?A5 ?A6 ?A7 ?A8 ?A9 ?A10 ?A11 ?A12 ?A13 ?A15 ?A16 ?A17 ?A19 ?A20 ?A21 ?A22 ?A23 ?A25 ?A27 ?A28 ?A29 ?A30 ?A31 ?A32 ?A33 ?A34 ?A35 ?A36 ?A37 ?A38 ?A39 ?A40 ?A41 ?A42 ?A43 ?aL ?lL ?cL ?kL ?zabs ?zisi ?ztup ?zint ?zbool ?zlst ?zenu ?zlen ?zrange ?zsrt ?zsum ?zzip ?zmax ?zall ?zstr
  (case aONE=>k_is)
  (case lONE=>k_is)
  (case aZERO=>k_is)
  (case lZERO=>k_is)
  (case A3=>refine' L2.FnAt.of ?a ?l ?c ?k;(case a=>k_is);(case l=>k_is);(case c=>k_is);(case k=>k_is))
  (case A4=>refine' L2.FnAt.of ?a ?l ?c ?k;(case a=>k_is);(case l=>k_is);(case c=>k_is);(case k=>k_is))
  (case A5=>refine' L2.FnAt.of ?a ?l ?c ?k;(case a=>k_is);(case l=>k_is);(case c=>k_is);(case k=>k_is))
  (case A6=>refine' L2.FnAt.of ?a ?l ?c ?k;(case a=>k_is);(case l=>k_is);(case c=>k_is);(case k=>k_is))
  (case A7=>refine' L2.FnAt.of ?a ?l ?c ?k;(case a=>k_is);(case l=>k_is);(case c=>k_is);(case k=>k_is))
  (case A8=>refine' L2.FnAt.of ?a ?l ?c ?k;(case a=>k_is);(case l=>k_is);(case c=>k_is);(case k=>k_is))
  (case A9=>refine' L2.FnAt.of ?a ?l ?c ?k;(case a=>k_is);(case l=>k_is);(case c=>k_is);(case k=>k_is))
  (case A10=>refine' L2.FnAt.of ?a ?l ?c ?k;(case a=>k_is);(case l=>k_is);(case c=>k_is);(case k=>k_is))
  (case A11=>refine' L2.FnAt.of ?a ?l ?c ?k;(case a=>k_is);(case l=>k_is);(case c=>k_is);(case k=>k_is))
  (case A12=>refine' L2.FnAt.of ?a ?l ?c ?k;(case a=>k_is);(case l=>k_is);(case c=>k_is);(case k=>k_is))
  (case A13=>refine' L2.FnAt.of ?a ?l ?c ?k;(case a=>k_is);(case l=>k_is);(case c=>k_is);(case k=>k_is))
  (case A15=>refine' L2.FnAt.of ?a ?l ?c ?k;(case a=>k_is);(case l=>k_is);(case c=>k_is);(case k=>k_is))
  (case A16=>refine' L2.FnAt.of ?a ?l ?c ?k;(case a=>k_is);(case l=>k_is);(case c=>k_is);(case k=>k_is))
  (case A17=>refine' L2.FnAt.of ?a ?l ?c ?k;(case a=>k_is);(case l=>k_is);(case c=>k_is);(case k=>k_is))
  (case A19=>refine' L2.FnAt.of ?a ?l ?c ?k;(case a=>k_is);(case l=>k_is);(case c=>k_is);(case k=>k_is))
  (case A20=>refine' L2.FnAt.of ?a ?l ?c ?k;(case a=>k_is);(case l=>k_is);(case c=>k_is);(case k=>k_is))
  (case A21=>refine' L2.FnAt.of ?a ?l ?c ?k;(case a=>k_is);(case l=>k_is);(case c=>k_is);(case k=>k_is))
  (case A22=>refine' L2.FnAt.of ?a ?l ?c ?k;(case a=>k_is);(case l=>k_is);(case c=>k_is);(case k=>k_is))
  (case A23=>refine' L2.FnAt.of ?a ?l ?c ?k;(case a=>k_is);(case l=>k_is);(case c=>k_is);(case k=>k_is))
  (case A25=>refine' L2.FnAt.of ?a ?l ?c ?k;(case a=>k_is);(case l=>k_is);(case c=>k_is);(case k=>k_is))
  (case A27=>refine' L2.FnAt.of ?a ?l ?c ?k;(case a=>k_is);(case l=>k_is);(case c=>k_is);(case k=>k_is))
  (case A28=>refine' L2.FnAt.of ?a ?l ?c ?k;(case a=>k_is);(case l=>k_is);(case c=>k_is);(case k=>k_is))
  (case A29=>refine' L2.FnAt.of ?a ?l ?c ?k;(case a=>k_is);(case l=>k_is);(case c=>k_is);(case k=>k_is))
  (case A30=>refine' L2.FnAt.of ?a ?l ?c ?k;(case a=>k_is);(case l=>k_is);(case c=>k_is);(case k=>k_is))
  (case A31=>refine' L2.FnAt.of ?a ?l ?c ?k;(case a=>k_is);(case l=>k_is);(case c=>k_is);(case k=>k_is))
  (case A32=>refine' L2.FnAt.of ?a ?l ?c ?k;(case a=>k_is);(case l=>k_is);(case c=>k_is);(case k=>k_is))
  (case A33=>refine' L2.FnAt.of ?a ?l ?c ?k;(case a=>k_is);(case l=>k_is);(case c=>k_is);(case k=>k_is))
  (case A34=>refine' L2.FnAt.of ?a ?l ?c ?k;(case a=>k_is);(case l=>k_is);(case c=>k_is);(case k=>k_is))
  (case A35=>refine' L2.FnAt.of ?a ?l ?c ?k;(case a=>k_is);(case l=>k_is);(case c=>k_is);(case k=>k_is))
  (case A36=>refine' L2.FnAt.of ?a ?l ?c ?k;(case a=>k_is);(case l=>k_is);(case c=>k_is);(case k=>k_is))
  (case A37=>refine' L2.FnAt.of ?a ?l ?c ?k;(case a=>k_is);(case l=>k_is);(case c=>k_is);(case k=>k_is))
  (case A38=>refine' L2.FnAt.of ?a ?l ?c ?k;(case a=>k_is);(case l=>k_is);(case c=>k_is);(case k=>k_is))
  (case A39=>refine' L2.FnAt.of ?a ?l ?c ?k;(case a=>k_is);(case l=>k_is);(case c=>k_is);(case k=>k_is))
  (case A40=>refine' L2.FnAt.of ?a ?l ?c ?k;(case a=>k_is);(case l=>k_is);(case c=>k_is);(case k=>k_is))
  (case A41=>refine' L2.FnAt.of ?a ?l ?c ?k;(case a=>k_is);(case l=>k_is);(case c=>k_is);(case k=>k_is))
  (case A42=>refine' L2.FnAt.of ?a ?l ?c ?k;(case a=>k_is);(case l=>k_is);(case c=>k_is);(case k=>k_is))
  (case A43=>refine' L2.FnAt.of ?a ?l ?c ?k;(case a=>k_is);(case l=>k_is);(case c=>k_is);(case k=>k_is))
  (case aL=>k_is)
  (case lL=>k_is)
  (case cL=>k_is)
  (case kL=>k_is)
  (case zabs=>k_is)
  (case zisi=>k_is)
  (case ztup=>k_is)
  (case zint=>k_is)
  (case zbool=>k_is)
  (case zlst=>k_is)
  (case zenu=>k_is)
  (case zlen=>k_is)
  (case zrange=>k_is)
  (case zsrt=>k_is)
  (case zsum=>k_is)
  (case zzip=>k_is)
  (case zmax=>k_is)
  (case zall=>k_is)
  (case zstr=>k_is)

import PyProof.Rows.All
import Wide.All
import OpenK.AllK
import Wide.FinOn
import Lean
import PyProof.EqAt
import PyProof.EqKinds
import PyProof.TupleCall
import PyProof.NeKinds
import PyProof.EnumMake
import PyProof.Draws
import PyProof.ListNew
import PyProof.Rows.IntBool
import KE.LcSums
import PyProof.ListMulRoad
import PyProof.WalksT
import PyProof.ZipIter
import PyProof.Rows.ZipGen
import PyProof.SumWalk
import PyProof.Rows.CallKwBuiltin
import PyProof.AutoListH
import PyProof.WalkInts
import KE.KRevIter
import PyProof.ListStr
import PyProof.ListRange
import KE.KSortTup
import KE.KLam
import KE.KNestM
import KE.KFind
import KE.KTryDeep
import KE.KIsAll
import PyProof.ExcArgsOwn
import PyProof.Rows.SetFrom
import PyProof.StrWalks
import PyProof.CollectIter
import PyProof.FactsAll.set
import PyProof.StrCalls2
import PyProof.StrLawsIn
import PyProof.SliceStr2
import PyProof.StrOps2
import PySem.Challenge.RW_pagewalks_k40_whole_mixed_shares
set_option maxHeartbeats 1000000
set_option Elab.async false
set_option bootstrap.genMatcherCode false
set_option genSizeOfSpec false
set_option genSizeOf false
set_option linter.all false
set_option maxRecDepth 100000
namespace L2
open PySem PySem.Spec PyProof.Rows
noncomputable abbrev Key:=Sum Int Str
noncomputable def keyIs:Key→Value→Bool
 | .inl k,v=>Value.isInt k v
 | .inr x,v=>Value.isStrOf x v
noncomputable def keyH (w:World):Key→Int
 | .inl k=>hashInt k
 | .inr x=>hashStr w x
theorem keyIs_shape:∀ {k:Key} {v:Value},keyIs k v=true→(∃ i t,k=Sum.inl i∧v=Value.int i t)∨(∃ x t,k=Sum.inr x∧v=Value.str x t)
 | .inl i,v,h=>by
   obtain ⟨t,e⟩:=Value.isInt_shape (k:=i) (v:=v) h
   exact .inl ⟨i,t,rfl,e⟩
 | .inr x,v,h=>by
   obtain ⟨t,e⟩:=Value.isStrOf_shape (x:=x) (v:=v) h
   exact .inr ⟨x,t,rfl,e⟩
theorem key_ll (a b:Int):decide ((Sum.inl a:Key)=Sum.inl b)=(a == b):=by
 by_cases e:a=b
 · subst e;simp
 · have h:¬ (Sum.inl a:Key)=Sum.inl b:=fun q=>e (Sum.inl.inj q)
   rw [decide_eq_false h]
   exact (beq_eq_false_iff_ne.mpr e).symm
theorem key_rr (a b:Str):decide ((Sum.inr a:Key)=Sum.inr b)=decide (a=b):=by
 by_cases e:a=b
 · subst e;simp
 · have h:¬ (Sum.inr a:Key)=Sum.inr b:=fun q=>e (Sum.inr.inj q)
   rw [decide_eq_false h,decide_eq_false e]
theorem key_lr (a:Int) (b:Str):decide ((Sum.inl a:Key)=Sum.inr b)=false:=decide_eq_false (fun q=>nomatch q)
theorem key_rl (a:Str) (b:Int):decide ((Sum.inr a:Key)=Sum.inl b)=false:=decide_eq_false (fun q=>nomatch q)
noncomputable def mixKind (prog:Program) (w:World):PySem.KeyKind prog w Key where
 is:=keyIs
 hash:=keyH w
 inj:=fun v a b ha hb=>by
  rcases keyIs_shape ha with ⟨i,t,rfl,rfl⟩ | ⟨x,t,rfl,rfl⟩
  · rcases keyIs_shape hb with ⟨j,u,rfl,e⟩ | ⟨y,u,rfl,e⟩
    · injection e with e1 _;rw [e1]
    · exact nomatch e
  · rcases keyIs_shape hb with ⟨j,u,rfl,e⟩ | ⟨y,u,rfl,e⟩
    · exact nomatch e
    · injection e with e1 _;rw [e1]
 byValue:=fun k v h=>by
  rcases keyIs_shape h with ⟨i,t,rfl,rfl⟩ | ⟨x,t,rfl,rfl⟩ <;> rfl
 pyHash:=fun hv h=>by
  rcases keyIs_shape hv with ⟨i,t,rfl,rfl⟩ | ⟨x,t,rfl,rfl⟩
  · exact wpAny_pyHash_int h
  · exact wpAny_pyHash_str h
 eqBool:=fun hu hv h=>by
  rcases keyIs_shape hu with ⟨i,t,rfl,rfl⟩ | ⟨x,t,rfl,rfl⟩
  · rcases keyIs_shape hv with ⟨j,u,rfl,rfl⟩ | ⟨y,u,rfl,rfl⟩
    · rw [key_ll] at h;exact wpAny_eqBool_int h
    · rw [key_lr] at h;exact SeqAt.EqAt.int_str i t y u _ _ _ _ h
  · rcases keyIs_shape hv with ⟨j,u,rfl,rfl⟩ | ⟨y,u,rfl,rfl⟩
    · rw [key_rl] at h;exact SeqAt.EqAt.str_int x t j u _ _ _ _ h
    · rw [key_rr] at h;exact wpAny_eqBool_str h
 «strs»:=fun k x t v h=>by
  rcases keyIs_shape h with ⟨i,u,rfl,e⟩ | ⟨y,u,rfl,e⟩
  · exact nomatch e
  · injection e with e1 _
    subst e1
    cases v <;> rfl
end L2
namespace L2
open PySem PySem.Spec PyProof.Rows
inductive V where
 | non | bl (b:Bool) | int (i:Int) | str (x:Str) | byt (b:Array UInt8) | flt (b:UInt64) | ref (a:Addr) | ty (n:String)
 deriving DecidableEq
noncomputable def RelV:V→Value→Prop
 | .non,u=>u=Value.none
 | .bl b,u=>u=Value.bool b
 | .int i,u=>∃ t,u=Value.int i t
 | .str x,u=>∃ t,u=Value.str x t
 | .byt b,u=>∃ t,u=Value.bytes b t
 | .flt b,u=>∃ t,u=Value.float b t
 | .ref a,u=>u=Value.ref a
 | .ty n,u=>u=Value.type n
noncomputable abbrev Vals:List V→List Value→Prop:=Paired RelV
theorem Vals.length {xs:List V} {us:List Value} (r:Vals xs us):xs.length=us.length:=Paired.length r
theorem Vals.get:∀ {xs:List V} {us:List Value} {i:Nat} {x:V},Vals xs us→xs[i]?=some x→∃ u,us[i]?=some u∧RelV x u
 | _,_,_,_,.nil,e=>by simp at e
 | _,_,0,_,.cons r _,e=>by simp at e;subst e;exact ⟨_,rfl,r⟩
 | _,_,i+1,x,.cons _ t,e=>by
   obtain ⟨u,h1,h2⟩:=Vals.get (i:=i) (x:=x) t (by simpa using e)
   exact ⟨u,by simpa using h1,h2⟩
theorem Vals.set {x:V} {u:Value} (r:RelV x u):∀ {xs:List V} {us:List Value} (i:Nat),Vals xs us→Vals (xs.set i x) (us.set i u)
 | _,_,_,.nil=>.nil
 | _,_,0,.cons _ t=>.cons r t
 | _,_,i+1,.cons q t=>.cons q (Vals.set r i t)
theorem Vals.append:∀ {xs ys:List V} {us ws:List Value},Vals xs us→Vals ys ws→Vals (xs ++ ys) (us ++ ws)
 | _,_,_,_,.nil,s=>s
 | _,_,_,_,.cons r t,s=>.cons r (Vals.append t s)
theorem Vals.take:∀ {xs:List V} {us:List Value} (n:Nat),Vals xs us→Vals (xs.take n) (us.take n)
 | _,_,0,_=>.nil
 | _,_,_+1,.nil=>.nil
 | _,_,n+1,.cons r t=>.cons r (Vals.take n t)
theorem Vals.drop:∀ {xs:List V} {us:List Value} (n:Nat),Vals xs us→Vals (xs.drop n) (us.drop n)
 | _,_,0,r=>r
 | _,_,_+1,.nil=>.nil
 | _,_,n+1,.cons _ t=>Vals.drop n t
noncomputable def RelO:Option V→Option Value→Prop
 | some v,some u=>RelV v u
 | none,none=>True
 | _,_=>False
noncomputable def KV {κ:Type}:List (κ×V)→List (κ×Value)→Prop:=Paired fun (p:κ×V) (q:κ×Value)=>p.1=q.1∧RelV p.2 q.2
noncomputable def kV:Key→V
 | .inl i=>.int i
 | .inr x=>.str x
inductive HO where
 | lst (xs:List V)
 | tup (xs:List V)
 | dK (kvs:List (Key×V)) | dT (kvs:List (List Key×V))
 | set (S:Int→Bool) (n:Nat)
 | ins (C dx:Addr) (fs:List (Str×V))
 | own (x:Addr)
 | xd (fs:List (Str×V))
 | met (f x:Addr)
 | rng (lo hi:Int)
 | frz (o:Obj) (u:HO)
 | tbl (ps:Array Value)
 | ext (φ:Heap→Prop)
noncomputable abbrev Hp:=Addr→Option HO
noncomputable def upd (H:Hp) (a:Addr) (o:HO):Hp:=fun b=>if b=a then some o else H b
theorem upd_same {H:Hp} {a:Addr} {o:HO}:upd H a o a=some o:=by unfold upd;rw [if_pos rfl]
theorem upd_ne {H:Hp} {a b:Addr} {o:HO} (h:b≠a):upd H a o b=H b:=by unfold upd;rw [if_neg h]
theorem ne_of {H:Hp} {a b:Addr} {o u:HO} (h:H a=some o) (h':H b=some u) (d:o≠u):a≠b:=by
 intro e;subst e;rw [h] at h';exact d (Option.some.inj h')
theorem ne_of_none {H:Hp} {a b:Addr} {o:HO} (h:H a=some o) (h':H b=none):a≠b:=by
 intro e;subst e;rw [h] at h';cases h'
noncomputable def IsTupN (h:Heap) (a:Addr) (items:Array Value):Prop:=∃ o,h.get? a=some o∧(o.cls,o.dict)=(Value.type "tuple",(none:Option Addr))∧∃ n,o.data=.seq items n
theorem IsTupN.tup {h:Heap} {a:Addr} {items:Array Value} (p:IsTupN h a items):PyProof.Rows.IsTup h a items:=by
 obtain ⟨o,e,c,n,d⟩:=p
 exact ⟨o,e,congrArg Prod.fst c,n,d⟩
theorem IsTupN.new (h:Heap) (items:Array Value):IsTupN (h.push { cls:=.type "tuple",data:=.seq items }) h.objs.size items:=⟨_,Heap.get?_push_size _ rfl,rfl,_,rfl⟩
section
variable (P:Program) (w:World)
noncomputable def ObjOk (H:Hp) (h:Heap) (a:Addr):HO→Prop
 | .lst xs=>xs.length≤sizeLine∧∃ (its:List Value) (n:Nat),Vals xs its∧h.get? a=some { cls:=.type "list",data:=.seq its.toArray n }
 | .tup xs=>xs.length≤sizeLine∧∃ its:List Value,Vals xs its∧IsTupN h a its.toArray
 | .dK kvs=>kvs.length≤sizeLine∧(a == sysModules)=false∧∃ vs,KV kvs vs∧h.DictOf (mixKind P w) a vs
 | .dT kvs=>kvs.length≤sizeLine∧(a == sysModules)=false∧∃ xs:List (List Key×Addr×Value),
  Paired (fun (p:List Key×V) (q:List Key×Addr×Value)=>p.1=q.1∧H q.2.1=some (.tup (p.1.map kV))∧RelV p.2 q.2.2) kvs xs ∧
  ∃ o es ep,h.get? a=some o∧o.ExactDict∧o.data=.dict es ep∧es.toList=xs.map (entryOfKey (tupleKind (mixKind P w)))∧(xs.map (·.1)).Nodup
 | .set S n=>h.SetOf (intKind P w) a S n
 | .ins C dx fs=>H dx=some (.own a)∧fs.length≤1000∧dx≠a∧h.get? a=some (PySem.W.instObj C dx) ∧
  ∃ mA,h.Ns1 dx mA∧(∀ f,RelO (fs.lookup f) (mA f))∧PySem.Within mA (fs.map (·.1))
 | .own _=>∃ o,h.get? a=some o
 | .xd fs=>∃ mA,h.Ns1 a mA∧∀ f,RelO (fs.lookup f) (mA f)
 | .rng lo hi=>∃ t u v,h.get? a=some { cls:=.type "range",data:=.fields #[.int lo t,.int hi u,.int 1 v] }
 | .frz o u=>h.get? a=some o∧ObjOk H h a u
 | .tbl ps=>h.get? a=some { cls:=.none,data:=.fields ps }
 | .met f x=>h.get? a=some (PySem.W.methodObj (.ref f) (.ref x))
 | .ext φ=>φ h∧(∃ o,h.get? a=some o)∧∀ h1 h2:Heap,φ h1→(∀ o,h1.get? a=some o→h2.get? a=some o)→φ h2
noncomputable def HOk (H:Hp) (h:Heap):Prop:=∀ a o,H a=some o→ObjOk P w H h a o
end
section
variable {P:Program} {w:World} {H H':Hp} {h h':Heap} {a:Addr} {o:HO}
theorem ObjOk.lt (x:ObjOk P w H h a o):a<h.objs.size:=by
 cases o with
 | lst xs=>obtain ⟨_,_,_,_,e⟩:=x;exact Heap.lt_size e
 | tup xs=>obtain ⟨_,_,_,p⟩:=x;exact p.tup.lt
 | dK kvs=>obtain ⟨_,_,_,_,o,_,_,e,_⟩:=x;exact Heap.lt_size e
 | dT kvs=>obtain ⟨_,_,_,_,o,_,_,e,_⟩:=x;exact Heap.lt_size e
 | set S n=>obtain ⟨o,_,_,_,e,_⟩:=x;exact Heap.lt_size e
 | ins C dx fs=>obtain ⟨_,_,_,e,_⟩:=x;exact Heap.lt_size e
 | own y=>obtain ⟨_,e⟩:=x;exact Heap.lt_size e
 | xd fs=>obtain ⟨_,⟨_,_,_,e,_⟩,_⟩:=x;exact Heap.lt_size e
 | rng lo hi=>obtain ⟨_,_,_,e⟩:=x;exact Heap.lt_size e
 | frz ob u=>obtain ⟨e,_⟩:=x;exact Heap.lt_size e
 | tbl ps=>exact Heap.lt_size (show h.get? a=some _ from x)
 | met f y=>exact Heap.lt_size (show h.get? a=some _ from x)
 | ext φ=>obtain ⟨_,⟨_,e⟩,_⟩:=x;exact Heap.lt_size e
theorem Paired.mapP {α β:Type} {F G:α→β→Prop}:∀ {l₁:List α} {l₂:List β},Paired F l₁ l₂→(∀ a b,F a b→G a b)→Paired G l₁ l₂
 | _,_,.nil,_=>.nil
 | _,_,.cons r t,f=>.cons (f _ _ r) (Paired.mapP t f)
theorem ObjOk.stay (x:ObjOk P w H h a o) (k:∀ b u,(b=a∨H b=some (.own a))→h.get? b=some u→h'.get? b=some u)
 (ho:∀ b,H b=some (.own a)→H' b=some (.own a)) (ht:∀ b xs,H b=some (.tup xs)→H' b=some (.tup xs)):ObjOk P w H' h' a o:=by
 induction o with
 | lst xs=>obtain ⟨z,its,n,r,e⟩:=x;exact ⟨z,its,n,r,k _ _ (.inl rfl) e⟩
 | tup xs=>obtain ⟨z,its,r,ob,e,c⟩:=x;exact ⟨z,its,r,ob,k _ _ (.inl rfl) e,c⟩
 | dK kvs=>obtain ⟨z,y,vs,r,ob,es,ep,e,c⟩:=x;exact ⟨z,y,vs,r,ob,es,ep,k _ _ (.inl rfl) e,c⟩
 | dT kvs =>
   obtain ⟨z,y,xs,r,ob,es,ep,e,c⟩:=x
   exact ⟨z,y,xs,Paired.mapP r fun p q z=>⟨z.1,ht _ _ z.2.1,z.2.2⟩,ob,es,ep,k _ _ (.inl rfl) e,c⟩
 | set S n=>obtain ⟨ob,es,ep,t,e,c⟩:=x;exact ⟨ob,es,ep,t,k _ _ (.inl rfl) e,c⟩
 | ins C dx fs =>
   obtain ⟨d,z,ne,e,mA,⟨od,es,ep,e2,c⟩,r⟩:=x
   exact ⟨ho _ d,z,ne,k _ _ (.inl rfl) e,mA,⟨od,es,ep,k _ _ (.inr d) e2,c⟩,r⟩
 | own y=>obtain ⟨ob,e⟩:=x;exact ⟨ob,k _ _ (.inl rfl) e⟩
 | xd fs=>obtain ⟨mA,⟨od,es,ep,e,c⟩,r⟩:=x;exact ⟨mA,⟨od,es,ep,k _ _ (.inl rfl) e,c⟩,r⟩
 | rng lo hi=>obtain ⟨t,u,v,e⟩:=x;exact ⟨t,u,v,k _ _ (.inl rfl) e⟩
 | frz ob u ih=>obtain ⟨e,q⟩:=x;exact ⟨k _ _ (.inl rfl) e,ih q⟩
 | tbl ps =>
   have e:h.get? a=some { cls:=.none,data:=.fields ps }:=x
   show h'.get? a=some { cls:=.none,data:=.fields ps }
   exact k a _ (.inl rfl) e
 | met f y =>
   have e:h.get? a=some (PySem.W.methodObj (.ref f) (.ref y)):=x
   show h'.get? a=some (PySem.W.methodObj (.ref f) (.ref y))
   exact k a _ (.inl rfl) e
 | ext φ=>obtain ⟨p,⟨o,e⟩,st⟩:=x;exact ⟨st _ _ p fun o q=>k _ _ (.inl rfl) q,⟨o,k _ _ (.inl rfl) e⟩,st⟩
theorem HOk.lt (x:HOk P w H h) (e:H a=some o):a<h.objs.size:=(x a o e).lt
theorem HOk.fresh (x:HOk P w H h) (e:h.objs.size≤a):H a=none:=by
 cases q:H a with
 | none=>rfl
 | some u=>exact absurd (Nat.lt_of_lt_of_le (x.lt q) e) (Nat.lt_irrefl _)
theorem HOk.kept (x:HOk P w H h) (k:∀ b u,h.get? b=some u→h'.get? b=some u):HOk P w H h':=fun a o e =>
 (x a o e).stay (fun b u _ q=>k b u q) (fun _ q=>q) fun _ _ q=>q
theorem HOk.laid (x:HOk P w H h) (k:∀ b u,h.get? b=some u→h'.get? b=some u) (hp:h.objs.size≤a) (new:ObjOk P w (upd H a o) h' a o):HOk P w (upd H a o) h':=fun b u e=>by
 have hn:=x.fresh hp
 by_cases hb:b=a
 · subst hb;rw [upd_same] at e;cases e;exact new
 · rw [upd_ne hb] at e
   exact (x b u e).stay (fun c v _ q=>k c v q) (fun c q=>by rw [upd_ne (ne_of_none q hn)];exact q) fun c xs q=>by rw [upd_ne (ne_of_none q hn)];exact q
end
noncomputable def Rd (H:Hp) (a:Addr) (u:HO):Prop:=H a=some u∨∃ o,H a=some (.frz o u)
theorem Rd.ok {P:Program} {w:World} {H:Hp} {h:Heap} {a:Addr} {u:HO} (r:Rd H a u) (x:HOk P w H h):ObjOk P w H h a u:=by
 rcases r with r | ⟨o,r⟩
 · exact x a u r
 · obtain ⟨_,q⟩:=x a _ r
   exact q
noncomputable def Mut:Option HO→Prop
 | some (.lst _)=>True
 | some (.dK _)=>True
 | some (.dT _)=>True
 | some (.set _ _)=>True
 | some (.ins _ _ _)=>True
 | some (.ext _)=>True
 | _=>False
section
variable {P:Program} {w:World} {H:Hp} {h h':Heap} {x e:Addr} {o':HO}
theorem HOk.write (ok:HOk P w H h) (mu:Mut (H x)) (he:e=x∨H e=some (.own x)) (k:∀ b u,b≠e→h.get? b=some u→h'.get? b=some u) (heo:∃ u,h'.get? e=some u)
 (new:ObjOk P w (upd H x o') h' x o'):HOk P w (upd H x o') h':=fun b u q=>by
 have nown:∀ c y,H c=some (.own y)→c≠x:=fun c y r z=>by subst z;rw [r] at mu;exact mu
 have ntup:∀ c xs,H c=some (.tup xs)→c≠x:=fun c xs r z=>by subst z;rw [r] at mu;exact mu
 by_cases hb:b=x
 · subst hb;rw [upd_same] at q;cases q;exact new
 · rw [upd_ne hb] at q
   by_cases hbe:b=e
   · have q':H b=some (.own x):=by
      rcases he with z | z
      · exact absurd (hbe.trans z) hb
      · rw [hbe];exact z
     rw [q] at q';cases q'
     obtain ⟨v,hv⟩:=heo
     exact ⟨v,by rw [hbe];exact hv⟩
   · refine (ok b u q).stay (fun c v hc r=>k c v ?_ r) (fun c r=>by rw [upd_ne (nown c b r)];exact r) fun c xs r=>by rw [upd_ne (ntup c xs r)];exact r
     rcases hc with rfl | hc
     · exact hbe
     · rintro rfl
       rcases he with z | z
       · exact nown c b hc z
       · rw [hc] at z;cases z;exact hb rfl
end
structure Un (fs ex:List Addr) (H H':Hp) (h h':Heap):Prop where
 keep:∀ b o,h.get? b=some o→H b=none→b∉fs→b∉ex→h'.get? b=some o
 slot:∀ b o,h.get? b=some o→H b=none→b∈fs→b∉ex→∃ sl,h'.get? b=some { o with slots:=sl }
 free:∀ b o,h.get? b=some o→H b=none→b∉ex→H' b=none
 there:∀ b o,h.get? b=some o→b∉ex→∃ o',h'.get? b=some o'
 tups:∀ b xs,H b=some (.tup xs)→H' b=some (.tup xs)
 frzs:∀ b o u,H b=some (.frz o u)→H' b=some (.frz o u)
 tbls:∀ b ps,H b=some (.tbl ps)→∃ more,H' b=some (.tbl (ps ++ more))
section
variable {fs fs' ex ex':List Addr} {H H1 H2:Hp} {h h1 h2 h':Heap} {a x e:Addr} {o:HO}
theorem Un.any (u:Un fs ex H H1 h h1) {b:Addr} {ob:Obj} (q:h.get? b=some ob) (n:H b=none) (hx:b∉ex):∃ sl,h1.get? b=some { ob with slots:=sl }:=by
 by_cases hb:b∈fs
 · exact u.slot b ob q n hb hx
 · exact ⟨ob.slots,u.keep b ob q n hb hx⟩
theorem Un.kept (k:∀ b u,h.get? b=some u→h'.get? b=some u):Un fs ex H H h h' :=
 ⟨fun b ob q _ _ _=>k b ob q,fun b ob q _ _ _=>⟨ob.slots,k b ob q⟩,fun _ _ _ n _=>n,fun b ob q _=>⟨ob,k b ob q⟩,fun _ _ q=>q,fun _ _ _ q=>q,fun _ ps q=>⟨#[],by rw [q];simp⟩⟩
theorem Un.refl:Un fs ex H H h h:=Un.kept fun _ _ q=>q
theorem Un.laid (k:∀ b u,h.get? b=some u→h'.get? b=some u) (hp:h.objs.size≤a) (hn:H a=none):Un fs ex H (upd H a o) h h' where
 keep:=fun b u q _ _ _=>k b u q
 slot:=fun b u q _ _ _=>⟨u.slots,k b u q⟩
 free:=fun b u q n _=>by rw [upd_ne (Nat.ne_of_lt (Nat.lt_of_lt_of_le (Heap.lt_size q) hp))];exact n
 there:=fun b u q _=>⟨u,k b u q⟩
 tups:=fun b xs q=>by rw [upd_ne (ne_of_none q hn)];exact q
 frzs:=fun b u xs q=>by rw [upd_ne (ne_of_none q hn)];exact q
 tbls:=fun b ps q=>⟨#[],by rw [upd_ne (ne_of_none q hn),q];simp⟩
theorem Un.write (mu:Mut (H x)) (he:e=x∨H e=some (.own x)) (k:∀ b u,b≠e→h.get? b=some u→h'.get? b=some u) (heo:∃ u,h'.get? e=some u):Un fs ex H (upd H x o) h h':=by
 have hx:∀ b,H b=none→b≠x:=fun b n z=>by subst z;rw [n] at mu;exact mu
 have hb:∀ b,H b=none→b≠e:=fun b n z=>by
  subst z
  rcases he with r | r
  · exact hx b n r
  · rw [n] at r;cases r
 have hm:∀ b u,H b=some u→¬ Mut (some u)→b≠x:=fun b u q nm z=>by subst z;rw [q] at mu;exact nm mu
 refine ⟨fun b u q n _ _=>k b u (hb b n) q,fun b u q n _ _=>⟨u.slots,k b u (hb b n) q⟩,fun b u q n _=>by rw [upd_ne (hx b n)];exact n,fun b u q _=>?_,
  fun b xs q=>by rw [upd_ne (hm b _ q fun z=>z)];exact q,fun b u xs q=>by rw [upd_ne (hm b _ q fun z=>z)];exact q,fun b ps q=>⟨#[],by rw [upd_ne (hm b _ q fun z=>z),q];simp⟩⟩
 by_cases hbe:b=e
 · subst hbe;exact heo
 · exact ⟨u,k b u hbe q⟩
end
noncomputable def trk (h:Heap) (H:Hp):List Addr:=(List.range h.objs.size).filter fun a=>(H a).isSome
noncomputable def hidT (h:Heap) (H:Hp):Heap:=PySem.W.hideAll h (trk h H)
theorem hidT_size (h:Heap) (H:Hp):(hidT h H).objs.size=h.objs.size:=PySem.W.hideAll_size _ _
theorem hidT_get {h:Heap} {H:Hp} {b:Addr} {o:Obj} (e:h.get? b=some o) (n:H b=none):(hidT h H).get? b=some o :=
 PySem.W.hideAll_get _ e fun hm=>by
  have q:(H b).isSome=true:=(List.mem_filter.mp hm).2
  rw [n] at q;simp at q
theorem of_hidT {h:Heap} {H:Hp} {b:Addr} {o:Obj} (e:(hidT h H).get? b=some o):h.get? b=some o∧H b=none:=by
 have e':h.get? b=some o:=PySem.W.of_hideAll (trk h H) e
 refine ⟨e',?_⟩
 cases q:H b with
 | none=>rfl
 | some x =>
   have hm:b∈trk h H:=List.mem_filter.mpr ⟨List.mem_range.mpr (Heap.lt_size e'),by simp [q]⟩
   have z:(hidT h H).get? b=none:=PySem.W.hideAll_none (trk h H) hm
   rw [z] at e;cases e
noncomputable def allNews (g h:Heap) (L:Addr):List (Addr×Obj):=(List.range h.objs.size).filterMap fun a=>if a=L∨(g.get? a).isSome=true then none else (h.get? a).map fun o=>(a,o)
theorem mem_allNews {g h:Heap} {L a:Addr} {o:Obj} (h1:a≠L) (h2:g.get? a=none) (h3:h.get? a=some o):(a,o)∈allNews g h L :=
 List.mem_filterMap.mpr ⟨a,List.mem_range.mpr (Heap.lt_size h3),by simp [h1,h2,h3]⟩
theorem of_mem_allNews {g h:Heap} {L:Addr} {p:Addr×Obj} (hp:p∈allNews g h L):p.1≠L∧g.get? p.1=none∧h.get? p.1=some p.2:=by
 obtain ⟨b,_,e⟩:=List.mem_filterMap.mp hp
 split at e
 · cases e
 · rename_i hn
   cases q:h.get? b with
   | none=>rw [q] at e;simp at e
   | some u =>
     rw [q] at e
     simp only [Option.map_some,Option.some.injEq] at e
     subst e
     refine ⟨fun z=>hn (.inl z),?_,q⟩
     show g.get? b=none
     cases r:g.get? b with
     | none=>rfl
     | some v=>exact (hn (.inr (by simp [r]))).elim
theorem news_all {g h:Heap} {L:Addr}:News g L h (allNews g h L):=fun p hp=>let ⟨a,b,c⟩:=of_mem_allNews hp;⟨c,a,b⟩
end L2
namespace L2
open PySem PySem.Spec PyProof.Rows
structure Mod (K:PySem.W.Frag) (mg:Str→Option Value) (base:Heap):Prop where
 kin:K.In base
 glob:base.Ns mainGlobals mg
 blt:∃ mb,base.Ns builtinsNs mb∧∀ x:Str,x≠"__name__"→mb x=bootBuiltins x
 nolimit:base.NoLimit
set_option genInjectivity false in
set_option genInjectivity false in
structure Cx where
 prog:Program
 w:World
 K:PySem.W.Frag
 mg:Str→Option Value
 base:Heap
 A:Around
 N:List Str
 s₀:Shared
 H₀:Hp
 env:Env
 outer:List Env
 stack:List Env
 ex:List Addr
 fn:Str→Bool
 calm:Bool
 pn:List (Addr×Obj)
 xe:Value→Shared→Prop
noncomputable def frs (l:List Env):List Addr:=l.filterMap (·.frame)
noncomputable abbrev Cx.fs (X:Cx):List Addr:=frs X.outer
noncomputable def Vis (sc:Scope) (x:Str):Prop:=sc.names.lookup x=some .local∨sc.names.lookup x=some .cell∨sc.names.lookup x=some .free
noncomputable def Loc (sc:Scope) (x:Str):Prop:=sc.names.lookup x=some .local∨sc.names.lookup x=some .cell
noncomputable def Look (env:Env) (h:Heap) (m:Str→Option Value) (x:Str) (u:Value):Prop :=
 (env.kindOf x=some .local∧m x=some u)∨((env.kindOf x=some .cell∨env.kindOf x=some .free)∧∃ c,env.cells.lookup x=some c∧h.IsCell c (some u))
set_option genInjectivity false in
structure Cx.Ok (X:Cx):Prop where
 mod:Mod X.K X.mg X.base
 kind:X.env.scope.kind=.function
 glob:X.env.globals=mainGlobals
 blt:X.env.builtins=builtinsNs
 above:X.s₀.heap.objs.size≤X.env.locals
 inj:∀ x y c,X.env.cells.lookup x=some c→X.env.cells.lookup y=some c→x=y
 has:∀ x,(X.env.kindOf x=some .cell∨X.env.kindOf x=some .free)→∃ c,X.env.cells.lookup x=some c
 cab:∀ x c,X.fn x=true→X.env.cells.lookup x=some c→X.s₀.heap.objs.size≤c
 hd:X.calm=true→X.A.handled=none
 frames:X.A.frames=some X.stack
 stk:X.stack=X.outer∨(X.stack=X.env :: X.outer∧X.env.frame=some X.env.locals)
 exf:∀ b∈X.ex,b≠X.env.locals∧∀ x c,X.env.cells.lookup x=some c→c≠b
 bs:∀ b o,X.base.get? b=some o→X.s₀.heap.get? b=some o∧X.H₀ b=none
 bsz:X.base.objs.size≤X.s₀.heap.objs.size
 noex:∀ b o,X.base.get? b=some o→b∉X.ex
 exfs:∀ b∈X.ex,b∉X.fs
 funs:X.s₀.heap.FunFrames X.base X.outer
 frf:∀ b∈X.fs,X.H₀ b=none
set_option genInjectivity false in
structure Inv (X:Cx) (pins:List (Addr×Obj)) (σ:List (Option V)) (H:Hp) (s:Shared):Prop where
 ok:X.Ok
 os:s.os=X.s₀.os
 bare:AllBare s.gens
 base:Un X.fs X.ex X.H₀ H X.s₀.heap s.heap
 loc:∃ m,s.heap.Ns X.env.locals m∧∀ (i:Nat) (x:Str) (v:V),X.N[i]?=some x→σ[i]?=some (some v)→Vis X.env.scope x→∃ u,RelV v u∧Look X.env s.heap m x u
 cell:∀ x c,X.env.cells.lookup x=some c→∃ v,s.heap.IsCell c v
 free:H X.env.locals=none
 freeC:∀ x c,X.env.cells.lookup x=some c→H c=none
 pin:∀ p∈X.pn ++ pins,s.heap.get? p.1=some p.2∧H p.1=none∧p.1≠X.env.locals∧p.1∉X.fs∧∀ v,p.2.data≠.cell v
 hok:HOk X.prog X.w H s.heap
 len:σ.length=X.N.length
section
variable {X:Cx} {pins:List (Addr×Obj)} {σ:List (Option V)} {H H':Hp} {s:Shared} {h':Heap}
theorem Cx.Ok.nofr (ok:X.Ok) {b:Addr} {o:Obj} (e:X.base.get? b=some o):b∉X.fs:=fun hb=>by
 have:=(ok.funs.mem hb).1
 rw [e] at this;cases this
theorem Inv.bs (I:Inv X pins σ H s):∀ b o,X.base.get? b=some o→s.heap.get? b=some o∧H b=none:=fun b o e =>
 ⟨I.base.keep b o (I.ok.bs b o e).1 (I.ok.bs b o e).2 (I.ok.nofr e) (I.ok.noex b o e),I.base.free b o (I.ok.bs b o e).1 (I.ok.bs b o e).2 (I.ok.noex b o e)⟩
theorem Inv.bk (I:Inv X pins σ H s):∀ b o,X.base.get? b=some o→s.heap.get? b=some o:=fun b o e=>(I.bs b o e).1
theorem Inv.mod (I:Inv X pins σ H s):Mod X.K X.mg X.base:=I.ok.mod
theorem Inv.kIn (I:Inv X pins σ H s):X.K.In s.heap:=I.ok.mod.kin.keeps I.bk
theorem Inv.lt (I:Inv X pins σ H s):X.env.locals<s.heap.objs.size:=let ⟨_,hn,_⟩:=I.loc;hn.lt
theorem Inv.sz (I:Inv X pins σ H s):X.s₀.heap.objs.size≤s.heap.objs.size:=Nat.le_trans I.ok.above (Nat.le_of_lt I.lt)
theorem Inv.nofs (I:Inv X pins σ H s) {a:Addr} (h:s.heap.objs.size≤a):a∉X.fs:=fun hb=>by
 obtain ⟨_,o,ho,_⟩:=I.ok.funs.mem hb
 exact absurd (Nat.lt_of_lt_of_le (Heap.lt_size ho) (Nat.le_trans I.sz h)) (Nat.lt_irrefl _)
theorem Inv.cne (I:Inv X pins σ H s):∀ x c,X.env.cells.lookup x=some c→c≠X.env.locals:=fun x c e z=>by
 obtain ⟨v,o,ho,hd⟩:=I.cell x c e
 obtain ⟨m,⟨o',es,ep,ho',hd',_⟩,_⟩:=I.loc
 rw [z,ho'] at ho;cases ho;rw [hd'] at hd;cases hd
theorem Inv.funs (I:Inv X pins σ H s):s.heap.FunFrames X.base X.outer:=by
 have all:∀ (l:List Env),(∀ b∈frs l,b∈X.fs)→X.s₀.heap.FunFrames X.base l→s.heap.FunFrames X.base l:=by
  intro l
  induction l with
  | nil=>intro _ _;trivial
  | cons env r ih =>
    intro hs hl
    obtain ⟨hk,⟨L,o,hf,hn,ho,hd⟩,hr⟩:=hl
    have hL:L∈X.fs:=hs L (by unfold frs;rw [List.filterMap_cons,hf];exact List.mem_cons_self)
    obtain ⟨sl,e⟩:=I.base.slot L o ho (I.ok.frf L hL) hL fun z=>I.ok.exfs L z hL
    exact ⟨hk,⟨L,_,hf,hn,e,hd⟩,ih (fun b hb=>hs b (by unfold frs;rw [List.filterMap_cons,hf];exact List.mem_cons_of_mem _ hb)) hr⟩
 exact all X.outer (fun _ hb=>hb) I.ok.funs
theorem Inv.stack (I:Inv X pins σ H s):s.heap.FunFrames X.base X.stack:=by
 rcases I.ok.stk with e | ⟨e,hf⟩
 · rw [e];exact I.funs
 · rw [e]
   obtain ⟨m,hn,_⟩:=I.loc
   refine .cons (by rw [I.ok.kind];decide) hf hn ?_ I.funs
   exact Heap.get?_none_of_le (Nat.le_trans I.ok.bsz I.ok.above)
theorem Inv.stkSub (I:Inv X pins σ H s):∀ b∈frs X.stack,b∈X.env.locals :: X.fs:=fun b hb=>by
 rcases I.ok.stk with e | ⟨e,hf⟩
 · rw [e] at hb;exact List.mem_cons_of_mem _ hb
 · rw [e] at hb
   unfold frs at hb
   rw [List.filterMap_cons,hf] at hb
   exact hb
theorem Inv.stkFree (I:Inv X pins σ H s):∀ b∈frs X.stack,H b=none:=fun b hb=>by
 rcases List.mem_cons.mp (I.stkSub b hb) with e | hb
 · rw [e];exact I.free
 · obtain ⟨_,o,ho,_⟩:=I.ok.funs.mem hb
   exact I.base.free b o ho (I.ok.frf b hb) fun z=>I.ok.exfs b z hb
theorem Inv.step {g':Array GenState} {t':Nat} {d':Drawn} {ch:List Addr} (I:Inv X pins σ H s)
 (hch:∀ b∈ch,(b∈X.ex∨X.s₀.heap.objs.size≤b)∧b≠X.env.locals∧(∀ x c,X.env.cells.lookup x=some c→c≠b)∧∀ p∈X.pn ++ pins,p.1≠b)
 (keep:∀ b o,b≠X.env.locals→b∉X.fs→b∉ch→s.heap.get? b=some o→H b=none→h'.get? b=some o)
 (slot:∀ b o,b≠X.env.locals→b∈X.fs→b∉ch→s.heap.get? b=some o→H b=none→∃ sl,h'.get? b=some { o with slots:=sl }) (free:∀ b o,b∉ch→s.heap.get? b=some o→H b=none→H' b=none)
 (there:∀ b o,b∉ch→s.heap.get? b=some o→∃ o',h'.get? b=some o')
 (tups:∀ b xs,H b=some (.tup xs)→H' b=some (.tup xs)) (frzs:∀ b o u,H b=some (.frz o u)→H' b=some (.frz o u)) (tbls:∀ b ps,H b=some (.tbl ps)→∃ more,H' b=some (.tbl (ps ++ more)))
 (ns:∀ m,s.heap.Ns X.env.locals m→h'.Ns X.env.locals m) (hok:HOk X.prog X.w H' h') (hg:AllBare g') :
 Inv X pins σ H' { s with heap:=h',gens:=g',drawn:=d',toks:=t' }:=by
 have neL:∀ b o,X.s₀.heap.get? b=some o→b≠X.env.locals:=fun b o e=>Nat.ne_of_lt (Nat.lt_of_lt_of_le (Heap.lt_size e) I.ok.above)
 have neC:∀ b o,X.s₀.heap.get? b=some o→b∉X.ex→b∉ch:=fun b o e hx hb=>by
  rcases (hch b hb).1 with z | z
  · exact hx z
  · exact absurd (Nat.lt_of_lt_of_le (Heap.lt_size e) z) (Nat.lt_irrefl _)
 have cellK:∀ x c,X.env.cells.lookup x=some c→∀ v,s.heap.IsCell c v→h'.IsCell c v:=fun x c e v ⟨o,ho,hd⟩=>by
  have nch:c∉ch:=fun z=>(hch c z).2.2.1 x c e rfl
  by_cases hc:c∈X.fs
  · obtain ⟨sl,q⟩:=slot c o (I.cne x c e) hc nch ho (I.freeC x c e)
    exact ⟨_,q,hd⟩
  · exact ⟨o,keep c o (I.cne x c e) hc nch ho (I.freeC x c e),hd⟩
 refine ⟨I.ok,I.os,hg,⟨fun b o e n hb hx=>?_,fun b o e n hb hx=>?_,fun b o e n hx=>?_,fun b o e hx=>?_,fun b xs e=>tups b xs (I.base.tups b xs e),fun b o xs e=>frzs b o xs (I.base.frzs b o xs e),fun b ps e=>?_⟩,?_,fun x c e=>?_,?_,fun x c e=>?_,fun p hp=>?_,hok,I.len⟩
 · exact keep b o (neL b o e) hb (neC b o e hx) (I.base.keep b o e n hb hx) (I.base.free b o e n hx)
 · obtain ⟨sl,e1⟩:=I.base.slot b o e n hb hx
   obtain ⟨sl',e2⟩:=slot b _ (neL b o e) hb (neC b o e hx) e1 (I.base.free b o e n hx)
   exact ⟨sl',e2⟩
 · obtain ⟨o',e1⟩:=I.base.there b o e hx
   exact free b o' (neC b o e hx) e1 (I.base.free b o e n hx)
 · obtain ⟨o',e1⟩:=I.base.there b o e hx
   exact there b o' (neC b o e hx) e1
 · obtain ⟨m1,e1⟩:=I.base.tbls b ps e
   obtain ⟨m2,e2⟩:=tbls b _ e1
   exact ⟨m1 ++ m2,by rw [e2,Array.append_assoc]⟩
 · obtain ⟨m,hn,hl⟩:=I.loc
   refine ⟨m,ns m hn,fun i x v e1 e2 e3=>?_⟩
   obtain ⟨u,r,l⟩:=hl i x v e1 e2 e3
   refine ⟨u,r,?_⟩
   rcases l with l | ⟨k,c,e,z⟩
   · exact .inl l
   · exact .inr ⟨k,c,e,cellK x c e _ z⟩
 · obtain ⟨v,z⟩:=I.cell x c e
   exact ⟨v,cellK x c e v z⟩
 · obtain ⟨m,⟨o,_,_,ho,_⟩,_⟩:=I.loc
   exact free _ o (fun z=>(hch _ z).2.1 rfl) ho I.free
 · obtain ⟨v,o,ho,hd⟩:=I.cell x c e
   exact free c o (fun z=>(hch c z).2.2.1 x c e rfl) ho (I.freeC x c e)
 · obtain ⟨e,n,ne,nf,d⟩:=I.pin p hp
   have nch:p.1∉ch:=fun z=>(hch p.1 z).2.2.2 p hp rfl
   exact ⟨keep p.1 p.2 ne nf nch e n,free p.1 p.2 nch e n,ne,nf,d⟩
theorem Inv.un {t':Nat} (I:Inv X pins σ H s) (u:Un X.fs [] H H' s.heap h') (hok:HOk X.prog X.w H' h'):Inv X pins σ H' { s with heap:=h',toks:=t' }:=by
 obtain ⟨m,⟨o,es,ep,ho,r⟩,_⟩:=id I.loc
 obtain ⟨sl,hL⟩:=u.any ho I.free (by simp)
 exact I.step (g':=s.gens) (d':=s.drawn) (ch:=[]) (fun _ z=>nomatch z) (fun b o _ hb _ e n=>u.keep b o e n hb (by simp)) (fun b o _ hb _ e n=>u.slot b o e n hb (by simp)) (fun b o _ e n=>u.free b o e n (by simp)) (fun b o _ e=>u.there b o e (by simp)) u.tups u.frzs u.tbls (fun m' hm=>by
  obtain ⟨o',es',ep',ho',r'⟩:=hm
  rw [ho] at ho';cases ho'
  exact ⟨_,es',ep',hL,r'⟩) hok I.bare
theorem Inv.call {g':Array GenState} {t':Nat} {d':Drawn} {ch:List Addr} (I:Inv X pins σ H s) (u:Un (frs X.stack) ch H H' s.heap h') (hok:HOk X.prog X.w H' h') (hg:AllBare g')
 (hch:∀ b∈ch,(b∈X.ex∨X.s₀.heap.objs.size≤b)∧b≠X.env.locals∧(∀ x c,X.env.cells.lookup x=some c→c≠b)∧∀ p∈X.pn ++ pins,p.1≠b) :
 Inv X pins σ H' { s with heap:=h',gens:=g',drawn:=d',toks:=t' }:=by
 obtain ⟨m,⟨o,es,ep,ho,r⟩,_⟩:=id I.loc
 obtain ⟨sl,hL⟩:=u.any ho I.free fun z=>(hch _ z).2.1 rfl
 exact I.step (ch:=ch) hch (fun b o hL hb hc e n=>u.keep b o e n (fun z=>(List.mem_cons.mp (I.stkSub b z)).elim hL hb) hc) (fun b o _ _ hc e n=>u.any e n hc) (fun b o hc e n=>u.free b o e n hc) (fun b o hc e=>u.there b o e hc) u.tups u.frzs u.tbls (fun m' hm=>by
  obtain ⟨o',es',ep',ho',r'⟩:=hm
  rw [ho] at ho';cases ho'
  exact ⟨_,es',ep',hL,r'⟩) hok hg
theorem Inv.turned {t':Nat} {it:Addr} (I:Inv X pins σ H s) (k:∀ b o,b≠it→s.heap.get? b=some o→h'.get? b=some o) (hn:H it=none) (hL:it≠X.env.locals)
 (h1:it∈X.ex∨X.s₀.heap.objs.size≤it) (h2:∀ x c,X.env.cells.lookup x=some c→c≠it) (h3:∀ p∈X.pn ++ pins,p.1≠it):Inv X pins σ H { s with heap:=h',toks:=t' }:=by
 have nit:∀ b u,H b=some u→b≠it:=fun b u e z=>by rw [z,hn] at e;cases e
 refine I.step (g':=s.gens) (d':=s.drawn) (ch:=[it]) (fun b hb=>?_) (fun b o _ _ hc e _=>k b o (fun z=>hc (by simp [z])) e) (fun b o _ _ hc e _=>⟨o.slots,k b o (fun z=>hc (by simp [z])) e⟩) (fun _ _ _ _ n=>n)
  (fun b o hc e=>⟨o,k b o (fun z=>hc (by simp [z])) e⟩) (fun _ _ e=>e) (fun _ _ _ e=>e) (fun b ps e=>⟨#[],by rw [e];simp⟩) (fun m hm=>?_) (fun b u e=>?_) I.bare
 · have e:b=it:=by simpa using hb
   subst e
   exact ⟨h1,hL,h2,h3⟩
 · obtain ⟨o,es,ep,ho,r⟩:=hm
   exact ⟨o,es,ep,k _ o (Ne.symm hL) ho,r⟩
 · refine (I.hok b u e).stay (fun c v hc q=>k c v ?_ q) (fun _ q=>q) fun _ _ q=>q
   rcases hc with z | z
   · rw [z];exact nit b u e
   · exact nit c _ z
theorem Inv.tok (I:Inv X pins σ H s) (t:Nat):Inv X pins σ H { s with toks:=t }:=I.un (h':=s.heap) (t':=t) Un.refl I.hok
theorem Inv.kept {t':Nat} (I:Inv X pins σ H s) (k:∀ b u,s.heap.get? b=some u→h'.get? b=some u):Inv X pins σ H { s with heap:=h',toks:=t' }:=I.un (Un.kept k) (I.hok.kept k)
theorem Inv.laid {a:Addr} {o:HO} {t':Nat} (I:Inv X pins σ H s) (k:∀ b u,s.heap.get? b=some u→h'.get? b=some u) (hp:s.heap.objs.size≤a) (new:ObjOk X.prog X.w (upd H a o) h' a o) :
 Inv X pins σ (upd H a o) { s with heap:=h',toks:=t' }:=I.un (Un.laid k hp (I.hok.fresh hp)) (I.hok.laid k hp new)
theorem Inv.write {x e:Addr} {o:HO} {t':Nat} (I:Inv X pins σ H s) (mu:Mut (H x)) (he:e=x∨H e=some (.own x)) (k:∀ b u,b≠e→s.heap.get? b=some u→h'.get? b=some u) (heo:∃ u,h'.get? e=some u)
 (new:ObjOk X.prog X.w (upd H x o) h' x o):Inv X pins σ (upd H x o) { s with heap:=h',toks:=t' }:=I.un (Un.write mu he k heo) (I.hok.write mu he k heo new)
theorem Inv.pins_of {pins':List (Addr×Obj)} (I:Inv X pins σ H s) (h:∀ p∈pins',s.heap.get? p.1=some p.2∧H p.1=none∧p.1≠X.env.locals∧p.1∉X.fs∧∀ v,p.2.data≠.cell v):Inv X pins' σ H s :=
 ⟨I.ok,I.os,I.bare,I.base,I.loc,I.cell,I.free,I.freeC,fun p hp=>(List.mem_append.mp hp).elim (fun z=>I.pin p (List.mem_append_left _ z)) (h p),I.hok,I.len⟩
theorem nodup_ix {N:List Str} (hN:N.Nodup) {i j:Nat} {x:Str} (a:N[i]?=some x) (b:N[j]?=some x):i=j:=by
 obtain ⟨h1,e1⟩:=List.getElem?_eq_some_iff.mp a
 obtain ⟨h2,e2⟩:=List.getElem?_eq_some_iff.mp b
 exact (List.getElem_inj hN).mp (e1.trans e2.symm)
theorem store_ok2 {M:Model} {A:Around} {E:Value→Shared→Prop} {i:Nat} {x:Str} {v:V} {u:Value} {Q:Unit→Shared→Prop} (I:Inv X pins σ H s) (hN:X.N.Nodup) (hi:X.N[i]?=some x) (hx:Loc X.env.scope x) (r:RelV v u)
 (h:∀ s',Inv X pins (σ.set i (some v)) H s'→(∃ a,Heap.SameBut a s.heap s'.heap∧(a=X.env.locals∨X.env.cells.lookup x=some a))→Q () s') (hf:X.fn x=true∨X.env.scope.names.lookup x=some .local:=by first | exact .inl rfl | exact .inr rfl | assumption):wpAny M A (storeName X.env x u) Q E s:=by
 obtain ⟨m,hn,hl⟩:=id I.loc
 have hcls:(X.env.scope.kind == .class || (X.env.scope.kind == .module && X.env.locals != X.env.globals))=false:=by rw [I.ok.kind];rfl
 have hiσ:i<σ.length:=by rw [I.len];exact (List.getElem?_eq_some_iff.mp hi).1
 have cne:=I.cne
 have tracked:∀ {a:Addr} {h':Heap},(∃ o,s.heap.get? a=some o∧H a=none)→Heap.SameBut a s.heap h'→HOk X.prog X.w H h':=fun {a h'} ha hs b ob e=>by
  obtain ⟨_,_,hfree⟩:=ha
  refine (I.hok b ob e).stay (fun c w' hc q=>(hs.2 c ?_).trans q) (fun _ q=>q) fun _ _ q=>q
  rintro rfl
  rcases hc with rfl | hc
  · rw [hfree] at e;cases e
  · rw [hfree] at hc;cases hc
 rcases hx with hk | hk
 · refine wpAny_storeName_local hk hn (fun h' hn' hs=>?_) hcls
   obtain ⟨oL,_,_,hoL,_⟩:=id hn
   refine h _ ⟨I.ok,I.os,I.bare,⟨fun b o e n hb hx=>?_,fun b o e n hb hx=>?_,I.base.free,fun b o e hx=>?_,I.base.tups,I.base.frzs,I.base.tbls⟩,⟨_,hn',fun j y v' e1 e2 e3=>?_⟩,fun y c e=>?_,I.free,I.freeC,fun p hp=>?_,tracked ⟨oL,hoL,I.free⟩ hs,by simpa using I.len⟩ ⟨_,hs,.inl rfl⟩
   · exact (hs.2 b (Nat.ne_of_lt (Nat.lt_of_lt_of_le (Heap.lt_size e) I.ok.above))).trans (I.base.keep b o e n hb hx)
   · obtain ⟨sl,e1⟩:=I.base.slot b o e n hb hx
     exact ⟨sl,(hs.2 b (Nat.ne_of_lt (Nat.lt_of_lt_of_le (Heap.lt_size e) I.ok.above))).trans e1⟩
   · obtain ⟨o',e1⟩:=I.base.there b o e hx
     exact ⟨o',(hs.2 b (Nat.ne_of_lt (Nat.lt_of_lt_of_le (Heap.lt_size e) I.ok.above))).trans e1⟩
   · by_cases hj:j=i
     · subst hj
       rw [hi] at e1;cases e1
       rw [List.getElem?_set_self hiσ] at e2
       cases e2
       exact ⟨u,r,.inl ⟨hk,by simp⟩⟩
     · rw [List.getElem?_set_ne (Ne.symm hj)] at e2
       obtain ⟨u',r',q⟩:=hl j y v' e1 e2 e3
       refine ⟨u',r',?_⟩
       rcases q with ⟨k,e⟩ | ⟨k,c,e,z⟩
       · refine .inl ⟨k,?_⟩
         have:y≠x:=fun e=>hj (nodup_ix hN e1 (e ▸ hi))
         simp [this,e]
       · exact .inr ⟨k,c,e,z.sameBut hs (cne y c e)⟩
   · obtain ⟨w',z⟩:=I.cell y c e
     exact ⟨w',z.sameBut hs (cne y c e)⟩
   · obtain ⟨e,n,ne,nf,d⟩:=I.pin p hp
     exact ⟨(hs.2 p.1 ne).trans e,n,ne,nf,d⟩
 · have hfn:X.fn x=true:=by
    rcases hf with z | z
    · exact z
    · rw [z] at hk;cases hk
   obtain ⟨c,hc⟩:=I.ok.has x (.inl hk)
   obtain ⟨w',z⟩:=I.cell x c hc
   refine wpAny_storeName_cell I.ok.kind hk hc z (fun h' hc' hs=>?_)
   obtain ⟨oc,hoc,hocd⟩:=id z
   refine h { s with heap:=h' } ⟨I.ok,I.os,I.bare,⟨fun b o e n hb hx=>?_,fun b o e n hb hx=>?_,I.base.free,fun b o e hx=>?_,I.base.tups,I.base.frzs,I.base.tbls⟩,⟨m,hn.sameBut hs (Ne.symm (cne x c hc)),fun j y v' e1 e2 e3=>?_⟩,fun y c' e=>?_,I.free,I.freeC,fun p hp=>?_,tracked ⟨oc,hoc,I.freeC x c hc⟩ hs,by simpa using I.len⟩ ⟨c,hs,.inr hc⟩
   · exact (hs.2 b (Nat.ne_of_lt (Nat.lt_of_lt_of_le (Heap.lt_size e) (I.ok.cab x c hfn hc)))).trans (I.base.keep b o e n hb hx)
   · obtain ⟨sl,e1⟩:=I.base.slot b o e n hb hx
     exact ⟨sl,(hs.2 b (Nat.ne_of_lt (Nat.lt_of_lt_of_le (Heap.lt_size e) (I.ok.cab x c hfn hc)))).trans e1⟩
   · obtain ⟨o',e1⟩:=I.base.there b o e hx
     exact ⟨o',(hs.2 b (Nat.ne_of_lt (Nat.lt_of_lt_of_le (Heap.lt_size e) (I.ok.cab x c hfn hc)))).trans e1⟩
   · by_cases hj:j=i
     · subst hj
       rw [hi] at e1;cases e1
       rw [List.getElem?_set_self hiσ] at e2
       cases e2
       exact ⟨u,r,.inr ⟨.inl hk,c,hc,hc'⟩⟩
     · rw [List.getElem?_set_ne (Ne.symm hj)] at e2
       obtain ⟨u',r',q⟩:=hl j y v' e1 e2 e3
       refine ⟨u',r',?_⟩
       rcases q with q | ⟨k,c',e,z'⟩
       · exact .inl q
       · refine .inr ⟨k,c',e,z'.sameBut hs ?_⟩
         rintro rfl
         exact hj (nodup_ix hN e1 (I.ok.inj _ _ _ e hc ▸ hi))
   · by_cases hcc:c'=c
     · subst hcc;exact ⟨_,hc'⟩
     · obtain ⟨w2,z2⟩:=I.cell y c' e
       exact ⟨w2,z2.sameBut hs hcc⟩
   · obtain ⟨e,n,ne,nf,d⟩:=I.pin p hp
     refine ⟨(hs.2 p.1 ?_).trans e,n,ne,nf,d⟩
     intro q
     rw [q,hoc] at e
     have q':oc=p.2:=Option.some.inj e
     exact d w' (by rw [← q'];exact hocd)
theorem store_ok {M:Model} {A:Around} {E:Value→Shared→Prop} {i:Nat} {x:Str} {v:V} {u:Value} {Q:Unit→Shared→Prop} (I:Inv X pins σ H s) (hN:X.N.Nodup) (hi:X.N[i]?=some x) (hx:Loc X.env.scope x) (r:RelV v u)
 (h:∀ s',Inv X pins (σ.set i (some v)) H s'→Q () s') (hf:X.fn x=true∨X.env.scope.names.lookup x=some .local:=by first | exact .inl rfl | exact .inr rfl | assumption):wpAny M A (storeName X.env x u) Q E s :=
 store_ok2 I hN hi hx r (fun s' I' _=>h s' I') hf
theorem Inv.call' {s':Shared} {ch:List Addr} (I:Inv X pins σ H s) (ho:s'.os=s.os) (u:Un (frs X.stack) ch H H' s.heap s'.heap) (hok:HOk X.prog X.w H' s'.heap) (hg:AllBare s'.gens)
 (hch:∀ b∈ch,(b∈X.ex∨X.s₀.heap.objs.size≤b)∧b≠X.env.locals∧(∀ x c,X.env.cells.lookup x=some c→c≠b)∧∀ p∈X.pn ++ pins,p.1≠b):Inv X pins σ H' s':=by
 obtain ⟨h',g',d',t',o'⟩:=s'
 have e:o'=s.os:=ho
 subst e
 exact I.call (g':=g') (t':=t') (d':=d') u hok hg hch
end
noncomputable abbrev XK:=Value→Option Addr→Hp→Prop
noncomputable abbrev St:=List (Option V)
noncomputable abbrev VK:=V→Hp→Prop
noncomputable abbrev TE:=St→Hp→VK→Prop
noncomputable abbrev TT:=St→Hp→(Bool→Hp→Prop)→Prop
noncomputable abbrev TA:=St→Hp→(List V→Hp→Prop)→Prop
set_option genInjectivity false in
structure Ends where
 nx:St→Hp→Prop
 rt:VK
 bk:St→Hp→Prop:=fun _ _=>False
 ct:St→Hp→Prop:=fun _ _=>False
noncomputable abbrev TS:=Ends→St→Hp→Prop
noncomputable def EP (X:Cx) (pins:List (Addr×Obj)) (σ:St) (Q:VK) (u:Value) (s':Shared):Prop:=∃ v H',Inv X pins σ H' s'∧RelV v u∧Q v H'
noncomputable def TP (X:Cx) (pins:List (Addr×Obj)) (σ:St) (Q:Bool→Hp→Prop) (b:Bool) (s':Shared):Prop:=∃ H',Inv X pins σ H' s'∧Q b H'
noncomputable def AP (X:Cx) (pins:List (Addr×Obj)) (σ:St) (Q:List V→Hp→Prop) (us:List Value) (s':Shared):Prop:=∃ vs H',Inv X pins σ H' s'∧Vals vs us∧Q vs H'
noncomputable def SP (X:Cx) (pins:List (Addr×Obj)) (D:Ends) (f:Flow) (s':Shared):Prop :=
 match f with
 | .next=>∃ σ' H',Inv X pins σ' H' s'∧D.nx σ' H'
 | .brk=>∃ σ' H',Inv X pins σ' H' s'∧D.bk σ' H'
 | .cont=>∃ σ' H',Inv X pins σ' H' s'∧D.ct σ' H'
 | .ret u=>∃ v σ' H',Inv X pins σ' H' s'∧RelV v u∧D.rt v H'
noncomputable def PE (X:Cx) (e:Expr) (t:TE):Prop :=
 ∀ (pins:List (Addr×Obj)) (s:Shared) (σ:St) (H:Hp) (Q:VK),Inv X pins σ H s→t σ H Q→wpAny (model X.prog X.w) X.A (eval e X.env) (EP X pins σ Q) X.xe s
noncomputable def PT (X:Cx) (e:Expr) (t:TT):Prop :=
 ∀ (pins:List (Addr×Obj)) (s:Shared) (σ:St) (H:Hp) (Q:Bool→Hp→Prop),Inv X pins σ H s→t σ H Q→wpAny (model X.prog X.w) X.A (isTrue e X.env (eval e X.env)) (TP X pins σ Q) X.xe s
noncomputable def PW (X:Cx) (e:Expr) (t:TT):Prop :=
 ∀ (whole:Sem Value) (pins:List (Addr×Obj)) (s:Shared) (σ:St) (H:Hp) (Q:Bool→Hp→Prop),Inv X pins σ H s→t σ H Q→wpAny (model X.prog X.w) X.A (isTrue e X.env whole) (TP X pins σ Q) X.xe s
theorem PW.pt {X:Cx} {e:Expr} {t:TT} (h:PW X e t):PT X e t:=h _
noncomputable def PA (X:Cx) (es:List Expr) (t:TA):Prop :=
 ∀ (pos:Pos) (pins:List (Addr×Obj)) (s:Shared) (σ:St) (H:Hp) (Q:List V→Hp→Prop),Inv X pins σ H s→t σ H Q→wpAny (model X.prog X.w) X.A (spliced (backTo pos (starEach es X.env))) (AP X pins σ Q) X.xe s
noncomputable def PS (X:Cx) (st:Stmt) (t:TS):Prop :=
 ∀ (pins:List (Addr×Obj)) (s:Shared) (σ:St) (H:Hp) (D:Ends),Inv X pins σ H s→t D σ H→wpAny (model X.prog X.w) X.A (exec st X.env) (SP X pins D) X.xe s
noncomputable def PSs (X:Cx) (st:List Stmt) (t:TS):Prop :=
 ∀ (pins:List (Addr×Obj)) (s:Shared) (σ:St) (H:Hp) (D:Ends),Inv X pins σ H s→t D σ H→wpAny (model X.prog X.w) X.A (execs st X.env) (SP X pins D) X.xe s
theorem thn {α:Type} {t:Sem α} {Q Q':α→Shared→Prop} {M:Model} {A:Around} {E:Value→Shared→Prop} {s:Shared} (h:wpAny M A t Q E s) (hQ:∀ a s,Q a s→Q' a s):wpAny M A t Q' E s:=wpAny_mono h hQ fun _ _ x=>x
end L2
namespace L2
open PySem PySem.Spec PyProof.Rows
section
variable {X:Cx}
noncomputable def tVar (i:Nat):TE:=fun σ H Q=>∃ v,σ[i]?=some (some v)∧Q v H
noncomputable def tC (v:V):TE:=fun _ H Q=>Q v H
theorem pe_var {i:Nat} {x:Str} {pos:Pos} (hN:X.N[i]?=some x) (hv:Vis X.env.scope x) (hd:(x == ("__debug__":Str))=false:=by decide) (hcd:(x == ("__classdict__":Str))=false:=by decide):PE X (.Name x pos) (tVar i):=by
 intro pins s σ H Q I h
 obtain ⟨v,e,h⟩:=h
 obtain ⟨m,hn,hl⟩:=I.loc
 obtain ⟨u,r,l⟩:=hl i x v hN e hv
 have fin:EP X pins σ Q u s:=⟨v,H,I,r,h⟩
 rcases l with ⟨hk,hm⟩ | ⟨hk,c,hc,hcell⟩
 · exact wpAny_Name (wpAny_loadName_local I.ok.kind hk hn hm fin) hd
 · rcases hk with hk | hk
   · exact wpAny_Name (wpAny_loadName_cell I.ok.kind hk hc hcell fin) hd
   · exact wpAny_Name (wpAny_loadName_free I.ok.kind hk hc hcell fin hcd) hd
theorem pe_int {i j pos}:PE X (.Constant (.int i) j pos) (tC (.int i)):=fun _ _ _ H _ I h=>wpAny_Constant_int ⟨.int i,H,I.tok _,⟨_,rfl⟩,h⟩
theorem pe_bl {b j pos}:PE X (.Constant (.bool b) j pos) (tC (.bl b)):=fun _ _ _ H _ I h=>Constant_bool ⟨.bl b,H,I,rfl,h⟩
theorem pe_str {x j pos}:PE X (.Constant (.str x) j pos) (tC (.str x)):=fun _ _ _ H _ I h=>Calls.Constant_str ⟨.str x,H,I.tok _,⟨_,rfl⟩,h⟩
noncomputable def Gl (X:Cx) (x:Str):Prop:=X.env.kindOf x=some .globalImplicit
theorem ld_glob {E:Value→Shared→Prop} {pins:List (Addr×Obj)} {s:Shared} {σ:St} {H:Hp} {x:Str} {u:Value} {pos:Pos} {Q:Value→Shared→Prop} (I:Inv X pins σ H s) (hg:Gl X x) (hm:X.mg x=some u) (h:Q u s)
 (hd:(x == ("__debug__":Str))=false:=by decide):wpAny (model X.prog X.w) X.A (eval (.Name x pos) X.env) Q E s :=
 Calls.Name_function_global I.ok.kind hg (Calls.loadGlobal_global (by rw [I.ok.glob];exact I.mod.glob.keeps I.bk) hm h) hd
theorem ld_blt {E:Value→Shared→Prop} {pins:List (Addr×Obj)} {s:Shared} {σ:St} {H:Hp} {x:Str} {u:Value} {pos:Pos} {Q:Value→Shared→Prop} (I:Inv X pins σ H s) (hg:Gl X x) (hm:X.mg x=none) (hv:bootBuiltins x=some u) (h:Q u s)
 (hn:x≠"__name__":=by decide) (hd:(x == ("__debug__":Str))=false:=by decide):wpAny (model X.prog X.w) X.A (eval (.Name x pos) X.env) Q E s:=by
 obtain ⟨mb,h1,h2⟩:=I.mod.blt
 exact Calls.Name_function_global I.ok.kind hg (Calls.loadGlobal_builtin (by rw [I.ok.glob];exact I.mod.glob.keeps I.bk) hm (by rw [I.ok.blt];exact h1.keeps I.bk) ((h2 x hn).trans hv) h) hd
theorem pe_glob {x:Str} {v:V} {u:Value} {pos:Pos} (hg:Gl X x) (hm:X.mg x=some u) (r:RelV v u) (hd:(x == ("__debug__":Str))=false:=by decide):PE X (.Name x pos) (tC v) :=
 fun _ _ _ H _ I h=>ld_glob I hg hm ⟨v,H,I,r,h⟩ hd
theorem pe_bltn {x:Str} {v:V} {u:Value} {pos:Pos} (hg:Gl X x) (hm:X.mg x=none) (hv:bootBuiltins x=some u) (r:RelV v u) (hn:x≠"__name__":=by decide) (hd:(x == ("__debug__":Str))=false:=by decide):PE X (.Name x pos) (tC v) :=
 fun _ _ _ H _ I h=>ld_blt I hg hm hv ⟨v,H,I,r,h⟩ hn hd
variable {a b:Expr} {ta tb:TE} {pos:Pos}
noncomputable def tB (t:TE):TT:=fun σ H Q=>t σ H fun x H1=>∃ c,x=.bl c∧Q c H1
theorem pt_val {e:Expr} {t:TE} (h:PE X e t) (he:∀ whole,isTrue e X.env whole=(do let v ←whole;standAt e.pos;holding [v] (truthy v)):=by intro _;rfl):PT X e (tB t):=by
 intro pins s σ H Q I hw
 refine isTrue_plain (thn (h pins s σ H _ I hw) fun v s1 ⟨x,H1,I1,r1,q1⟩=>?_) (he _)
 obtain ⟨d,rfl,q⟩:=q1
 cases r1
 exact wpAny_truthy_bool ⟨H1,I1,q⟩
variable {tA tB':TT} {rest:List Expr}
noncomputable def tAnd (t u:TT):TT:=fun σ H Q=>t σ H fun c H1=>if c=true then u σ H1 Q else Q false H1
noncomputable def tOr (t u:TT):TT:=fun σ H Q=>t σ H fun c H1=>if c=true then Q true H1 else u σ H1 Q
noncomputable def tNot (t:TT):TT:=fun σ H Q=>t σ H fun c H1=>Q (!c) H1
theorem pw_and1 (ha:PT X a tA):PW X (.BoolOp .And [a] pos) tA:=by
 intro wh pins s σ H Q I h
 refine isTrue_and (thn (ha pins s σ H Q I h) fun c s1 e=>?_)
 cases c with
 | true=>exact isTrue_and_nil e
 | false=>exact e
theorem pw_or1 (ha:PT X a tA):PW X (.BoolOp .Or [a] pos) tA:=by
 intro wh pins s σ H Q I h
 refine isTrue_or (thn (ha pins s σ H Q I h) fun c s1 e=>?_)
 cases c with
 | false=>exact isTrue_or_nil e
 | true=>exact e
theorem pw_and (ha:PT X a tA) (hb:PW X (.BoolOp .And (b :: rest) pos) tB'):PW X (.BoolOp .And (a :: b :: rest) pos) (tAnd tA tB'):=by
 intro wh pins s σ H Q I h
 refine isTrue_and (thn (ha pins s σ H _ I h) fun c s1 ⟨H1,I1,q1⟩=>?_)
 cases c with
 | true=>exact hb wh pins s1 σ H1 Q I1 q1
 | false=>exact ⟨H1,I1,q1⟩
theorem pw_or (ha:PT X a tA) (hb:PW X (.BoolOp .Or (b :: rest) pos) tB'):PW X (.BoolOp .Or (a :: b :: rest) pos) (tOr tA tB'):=by
 intro wh pins s σ H Q I h
 refine isTrue_or (thn (ha pins s σ H _ I h) fun c s1 ⟨H1,I1,q1⟩=>?_)
 cases c with
 | true=>exact ⟨H1,I1,q1⟩
 | false=>exact hb wh pins s1 σ H1 Q I1 q1
theorem pt_not (ha:PT X a tA):PT X (.UnaryOp .Not a pos) (tNot tA):=by
 intro pins s σ H Q I h
 exact isTrue_not (ha pins s σ H (fun c H1=>Q (!c) H1) I h)
noncomputable def tIf (t:TT) (ta tb:TE):TE:=fun σ H Q=>t σ H fun c H1=>if c=true then ta σ H1 Q else tb σ H1 Q
theorem pe_ifExp {c:Expr} (hc:PT X c tA) (ha:PE X a ta) (hb:PE X b tb):PE X (.IfExp c a b pos) (tIf tA ta tb):=by
 intro pins s σ H Q I h
 refine wpAny_IfExp (thn (hc pins s σ H _ I h) fun d s1 ⟨H1,I1,q1⟩=>?_)
 cases d with
 | true=>exact ha pins s1 σ H1 Q I1 q1
 | false=>exact hb pins s1 σ H1 Q I1 q1
end
end L2
namespace L2
open PySem PySem.Spec PyProof.Rows
noncomputable def SqL (K:PySem.W.Frag) (H:Hp) (a:Addr) (xs:List V):Prop :=
 Rd H a (.lst xs) ∨
  ∃ (o:Obj) (its:Array Value) (n:Nat),K.lookup a=some o∧o.cls=.type "list"∧o.dict=none∧o.data=.seq its n∧its.size≤sizeLine∧Vals xs its.toList
noncomputable def SqT (K:PySem.W.Frag) (H:Hp) (a:Addr) (xs:List V):Prop :=
 Rd H a (.tup xs) ∨
  ∃ (o:Obj) (its:Array Value) (n:Nat),K.lookup a=some o∧o.cls=.type "tuple"∧o.data=.seq its n∧its.size≤sizeLine∧Vals xs its.toList
noncomputable def absV:Value→Option V
 | .none=>some .non
 | .bool b=>some (.bl b)
 | .int i _=>some (.int i)
 | .str x _=>some (.str x)
 | .bytes b _=>some (.byt b)
 | .float b _=>some (.flt b)
 | .ref a=>some (.ref a)
 | .type n=>some (.ty n)
 | _=>none
theorem RelV.abs {x:V} {u:Value} (r:RelV x u):absV u=some x:=by
 cases x with
 | non=>cases r;rfl
 | bl _=>cases r;rfl
 | int _=>obtain ⟨t,rfl⟩:=r;rfl
 | str _=>obtain ⟨t,rfl⟩:=r;rfl
 | byt _=>obtain ⟨t,rfl⟩:=r;rfl
 | flt _=>obtain ⟨t,rfl⟩:=r;rfl
 | ref _=>cases r;rfl
 | ty _=>cases r;rfl
theorem RelV.inj {x y:V} {u:Value} (r:RelV x u) (q:RelV y u):x=y:=Option.some.inj (r.abs.symm.trans q.abs)
theorem Vals.inj:∀ {xs ys:List V} {us:List Value},Vals xs us→Vals ys us→xs=ys
 | _,_,_,.nil,.nil=>rfl
 | _,_,_,.cons r t,.cons r' t'=>by rw [r.inj r',Vals.inj t t']
section
variable {X:Cx} {pins:List (Addr×Obj)} {σ:St} {H:Hp} {s:Shared} {a:Addr} {xs ys:List V}
theorem SqL.of {K:PySem.W.Frag} (h:H a=some (.lst xs)):SqL K H a xs:=.inl (.inl h)
theorem SqT.of {K:PySem.W.Frag} (h:H a=some (.tup xs)):SqT K H a xs:=.inl (.inl h)
theorem Inv.list (I:Inv X pins σ H s) (h:SqL X.K H a xs):∃ its:List Value,Vals xs its∧PlainL s.heap a its.toArray∧xs.length≤sizeLine:=by
 rcases h with h | ⟨o,its,n,hk,hc,hd,hs,hz,r⟩
 · obtain ⟨z,its,n,r,e⟩:=h.ok I.hok
   exact ⟨its,r,⟨_,n,e,rfl,rfl,rfl⟩,z⟩
 · refine ⟨its.toList,r,⟨o,n,I.kIn a o hk,hc,hd,by simpa using hs⟩,?_⟩
   have e:=r.length
   simp only [Array.length_toList] at e
   omega
theorem Inv.tuple (I:Inv X pins σ H s) (h:SqT X.K H a xs):∃ its:List Value,Vals xs its∧IsTup s.heap a its.toArray∧xs.length≤sizeLine:=by
 rcases h with h | ⟨o,its,n,hk,hc,hs,hz,r⟩
 · obtain ⟨z,its,r,p⟩:=h.ok I.hok
   exact ⟨its,r,p.tup,z⟩
 · refine ⟨its.toList,r,⟨o,I.kIn a o hk,hc,n,by simpa using hs⟩,?_⟩
   have e:=r.length
   simp only [Array.length_toList] at e
   omega
theorem Inv.list_inj (I:Inv X pins σ H s) (h:SqL X.K H a xs) (h':SqL X.K H a ys):xs=ys:=by
 obtain ⟨its,r,⟨o,n,e,_,_,d⟩,_⟩:=I.list h
 obtain ⟨its',r',⟨o',n',e',_,_,d'⟩,_⟩:=I.list h'
 rw [e] at e';cases e'
 rw [d] at d'
 injection d' with d1 _
 have:its=its':=by simpa using congrArg Array.toList d1
 subst this
 exact r.inj r'
theorem Inv.tuple_inj (I:Inv X pins σ H s) (h:SqT X.K H a xs) (h':SqT X.K H a ys):xs=ys:=by
 obtain ⟨its,r,⟨o,e,_,n,d⟩,_⟩:=I.tuple h
 obtain ⟨its',r',⟨o',e',_,n',d'⟩,_⟩:=I.tuple h'
 rw [e] at e';cases e'
 rw [d] at d'
 injection d' with d1 _
 have:its=its':=by simpa using congrArg Array.toList d1
 subst this
 exact r.inj r'
end
noncomputable abbrev Cx.wish (X:Cx) (E:Value→Shared→Prop):Cx:={ X with xe:=E }
noncomputable abbrev Cx.nox (X:Cx):Cx:=X.wish fun _ _=>False
theorem Cx.Ok.wish {X:Cx} (ok:X.Ok) (E:Value→Shared→Prop):(X.wish E).Ok :=
 ⟨ok.mod,ok.kind,ok.glob,ok.blt,ok.above,ok.inj,ok.has,ok.cab,ok.hd,ok.frames,ok.stk,ok.exf,ok.bs,ok.bsz,ok.noex,ok.exfs,ok.funs,ok.frf⟩
theorem Cx.Ok.unwish {X:Cx} {E:Value→Shared→Prop} (ok:(X.wish E).Ok):X.Ok :=
 ⟨ok.mod,ok.kind,ok.glob,ok.blt,ok.above,ok.inj,ok.has,ok.cab,ok.hd,ok.frames,ok.stk,ok.exf,ok.bs,ok.bsz,ok.noex,ok.exfs,ok.funs,ok.frf⟩
section
variable {X:Cx} {pins:List (Addr×Obj)} {σ:St} {H:Hp} {s:Shared} {E:Value→Shared→Prop}
theorem Inv.wish (I:Inv X pins σ H s) (E:Value→Shared→Prop):Inv (X.wish E) pins σ H s:=⟨I.ok.wish E,I.os,I.bare,I.base,I.loc,I.cell,I.free,I.freeC,I.pin,I.hok,I.len⟩
theorem Inv.unwish (I:Inv (X.wish E) pins σ H s):Inv X pins σ H s:=⟨I.ok.unwish,I.os,I.bare,I.base,I.loc,I.cell,I.free,I.freeC,I.pin,I.hok,I.len⟩
theorem SP.unwish {D:Ends} {f:Flow} {s':Shared} (h:SP (X.wish E) pins D f s'):SP X pins D f s':=by
 cases f with
 | next=>obtain ⟨σ',H',I,q⟩:=h;exact ⟨σ',H',I.unwish,q⟩
 | brk=>obtain ⟨σ',H',I,q⟩:=h;exact ⟨σ',H',I.unwish,q⟩
 | cont=>obtain ⟨σ',H',I,q⟩:=h;exact ⟨σ',H',I.unwish,q⟩
 | ret u=>obtain ⟨v,σ',H',I,r,q⟩:=h;exact ⟨v,σ',H',I.unwish,r,q⟩
theorem PSs.nox {st:List Stmt} {t:TS} (h:PSs X.nox st t):PSs X st t:=fun pins s σ H D I hw =>
 wpAny_mono (h pins s σ H D (I.wish _) hw) (fun _ _ q=>q.unwish) fun _ _ z=>False.elim z
end
section
variable {X:Cx} {st:Stmt} {rest:List Stmt} {t u:TS} {e:Expr} {te:TE} {pos:Pos}
noncomputable def tNext:TS:=fun D σ H=>D.nx σ H
noncomputable def tSeq (t u:TS):TS:=fun D σ H=>t { D with nx:=u D } σ H
theorem pss_nil:PSs X [] tNext:=fun _ _ σ H _ I h=>wpAny_execs_nil ⟨σ,H,I,h⟩
theorem pss_cons (h1:PS X st t) (h2:PSs X rest u):PSs X (st :: rest) (tSeq t u):=by
 intro pins s σ H D I h
 refine wpAny_execs_cons (thn (h1 pins s σ H { D with nx:=u D } I h) fun f s1 q=>?_)
 cases f with
 | next =>
   obtain ⟨σ',H',I',q⟩:=q
   exact h2 pins s1 σ' H' D I' q
 | ret v=>exact q
 | brk=>exact q
 | cont=>exact q
theorem pss_one (h1:PS X st t):PSs X [st] t:=by
 intro pins s σ H D I h
 refine wpAny_execs_cons (thn (h1 pins s σ H D I h) fun f s1 q=>?_)
 cases f with
 | next=>exact wpAny_execs_nil q
 | ret v=>exact q
 | brk=>exact q
 | cont=>exact q
theorem Inv.quiet {pins:List (Addr×Obj)} {σ:St} {H:Hp} {s:Shared} (I:Inv X pins σ H s):interactive X.env=false:=by simp [interactive,I.ok.kind]
noncomputable def tDrop (te:TE):TS:=fun D σ H=>te σ H fun _ H1=>D.nx σ H1
theorem ps_expr (he:PE X e te) (hs:swapsWith e none pos.line X.env=pure false:=by rfl):PS X (.Expr e pos) (tDrop te):=by
 intro pins s σ H D I h
 exact wpAny_Expr_any (thn (he pins s σ H _ I h) fun v s1 ⟨x,H1,I1,r1,q1⟩=>⟨σ,H1,I1,q1⟩) I.quiet hs
noncomputable def tRet (te:TE):TS:=fun D σ H=>te σ H D.rt
theorem ps_ret (he:PE X e te):PS X (.Return (some e) pos) (tRet te):=by
 intro pins s σ H D I h
 exact wpAny_Return_some (thn (he pins s σ H _ I h) fun v s1 ⟨x,H1,I1,r1,q1⟩=>⟨x,σ,H1,I1,r1,q1⟩)
noncomputable def tIfS (c:TT) (t u:TS):TS:=fun D σ H=>c σ H fun b H1=>if b=true then t D σ H1 else u D σ H1
theorem ps_if {c:Expr} {a b:List Stmt} {tc:TT} (hc:PT X c tc) (ha:PSs X a t) (hb:PSs X b u):PS X (.If c a b pos) (tIfS tc t u):=by
 intro pins s σ H D I h
 refine wpAny_If (thn (hc pins s σ H _ I h) fun d s1 ⟨H1,I1,q1⟩=>?_)
 cases d with
 | true=>exact ha pins s1 σ H1 D I1 q1
 | false=>exact hb pins s1 σ H1 D I1 q1
noncomputable def tNever:TS:=fun _ _ _=>False
theorem ps_never:PS X st tNever:=fun _ _ _ _ _ _ h=>h.elim
end
noncomputable abbrev TG:=V→St→Hp→(St→Hp→Prop)→Prop
noncomputable abbrev TGs:=List V→St→Hp→(St→Hp→Prop)→Prop
noncomputable def PG (X:Cx) (target:Expr) (t:TG):Prop :=
 ∀ (pins:List (Addr×Obj)) (s:Shared) (σ:St) (H:Hp) (v:V) (u:Value) (Q:St→Hp→Prop),Inv X pins σ H s→RelV v u→t v σ H Q →
   wpAny (model X.prog X.w) X.A (assign target X.env u) (fun _ s'=>∃ σ' H',Inv X pins σ' H' s'∧Q σ' H') X.xe s
noncomputable def PGs (X:Cx) (ts:List Expr) (t:TGs):Prop :=
 ∀ (pins:List (Addr×Obj)) (s:Shared) (σ:St) (H:Hp) (vs:List V) (us:List Value) (Q:St→Hp→Prop),Inv X pins σ H s→Vals vs us→t vs σ H Q →
   wpAny (model X.prog X.w) X.A (assignInOrder ((assignEach ts X.env).map (·.2)) us) (fun _ s'=>∃ σ' H',Inv X pins σ' H' s'∧Q σ' H') X.xe s
noncomputable abbrev TSet:=V→V→V→Hp→(Hp→Prop)→Prop
noncomputable def PSet (X:Cx) (t:TSet):Prop :=
 ∀ (pins:List (Addr×Obj)) (s:Shared) (σ:St) (H:Hp) (o i v:V) (ov iv u:Value) (Q:Hp→Prop),Inv X pins σ H s→RelV o ov→RelV i iv→RelV v u→t o i v H Q →
   wpAny (model X.prog X.w) X.A (setItem ov iv u) (fun _ s'=>∃ H',Inv X pins σ H' s'∧Q H') X.xe s
section
variable {X:Cx} {pos:Pos}
noncomputable def gName (i:Nat):TG:=fun v σ H Q=>Q (σ.set i (some v)) H
theorem pg_name {i:Nat} {x:Str} (hN:X.N.Nodup) (hi:X.N[i]?=some x) (hx:Loc X.env.scope x) (hf:X.fn x=true∨X.env.scope.names.lookup x=some .local:=by first | exact .inl rfl | exact .inr rfl | assumption):PG X (.Name x pos) (gName i):=by
 intro pins s σ H v u Q I r h
 exact wpAny_assign_Name (store_ok I hN hi hx r (fun s' I'=>⟨_,H,I',h⟩) hf)
noncomputable def gNil:TGs:=fun vs σ H Q=>vs=[]∧Q σ H
noncomputable def gCons (t:TG) (u:TGs):TGs:=fun vs σ H Q=>∃ v r,vs=v :: r∧t v σ H fun σ' H'=>u r σ' H' Q
theorem pgs_nil:PGs X [] gNil:=by
 intro pins s σ H vs us Q I r h
 obtain ⟨e,h⟩:=h
 subst e
 cases r
 exact assignInOrder_nil ⟨σ,H,I,h⟩
theorem pgs_cons {e:Expr} {es:List Expr} {t:TG} {u:TGs} (h1:PG X e t) (h2:PGs X es u)
 (hs:(assignEach (e :: es) X.env).map (·.2)=assign e X.env :: (assignEach es X.env).map (·.2):=by rfl):PGs X (e :: es) (gCons t u):=by
 intro pins s σ H vs us Q I r h
 obtain ⟨v,vr,e1,h⟩:=h
 subst e1
 cases r with
 | cons r rr =>
   rw [hs]
   refine assignInOrder_cons (thn (h1 pins s σ H _ _ _ I r h) fun _ s1 ⟨σ1,H1,I1,q1⟩=>?_)
   exact h2 pins s1 σ1 H1 _ _ Q I1 rr q1
noncomputable def gTup (K:PySem.W.Frag) (n:Nat) (t:TGs):TG:=fun v σ H Q=>∃ a xs,v=.ref a∧SqT K H a xs∧xs.length=n∧t xs σ H Q
theorem pg_tup {es:List Expr} {k:Nat} {t:TGs} {n:Nat} (hc:X.calm=true) (h:PGs X es t)
 (hn:(assignEach es X.env).length=n:=by rfl) (hst:(assignEach es X.env).findIdx? (·.1)=none:=by rfl):PG X (.Tuple es k pos) (gTup X.K n t):=by
 intro pins s σ H v u Q I r hw
 obtain ⟨a,xs,e1,hq,hl,hw⟩:=hw
 subst e1
 cases r
 obtain ⟨its,rv,ht,hz⟩:=I.tuple hq
 refine assign_Tuple_tuple (I.ok.hd hc) ht (by simp [hn,← hl,rv.length]) hst fun h' hx=>?_
 have I1:Inv X pins σ H { s with heap:=h' }:=I.kept (t':=s.toks) fun b o e=>hx b o (Nat.ne_of_lt (Heap.lt_size e)) e
 exact h pins _ σ H xs _ Q I1 (by simpa using rv) hw
noncomputable def gSub (to ti:TE) (t:TSet):TG:=fun v σ H Q=>to σ H fun o H1=>ti σ H1 fun i H2=>t o i v H2 fun H3=>Q σ H3
theorem pg_sub {o i:Expr} {to ti:TE} {t:TSet} (ho:PE X o to) (hi:PE X i ti) (hs:PSet X t)
 (ha:∀ v,assign (.Subscript o i pos) X.env v=(do
  let ov ←holding [v] (eval o X.env)
  let iv ←holding [v,ov] (eval i X.env)
  standAt pos
  holding [v,ov,iv] (setItem ov iv v)
  release [v,ov,iv] []):=by intro _;rfl):PG X (.Subscript o i pos) (gSub to ti t):=by
 intro pins s σ H v u Q I r h
 rw [ha]
 refine wpAny_bind (wpAny_holding (thn (ho pins s σ H _ I h) fun ov s1 ⟨x,H1,I1,r1,q1⟩=>?_))
 refine wpAny_bind (wpAny_holding (thn (hi pins s1 σ H1 _ I1 q1) fun iv s2 ⟨y,H2,I2,r2,q2⟩=>?_))
 refine wpAny_bind (wpAny_standAt (wpAny_bind (wpAny_holding (thn (hs pins s2 σ H2 x y v ov iv u _ I2 r1 r2 r q2) fun _ s3 ⟨H3,I3,q3⟩=>?_))))
 exact wpAny_release ⟨σ,H3,I3,q3⟩
noncomputable def tAsg (te:TE) (g:TG):TS:=fun D σ H=>te σ H fun x H1=>g x σ H1 D.nx
theorem ps_asg {tg e:Expr} {te:TE} {g:TG} (he:PE X e te) (hg:PG X tg g) (hs:swapsWithSole [tg] e pos.line X.env=pure false:=by rfl) (hw:swappedStores [tg] e X.env=pure none:=by rfl)
 (h1:(assignEach [tg] X.env).map (·.2)=[assign tg X.env]:=by rfl):PS X (.Assign [tg] e pos) (tAsg te g):=by
 intro pins s σ H D I h
 refine wpAny_Assign_stores (thn (he pins s σ H _ I h) fun v s1 ⟨x,H1,I1,r1,q1⟩=>?_) hs hw
 rw [h1]
 exact thn (hg pins s1 σ H1 x v _ I1 r1 q1) fun _ s2 q=>q
theorem ps_set {i:Nat} {x:Str} {e:Expr} {te:TE} {pos':Pos} (hN:X.N.Nodup) (hi:X.N[i]?=some x) (hx:Loc X.env.scope x) (he:PE X e te) (hs:swapsWith e (some (.Name x pos')) pos.line X.env=pure false:=by rfl) (hf:X.fn x=true∨X.env.scope.names.lookup x=some .local:=by first | exact .inl rfl | exact .inr rfl | assumption) :
 PS X (.Assign [.Name x pos'] e pos) (tAsg te (gName i)):=by
 intro pins s σ H D I h
 refine wpAny_Assign_Name (thn (he pins s σ H _ I h) fun v s1 ⟨y,H1,I1,r1,q1⟩=>?_) hs
 exact store_ok I1 hN hi hx r1 (fun s2 I2=>⟨_,H1,I2,q1⟩) hf
noncomputable def tPar (i j:Nat) (ta:TA):TS:=fun D σ H=>ta σ H fun vs H1=>∃ v w,vs=[v,w]∧D.nx ((σ.set i (some v)).set j (some w)) H1
theorem ps_par {i j:Nat} {x y:Str} {a b:Expr} {ta:TA} {px py pt:Pos} {kt k2 pt2} (hc:X.calm=true) (hN:X.N.Nodup) (hi:X.N[i]?=some x) (hj:X.N[j]?=some y) (hij:i≠j)
 (hx:X.env.scope.names.lookup x=some .local) (hy:X.env.scope.names.lookup y=some .local) (ha:PA X [a,b] ta)
 (hw:swappedStores [.Tuple [.Name x px,.Name y py] kt pt] (.Tuple [a,b] k2 pt2) X.env=pure (some [x,y]))
 (hs:swapsWithSole [.Tuple [.Name x px,.Name y py] kt pt] (.Tuple [a,b] k2 pt2) pos.line X.env=pure false:=by rfl) :
 PS X (.Assign [.Tuple [.Name x px,.Name y py] kt pt] (.Tuple [a,b] k2 pt2) pos) (tPar i j ta):=by
 intro pins s σ H D I h
 rw [exec_Assign_arm]
 refine wpAny_bind (wpAny_standAt ?_)
 rw [hs]
 refine wpAny_bind (wpAny_pure ?_)
 rw [if_neg (by decide)]
 refine wpAny_bind (Tuple_ (thn (ha _ pins s σ H _ I h) fun us s1 ⟨vs,H1,I1,r1,q1⟩=>?_))
 obtain ⟨v,w,e1,q1⟩:=q1
 subst e1
 obtain ⟨u1,u2,rfl,rv,rw'⟩:∃ u1 u2,us=[u1,u2]∧RelV v u1∧RelV w u2:=by
  cases r1 with
  | cons p q =>
    cases q with
    | cons p' q' =>
      cases q'
      exact ⟨_,_,rfl,p,p'⟩
 refine wpAny_newObj_type ?_ (by show 2≤sizeLine;decide)
 have I2:Inv X pins σ H1 { s1 with heap:=s1.heap.push { cls:=.type "tuple",data:=.seq [u1,u2].toArray } }:=I1.kept (t':=s1.toks) fun b o e=>Heap.get?_push_of_some _ e
 rw [hw]
 refine wpAny_bind (wpAny_pure ?_)
 show wpAny (model X.prog X.w) X.A (do rule "assign.swapped-stores";let items ←unpackItems (.ref s1.heap.objs.size) 2 none;assignInOrder [fun v=>bindName X.env y v,fun v=>bindName X.env x v] items.reverse;pure Flow.next) _ _ _
 refine wpAny_bind (wpAny_rule (wpAny_bind (unpackItems_tuple (items:=#[u1,u2]) (I.ok.hd hc) (IsTup.new s1.heap _) fun h' hx'=>?_)))
 have I3:=I2.kept (h':=h') (t':=s1.toks) fun b o e=>hx' b o (Nat.ne_of_lt (Heap.lt_size e)) e
 show wpAny _ _ (assignInOrder [fun v=>bindName X.env y v,fun v=>bindName X.env x v] [u2,u1] >>= fun _=>pure Flow.next) _ _ _
 refine wpAny_bind (assignInOrder_cons (wpAny_bindName (store_ok I3 hN hj (.inl hy) rw' (fun s2 I4=>?_) (.inr hy))))
 refine assignInOrder_cons (wpAny_bindName (store_ok I4 hN hi (.inl hx) rv (fun s3 I5=>assignInOrder_nil (wpAny_pure ?_)) (.inr hx)))
 rw [List.set_comm _ _ (Ne.symm hij)] at I5
 exact ⟨_,H1,I5,q1⟩
end
section
variable {X:Cx} {pos:Pos}
noncomputable def tWhile (c:TT) (tb:TS):TS:=fun D σ H=>∃ W:Nat→St→Hp→Prop,(∃ m,W m σ H)∧∀ m σ H,W m σ H →
 c σ H fun b H1=>if b=true then ∃ N:St→Hp→Prop,(∀ σ' H',N σ' H'→∃ m',m'<m∧W m' σ' H')∧tb { D with nx:=N,ct:=N,bk:=D.nx } σ H1 else D.nx σ H1
theorem ps_while {c:Expr} {body:List Stmt} {tc:TT} {tb:TS} (hp:PassesOwn (model X.prog X.w) X.A X.env X.xe) (hc:PT X c tc) (hb:PSs X body tb):PS X (.While c body [] pos) (tWhile tc tb):=by
 intro pins s σ H D I h
 obtain ⟨W,⟨m0,w0⟩,turn⟩:=h
 refine wpAny_While (codeAny_whileLoop (fun n s'=>∃ σ' H',Inv X pins σ' H' s'∧W n σ' H') ?_ m0 ⟨σ,H,I,w0⟩)
 rintro n s1 ⟨σ1,H1,I1,w1⟩
 refine wpAny_passesOwn hp (thn (hc pins s1 σ1 H1 _ I1 (turn n σ1 H1 w1)) fun b s2 ⟨H2,I2,q2⟩=>?_)
 cases b with
 | true =>
   obtain ⟨N,hN,q2⟩:=q2
   rw [if_pos rfl]
   refine wpAny_passesOwn hp (thn (hb pins s2 σ1 H2 _ I2 q2) fun f s3 q3=>?_)
   cases f with
   | next =>
     obtain ⟨σ3,H3,I3,n3⟩:=q3
     obtain ⟨m',hm,w3⟩:=hN σ3 H3 n3
     exact ⟨m',hm,σ3,H3,I3,w3⟩
   | cont =>
     obtain ⟨σ3,H3,I3,n3⟩:=q3
     obtain ⟨m',hm,w3⟩:=hN σ3 H3 n3
     exact ⟨m',hm,σ3,H3,I3,w3⟩
   | brk=>exact q3
   | ret v=>exact q3
 | false =>
   rw [if_neg Bool.false_ne_true]
   exact wpAny_execs_nil ⟨σ1,H2,I2,q2⟩
end
set_option genInjectivity false in
structure It where
 go:Nat→Hp→Prop
 yld:Nat→Hp→V→Hp→Prop
 stop:Nat→Hp→Prop
noncomputable def FpOk (X:Cx) (pins:List (Addr×Obj)) (H:Hp) (b:Addr):Prop :=
 H b=none∧b≠X.env.locals∧b∉X.fs∧(b∈X.ex∨X.s₀.heap.objs.size≤b)∧(∀ x c,X.env.cells.lookup x=some c→c≠b)∧∀ p∈X.pn ++ pins,p.1≠b
theorem Inv.fpOk {X:Cx} {pins:List (Addr×Obj)} {σ:St} {H H':Hp} {s:Shared} {b:Addr} (I:Inv X pins σ H s) (hb:s.heap.objs.size≤b) (hn:H' b=none):FpOk X pins H' b:=by
 refine ⟨hn,Nat.ne_of_gt (Nat.lt_of_lt_of_le I.lt hb),I.nofs hb,.inr (Nat.le_trans I.sz hb),fun x c e z=>?_,fun p hp z=>?_⟩
 · obtain ⟨v,q⟩:=I.cell x c e
   exact absurd (Nat.lt_of_lt_of_le q.lt (by rw [z];exact hb)) (Nat.lt_irrefl _)
 · exact absurd (Nat.lt_of_lt_of_le (Heap.lt_size (I.pin p hp).1) (by rw [z];exact hb)) (Nat.lt_irrefl _)
structure Turn (P:Program) (w:World) (K:PySem.W.Frag) (tg:Expr) (J:It) (fp:List Addr) (it:Addr) (tn:Nat→Heap→Prop):Prop where
 mem:it∈fp
 obj:∀ i h,tn i h→∀ b∈fp,∃ o,h.get? b=some o∧∀ v,o.data≠.cell v
 keep:∀ i h h',tn i h→(∀ b∈fp,∀ o,h.get? b=some o→h'.get? b=some o)→tn i h'
 item:∀ (X:Cx),X.prog=P→X.w=w→X.K=K→X.calm=true→∀ (i:Nat) (pins:List (Addr×Obj)) (s:Shared) (σ:St) (H:Hp) (E:Value→Shared→Prop),Inv X pins σ H s→(∀ b∈fp,FpOk X pins H b)→tn i s.heap→J.go i H →
  wpAny (model P w) X.A (pyNext (.ref it)) (fun r s1=>∃ u,r=some u ∧
   wpAny (model P w) X.A (letOwnedTupleGo tg (.ref it) u) (fun _ s2=>∃ x H',Inv X pins σ H' s2∧RelV x u∧J.yld i H x H'∧tn (i+1) s2.heap∧∀ b∈fp,H' b=none) E s1) E s
 done:∀ (X:Cx),X.prog=P→X.w=w→X.K=K→X.calm=true→∀ (i:Nat) (pins:List (Addr×Obj)) (s:Shared) (σ:St) (H:Hp) (E:Value→Shared→Prop),Inv X pins σ H s→(∀ b∈fp,FpOk X pins H b)→tn i s.heap→J.stop i H →
  wpAny (model P w) X.A (pyNext (.ref it)) (fun r s1=>r=none∧Inv X pins σ H s1) E s
 self:∀ (A:Around) (i:Nat) (s:Shared) (Q:Value→Shared→Prop) (E:Value→Shared→Prop),tn i s.heap→Q (.ref it) s→wpAny (model P w) A (pyIter (.ref it)) Q E s
noncomputable abbrev TI:=St→Hp→(It→Hp→Prop)→Prop
noncomputable def PIE (X:Cx) (pins:List (Addr×Obj)) (σ:St) (tg:Expr) (R:It→Hp→Prop) (itv:Value) (s2:Shared):Prop :=
 ∃ (it:Addr) (fp:List Addr) (tn:Nat→Heap→Prop) (J:It) (H':Hp),itv=.ref it∧Inv X pins σ H' s2∧Turn X.prog X.w X.K tg J fp it tn∧tn 0 s2.heap∧(∀ b∈fp,FpOk X pins H' b)∧R J H'
noncomputable def PI (X:Cx) (tg iter:Expr) (wi:TI):Prop :=
 ∀ (pins:List (Addr×Obj)) (s:Shared) (σ:St) (H:Hp) (R:It→Hp→Prop),Inv X pins σ H s→wi σ H R →
   wpAny (model X.prog X.w) X.A (eval iter X.env) (fun v s1=>wpAny (model X.prog X.w) X.A (pyIter v) (PIE X pins σ tg R) X.xe s1) X.xe s
theorem go_of {M:Model} {A:Around} {E:Value→Shared→Prop} {s:Shared} {tg:Expr} {it:Addr} {u:Value} {o:Obj} {n:String} {vs:Array Value} {Q:Unit→Shared→Prop} (ho:s.heap.get? it=some o) (hc:o.cls=.type n) (hd:o.data=.fields vs)
 (hn:["enumerate","zip","dict_itemiterator","dict_reverseitemiterator","odict_iterator","itertools.zip_longest","itertools.pairwise"].contains n=false) (hQ:Q () s):wpAny M A (letOwnedTupleGo tg (.ref it) u) Q E s:=by
 unfold letOwnedTupleGo
 cases tg <;> first
  | exact wpAny_pure hQ
  | (cases u <;> first
   | exact wpAny_pure hQ
   | (refine wpAny_bind (wpAny_load ho ?_)
      rw [hc,hd]
      show wpAny M A (if (["enumerate","zip","dict_itemiterator","dict_reverseitemiterator","odict_iterator","itertools.zip_longest","itertools.pairwise"].contains n && vs[0]? == some (rawInt _))=true then _ else _) Q E s
      rw [if_neg (by intro h;rw [hn,Bool.false_and] at h;cases h)]
      exact wpAny_pure hQ))
noncomputable def Itl (K:PySem.W.Frag) (a:Addr):It :=
 ⟨fun i H=>∃ xs x,SqL K H a xs∧xs[i]?=some x,fun i H x H'=>H'=H∧∀ xs,SqL K H a xs→xs[i]?=some x,fun i H=>∃ xs,SqL K H a xs∧xs.length≤i⟩
noncomputable def Itt (K:PySem.W.Frag) (a:Addr):It :=
 ⟨fun i H=>∃ xs x,SqT K H a xs∧xs[i]?=some x,fun i H x H'=>H'=H∧∀ xs,SqT K H a xs→xs[i]?=some x,fun i H=>∃ xs,SqT K H a xs∧xs.length≤i⟩
noncomputable def Itr (lo:Int) (n:Nat):It:=⟨fun i _=>i<n,fun i H x H'=>H'=H∧x=.int (lo+i),fun i _=>n≤i⟩
theorem turn_list {P:Program} {w:World} {K:PySem.W.Frag} {tg:Expr} (a it:Addr):Turn P w K tg (Itl K a) [it] it (fun i h=>h.IsListIter it a i) where
 mem:=by simp
 obj:=fun i h st b hb=>by
  have e:b=it:=by simpa using hb
  subst e
  obtain ⟨o,e,c,d⟩:=st
  exact ⟨o,e,fun v z=>by rw [d] at z;cases z⟩
 keep:=fun i h h' st k=>st.at fun o e=>k it (by simp) o e
 item:=by
  intro X hP hw hK hc i pins s σ H E I hf st hg
  subst hP hw hK
  obtain ⟨xs,x,hq,hx⟩:=hg
  obtain ⟨its,rv,p,hz⟩:=I.list hq
  obtain ⟨u,hu,ru⟩:=rv.get hx
  obtain ⟨f0,f1,f2,f3,f4,f5⟩:=hf it (by simp)
  refine wpAny_pyNext_list_item st p.isList (x:=u) (by simpa using hu) fun h' st' sb=>?_
  have I1:Inv X pins σ H { s with heap:=h' }:=I.turned (t':=s.toks) (fun b o hb e=>(sb.2 b hb).trans e) f0 f1 f3 f4 f5
  obtain ⟨o,e,c,d⟩:=id st'
  exact ⟨u,rfl,go_of (s:={ s with heap:=h' }) e c d (by decide) ⟨x,H,I1,ru,⟨rfl,fun ys hy=>by rw [I.list_inj hy hq];exact hx⟩,st',fun b hb=>(hf b hb).1⟩⟩
 done:=by
  intro X hP hw hK hc i pins s σ H E I hf st hg
  subst hP hw hK
  obtain ⟨xs,hq,hx⟩:=hg
  obtain ⟨its,rv,p,hz⟩:=I.list hq
  obtain ⟨f0,f1,f2,f3,f4,f5⟩:=hf it (by simp)
  have hl:=rv.length
  exact wpAny_pyNext_list_end (I.ok.hd hc) st p.isList (by simp;omega) fun h' eb=>⟨rfl,I.turned (t':=s.toks) (fun b o hb e=>eb b o hb e) f0 f1 f3 f4 f5⟩
 self:=fun _ _ _ _ _ st h=>wpAny_pyIter_listiter st h
theorem turn_tuple {P:Program} {w:World} {K:PySem.W.Frag} {tg:Expr} (a it:Addr):Turn P w K tg (Itt K a) [it] it (fun i h=>h.IsTupleIter it a i) where
 mem:=by simp
 obj:=fun i h st b hb=>by
  have e:b=it:=by simpa using hb
  subst e
  obtain ⟨o,e,c,d⟩:=st
  exact ⟨o,e,fun v z=>by rw [d] at z;cases z⟩
 keep:=fun i h h' st k=>st.at fun o e=>k it (by simp) o e
 item:=by
  intro X hP hw hK hc i pins s σ H E I hf st hg
  subst hP hw hK
  obtain ⟨xs,x,hq,hx⟩:=hg
  obtain ⟨its,rv,p,hz⟩:=I.tuple hq
  obtain ⟨u,hu,ru⟩:=rv.get hx
  obtain ⟨f0,f1,f2,f3,f4,f5⟩:=hf it (by simp)
  refine wpAny_pyNext_tuple_item st (show s.heap.IsTuple a its.toArray from p) (x:=u) (by simpa using hu) fun h' st' sb=>?_
  have I1:Inv X pins σ H { s with heap:=h' }:=I.turned (t':=s.toks) (fun b o hb e=>(sb.2 b hb).trans e) f0 f1 f3 f4 f5
  obtain ⟨o,e,c,d⟩:=id st'
  exact ⟨u,rfl,go_of (s:={ s with heap:=h' }) e c d (by decide) ⟨x,H,I1,ru,⟨rfl,fun ys hy=>by rw [I.tuple_inj hy hq];exact hx⟩,st',fun b hb=>(hf b hb).1⟩⟩
 done:=by
  intro X hP hw hK hc i pins s σ H E I hf st hg
  subst hP hw hK
  obtain ⟨xs,hq,hx⟩:=hg
  obtain ⟨its,rv,p,hz⟩:=I.tuple hq
  obtain ⟨f0,f1,f2,f3,f4,f5⟩:=hf it (by simp)
  have hl:=rv.length
  exact wpAny_pyNext_tuple_end (I.ok.hd hc) st (show s.heap.IsTuple a its.toArray from p) (by simp;omega) fun h' eb=>⟨rfl,I.turned (t':=s.toks) (fun b o hb e=>eb b o hb e) f0 f1 f3 f4 f5⟩
 self:=fun _ _ _ _ _ st h=>wpAny_pyIter_tupleiter st h
theorem turn_range {P:Program} {w:World} {K:PySem.W.Frag} {tg:Expr} (it:Addr) (lo:Int) (n:Nat):Turn P w K tg (Itr lo n) [it] it (fun i h=>IsRangeIter h it (lo+(i:Nat) * 1) ((n:Int) - (i:Nat)) 1) where
 mem:=by simp
 obj:=fun i h st b hb=>by
  have e:b=it:=by simpa using hb
  subst e
  exact ⟨_,st,fun v z=>by
   have z':Data.fields _=Data.cell v:=z
   cases z'⟩
 keep:=fun i h h' st k=>k it (by simp) _ st
 item:=by
  intro X hP hw hK hc i pins s σ H E I hf st hg
  subst hP hw hK
  obtain ⟨f0,f1,f2,f3,f4,f5⟩:=hf it (by simp)
  have W:=Walks.range (prog:=X.prog) (w:=X.w) (I.ok.hd hc) it lo 1 n
  refine W.item i s _ _ hg st fun v h' tk hv st' kk=>?_
  obtain ⟨t,rfl⟩:=hv
  have I1:Inv X pins σ H { s with heap:=h',toks:=tk }:=I.turned (fun b o hb e=>kk b o (by simpa using hb) e) f0 f1 f3 f4 f5
  refine ⟨_,rfl,go_of (s:={ s with heap:=h',toks:=tk }) (n:="range_iterator") st' rfl rfl (by decide) ⟨.int (lo+i),H,I1,⟨t,?_⟩,⟨rfl,rfl⟩,st',fun b hb=>(hf b hb).1⟩⟩
  rw [Int.mul_one]
 done:=by
  intro X hP hw hK hc i pins s σ H E I hf st hg
  subst hP hw hK
  obtain ⟨f0,f1,f2,f3,f4,f5⟩:=hf it (by simp)
  exact wpAny_pyNext_range_end (I.ok.hd hc) st (by have:n≤i:=hg;omega) fun h' eb=>⟨rfl,I.turned (t':=s.toks) (fun b o hb e=>eb b o hb e) f0 f1 f3 f4 f5⟩
 self:=fun _ _ _ _ _ st h=>wpAny_pyIter_rangeiter st h
end L2
namespace L2
open PySem PySem.Spec PyProof.Rows
section
variable {X:Cx} {tg:Expr}
noncomputable def iList (K:PySem.W.Frag) (tl:TE):TI:=fun σ H R=>tl σ H fun x H1=>∃ a,x=.ref a∧(∃ xs,SqL K H1 a xs)∧R (Itl K a) H1
noncomputable def iTup (K:PySem.W.Frag) (tl:TE):TI:=fun σ H R=>tl σ H fun x H1=>∃ a,x=.ref a∧(∃ xs,SqT K H1 a xs)∧R (Itt K a) H1
theorem pi_list {l:Expr} {tl:TE} (hl:PE X l tl):PI X tg l (iList X.K tl):=by
 intro pins s σ H R I h
 refine thn (hl pins s σ H _ I h) fun v s1 ⟨x,H1,I1,r1,q1⟩=>?_
 obtain ⟨a,e,⟨xs,hq⟩,q⟩:=q1
 subst e
 cases r1
 obtain ⟨its,rv,p,hz⟩:=I1.list hq
 refine wpAny_pyIter_list p.isList ?_
 refine ⟨s1.heap.objs.size,[s1.heap.objs.size],_,_,H1,rfl,I1.kept (t':=s1.toks) fun b o e=>Heap.get?_push_of_some _ e,turn_list a _,⟨_,Heap.get?_push_size _ rfl,rfl,rfl⟩,fun b hb=>?_,q⟩
 have e:b=s1.heap.objs.size:=by simpa using hb
 subst e
 exact I1.fpOk (Nat.le_refl _) (I1.hok.fresh (Nat.le_refl _))
theorem pi_tup {l:Expr} {tl:TE} (hl:PE X l tl):PI X tg l (iTup X.K tl):=by
 intro pins s σ H R I h
 refine thn (hl pins s σ H _ I h) fun v s1 ⟨x,H1,I1,r1,q1⟩=>?_
 obtain ⟨a,e,⟨xs,hq⟩,q⟩:=q1
 subst e
 cases r1
 obtain ⟨its,rv,p,hz⟩:=I1.tuple hq
 refine wpAny_pyIter_tuple (show s1.heap.IsTuple a its.toArray from p) ?_
 refine ⟨s1.heap.objs.size,[s1.heap.objs.size],_,_,H1,rfl,I1.kept (t':=s1.toks) fun b o e=>Heap.get?_push_of_some _ e,turn_tuple a _,⟨_,Heap.get?_push_size _ rfl,rfl,rfl⟩,fun b hb=>?_,q⟩
 have e:b=s1.heap.objs.size:=by simpa using hb
 subst e
 exact I1.fpOk (Nat.le_refl _) (I1.hok.fresh (Nat.le_refl _))
theorem range_it {pins:List (Addr×Obj)} {σ:St} {H:Hp} {s:Shared} {R:It→Hp→Prop} {E:Value→Shared→Prop} {lo hi:Int} {t u v:Tok} {tk:Nat} (I:Inv X pins σ H s) (h1:-(2 ^ 62)≤lo) (h2:lo<2 ^ 62) (h3:-(2 ^ 62)≤hi) (h4:hi<2 ^ 62)
 (q:R (Itr lo (hi - lo).toNat) H):wpAny (model X.prog X.w) X.A (pyIter (.ref s.heap.objs.size)) (PIE X pins σ tg R) E { s with heap:=s.heap.push { cls:=.type "range",data:=.fields #[.int lo t,.int hi u,.int 1 v] },toks:=tk }:=by
 refine wpAny_pyIter_range (IsRange.new ..) (small_one h1 h2 h3 h4) ?_
 have I1:Inv X pins σ H { s with heap:=s.heap.push { cls:=.type "range",data:=.fields #[.int lo t,.int hi u,.int 1 v] },toks:=tk }:=I.kept fun b o e=>Heap.get?_push_of_some _ e
 refine ⟨(s.heap.push { cls:=.type "range",data:=.fields #[.int lo t,.int hi u,.int 1 v] }).objs.size,[(s.heap.push { cls:=.type "range",data:=.fields #[.int lo t,.int hi u,.int 1 v] }).objs.size],_,_,H,rfl,
  I1.kept (t':=tk) fun b o e=>Heap.get?_push_of_some _ e,turn_range _ lo (hi - lo).toNat,?_,fun b hb=>?_,q⟩
 · have e1:lo+((0:Nat):Int) * 1=lo:=by simp
   have e2:(((hi - lo).toNat:Nat):Int) - ((0:Nat):Int)=Builtin.Range.rangeSize lo hi 1:=by rw [rangeSize_one];split <;> omega
   show IsRangeIter _ _ (lo+((0:Nat):Int) * 1) ((((hi - lo).toNat:Nat):Int) - ((0:Nat):Int)) 1
   rw [e1,e2]
   exact Heap.get?_push_size _ rfl
 · have e:b=(s.heap.push { cls:=.type "range",data:=.fields #[.int lo t,.int hi u,.int 1 v] }).objs.size:=by simpa using hb
   subst e
   exact I1.fpOk (Nat.le_refl _) (I1.hok.fresh (Nat.le_refl _))
noncomputable def iRng1 (ta:TA):TI:=fun σ H R=>ta σ H fun vs H1=>∃ j:Int,vs=[.int j]∧-(2 ^ 62)≤j∧j<2 ^ 62∧R (Itr 0 j.toNat) H1
theorem pi_range1 {a:Expr} {ta:TA} {p pos:Pos} (hg:Gl X "range") (hm:X.mg "range"=none) (ha:PA X [a] ta) (hs:starEach [a] X.env=[(false,eval a X.env)]:=by rfl):PI X tg (.Call (.Name "range" p) [a] [] pos) (iRng1 ta):=by
 intro pins s σ H R I h
 refine Call_ (ld_blt I hg hm boot_range (PyProof.Rows.callWith_type1 (thn (ha pos pins s σ H _ I h) fun us s1 ⟨vs,H1,I1,r1,q1⟩=>?_) hs rfl))
 obtain ⟨j,e,q1,q2,q⟩:=q1
 subst e
 cases r1 with
 | cons r rr =>
   cases rr
   obtain ⟨t,rfl⟩:=r
   exact call_range_1 (range_it I1 (by omega) (by omega) q1 q2 (by simpa using q))
noncomputable def tFor (wi:TI) (g:TG) (tb:TS):TS:=fun D σ H=>wi σ H fun J H1=>∃ W:Nat→Nat→St→Hp→Prop,(∃ m,W 0 m σ H1)∧∀ i m σ H,W i m σ H →
 (J.stop i H∧D.nx σ H)∨(J.go i H∧∃ N:St→Hp→Prop,(∀ σ' H',N σ' H'→∃ m',m'<m∧W (i+1) m' σ' H')∧∀ x H',J.yld i H x H'→g x σ H' fun σ2 H2=>tb { D with nx:=N,ct:=N,bk:=D.nx } σ2 H2)
noncomputable def pinsAt (fp:List Addr) (h:Heap):List (Addr×Obj):=fp.filterMap fun b=>(h.get? b).map fun o=>(b,o)
theorem mem_pinsAt {fp:List Addr} {h:Heap} {b:Addr} {o:Obj} (hb:b∈fp) (e:h.get? b=some o):(b,o)∈pinsAt fp h:=List.mem_filterMap.mpr ⟨b,hb,by rw [e];rfl⟩
theorem of_pinsAt {fp:List Addr} {h:Heap} {p:Addr×Obj} (hp:p∈pinsAt fp h):p.1∈fp∧h.get? p.1=some p.2:=by
 obtain ⟨b,hb,e⟩:=List.mem_filterMap.mp hp
 cases q:h.get? b with
 | none=>rw [q] at e;cases e
 | some o =>
   rw [q] at e
   have e':(b,o)=p:=Option.some.inj e
   subst e'
   exact ⟨hb,q⟩
theorem Inv.pinned {pins:List (Addr×Obj)} {σ:St} {H:Hp} {s:Shared} {fp:List Addr} (I:Inv X pins σ H s) (hf:∀ b∈fp,FpOk X pins H b) (ho:∀ b∈fp,∃ o,s.heap.get? b=some o∧∀ v,o.data≠.cell v):Inv X (pins ++ pinsAt fp s.heap) σ H s :=
 I.pins_of fun p hp=>(List.mem_append.mp hp).elim (fun z=>I.pin p (List.mem_append_right _ z)) fun z=>by
  obtain ⟨hb,e⟩:=of_pinsAt z
  obtain ⟨f0,f1,f2,_⟩:=hf p.1 hb
  obtain ⟨o,e',d⟩:=ho p.1 hb
  rw [e] at e';cases e'
  exact ⟨e,f0,f1,f2,d⟩
theorem Inv.unpinned {pins pl:List (Addr×Obj)} {σ:St} {H:Hp} {s:Shared} (I:Inv X (pins ++ pl) σ H s):Inv X pins σ H s:=I.pins_of fun p hp=>I.pin p (List.mem_append_right _ (List.mem_append_left _ hp))
theorem ps_for {iter:Expr} {body:List Stmt} {wi:TI} {g:TG} {tb:TS} {pos:Pos} (hp:PassesOwn (model X.prog X.w) X.A X.env X.xe) (hc:X.calm=true) (hi:PI X tg iter wi) (hg:PG X tg g) (hb:PSs X body tb)
 (hs:∀ x,foldedSetIterable iter X.env x=pure x:=by intro _;rfl):PS X (.For tg iter body [] pos) (tFor wi g tb):=by
 intro pins s σ H D I h
 refine wpAny_For (thn (hi pins s σ H _ I h) fun v s1 h1=>thn h1 fun itv s2 h2=>?_) hs
 obtain ⟨it,fp,tn,J,H2,e,I2,T,st2,f2,W,⟨m0,w0⟩,turn⟩:=h2
 subst e
 have stat:∀ {H':Hp},(∀ b∈fp,H' b=none)→∀ b∈fp,FpOk X pins H' b:=fun hn b hb=>⟨hn b hb,(f2 b hb).2⟩
 refine codeAny_forLoop_any (fun n s'=>∃ i σ' H',Inv X pins σ' H' s'∧tn i s'.heap∧(∀ b∈fp,H' b=none)∧W i n σ' H') ?_ m0 ⟨0,σ,H2,I2,st2,fun b hb=>(f2 b hb).1,w0⟩
 rintro n s3 ⟨i,σ3,H3,I3,st3,fr3,w3⟩
 rcases turn i n σ3 H3 w3 with ⟨stop,qn⟩ | ⟨go,N,hN,step⟩
 · refine wpAny_passesOwn hp (thn (T.done X rfl rfl rfl hc i pins s3 σ3 H3 X.xe I3 (stat fr3) st3 stop) fun r s4 ⟨hr,I4⟩=>?_)
   subst hr
   exact wpAny_execs_nil ⟨σ3,H3,I4,qn⟩
 · refine wpAny_passesOwn hp (thn (T.item X rfl rfl rfl hc i pins s3 σ3 H3 X.xe I3 (stat fr3) st3 go) fun r s4 ⟨u,hr,h4⟩=>?_)
   subst hr
   refine wpAny_passesOwn hp (thn h4 fun _ s5 ⟨x,H5,I5,r5,y5,st5,fr5⟩=>?_)
   have I5':=I5.pinned (stat fr5) (T.obj _ _ st5)
   refine wpAny_passesOwn hp (thn (hg _ s5 σ3 H5 x u _ I5' r5 (step x H5 y5)) fun _ s6 ⟨σ6,H6,I6,q6⟩=>?_)
   refine wpAny_passesOwn hp (thn (hb _ s6 σ6 H6 _ I6 q6) fun f s7 q7=>?_)
   have again:∀ {σ7:St} {H7:Hp},Inv X (pins ++ pinsAt fp s5.heap) σ7 H7 s7→N σ7 H7→∃ m,m<n∧∃ i σ' H',Inv X pins σ' H' s7∧tn i s7.heap∧(∀ b∈fp,H' b=none)∧W i m σ' H':=fun {σ7 H7} I7 n7=>by
    obtain ⟨m',hm,w7⟩:=hN σ7 H7 n7
    refine ⟨m',hm,i+1,σ7,H7,I7.unpinned,T.keep _ _ _ st5 fun b hb o e=>(I7.pin (b,o) (List.mem_append_right _ (List.mem_append_right _ (mem_pinsAt hb e)))).1,fun b hb=>?_,w7⟩
    obtain ⟨o,e,d⟩:=T.obj _ _ st5 b hb
    exact (I7.pin (b,o) (List.mem_append_right _ (List.mem_append_right _ (mem_pinsAt hb e)))).2.1
   cases f with
   | next=>obtain ⟨σ7,H7,I7,n7⟩:=q7;exact again I7 n7
   | cont=>obtain ⟨σ7,H7,I7,n7⟩:=q7;exact again I7 n7
   | brk=>obtain ⟨σ7,H7,I7,q7⟩:=q7;exact ⟨σ7,H7,I7.unpinned,q7⟩
   | ret v=>obtain ⟨x7,σ7,H7,I7,r7,q7⟩:=q7;exact ⟨x7,σ7,H7,I7.unpinned,r7,q7⟩
end
theorem for_list {K:PySem.W.Frag} {a:Addr} {xs:List V} {g:TG} {tb:TS} {D:Ends} {σ:St} {H:Hp} (Pv:Nat→St→Hp→Prop) (h0:Pv 0 σ H) (hl:∀ i σ H,i≤xs.length→Pv i σ H→SqL K H a xs)
 (hs:∀ i x σ H,xs[i]?=some x→Pv i σ H→g x σ H fun σ2 H2=>tb { D with nx:=Pv (i+1),ct:=Pv (i+1),bk:=D.nx } σ2 H2) (hd:∀ σ H,Pv xs.length σ H→D.nx σ H) :
 ∃ W:Nat→Nat→St→Hp→Prop,(∃ m,W 0 m σ H)∧∀ i m σ H,W i m σ H →
   ((Itl K a).stop i H∧D.nx σ H)∨((Itl K a).go i H∧∃ N:St→Hp→Prop,(∀ σ' H',N σ' H'→∃ m',m'<m∧W (i+1) m' σ' H')∧∀ x H',(Itl K a).yld i H x H'→g x σ H' fun σ2 H2=>tb { D with nx:=N,ct:=N,bk:=D.nx } σ2 H2):=by
 refine ⟨fun i m σ H=>m=xs.length - i∧i≤xs.length∧Pv i σ H,⟨xs.length,by simp,Nat.zero_le _,h0⟩,?_⟩
 rintro i m σ H ⟨rfl,hi,p⟩
 have q:=hl i σ H hi p
 by_cases hlt:i<xs.length
 · refine .inr ⟨⟨xs,xs[i],q,by simp [hlt]⟩,Pv (i+1),fun σ' H' p'=>⟨xs.length - (i+1),by omega,rfl,hlt,p'⟩,fun x H' y=>?_⟩
   obtain ⟨e,y⟩:=y
   subst e
   exact hs i x σ _ (y xs q) p
 · have e:i=xs.length:=by omega
   subst e
   exact .inl ⟨⟨xs,q,Nat.le_refl _⟩,hd σ H p⟩
theorem for_tup {K:PySem.W.Frag} {a:Addr} {xs:List V} {g:TG} {tb:TS} {D:Ends} {σ:St} {H:Hp} (Pv:Nat→St→Hp→Prop) (h0:Pv 0 σ H) (hl:∀ i σ H,i≤xs.length→Pv i σ H→SqT K H a xs)
 (hs:∀ i x σ H,xs[i]?=some x→Pv i σ H→g x σ H fun σ2 H2=>tb { D with nx:=Pv (i+1),ct:=Pv (i+1),bk:=D.nx } σ2 H2) (hd:∀ σ H,Pv xs.length σ H→D.nx σ H) :
 ∃ W:Nat→Nat→St→Hp→Prop,(∃ m,W 0 m σ H)∧∀ i m σ H,W i m σ H →
   ((Itt K a).stop i H∧D.nx σ H)∨((Itt K a).go i H∧∃ N:St→Hp→Prop,(∀ σ' H',N σ' H'→∃ m',m'<m∧W (i+1) m' σ' H')∧∀ x H',(Itt K a).yld i H x H'→g x σ H' fun σ2 H2=>tb { D with nx:=N,ct:=N,bk:=D.nx } σ2 H2):=by
 refine ⟨fun i m σ H=>m=xs.length - i∧i≤xs.length∧Pv i σ H,⟨xs.length,by simp,Nat.zero_le _,h0⟩,?_⟩
 rintro i m σ H ⟨rfl,hi,p⟩
 have q:=hl i σ H hi p
 by_cases hlt:i<xs.length
 · refine .inr ⟨⟨xs,xs[i],q,by simp [hlt]⟩,Pv (i+1),fun σ' H' p'=>⟨xs.length - (i+1),by omega,rfl,hlt,p'⟩,fun x H' y=>?_⟩
   obtain ⟨e,y⟩:=y
   subst e
   exact hs i x σ _ (y xs q) p
 · have e:i=xs.length:=by omega
   subst e
   exact .inl ⟨⟨xs,q,Nat.le_refl _⟩,hd σ H p⟩
theorem for_range {lo:Int} {n:Nat} {g:TG} {tb:TS} {D:Ends} {σ:St} {H:Hp} (Pv:Nat→St→Hp→Prop) (h0:Pv 0 σ H)
 (hs:∀ i σ H,i<n→Pv i σ H→g (.int (lo+i)) σ H fun σ2 H2=>tb { D with nx:=Pv (i+1),ct:=Pv (i+1),bk:=D.nx } σ2 H2) (hd:∀ σ H,Pv n σ H→D.nx σ H) :
 ∃ W:Nat→Nat→St→Hp→Prop,(∃ m,W 0 m σ H)∧∀ i m σ H,W i m σ H →
   ((Itr lo n).stop i H∧D.nx σ H)∨((Itr lo n).go i H∧∃ N:St→Hp→Prop,(∀ σ' H',N σ' H'→∃ m',m'<m∧W (i+1) m' σ' H')∧∀ x H',(Itr lo n).yld i H x H'→g x σ H' fun σ2 H2=>tb { D with nx:=N,ct:=N,bk:=D.nx } σ2 H2):=by
 refine ⟨fun i m σ H=>m=n - i∧i≤n∧Pv i σ H,⟨n,by simp,Nat.zero_le _,h0⟩,?_⟩
 rintro i m σ H ⟨rfl,hi,p⟩
 by_cases hlt:i<n
 · refine .inr ⟨hlt,Pv (i+1),fun σ' H' p'=>⟨n - (i+1),by omega,rfl,hlt,p'⟩,fun x H' y=>?_⟩
   obtain ⟨e,y⟩:=y
   subst e y
   exact hs i σ _ hlt p
 · have e:i=n:=by omega
   subst e
   exact .inl ⟨Nat.le_refl _,hd σ H p⟩
theorem while_by {c:TT} {tb:TS} {D:Ends} {σ:St} {H:Hp} (Pv:St→Hp→Prop) (μ:St→Hp→Nat) (h0:Pv σ H)
 (hs:∀ σ H,Pv σ H→c σ H fun b H1=>if b=true then tb { D with nx:=fun σ' H'=>Pv σ' H'∧μ σ' H'<μ σ H,ct:=fun σ' H'=>Pv σ' H'∧μ σ' H'<μ σ H,bk:=D.nx } σ H1 else D.nx σ H1)
 (mono:∀ σ H Q Q',(∀ b H1,Q b H1→Q' b H1)→c σ H Q→c σ H Q'):tWhile c tb D σ H:=by
 refine ⟨fun m σ H=>m=μ σ H∧Pv σ H,⟨_,rfl,h0⟩,?_⟩
 rintro m σ H ⟨rfl,p⟩
 refine mono σ H _ _ (fun b H1 q=>?_) (hs σ H p)
 cases b with
 | true=>exact ⟨_,fun σ' H' ⟨p',l⟩=>⟨_,l,rfl,p'⟩,q⟩
 | false=>exact q
end L2
namespace L2
open PySem PySem.Spec PyProof.Rows
noncomputable abbrev R2:=V→V→Hp→VK→Prop
noncomputable def OpR (X:Cx) (f:Value→Value→Sem Value) (r:R2):Prop :=
 ∀ (pins:List (Addr×Obj)) (s:Shared) (σ:St) (H:Hp) (x y:V) (v u:Value) (Q:VK),Inv X pins σ H s→RelV x v→RelV y u→r x y H Q →
   wpAny (model X.prog X.w) X.A (f v u) (EP X pins σ Q) X.xe s
noncomputable def UnR (X:Cx) (f:Value→Sem Value) (r:V→Hp→VK→Prop):Prop :=
 ∀ (pins:List (Addr×Obj)) (s:Shared) (σ:St) (H:Hp) (x:V) (v:Value) (Q:VK),Inv X pins σ H s→RelV x v→r x H Q →
   wpAny (model X.prog X.w) X.A (f v) (EP X pins σ Q) X.xe s
noncomputable def CallR (X:Cx) (f:Value) (r:List V→Hp→VK→Prop):Prop :=
 ∀ (pins:List (Addr×Obj)) (s:Shared) (σ:St) (H:Hp) (xs:List V) (us:List Value) (Q:VK),Inv X pins σ H s→Vals xs us→r xs H Q →
   wpAny (model X.prog X.w) X.A (call f us) (EP X pins σ Q) X.xe s
noncomputable def tOp (r:R2) (ta tb:TE):TE:=fun σ H Q=>ta σ H fun x H1=>tb σ H1 fun y H2=>r x y H2 Q
noncomputable def tUn (r:V→Hp→VK→Prop) (ta:TE):TE:=fun σ H Q=>ta σ H fun x H1=>r x H1 Q
noncomputable def rI (C:Int→Int→Prop) (g:Int→Int→V):R2:=fun x y H Q=>∃ i j,x=.int i∧y=.int j∧C i j∧Q (g i j) H
noncomputable def rI0 (g:Int→Int→V):R2:=fun x y H Q=>∃ i j,x=.int i∧y=.int j∧Q (g i j) H
noncomputable def rU (g:Int→V):V→Hp→VK→Prop:=fun x H Q=>∃ i,x=.int i∧Q (g i) H
section
variable {X:Cx} {a b c:Expr} {ta tb tc:TE} {pos:Pos}
theorem binT (ha:PE X a ta) (hb:PE X b tb) {pins:List (Addr×Obj)} {s:Shared} {σ:St} {H:Hp} {R:V→V→Hp→Prop} (I:Inv X pins σ H s)
 (h:ta σ H fun x H1=>tb σ H1 fun y H2=>R x y H2) {Q:Value→Shared→Prop} {f:Value→Value→Sem Value}
 (hf:∀ v u s2 x y H2,Inv X pins σ H2 s2→RelV x v→RelV y u→R x y H2→wpAny (model X.prog X.w) X.A (f v u) Q X.xe s2) :
 wpAny (model X.prog X.w) X.A (eval a X.env) (fun v s₁=>wpAny (model X.prog X.w) X.A (eval b X.env) (fun u s₂=>wpAny (model X.prog X.w) X.A (f v u) Q X.xe s₂) X.xe s₁) X.xe s:=by
 refine thn (ha pins s σ H _ I h) fun v s1 ⟨x,H1,I1,r1,q1⟩=>?_
 refine thn (hb pins s1 σ H1 _ I1 q1) fun u s2 ⟨y,H2,I2,r2,q2⟩=>?_
 exact hf v u s2 x y H2 I2 r1 r2 q2
theorem pe_op {op:Operator} {r:R2} (ho:OpR X (binaryOp op) r) (ha:PE X a ta) (hb:PE X b tb):PE X (.BinOp a op b pos) (tOp r ta tb):=by
 intro pins s σ H Q I h
 exact wpAny_BinOp (binT ha hb I h fun v u s2 x y H2 I2 rx ry q=>ho pins s2 σ H2 x y v u Q I2 rx ry q)
theorem pe_un {op:UnaryOp} {r:V→Hp→VK→Prop} (ho:UnR X (unaryOp op) r) (ha:PE X a ta):PE X (.UnaryOp op a pos) (tUn r ta):=by
 intro pins s σ H Q I h
 exact UnaryOp_ (thn (ha pins s σ H _ I h) fun v s1 ⟨x,H1,I1,r1,q1⟩=>ho pins s1 σ H1 x v Q I1 r1 q1)
theorem opI {f:Value→Value→Sem Value} {C:Int→Int→Prop} {g:Int→Int→Int}
 (rule:∀ (i j:Int) (t u:Tok) (s:Shared) (Q:Value→Shared→Prop) (E:Value→Shared→Prop),C i j→Q (.int (g i j) s.toks) { s with toks:=s.toks+1 }→wpAny (model X.prog X.w) X.A (f (.int i t) (.int j u)) Q E s) :
 OpR X f (rI C fun i j=>.int (g i j)):=by
 intro pins s σ H x y v u Q I rx ry h
 obtain ⟨i,j,rfl,rfl,hc,q⟩:=h
 obtain ⟨t,rfl⟩:=rx
 obtain ⟨t',rfl⟩:=ry
 exact rule i j t t' s _ _ hc ⟨.int (g i j),H,I.tok _,⟨_,rfl⟩,q⟩
theorem opI0 {f:Value→Value→Sem Value} {g:Int→Int→Int}
 (rule:∀ (i j:Int) (t u:Tok) (s:Shared) (Q:Value→Shared→Prop) (E:Value→Shared→Prop),Q (.int (g i j) s.toks) { s with toks:=s.toks+1 }→wpAny (model X.prog X.w) X.A (f (.int i t) (.int j u)) Q E s) :
 OpR X f (rI0 fun i j=>.int (g i j)):=by
 intro pins s σ H x y v u Q I rx ry h
 obtain ⟨i,j,rfl,rfl,q⟩:=h
 obtain ⟨t,rfl⟩:=rx
 obtain ⟨t',rfl⟩:=ry
 exact rule i j t t' s _ _ ⟨.int (g i j),H,I.tok _,⟨_,rfl⟩,q⟩
theorem opB0 {f:Value→Value→Sem Value} {g:Int→Int→Bool}
 (rule:∀ (i j:Int) (t u:Tok) (s:Shared) (Q:Value→Shared→Prop) (E:Value→Shared→Prop),Q (.bool (g i j)) s→wpAny (model X.prog X.w) X.A (f (.int i t) (.int j u)) Q E s) :
 OpR X f (rI0 fun i j=>.bl (g i j)):=by
 intro pins s σ H x y v u Q I rx ry h
 obtain ⟨i,j,rfl,rfl,q⟩:=h
 obtain ⟨t,rfl⟩:=rx
 obtain ⟨t',rfl⟩:=ry
 exact rule i j t t' s _ _ ⟨.bl (g i j),H,I,rfl,q⟩
noncomputable def CDiv (i j:Int):Prop:=0<j∧j<1073741824
noncomputable def CPow (i j:Int):Prop:=0≤j∧j≤1000000∧i.natAbs<2 ^ 64
noncomputable def CMul (i j:Int):Prop:=(-(2 ^ 64)<i∧i<2 ^ 64)∨(-(2 ^ 64)<j∧j<2 ^ 64)
theorem CMul.ok {i j:Int} (h:CMul i j):IntMulOk i j:=by
 rcases h with ⟨h1,h2⟩ | ⟨h1,h2⟩
 · exact .of_left (intBits_le_64 h1 h2)
 · exact .of_right (intBits_le_64 h1 h2)
theorem op_add:OpR X (binaryOp .Add) (rI0 fun i j=>.int (i+j)):=opI0 fun _ _ _ _ _ _ _ q=>add_int q
theorem op_sub:OpR X (binaryOp .Sub) (rI0 fun i j=>.int (i - j)):=opI0 fun _ _ _ _ _ _ _ q=>sub_int q
theorem op_mul:OpR X (binaryOp .Mult) (rI CMul fun i j=>.int (i * j)):=opI fun _ _ _ _ _ _ _ hc q=>mul_int q hc.ok
theorem op_fdiv:OpR X (binaryOp .FloorDiv) (rI CDiv fun i j=>.int (i / j)):=opI fun i j _ _ _ _ _ hc q=>by
 have h1:(0:Int)<j:=hc.1
 have h2:j<1073741824:=hc.2
 exact floordiv_int (by omega) (by rw [Int.fdiv_eq_ediv_of_nonneg i (by omega)];exact q) (.inl (PyProof.noPylong_small (by omega)))
theorem op_mod:OpR X (binaryOp .Mod) (rI (fun _ j=>0<j) fun i j=>.int (i % j)):=opI fun i j _ _ _ _ _ hc q=>by
 have h1:(0:Int)<j:=hc
 exact mod_int' (by omega) (by rw [Int.fmod_eq_emod_of_nonneg i (by omega)];exact q)
theorem op_pow:OpR X (binaryOp .Pow) (rI CPow fun i j=>.int (i ^ j.toNat)):=opI fun _ _ _ _ _ _ _ hc q=>pow_int_small hc.1 hc.2.1 hc.2.2 q
theorem unI {f:Value→Sem Value} {g:Int→Int}
 (rule:∀ (i:Int) (t:Tok) (s:Shared) (Q:Value→Shared→Prop) (E:Value→Shared→Prop),Q (.int (g i) s.toks) { s with toks:=s.toks+1 }→wpAny (model X.prog X.w) X.A (f (.int i t)) Q E s) :
 UnR X f (rU fun i=>.int (g i)):=by
 intro pins s σ H x v Q I rx h
 obtain ⟨i,rfl,q⟩:=h
 obtain ⟨t,rfl⟩:=rx
 exact rule i t s _ _ ⟨.int (g i),H,I.tok _,⟨_,rfl⟩,q⟩
theorem un_neg:UnR X (unaryOp .USub) (rU fun i=>.int (-i)):=unI fun _ _ _ _ _ q=>neg_int q
end
noncomputable def scal:V→V→Bool
 | .non,.non=>true | .non,.int _=>true | .int _,.non=>true | .non,.bl _=>true | .bl _,.non=>true | .non,.str _=>true | .str _,.non=>true
 | .int _,.int _=>true | .bl _,.bl _=>true | .str _,.str _=>true | .byt _,.byt _=>true
 | .int _,.str _=>true | .str _,.int _=>true | .bl _,.str _=>true | .str _,.bl _=>true
 | _,_=>false
noncomputable def rEq:R2:=fun x y H Q=>scal x y=true∧Q (.bl (decide (x=y))) H
noncomputable def rNe:R2:=fun x y H Q=>scal x y=true∧Q (.bl (!decide (x=y))) H
theorem dec_int {i j:Int}:decide (V.int i=V.int j)=(i == j):=by
 rw [Bool.eq_iff_iff]
 simp
theorem dec_bl {i j:Bool}:decide (V.bl i=V.bl j)=(i == j):=by
 rw [Bool.eq_iff_iff]
 simp
theorem dec_str {i j:Str}:decide (V.str i=V.str j)=(i == j):=by
 rw [Bool.eq_iff_iff]
 simp
theorem dec_byt {i j:Array UInt8}:decide (V.byt i=V.byt j)=(i.toList == j.toList):=by
 rw [Bool.eq_iff_iff]
 cases i
 cases j
 simp
section
variable {X:Cx} {a b c:Expr} {ta tb tc:TE} {pos:Pos}
theorem fin_bl {pins:List (Addr×Obj)} {σ:St} {H:Hp} {s:Shared} {Q:VK} {k k':Bool} (I:Inv X pins σ H s) (q:Q (.bl k) H) (e:k=k'):EP X pins σ Q (.bool k') s:=by
 subst e
 exact ⟨.bl k,H,I,rfl,q⟩
theorem op_eq:OpR X (compareOp .Eq) rEq:=by
 intro pins s σ H x y v u Q I rx ry h
 obtain ⟨hs,q⟩:=h
 cases x with
 | non =>
   cases rx
   cases y with
   | non=>cases ry;exact PySem.EqNone.eq_none_none (fin_bl I q (by simp))
   | bl j=>cases ry;exact PySem.EqNone.eq_none_bool (fin_bl I q (by simp))
   | int j=>obtain ⟨t',rfl⟩:=ry;exact PySem.EqNone.eq_none_int (fin_bl I q (by simp))
   | str j=>obtain ⟨t',rfl⟩:=ry;exact PySem.EqNone.eq_none_str (fin_bl I q (by simp))
   | _=>exact absurd (show false=true from hs) Bool.false_ne_true
 | bl i =>
   cases rx
   cases y with
   | non=>cases ry;exact PySem.EqNone.eq_bool_none (fin_bl I q (by simp))
   | bl j=>cases ry;exact eq_bool (fin_bl I q dec_bl)
   | str j=>obtain ⟨t',rfl⟩:=ry;exact PySem.EqMixed.eq_bool_str (fin_bl I q (by simp))
   | _=>exact absurd (show false=true from hs) Bool.false_ne_true
 | int i =>
   obtain ⟨t,rfl⟩:=rx
   cases y with
   | non=>cases ry;exact PySem.EqNone.eq_int_none (fin_bl I q (by simp))
   | int j=>obtain ⟨t',rfl⟩:=ry;exact eq_int (fin_bl I q dec_int)
   | str j=>obtain ⟨t',rfl⟩:=ry;exact PySem.EqMixed.eq_int_str (fin_bl I q (by simp))
   | _=>exact absurd (show false=true from hs) Bool.false_ne_true
 | str i =>
   obtain ⟨t,rfl⟩:=rx
   cases y with
   | non=>cases ry;exact PySem.EqNone.eq_str_none (fin_bl I q (by simp))
   | bl j=>cases ry;exact PySem.EqMixed.eq_str_bool (fin_bl I q (by simp))
   | int j=>obtain ⟨t',rfl⟩:=ry;exact PySem.EqMixed.eq_str_int (fin_bl I q (by simp))
   | str j=>obtain ⟨t',rfl⟩:=ry;exact eq_str (fin_bl I q dec_str)
   | _=>exact absurd (show false=true from hs) Bool.false_ne_true
 | byt i =>
   obtain ⟨t,rfl⟩:=rx
   cases y with
   | byt j=>obtain ⟨t',rfl⟩:=ry;exact PySem.W.eq_bytes (fin_bl I q dec_byt)
   | _=>exact absurd (show false=true from hs) Bool.false_ne_true
 | _=>cases y <;> exact absurd (show false=true from hs) Bool.false_ne_true
theorem op_ne:OpR X (compareOp .NotEq) rNe:=by
 intro pins s σ H x y v u Q I rx ry h
 obtain ⟨hs,q⟩:=h
 cases x with
 | non =>
   cases rx
   cases y with
   | non=>cases ry;exact PySem.EqNone.ne_none_none (fin_bl I q (by simp))
   | bl j=>cases ry;exact PySem.EqNone.ne_none_bool (fin_bl I q (by simp))
   | int j=>obtain ⟨t',rfl⟩:=ry;exact PySem.EqNone.ne_none_int (fin_bl I q (by simp))
   | str j=>obtain ⟨t',rfl⟩:=ry;exact PySem.EqNone.ne_none_str (fin_bl I q (by simp))
   | _=>exact absurd (show false=true from hs) Bool.false_ne_true
 | bl i =>
   cases rx
   cases y with
   | non=>cases ry;exact PySem.EqNone.ne_bool_none (fin_bl I q (by simp))
   | bl j=>cases ry;exact ne_bool (fin_bl I q (congrArg not dec_bl))
   | str j=>obtain ⟨t',rfl⟩:=ry;exact PySem.EqMixed.ne_bool_str (fin_bl I q (by simp))
   | _=>exact absurd (show false=true from hs) Bool.false_ne_true
 | int i =>
   obtain ⟨t,rfl⟩:=rx
   cases y with
   | non=>cases ry;exact PySem.EqNone.ne_int_none (fin_bl I q (by simp))
   | int j=>obtain ⟨t',rfl⟩:=ry;exact ne_int (fin_bl I q (congrArg not dec_int))
   | str j=>obtain ⟨t',rfl⟩:=ry;exact PySem.EqMixed.ne_int_str (fin_bl I q (by simp))
   | _=>exact absurd (show false=true from hs) Bool.false_ne_true
 | str i =>
   obtain ⟨t,rfl⟩:=rx
   cases y with
   | non=>cases ry;exact PySem.EqNone.ne_str_none (fin_bl I q (by simp))
   | bl j=>cases ry;exact PySem.EqMixed.ne_str_bool (fin_bl I q (by simp))
   | int j=>obtain ⟨t',rfl⟩:=ry;exact PySem.EqMixed.ne_str_int (fin_bl I q (by simp))
   | str j=>obtain ⟨t',rfl⟩:=ry;exact ne_str (fin_bl I q (congrArg not dec_str))
   | _=>exact absurd (show false=true from hs) Bool.false_ne_true
 | byt i =>
   obtain ⟨t,rfl⟩:=rx
   cases y with
   | byt j=>obtain ⟨t',rfl⟩:=ry;exact PySem.W.ne_bytes (fin_bl I q (congrArg not dec_byt))
   | _=>exact absurd (show false=true from hs) Bool.false_ne_true
 | _=>cases y <;> exact absurd (show false=true from hs) Bool.false_ne_true
theorem op_lt:OpR X (compareOp .Lt) (rI0 fun i j=>.bl (decide (i<j))):=opB0 fun _ _ _ _ _ _ _ q=>lt_int q
theorem op_gt:OpR X (compareOp .Gt) (rI0 fun i j=>.bl (decide (j<i))):=opB0 fun _ _ _ _ _ _ _ q=>gt_int q
theorem op_ge:OpR X (compareOp .GtE) (rI0 fun i j=>.bl (decide (j≤i))):=opB0 fun _ _ _ _ _ _ _ q=>ge_int q
theorem nomark (b:Expr) {op:CmpOp} (h:op≠.In:=by decide) (h2:op≠.NotIn:=by decide):behindInMarks op b=false:=by
 have e1:(op == CmpOp.In)=false:=by cases op <;> first | rfl | exact absurd rfl h
 have e2:(op == CmpOp.NotIn)=false:=by cases op <;> first | rfl | exact absurd rfl h2
 cases b <;> simp [behindInMarks,e1,e2]
theorem pe_cmpR {op:CmpOp} {r:R2} (ho:OpR X (compareOp op) r) (ha:PE X a ta) (hb:PE X b tb) (hm:behindInMarks op b=false):PE X (.Compare a [op] [b] pos) (tOp r ta tb):=by
 intro pins s σ H Q I h
 exact wpAny_Compare1 (binT ha hb I h fun v u s2 x y H2 I2 rx ry q=>ho pins s2 σ H2 x y v u Q I2 rx ry q) hm
noncomputable def tTest (t:TE):TT:=fun σ H Q=>t σ H fun x H'=>∃ k,x=.bl k∧Q k H'
theorem pt_cmpR {op:CmpOp} {r:R2} (ho:OpR X (compareOp op) r) (ha:PE X a ta) (hb:PE X b tb) (hm:behindInMarks op b=false):PT X (.Compare a [op] [b] pos) (tTest (tOp r ta tb)):=by
 intro pins s σ H Q I h
 refine wpAny_isTrue_Compare1 (thn (ha pins s σ H _ I h) fun v s1 ⟨x,H1,I1,r1,q1⟩=>thn (hb pins s1 σ H1 _ I1 q1) fun u s2 ⟨y,H2,I2,r2,q2⟩ =>
  thn (ho pins s2 σ H2 x y v u _ I2 r1 r2 q2) fun c s3 ⟨z,H3,I3,r3,k,e,q3⟩=>?_) hm
 subst e
 cases r3
 exact wpAny_truthy_bool ⟨H3,I3,q3⟩
theorem line63:(sizeLine:Nat)<2 ^ 63:=by rw [sizeLine_eq];decide
theorem vals1 {x:V} {us:List Value} (r:Vals [x] us):∃ u,us=[u]∧RelV x u:=by
 cases r with
 | cons r1 r2=>cases r2;exact ⟨_,rfl,r1⟩
theorem vals2 {x y:V} {us:List Value} (r:Vals [x,y] us):∃ u w',us=[u,w']∧RelV x u∧RelV y w':=by
 cases r with
 | cons r1 r2 =>
   cases r2 with
   | cons r3 r4=>cases r4;exact ⟨_,_,rfl,r1,r3⟩
theorem call_abs:CallR X (.builtin "abs") (fun xs H Q=>∃ i,xs=[.int i]∧Q (.int (if i<0 then -i else i)) H):=by
 intro pins s σ H xs us Q I r h
 obtain ⟨i,rfl,q⟩:=h
 obtain ⟨u,rfl,t,rfl⟩:=vals1 r
 exact call_abs_int fun u tk=>⟨.int (if i<0 then -i else i),H,I.tok _,⟨_,rfl⟩,q⟩
theorem call_max2 (hc:X.calm=true):CallR X (.builtin "max") (fun xs H Q=>∃ i j,xs=[.int i,.int j]∧Q (.int (if j > i then j else i)) H):=by
 intro pins s σ H xs us Q I r h
 obtain ⟨i,j,rfl,q⟩:=h
 obtain ⟨u,w',rfl,⟨t,rfl⟩,⟨t',rfl⟩⟩:=vals2 r
 refine max_two_ints (I.ok.hd hc) fun h' tk k=>⟨_,H,I.kept k,?_,q⟩
 by_cases hj:j > i
 · rw [if_pos hj,if_pos hj];exact ⟨_,rfl⟩
 · rw [if_neg hj,if_neg hj];exact ⟨_,rfl⟩
theorem call_min2 (hc:X.calm=true):CallR X (.builtin "min") (fun xs H Q=>∃ i j,xs=[.int i,.int j]∧Q (.int (if j<i then j else i)) H):=by
 intro pins s σ H xs us Q I r h
 obtain ⟨i,j,rfl,q⟩:=h
 obtain ⟨u,w',rfl,⟨t,rfl⟩,⟨t',rfl⟩⟩:=vals2 r
 refine min_two_ints (I.ok.hd hc) fun h' tk k=>⟨_,H,I.kept k,?_,q⟩
 by_cases hj:j<i
 · rw [if_pos hj,if_pos hj];exact ⟨_,rfl⟩
 · rw [if_neg hj,if_neg hj];exact ⟨_,rfl⟩
theorem call_int1:CallR X (.type "int") (fun xs H Q=>(∃ i,xs=[.int i]∧Q (.int i) H)∨∃ k,xs=[.bl k]∧Q (.int (if k then 1 else 0)) H):=by
 intro pins s σ H xs us Q I r h
 rcases h with ⟨i,rfl,q⟩ | ⟨k,rfl,q⟩
 · obtain ⟨u,rfl,t,rfl⟩:=vals1 r
   exact call_int_int ⟨.int i,H,I,⟨_,rfl⟩,q⟩
 · obtain ⟨u,rfl,r1⟩:=vals1 r
   cases r1
   exact call_int_bool ⟨.int (if k then 1 else 0),H,I.tok _,⟨_,rfl⟩,q⟩
end
end L2
namespace L2
open PySem PySem.Spec PyProof.Rows
structure ObjM (h:Heap) (x dx C:Addr) (mA:Str→Option Value):Prop where
 obj:h.get? x=some (PySem.W.instObj C dx)
 ns:h.Ns1 dx mA
 ne:dx≠x
theorem lookIn_ns {h:Heap} {dx:Addr} {mA:Str→Option Value} (n:h.Ns1 dx mA):∃ od,h.get? dx=some od∧∀ name,PySem.W.lookIn name od=some (mA name):=by
 obtain ⟨o,es,ep,ho,hd,hk,_,hm⟩:=n
 refine ⟨o,ho,fun name=>?_⟩
 have e:=hm name
 unfold nsFind findBy at e
 rw [← Array.find?_toList] at e
 unfold PySem.W.lookIn
 rw [hd]
 dsimp only
 split
 · rename_i y q
   rw [q] at e
   exact congrArg some e
 · rename_i q
   rw [q] at e
   have a:es.toList.any (·.refKey)=false:=by
    rw [List.any_eq_false]
    intro y hy
    obtain ⟨z,t,hkey⟩:=hk y (Array.mem_toList_iff.mp hy)
    simp [DictEntry.refKey,hkey]
   have a':¬ es.toList.any (·.refKey)=true:=by rw [a];exact Bool.false_ne_true
   rw [if_neg a']
   exact congrArg some e
theorem ObjM.look {h:Heap} {x dx C:Addr} {mA:Str→Option Value} (I:ObjM h x dx C mA):∃ od,PySem.W.InstAt h x (PySem.W.instObj C dx) C (some od)∧∀ name,PySem.W.lookIn name od=some (mA name) :=
 let ⟨od,ho,hl⟩:=lookIn_ns I.ns
 ⟨od,⟨I.obj,rfl,rfl,ho⟩,hl⟩
section
variable {prog:Program} {w:World} {A:Around} {E:Value→Shared→Prop} {s:Shared} {K:PySem.W.Frag} {x dx C f:Addr} {mA:Str→Option Value} {name:Str} {v:Value}
end
section
variable {P:Program} {w:World} {H H':Hp} {h h':Heap} {a C dx:Addr} {fs fs':List (Str×V)}
theorem ins_get (hok:HOk P w H h) (e:H a=some (.ins C dx fs)):∃ mA,ObjM h a dx C mA∧(∀ f,RelO (fs.lookup f) (mA f))∧PySem.Within mA (fs.map (·.1))∧fs.length≤1000∧H dx=some (.own a):=by
 obtain ⟨d,z,ne,ob,mA,n,r,q⟩:=(show ObjOk P w H h a (.ins C dx fs) from hok a _ e)
 exact ⟨mA,⟨ob,n,ne⟩,r,q,z,d⟩
end
structure Cls (K:PySem.W.Frag) (C:Addr):Prop where
 pg:PySem.W.plainGet K C Str.empty=true
 hd:PySem.W.hasDictIn K C=true
 po:PySem.W.plainOver K C=true
 sa:PySem.W.findIn K (.ref C) "__setattr__"=some (some (.builtin "object.__setattr__"))
theorem Cls.get {K:PySem.W.Frag} {C:Addr} (c:Cls K C) (f:Str):PySem.W.plainGet K C f=true:=c.pg
section
variable {X:Cx} {pins:List (Addr×Obj)} {σ:St} {H:Hp} {s:Shared} {a C dx:Addr} {fs:List (Str×V)} {f:Str} {v:V} {A:Around} {E:Value→Shared→Prop}
end
section
variable {X:Cx} {o e value:Expr} {f:Str} {pos pos' tpos:Pos} {ta tv:TE}
end
section
variable {X:Cx} {pins:List (Addr×Obj)} {σ:St} {H:Hp} {s:Shared} {A:Around} {E:Value→Shared→Prop} {Q:Value→Shared→Prop} {c:Value} {b:Bool}
inductive TyOf (K:PySem.W.Frag) (H:Hp):V→Value→Prop where
 | non:TyOf K H .non (.type "NoneType")
 | bl (x:Bool):TyOf K H (.bl x) (.type "bool")
 | int (i:Int):TyOf K H (.int i) (.type "int")
 | str (x:Str):TyOf K H (.str x) (.type "str")
 | flt (x:UInt64):TyOf K H (.flt x) (.type "float")
 | lst {a:Addr} {xs:List V} (e:H a=some (.lst xs)):TyOf K H (.ref a) (.type "list")
 | frz {a:Addr} {o:Obj} {xs:List V} (e:H a=some (.frz o (.lst xs))):TyOf K H (.ref a) (.type "list")
 | tup {a:Addr} {xs:List V} (e:H a=some (.tup xs)):TyOf K H (.ref a) (.type "tuple")
 | dK {a:Addr} {kvs:List (Key×V)} (e:H a=some (.dK kvs)):TyOf K H (.ref a) (.type "dict")
 | dT {a:Addr} {kvs:List (List Key×V)} (e:H a=some (.dT kvs)):TyOf K H (.ref a) (.type "dict")
 | ins {a C dx:Addr} {fs:List (Str×V)} (e:H a=some (.ins C dx fs)) (cl:Cls K C) (ha:PySem.W.findIn K (.ref C) "__class__"=some (some (.builtin "object.__class__")))
  (hn:PySem.W.specialIn K (.builtin "object.__class__") "__get__"=some (some (.builtin "getset_descriptor.__get__"))) (htk:PySem.W.takesIn K (.builtin "object.__class__")=some true)
  (hm:PySem.W.mroIn K C (.type "object")=some true):TyOf K H (.ref a) (.ref C)
theorem isinst_ok {x:V} {u t:Value} (I:Inv X pins σ H s) (rx:RelV x u) (ty:TyOf X.K H x t) (e:PySem.W.kitOne X.K t c=some b) (h:∀ tk,Q (.bool b) { s with toks:=tk }) :
 wpAny (model X.prog X.w) A (call (.builtin "isinstance") [u,c]) Q E s:=by
 cases ty with
 | non=>cases (show u=Value.none from rx);exact PySem.W.kia_one PySem.W.kitx_none I.kIn True.intro e (fun z=>nomatch z) h
 | bl y=>cases (show u=Value.bool y from rx);exact PySem.W.kia_one PySem.W.kitx_bool I.kIn True.intro e (fun z=>nomatch z) h
 | int i=>obtain ⟨t,q⟩:=(show ∃ t,u=Value.int i t from rx);cases q;exact PySem.W.kia_one PySem.W.kitx_int I.kIn True.intro e (fun z=>nomatch z) h
 | str y=>obtain ⟨t,q⟩:=(show ∃ t,u=Value.str y t from rx);cases q;exact PySem.W.kia_one PySem.W.kitx_str I.kIn True.intro e (fun z=>nomatch z) h
 | flt y=>obtain ⟨t,q⟩:=(show ∃ t,u=Value.float y t from rx);cases q;exact PySem.W.kia_one PySem.W.kitx_float I.kIn True.intro e (fun z=>nomatch z) h
 | @lst a xs ea =>
   cases (show u=Value.ref a from rx)
   obtain ⟨_,_,n,_,h1⟩:=(show ObjOk X.prog X.w H s.heap a (.lst xs) from I.hok a _ ea)
   exact PySem.W.kia_one PySem.W.kitx_list I.kIn ⟨_,h1,rfl⟩ e (fun z=>nomatch z) h
 | @frz a ob xs ea =>
   cases (show u=Value.ref a from rx)
   obtain ⟨_,_,_,n,_,h1⟩:=(show ObjOk X.prog X.w H s.heap a (.frz ob (.lst xs)) from I.hok a _ ea)
   exact PySem.W.kia_one PySem.W.kitx_list I.kIn ⟨_,h1,rfl⟩ e (fun z=>nomatch z) h
 | @tup a xs ea =>
   cases (show u=Value.ref a from rx)
   obtain ⟨_,_,_,p⟩:=(show ObjOk X.prog X.w H s.heap a (.tup xs) from I.hok a _ ea)
   obtain ⟨o,h1,h2,_⟩:=p.tup
   exact PySem.W.kia_one PySem.W.kitx_tuple I.kIn ⟨o,h1,h2⟩ e (fun z=>nomatch z) h
 | @dK a kvs ea =>
   cases (show u=Value.ref a from rx)
   obtain ⟨_,_,vs,_,p⟩:=(show ObjOk X.prog X.w H s.heap a (.dK kvs) from I.hok a _ ea)
   obtain ⟨o,es,ep,h1,h2,_⟩:=p
   exact PySem.W.kia_one PySem.W.kitx_dict I.kIn ⟨o,h1,h2.1⟩ e (fun z=>nomatch z) h
 | @dT a kvs ea =>
   cases (show u=Value.ref a from rx)
   obtain ⟨_,_,xs,_,o,es,ep,h1,h2,_⟩:=(show ObjOk X.prog X.w H s.heap a (.dT kvs) from I.hok a _ ea)
   exact PySem.W.kia_one PySem.W.kitx_dict I.kIn ⟨o,h1,h2.1⟩ e (fun z=>nomatch z) h
 | @ins a C dx fs ea cl ha hn htk hm =>
   cases (show u=Value.ref a from rx)
   obtain ⟨mA,O,_⟩:=ins_get I.hok ea
   obtain ⟨od,J,_⟩:=O.look
   exact PySem.W.kia_one (PySem.W.kitx_own (cl.get _) cl.hd ha hn htk hm) I.kIn J e (fun z=>nomatch z) h
end
end L2
namespace L2
open PySem PySem.Spec PyProof.Rows
structure Room (k:Nat) (A:Around):Prop where
 hd:A.handled=none
 dp:A.depth+3 * k+5<recursionLimit
 un:A.units+16 * k+200<cLine
 gd:A.guards=some []
theorem Room.mono {j k:Nat} {A:Around} (r:Room k A) (h:j≤k):Room j A:=⟨r.hd,by have:=r.dp;omega,by have:=r.un;omega,r.gd⟩
theorem Room.deeper {k:Nat} {A:Around} (r:Room (k+1) A) (env:Env):Room k (A.deeper env) :=
 ⟨r.hd,by have:=r.dp;show A.depth+1+3 * k+5<_;omega,by have:=r.un;show A.units+3+16 * k+200<_;omega,r.gd⟩
theorem Room.depth {k:Nat} {A:Around} (r:Room k A):A.depth<recursionLimit:=by have:=r.dp;omega
theorem Room.units {k:Nat} {A:Around} (r:Room k A):A.units+64<cLine:=by have:=r.un;omega
noncomputable def tNil:TA:=fun _ H Q=>Q [] H
noncomputable def tCons (ta:TE) (tr:TA):TA:=fun σ H Q=>ta σ H fun x H1=>tr σ H1 fun xs H2=>Q (x :: xs) H2
section
variable {X:Cx} {e:Expr} {es:List Expr} {te:TE} {t:TA} {pos:Pos}
theorem pa_nil:PA X [] tNil:=fun _ _ _ _ H Q I h=>Calls.spliced_nil ⟨[],H,I,.nil,h⟩
theorem pa_cons (ha:PE X e te) (hr:PA X es t) (hs:starEach (e :: es) X.env=(false,eval e X.env) :: starEach es X.env:=by rfl):PA X (e :: es) (tCons te t):=by
 intro pos pins s σ H Q I h
 rw [hs]
 show wpAny _ _ (spliced ((false,eval e X.env) :: backTo pos (starEach es X.env))) _ _ s
 refine Calls.spliced_cons (thn (ha pins s σ H _ I h) fun u s1 ⟨x,H1,I1,r1,q1⟩=>?_)
 exact thn (hr pos pins s1 σ H1 _ I1 q1) fun us s2 ⟨xs,H2,I2,r2,q2⟩=>⟨x :: xs,H2,I2,.cons r1 r2,q2⟩
noncomputable def tTup (t:TA):TE:=fun σ H Q=>t σ H fun xs H1=>xs.length≤sizeLine∧∀ p,H1 p=none→Q (.ref p) (upd H1 p (.tup xs))
theorem pe_tup {x1} (h:PA X es t):PE X (.Tuple es x1 pos) (tTup t):=by
 intro pins s σ H Q I hq
 refine wpAny_Tuple_spliced (thn (h pos pins s σ H _ I hq) fun us s1 ⟨xs,H1,I1,r,z,q⟩=>⟨by rw [← r.length];exact z,?_⟩)
 have hf:H1 s1.heap.objs.size=none:=I1.hok.fresh (Nat.le_refl _)
 refine ⟨.ref s1.heap.objs.size,upd H1 s1.heap.objs.size (.tup xs),I1.laid (t':=s1.toks) (fun b u e=>Heap.get?_push_of_some _ e) (Nat.le_refl _) ?_,rfl,q _ hf⟩
 exact ⟨z,us,r,⟨_,Heap.get?_push_size _ rfl,rfl,_,rfl⟩⟩
end
noncomputable abbrev Sp:=List V→Hp→VK→XK→Prop
noncomputable abbrev CXT:=List Env→Hp→Shared→XK→Value→Shared→Prop
structure Env0 (P:Program) (w:World) (K:PySem.W.Frag) (mg:Str→Option Value) (base:Heap) (A:Around) (outer:List Env) (s:Shared) (H:Hp):Prop where
 frames:A.frames=some outer
 mod:Mod K mg base
 bs:∀ b o,base.get? b=some o→s.heap.get? b=some o∧H b=none
 bsz:base.objs.size≤s.heap.objs.size
 funs:s.heap.FunFrames base outer
 frf:∀ b∈frs outer,H b=none
 hok:HOk P w H s.heap
 bare:AllBare s.gens
noncomputable def CE (outer:List Env) (P:Program) (w:World) (H:Hp) (s:Shared) (Q:VK) (u:Value) (s':Shared):Prop :=
 ∃ v H',s'.os=s.os∧AllBare s'.gens∧Un (frs outer) [] H H' s.heap s'.heap∧HOk P w H' s'.heap∧RelV v u∧Q v H'
noncomputable def CR (CX:CXT) (outer:List Env) (P:Program) (w:World) (H:Hp) (s:Shared) (Q:VK) (E:XK) (r:Result) (s':Shared):Prop :=
 match r with
 | .ok (.ret u)=>CE outer P w H s Q u s'
 | .ok _=>False
 | .error e=>CX outer H s E e s'
structure FnOk (P:Program) (w:World) (K:PySem.W.Frag) (mg:Str→Option Value) (base:Heap) (CX:CXT) (k:Nat) (f:Addr) (fd:FuncData) (ps:List Str) (sp:Sp):Prop where
 len:∀ vs H Q E,sp vs H Q E→vs.length=ps.length
 run:∀ (A:Around) (outer:List Env) (s:Shared) (H:Hp) (args:Args) (us:List Value) (vs:List V) (Q:VK) (E:XK),Room k A→Env0 P w K mg base A outer s H→BindsTo s fd args (ps.zip us)→Vals vs us→sp vs H Q E →
  codeAny (model P w) A (.call (.ref f) args) (CR CX outer P w H s Q E) s
theorem FnOk.imp {P:Program} {w:World} {K:PySem.W.Frag} {mg:Str→Option Value} {base:Heap} {CX:CXT} {k:Nat} {f:Addr} {fd:FuncData} {ps:List Str} {sp sp':Sp} (F:FnOk P w K mg base CX k f fd ps sp)
 (h:∀ vs H Q E,sp' vs H Q E→sp vs H Q E):FnOk P w K mg base CX k f fd ps sp' :=
 ⟨fun vs H Q E q=>F.len vs H Q E (h _ _ _ _ q),fun A outer s H args us vs Q E hr he hb hv hs=>F.run A outer s H args us vs Q E hr he hb hv (h _ _ _ _ hs)⟩
section
variable {X:Cx} {pins:List (Addr×Obj)} {σ:St} {H:Hp} {s s':Shared}
theorem Inv.env0 (I:Inv X pins σ H s):Env0 X.prog X.w X.K X.mg X.base X.A X.stack s H :=
 ⟨I.ok.frames,I.ok.mod,I.bs,Nat.le_trans I.ok.bsz I.sz,I.stack,I.stkFree,I.hok,I.bare⟩
theorem Inv.after {Q:VK} {u:Value} (I:Inv X pins σ H s) (h:CE X.stack X.prog X.w H s Q u s'):EP X pins σ Q u s':=by
 obtain ⟨v,H',os,bare,un,hok,r,q⟩:=h
 obtain ⟨hh,g,d,t,os'⟩:=s'
 obtain rfl:os'=s.os:=os
 exact ⟨v,H',I.call (h':=hh) (g':=g) (d':=d) (t':=t) (ch:=[]) un hok bare (fun b z=>absurd z (by simp)),r,q⟩
end
noncomputable def tCall (sp:Sp) (dvs:List V) (E:XK) (t:TA):TE:=fun σ H Q=>t σ H fun vs H1=>sp (vs ++ dvs) H1 Q E
noncomputable def Binds (K:PySem.W.Frag) (fd:FuncData) (ps:List Str) (ds:List Value):Prop :=
 ∀ (s:Shared) (us:List Value),K.In s.heap→(us ++ ds).length=ps.length→BindsTo s fd ⟨us,[]⟩ (ps.zip (us ++ ds))
theorem Binds.all {K:PySem.W.Frag} {fd:FuncData} {ps:List Str} (h:∀ us:List Value,us.length=ps.length→bindArgs fd ⟨us,[]⟩=pure (ps.zip us)):Binds K fd ps []:=fun s us _ hl=>by
 rw [List.append_nil] at hl ⊢
 exact .of_eq (h us hl)
noncomputable def Passes (CX:CXT) (X:Cx) (E:XK):Prop:=∀ (pins:List (Addr×Obj)) (σ:St) (H:Hp) (s:Shared) (e:Value) (s':Shared),Inv X pins σ H s→CX X.stack H s E e s'→X.xe e s'
section
variable {X:Cx} {CX:CXT} {k:Nat} {f C:Addr} {fd:FuncData} {ps:List Str} {sp:Sp} {dvs:List V} {ds:List Value} {E:XK} {x m:Str} {p pos apos:Pos} {e o:Expr} {es:List Expr} {ta:TE} {t:TA}
theorem run_fn {pins:List (Addr×Obj)} {σ:St} {H:Hp} {s:Shared} {Q:VK} {us:List Value} {vs:List V} (F:FnOk X.prog X.w X.K X.mg X.base CX k f fd ps sp) (hr:Room k X.A) (hb:Binds X.K fd ps ds) (hd:Vals dvs ds) (hx:Passes CX X E)
 (I:Inv X pins σ H s) (r:Vals vs us) (h:sp (vs ++ dvs) H Q E):wpAny (model X.prog X.w) X.A (call (.ref f) us) (EP X pins σ Q) X.xe s:=by
 have r2:Vals (vs ++ dvs) (us ++ ds):=r.append hd
 have hl:(us ++ ds).length=ps.length:=by rw [← r2.length];exact F.len _ _ _ _ h
 refine wpAny_call (codeAny_mono (F.run X.A X.stack s H ⟨us,[]⟩ (us ++ ds) (vs ++ dvs) Q E hr I.env0 (hb s us I.kIn hl) r2 h) fun r s' hq=>?_)
 cases r with
 | error e=>exact hx pins σ H s e s' I hq
 | ok fl =>
   cases fl with
   | ret u=>exact I.after hq
   | next=>exact False.elim hq
   | brk=>exact False.elim hq
   | cont=>exact False.elim hq
theorem pe_call (F:FnOk X.prog X.w X.K X.mg X.base CX k f fd ps sp) (hr:Room k X.A) (hg:Gl X x) (hm:X.mg x=some (.ref f)) (hk:PySem.W.keepIn X.K (.ref f)=true) (hb:Binds X.K fd ps ds) (hd:Vals dvs ds) (hx:Passes CX X E)
 (ha:PA X (e :: es) t) (hdb:(x == ("__debug__":Str))=false:=by decide) (he:starEach (e :: es) X.env=(false,eval e X.env) :: starEach es X.env:=by rfl) (hpl:(backTo pos (starEach es X.env)).any (·.1)=false:=by rfl) :
 PE X (.Call (.Name x p) (e :: es) [] pos) (tCall sp dvs E t):=by
 intro pins s σ H Q I h
 refine wpAny_Call_Name_kw (ld_glob I hg hm ?_ hdb)
 refine PySem.W.callWith_K (h₀:=X.base) I.ok.mod.kin hk (thn (ha pos pins s σ H _ I h) fun us s1 ⟨vs,H1,I1,r,q⟩=>⟨I1.kIn,?_⟩) he hpl
 exact run_fn F hr hb hd hx I1 r q
end
section
variable {X:Cx} {CX:CXT} {k:Nat} {f C:Addr} {fd:FuncData} {ps ks:List Str} {sp:Sp} {E:XK} {x m:Str} {p pos apos kpos:Pos} {e o:Expr} {es:List Expr} {kws:List Keyword} {te ta:TE} {t tk:TA} {nm:Option Str}
variable {g:List Value→List Value→List Value} {gV:List V→List V→List V}
end
structure FnScope (N P:List Str) (sc:Scope):Prop where
 kind:sc.kind=.function
 co:sc.isCoroutine=false
 gen:sc.isGenerator=false
 nd:N.Nodup
 pre:N.take P.length=P
 par:∀ x∈P,sc.names.lookup x=some .local∨sc.names.lookup x=some .cell
 nofree:∀ y∈sc.names,y.2≠.free
theorem bindL_out {kindOf:Str→Option NameKind} {x:Str}:∀ {binds:List (Str×Value)} {m:Str→Option Value},(∀ v,(x,v)∉binds)→bindL kindOf binds m x=m x
 | [],_,_=>rfl
 | (n,v) :: r,m,h=>by
   unfold bindL
   rw [bindL_out fun w hw=>h w (List.mem_cons_of_mem _ hw)]
   split
   · have:x≠n:=by rintro rfl;exact h v List.mem_cons_self
     simp [this]
   · rfl
theorem bindC_out {kindOf:Str→Option NameKind} {x:Str}:∀ {binds:List (Str×Value)} {m:Str→Option Value},(∀ v,(x,v)∉binds)→bindC kindOf binds m x=m x
 | [],_,_=>rfl
 | (n,v) :: r,m,h=>by
   unfold bindC
   rw [bindC_out fun w hw=>h w (List.mem_cons_of_mem _ hw)]
   split
   · rfl
   · have:x≠n:=by rintro rfl;exact h v List.mem_cons_self
     simp [this]
theorem bindL_get {kindOf:Str→Option NameKind} {x:Str} {v:Value}:∀ {P:List Str} {vs:List Value} {i:Nat} {m:Str→Option Value},P.Nodup→P[i]?=some x→vs[i]?=some v→kindOf x=some .local →
 bindL kindOf (P.zip vs) m x=some v
 | [],_,_,_,_,h,_,_=>by simp at h
 | _ :: _,[],_,_,_,_,h,_=>by simp at h
 | p :: P,w :: vs,0,m,nd,h1,h2,hk=>by
   simp at h1 h2;subst h1;subst h2
   show bindL kindOf ((p,w) :: P.zip vs) m p=_
   unfold bindL
   rw [bindL_out fun v hv=>(List.nodup_cons.mp nd).1 (List.of_mem_zip hv).1,if_pos hk]
   simp
 | p :: P,w :: vs,i+1,m,nd,h1,h2,hk=>by
   show bindL kindOf ((p,w) :: P.zip vs) m x=_
   unfold bindL
   exact bindL_get (i:=i) (List.nodup_cons.mp nd).2 (by simpa using h1) (by simpa using h2) hk
theorem bindC_get {kindOf:Str→Option NameKind} {x:Str} {v:Value}:∀ {P:List Str} {vs:List Value} {i:Nat} {m:Str→Option Value},P.Nodup→P[i]?=some x→vs[i]?=some v→kindOf x≠some .local →
 bindC kindOf (P.zip vs) m x=some v
 | [],_,_,_,_,h,_,_=>by simp at h
 | _ :: _,[],_,_,_,_,h,_=>by simp at h
 | p :: P,w :: vs,0,m,nd,h1,h2,hk=>by
   simp at h1 h2;subst h1;subst h2
   show bindC kindOf ((p,w) :: P.zip vs) m p=_
   unfold bindC
   rw [bindC_out fun v hv=>(List.nodup_cons.mp nd).1 (List.of_mem_zip hv).1,if_neg hk]
   simp
 | p :: P,w :: vs,i+1,m,nd,h1,h2,hk=>by
   show bindC kindOf ((p,w) :: P.zip vs) m x=_
   unfold bindC
   exact bindC_get (i:=i) (List.nodup_cons.mp nd).2 (by simpa using h1) (by simpa using h2) hk
noncomputable def start (N:List Str) (vs:List V):St:=vs.map some ++ List.replicate (N.length - vs.length) none
noncomputable def cxOf (CX:CXT) (P:Program) (w:World) (K:PySem.W.Frag) (mg:Str→Option Value) (base:Heap) (N:List Str) (qual:Str) (scope:Scope) (f:Addr) (cd:Value) (A:Around) (outer:List Env) (s:Shared) (H:Hp) (E:XK):Cx where
 prog:=P
 w:=w
 K:=K
 mg:=mg
 base:=base
 A:=A.deeper (envOfC qual scope s.heap.objs.size f cd)
 N:=N
 s₀:=s
 H₀:=H
 env:=envOfC qual scope s.heap.objs.size f cd
 outer:=outer
 stack:=envOfC qual scope s.heap.objs.size f cd :: outer
 ex:=[]
 calm:=true
 fn:=fun _=>true
 pn:=[]
 xe:=fun e s'=>wpAny (model P w) (A.deeper (envOfC qual scope s.heap.objs.size f cd)) (leaving (envOfC qual scope s.heap.objs.size f cd) e) (fun _ s''=>CX outer H s E e s'') (fun e' s''=>CX outer H s E e' s'') s'
theorem cell_has {sc:Scope} {n:Nat} {x:Str} (h:sc.names.lookup x=some .cell):∃ c,(cellsFrom n sc.names []).lookup x=some c:=by
 have q:=PySem.W.cellsFrom_some sc.names n [] (.inl h)
 exact Option.isSome_iff_exists.mp q
theorem inv_start {CX:CXT} {P:Program} {w:World} {K:PySem.W.Frag} {mg:Str→Option Value} {base:Heap} {N ps:List Str} {qual:Str} {scope:Scope} {f:Addr} {cd:Value} {A:Around} {outer:List Env} {s s1:Shared} {H:Hp} {E:XK} {us:List Value} {vs:List V}
 (S:FnScope N ps scope) (hd:A.handled=none) (e0:Env0 P w K mg base A outer s H) (hl:vs.length=ps.length) (r:Vals vs us)
 (x:InCallC s s.heap.objs.size (bindL (envOfC qual scope s.heap.objs.size f cd).kindOf (ps.zip us) fun _=>none) (cellsFrom (s.heap.objs.size+1) scope.names []) (bindC (envOfC qual scope s.heap.objs.size f cd).kindOf (ps.zip us) fun _=>none) s1) :
 Inv (cxOf CX P w K mg base N qual scope f cd A outer s H E) [] (start N vs) H s1:=by
 have hpl:ps.length≤N.length:=by have:=congrArg List.length S.pre;rw [List.length_take] at this;omega
 obtain ⟨h1,tk,rfl,hk⟩:=x.done
 have noA:∀ b:Addr,b∉(cxOf CX P w K mg base N qual scope f cd A outer s H E).ex:=fun b z=>absurd (show b∈([]:List Addr) from z) (by simp)
 refine ⟨⟨e0.mod,S.kind,rfl,rfl,Nat.le_refl _,fun y z c h1 h2=>?_,fun y hy=>?_,fun y c _ h=>?_,fun _=>hd,Around.frames_deeper e0.frames,.inr ⟨rfl,rfl⟩,fun b z=>absurd z (noA b),e0.bs,e0.bsz,fun b _ _=>noA b,fun b z=>absurd z (noA b),e0.funs,e0.frf⟩,
  rfl,e0.bare,Un.kept hk,⟨_,x.toInCall.ns,fun i y v h1 h2 h3=>?_⟩,fun y c h=>⟨_,x.cell y c h⟩,e0.hok.fresh (Nat.le_refl _),fun y c h=>?_,fun p hp=>absurd (show p∈([]:List (Addr×Obj)) from hp) (by simp),e0.hok.kept hk,?_⟩
 · exact name_of_addr x.apart (PySem.mem_of_lookup h1) (PySem.mem_of_lookup h2)
 · have hy:scope.names.lookup y=some .cell∨scope.names.lookup y=some .free:=hy
   rcases hy with hy | hy
   · exact cell_has hy
   · exact absurd rfl (S.nofree _ (PySem.mem_of_lookup hy))
 · exact Nat.le_of_lt (x.above y c (PySem.mem_of_lookup h))
 · have hi:i<vs.length:=by
    unfold start at h2
    by_cases hi:i<vs.length
    · exact hi
    · rw [List.getElem?_append_right (by simpa using hi)] at h2
      rw [List.getElem?_replicate] at h2
      split at h2 <;> cases h2
   have ha:vs[i]?=some v:=by
    unfold start at h2
    rw [List.getElem?_append_left (by simpa using hi),List.getElem?_map] at h2
    cases e:vs[i]? with
    | none=>rw [e] at h2;cases h2
    | some a=>rw [e] at h2;cases h2;rfl
   obtain ⟨u,hu,rv⟩:=r.get ha
   have hp:ps[i]?=some y:=by
    rw [← S.pre,List.getElem?_take_of_lt (by omega)];exact h1
   have ndP:ps.Nodup:=by rw [← S.pre];exact S.nd.sublist (List.take_sublist _ _)
   refine ⟨u,rv,?_⟩
   rcases S.par y (List.mem_of_getElem? hp) with k | k
   · exact .inl ⟨k,bindL_get ndP hp hu k⟩
   · obtain ⟨c,e⟩:=cell_has (n:=s.heap.objs.size+1) k
     refine .inr ⟨.inl k,c,e,?_⟩
     have q:=x.cell y c e
     rw [bindC_get ndP hp hu (by show scope.names.lookup y≠_;rw [k];decide)] at q
     exact q
 · exact e0.hok.fresh (Nat.le_of_lt (x.above y c (PySem.mem_of_lookup h)))
 · unfold start
   show _=N.length
   rw [List.length_append,List.length_map,List.length_replicate]
   omega
theorem fn_of {CX:CXT} {P:Program} {w:World} {K:PySem.W.Frag} {mg:Str→Option Value} {base:Heap} {k:Nat} {f:Addr} {name qual:Str} {params:Arguments} {body:List Stmt} {scope:Scope} {dV kV doc pm cdv ct oc:Value} {an od:Option Addr}
 {osl:Array (Option Value)} {N ps:List Str} {sp:Sp} (lk:K.lookup f=some ⟨oc,od,.func (PySem.W.fnOf name qual params body scope dV kV doc pm an cdv ct),osl⟩) (hcd:PySem.W.codeIn K cdv qual=true) (S:FnScope N ps scope)
 (len:∀ vs H Q E,sp vs H Q E→vs.length=ps.length)
 (hbody:∀ (A:Around) (outer:List Env) (s:Shared) (H:Hp) (vs:List V) (Q:VK) (E:XK),Room k (A.deeper (envOfC qual scope s.heap.objs.size f cdv))→sp vs H Q E →
  ∃ t,PSs (cxOf CX P w K mg base N qual scope f cdv A outer s H E) body t∧t { nx:=fun _ H'=>Q .non H',rt:=Q } (start N vs) H) :
 FnOk P w K mg base CX (k+1) f (PySem.W.fnOf name qual params body scope dV kV doc pm an cdv ct) ps sp:=by
 refine ⟨len,fun A outer s H args us vs Q E hr e0 hb r hsp=>?_⟩
 have hl:=len _ _ _ _ hsp
 have KX:K.In s.heap:=e0.mod.kin.keeps fun b o e=>(e0.bs b o e).1
 have lim:s.heap.NoLimit:=e0.mod.nolimit.keeps fun b o e=>(e0.bs b o e).1
 have hkind:∀ y∈ps.zip us,scope.names.lookup y.1=some .local∨(scope.names.lookup y.1=some .cell∧((cellsFrom (s.heap.objs.size+1) scope.names []).lookup y.1).isSome=true):=fun ⟨n,v⟩ hy=>by
  rcases S.par n (List.of_mem_zip hy).1 with q | q
  · exact .inl q
  · exact .inr ⟨q,PySem.W.cellsFrom_some _ _ _ (.inl q)⟩
 refine codeAny_call_function hr.depth (KX _ _ lk) rfl S.co S.gen rfl (PySem.W.codeRec_of KX hcd) (hb _ _ _ _ ?_)
 refine wpAny_newFunctionEnv_cells S.kind hkind fun env he s1 x=>?_
 subst he
 refine ⟨lim.keeps x.toInCall.keep,codeAny_func ?_⟩
 obtain ⟨t,ht,hq⟩:=hbody A outer s H vs Q E (hr.deeper _) hsp
 have I:Inv (cxOf CX P w K mg base N qual scope f cdv A outer s H E) [] (start N vs) H s1:=inv_start S hr.hd e0 hl r x
 refine wpAny_mono (ht [] s1 (start N vs) H _ I hq) (fun fl s' hs=>?_) fun e s' hs=>hs
 have fin:∀ {σ':St} {H':Hp} {v:V} {u:Value},Inv (cxOf CX P w K mg base N qual scope f cdv A outer s H E) [] σ' H' s'→RelV v u→Q v H'→CE outer P w H s Q u s' :=
  fun {σ' H' v u} J rv q=>⟨v,H',J.os,J.bare,J.base,J.hok,rv,q⟩
 cases fl with
 | ret u =>
   obtain ⟨v,σ',H',J,rv,q⟩:=hs
   exact fin J rv q
 | next =>
   obtain ⟨σ',H',J,q⟩:=hs
   exact fin (v:=V.non) (u:=Value.none) J rfl q
 | brk =>
   obtain ⟨_,_,_,q⟩:=hs
   exact False.elim q
 | cont =>
   obtain ⟨_,_,_,q⟩:=hs
   exact False.elim q
end L2
namespace L2
open PySem PySem.Spec PyProof.Rows
section
variable {X:Cx} {x:Str} {p pos:Pos} {e:Expr} {es:List Expr} {t:TA} {id T:String} {r:List V→Hp→VK→Prop}
noncomputable def tCB (r:List V→Hp→VK→Prop) (t:TA):TE:=fun σ H Q=>t σ H fun vs H1=>r vs H1 Q
theorem pe_callB (hc:CallR X (.builtin id) r) (hg:Gl X x) (hm:X.mg x=none) (hv:bootBuiltins x=some (.builtin id)) (ha:PA X (e :: es) t) (hn:x≠"__name__":=by decide) (hdb:(x == ("__debug__":Str))=false:=by decide)
 (he:starEach (e :: es) X.env=(false,eval e X.env) :: starEach es X.env:=by rfl) (hpl:(backTo pos (starEach es X.env)).any (·.1)=false:=by rfl):PE X (.Call (.Name x p) (e :: es) [] pos) (tCB r t):=by
 intro pins s σ H Q I h
 refine wpAny_Call_Name_kw (ld_blt I hg hm hv ?_ hn hdb)
 exact PyProof.Rows.callWith_builtin1 (thn (ha pos pins s σ H _ I h) fun us s1 ⟨vs,H1,I1,r1,q1⟩=>hc pins s1 σ H1 vs us Q I1 r1 q1) he hpl
theorem pe_callTy (hc:CallR X (.type T) r) (hg:Gl X x) (hm:X.mg x=none) (hv:bootBuiltins x=some (.type T)) (ha:PA X (e :: es) t) (hn:x≠"__name__":=by decide) (hdb:(x == ("__debug__":Str))=false:=by decide)
 (he:starEach (e :: es) X.env=(false,eval e X.env) :: starEach es X.env:=by rfl) (hpl:(backTo pos (starEach es X.env)).any (·.1)=false:=by rfl):PE X (.Call (.Name x p) (e :: es) [] pos) (tCB r t):=by
 intro pins s σ H Q I h
 refine wpAny_Call_Name_kw (ld_blt I hg hm hv ?_ hn hdb)
 exact PyProof.Rows.callWith_type1 (thn (ha pos pins s σ H _ I h) fun us s1 ⟨vs,H1,I1,r1,q1⟩=>hc pins s1 σ H1 vs us Q I1 r1 q1) he hpl
end
end L2
namespace HT
open PySem PyProof.Rows
section
open PySem.SeqAt
open PySem.AutoSeq1 (wpAny_loadPart')
open PySem.MeetsSeq PySem.MeetsSeq2 PySem.MeetsSeq3
end
section
variable {prog:Program} {w:World} {A:Around} {E:Value→Shared→Prop} {s:Shared}
noncomputable def sIx (n d:Nat):Option Int→Nat
 | none=>d
 | some v=>if v<0 then (v+(n:Int)).toNat else min v.toNat n
theorem sIx_none (n d:Nat):sIx n d none=d:=rfl
theorem sIx_nat (n d k:Nat):sIx n d (some (k:Int))=min k n:=by
 show (if (k:Int)<0 then ((k:Int)+(n:Int)).toNat else min (k:Int).toNat n)=min k n
 rw [if_neg (by omega),Int.toNat_natCast]
end
end HT
namespace L2
open PySem PySem.Spec PyProof.Rows
noncomputable abbrev TO:=St→Hp→(Option Int→Hp→Prop)→Prop
noncomputable def PO (X:Cx) (e:Option Expr) (t:TO):Prop :=
 ∀ (pins:List (Addr×Obj)) (s:Shared) (σ:St) (H:Hp) (Q:Option Int→Hp→Prop),Inv X pins σ H s→t σ H Q →
   wpAny (model X.prog X.w) X.A (evalPart e X.env) (fun u s'=>∃ o H',Inv X pins σ H' s'∧IsPart u o∧Q o H') X.xe s
noncomputable def tNoPart:TO:=fun _ H Q=>Q none H
noncomputable def tPart (t:TE):TO:=fun σ H Q=>t σ H fun x H1=>∃ i,x=.int i∧Q (some i) H1
theorem intsAre_of {ns:List Int}:∀ {us:List Value},Vals (ns.map V.int) us→IntsAre us ns:=by
 induction ns with
 | nil=>intro us r;rw [List.map_nil] at r;cases r;exact .nil
 | cons n ns ih =>
   intro us r
   rw [List.map_cons] at r
   cases r with
   | cons r1 r2 =>
     obtain ⟨t,e⟩:=r1
     subst e
     exact .cons n t (ih r2)
section
variable {X:Cx} {e:Expr} {te:TE} {lo hi:Option Expr} {tl th:TO} {pos p2:Pos}
theorem po_none:PO X none tNoPart:=by
 intro pins s σ H Q I h
 rw [evalPart_none]
 exact wpAny_pure ⟨none,H,I,.none,h⟩
theorem po_some (h:PE X e te):PO X (some e) (tPart te):=by
 intro pins s σ H Q I hw
 rw [evalPart_some]
 refine thn (h pins s σ H _ I hw) fun u s1 ⟨x,H1,I1,r1,q1⟩=>?_
 obtain ⟨i,rfl,q⟩:=q1
 obtain ⟨t,rfl⟩:=r1
 exact ⟨some i,H1,I1,.int i t,q⟩
noncomputable def SlR (X:Cx) (r:V→Option Int→Option Int→Hp→VK→Prop):Prop :=
 ∀ (pins:List (Addr×Obj)) (s:Shared) (σ:St) (H:Hp) (x:V) (v vl vu:Value) (lo hi:Option Int) (sl:Addr) (Q:VK),Inv X pins σ H s→RelV x v→s.heap.IsSliceOf sl vl vu .none→IsPart vl lo→IsPart vu hi→r x lo hi H Q →
   ∃ T id,typeLookup (.type T) "__getitem__"=pure (some (.builtin id))∧s.TypeIs v T∧wpAny (model X.prog X.w) X.A (getItem v (.ref sl)) (EP X pins σ Q) X.xe s
noncomputable def tSl (r:V→Option Int→Option Int→Hp→VK→Prop) (te:TE) (tl th:TO):TE:=fun σ H Q=>te σ H fun x H1=>tl σ H1 fun l H2=>th σ H2 fun u H3=>r x l u H3 Q
theorem pe_slice {r:V→Option Int→Option Int→Hp→VK→Prop} (hr:SlR X r) (he:PE X e te) (hl:PO X lo tl) (hu:PO X hi th):PE X (.Subscript e (.Slice lo hi none p2) pos) (tSl r te tl th):=by
 intro pins s σ H Q I h
 refine Subscript_ (thn (he pins s σ H _ I h) fun v s1 ⟨x,H1,I1,r1,q1⟩=>?_)
 refine wpAny_Slice (thn (hl pins s1 σ H1 _ I1 q1) fun vl s2 ⟨l,H2,I2,pl,q2⟩=>thn (hu pins s2 σ H2 _ I2 q2) fun vu s3 ⟨u,H3,I3,pu,q3⟩=>?_)
 rw [evalPart_none]
 refine wpAny_pure ?_
 have I4:Inv X pins σ H3 { s3 with heap:=s3.heap.push { cls:=.type "slice",data:=.fields #[vl,vu,.none] } }:=I3.kept (t':=s3.toks) fun b ob q=>Heap.get?_push_of_some _ q
 obtain ⟨T,id,hT,ht,hg⟩:=hr pins { s3 with heap:=s3.heap.push { cls:=.type "slice",data:=.fields #[vl,vu,.none] } } σ H3 x v vl vu l u s3.heap.objs.size Q I4 r1 (Heap.IsSliceOf.new ..) pl pu q3
 show wpAny (model X.prog X.w) X.A (subscriptTail e (.Slice lo hi none p2) v (.ref s3.heap.objs.size)) (EP X pins σ Q) X.xe { s3 with heap:=s3.heap.push { cls:=.type "slice",data:=.fields #[vl,vu,.none] } }
 exact tail_any (ops:=[.ref s3.heap.objs.size,v]) ht hT hg (by with_unfolding_all rfl)
noncomputable def cutV (xs:List V) (lo hi:Option Int):List V:=(xs.drop (HT.sIx xs.length 0 lo)).take (HT.sIx xs.length xs.length hi - HT.sIx xs.length 0 lo)
theorem cutV_length (xs:List V) (lo hi:Option Int):(cutV xs lo hi).length≤xs.length:=by
 unfold cutV
 rw [List.length_take,List.length_drop]
 omega
end
end L2
namespace L2
open PySem PySem.Spec PyProof.Rows
noncomputable def ixN (n:Nat) (i:Int):Option Nat:=if 0≤i then (if i<n then some i.toNat else none) else if -(n:Int)≤i then some (i+n).toNat else none
noncomputable def atI {α:Type} (xs:List α) (i:Int):Option α:=(ixN xs.length i).bind fun j=>xs[j]?
theorem ixN_seq {n:Nat} {i:Int} {j:Nat} (h:ixN n i=some j):seqIndex? i n=some j∧j<n∧-(n:Int)≤i∧i<n:=by
 unfold ixN at h
 by_cases h0:0≤i
 · rw [if_pos h0] at h
   by_cases h1:i<n
   · rw [if_pos h1] at h
     have e:i.toNat=j:=Option.some.inj h
     exact ⟨by rw [seqIndex_of h0 h1,e],by omega,by omega,h1⟩
   · rw [if_neg h1] at h;cases h
 · rw [if_neg h0] at h
   by_cases h1:-(n:Int)≤i
   · rw [if_pos h1] at h
     have e:(i+n).toNat=j:=Option.some.inj h
     exact ⟨by rw [seqIndex_neg (by omega) h1,e],by omega,h1,by omega⟩
   · rw [if_neg h1] at h;cases h
theorem atI_get {α:Type} {xs:List α} {i:Int} {v:α} (h:atI xs i=some v):∃ j,seqIndex? i xs.length=some j∧xs[j]?=some v∧j<xs.length∧-(xs.length:Int)≤i∧i<xs.length:=by
 unfold atI at h
 cases e:ixN xs.length i with
 | none=>rw [e] at h;cases h
 | some j =>
   rw [e] at h
   obtain ⟨h1,h2,h3,h4⟩:=ixN_seq e
   exact ⟨j,h1,h,h2,h3,h4⟩
theorem atI_nat {α:Type} {xs:List α} {j:Nat} {v:α} (h:xs[j]?=some v):atI xs (j:Int)=some v:=by
 have hj:j<xs.length:=(List.getElem?_eq_some_iff.mp h).1
 have e:ixN xs.length (j:Int)=some j:=by
  unfold ixN
  rw [if_pos (by omega),if_pos (by omega)];simp
 unfold atI;rw [e];exact h
theorem atI_last {α:Type} (xs:List α) (v:α):atI (xs ++ [v]) (-1)=some v:=by
 have hl:(xs ++ [v]).length=xs.length+1:=by simp
 have e:ixN (xs ++ [v]).length (-1)=some xs.length:=by
  unfold ixN
  rw [hl,if_neg (by decide),if_pos (by omega)]
  congr 1
  omega
 unfold atI
 rw [e]
 show (xs ++ [v])[xs.length]?=some v
 simp
noncomputable def PlainIx (b:Expr):Prop:=∀ o i,subscripted b false o i=operate [o,i] (getItem o i)
noncomputable def IxR (X:Cx) (r:R2):Prop :=
 ∀ (value slice:Expr) (pins:List (Addr×Obj)) (s:Shared) (σ:St) (H:Hp) (x y:V) (v u:Value) (Q:VK),Inv X pins σ H s→RelV x v→RelV y u→r x y H Q →
   subscripted slice false v u=operate [v,u] (getItem v u)→wpAny (model X.prog X.w) X.A (subscriptTail value slice v u) (EP X pins σ Q) X.xe s
noncomputable def MtR (X:Cx) (id:String) (r:V→List V→Hp→VK→Prop):Prop :=
 ∀ (pins:List (Addr×Obj)) (s:Shared) (σ:St) (H:Hp) (x:V) (xs:List V) (v:Value) (us:List Value) (Q:VK),Inv X pins σ H s→RelV x v→Vals xs us→r x xs H Q →
   wpAny (model X.prog X.w) X.A (call (.builtin id) (v :: us)) (EP X pins σ Q) X.xe s
section
variable {X:Cx} {a b:Expr} {ta tb:TE} {pos:Pos}
theorem pe_ix {r:R2} (hr:IxR X r) (ha:PE X a ta) (hb:PE X b tb) (hs:PlainIx b):PE X (.Subscript a b pos) (tOp r ta tb):=by
 intro pins s σ H Q I h
 exact Subscript_ (binT ha hb I h fun v u s2 x y H2 I2 rx ry q=>hr a b pins s2 σ H2 x y v u Q I2 rx ry q (hs _ _))
noncomputable def rIxL (K:PySem.W.Frag):R2:=fun x y H Q=>∃ p xs i v,x=.ref p∧y=.int i∧SqL K H p xs∧atI xs i=some v∧Q v H
noncomputable def rIxT (K:PySem.W.Frag):R2:=fun x y H Q=>∃ p xs i v,x=.ref p∧y=.int i∧SqT K H p xs∧atI xs i=some v∧Q v H
noncomputable def rIxS:R2:=fun x y H Q=>∃ z i c,x=.str z∧y=.int i∧z.length≤sizeLine∧atI z.cps.toList i=some c∧Q (.str ⟨#[c]⟩) H
theorem ix_list:IxR X (rIxL X.K):=by
 intro value slice pins s σ H x y v u Q I rx ry h hs
 obtain ⟨p,xs,i,z,rfl,rfl,hq,he,q⟩:=h
 cases rx
 obtain ⟨t,rfl⟩:=ry
 obtain ⟨its,r,pl,hz⟩:=I.list hq
 obtain ⟨j,h1,h2,h3,h4,h5⟩:=atI_get he
 obtain ⟨w,ew,rw'⟩:=r.get h2
 have hl:=r.length
 have hn:=line63
 have fin:EP X pins σ Q w s:=⟨z,H,I,rw',q⟩
 by_cases h0:0≤i
 · have hj:i.toNat=j:=by
    rw [seqIndex_of h0 h5] at h1
    exact Option.some.inj h1
   exact item_listR pl.isList h0 (by omega) (by rw [hj];simpa using ew) fin hs
 · have hj:(i+(its.toArray.size:Int)).toNat=j:=by
    rw [seqIndex_neg (by omega) h4] at h1
    rw [List.size_toArray,← hl]
    exact Option.some.inj h1
   exact subscriptTail_builtinR (x:=w) pl.isList.typeIs slot_list_getitem.lookup
    (wpAny_getItem_list_neg (Q:=fun r s'=>r=w∧EP X pins σ Q r s') pl.isList (by omega) (by rw [List.size_toArray] <;> omega) (by omega) (by rw [hj];simpa using ew) ⟨rfl,fin⟩) hs
theorem ix_tup:IxR X (rIxT X.K):=by
 intro value slice pins s σ H x y v u Q I rx ry h hs
 obtain ⟨p,xs,i,z,rfl,rfl,hq,he,q⟩:=h
 cases rx
 obtain ⟨t,rfl⟩:=ry
 obtain ⟨its,r,pl,hz⟩:=I.tuple hq
 obtain ⟨j,h1,h2,h3,h4,h5⟩:=atI_get he
 obtain ⟨w,ew,rw'⟩:=r.get h2
 have hl:=r.length
 have hn:=line63
 have fin:EP X pins σ Q w s:=⟨z,H,I,rw',q⟩
 exact subscriptTail_builtinR (x:=w) pl.typeIs slot_tuple_getitem.lookup
  (getItem_tuple (j:=j) (Q:=fun r s'=>r=w∧EP X pins σ Q r s') pl (by omega) (by omega) (by rw [List.size_toArray,← hl];exact h1) (by simpa using ew) ⟨rfl,fin⟩) hs
theorem ix_str:IxR X rIxS:=by
 intro value slice pins s σ H x y v u Q I rx ry h hs
 obtain ⟨z,i,c,rfl,rfl,hz,he,q⟩:=h
 obtain ⟨t,rfl⟩:=rx
 obtain ⟨t',rfl⟩:=ry
 obtain ⟨j,h1,h2,h3,h4,h5⟩:=atI_get he
 have hl:z.cps.toList.length=z.length:=by simp [Str.length]
 rw [hl] at h1 h4 h5
 have hn:=line63
 exact tail_any (typeIs_str s z t) slot_str_getitem.lookup (getItem_str (c:=c) (by
  have e1:decide (i < -(2 ^ 63:Int))=false:=decide_eq_false (by omega)
  have e2:decide (i ≥ 2 ^ 63)=false:=decide_eq_false (by omega)
  rw [e1,e2,Bool.or_false]) (by rw [h1];simpa using h2) ⟨.str ⟨#[c]⟩,H,I.tok _,⟨_,rfl⟩,q⟩) hs
theorem mapSeq_set (its:List Value) (n j:Nat) (u:Value):Obj.mapSeq (·.setIfInBounds j u) { cls:=.type "list",data:=.seq its.toArray n }={ cls:=.type "list",data:=.seq (its.set j u).toArray n }:=by
 simp [Obj.mapSeq]
theorem Inv.lst {pins:List (Addr×Obj)} {σ:St} {H:Hp} {s:Shared} {p:Addr} {xs:List V} (I:Inv X pins σ H s) (h:H p=some (.lst xs)) :
 ∃ (its:List Value) (n:Nat),Vals xs its∧s.heap.get? p=some { cls:=.type "list",data:=.seq its.toArray n }∧xs.length≤sizeLine:=by
 obtain ⟨z,its,n,r,e⟩:=I.hok p _ h
 exact ⟨its,n,r,e,z⟩
theorem Inv.lstUpd {pins:List (Addr×Obj)} {σ:St} {H:Hp} {s:Shared} {p:Addr} {xs ys:List V} {its its':List Value} {n n':Nat} {f:Obj→Obj} (I:Inv X pins σ H s) (h:H p=some (.lst xs))
 (ho:s.heap.get? p=some { cls:=.type "list",data:=.seq its.toArray n }) (hf:f { cls:=.type "list",data:=.seq its.toArray n }={ cls:=.type "list",data:=.seq its'.toArray n' }) (r:Vals ys its') (hz:ys.length≤sizeLine) (t:Nat) :
 Inv X pins σ (upd H p (.lst ys)) { s with heap:=s.heap.update p f,toks:=t }:=by
 have e:(s.heap.update p f).get? p=some { cls:=.type "list",data:=.seq its'.toArray n' }:=by
  rw [Heap.get?_update_self f ho (by rw [hf] <;> rfl),hf]
 refine I.write (x:=p) (e:=p) (by rw [h];trivial) (.inl rfl) (fun b u hb q=>(Heap.get?_update_other _ _ (Ne.symm hb)).trans q) ⟨_,e⟩ ?_
 exact ⟨hz,its',n',r,e⟩
noncomputable def rSetL:V→V→V→Hp→(Hp→Prop)→Prop:=fun o i v H Q=>∃ p xs k j,o=.ref p∧i=.int k∧H p=some (.lst xs)∧ixN xs.length k=some j∧Q (upd H p (.lst (xs.set j v)))
theorem set_list:PSet X rSetL:=by
 intro pins s σ H o i v ov iv u Q I ro ri rv h
 obtain ⟨p,xs,k,j,rfl,rfl,hp,hj,q⟩:=h
 cases ro
 obtain ⟨t,rfl⟩:=ri
 obtain ⟨its,n,r,ho,hz⟩:=I.lst hp
 obtain ⟨h1,h2,h3,h4⟩:=ixN_seq hj
 have hl:=r.length
 have hn:=line63
 have I':Inv X pins σ (upd H p (.lst (xs.set j v))) { s with heap:=s.heap.update p (Obj.mapSeq (·.setIfInBounds j u)) } :=
  I.lstUpd hp ho (mapSeq_set its n j u) (r.set rv j) (by rw [List.length_set];exact hz) s.toks
 by_cases h0:0≤k
 · have hk:k.toNat=j:=by
    rw [seqIndex_of h0 h4] at h1
    exact Option.some.inj h1
   exact PySem.W.ki_setAt ho h0 (by omega) (by rw [List.size_toArray,← hl];exact h4) (by rw [hk];exact ⟨_,I',q⟩)
 · have hk:(k+(its.toArray.size:Int)).toNat=j:=by
    rw [seqIndex_neg (by omega) h3] at h1
    rw [List.size_toArray,← hl]
    exact Option.some.inj h1
   exact PySem.W.ki_setBack ho (by omega) (by rw [List.size_toArray,← hl];exact h3) (by omega) (by rw [hk];exact ⟨_,I',q⟩)
theorem slice_bounds (lo hi:Option Int) (n:Nat):(sliceBounds lo hi none n).1=((HT.sIx n 0 lo:Nat):Int)∧(sliceBounds lo hi none n).2.1=((HT.sIx n n hi:Nat):Int)∧(sliceBounds lo hi none n).2.2=1:=by
 refine ⟨?_,?_,rfl⟩
 · cases lo with
   | none=>simp [sliceBounds,HT.sIx]
   | some i =>
     simp only [sliceBounds,HT.sIx,Option.getD_none,show (1:Int) > 0 by decide,if_true]
     by_cases h:i<0
     · simp only [h,if_true] <;> omega
     · simp only [h,if_false] <;> omega
 · cases hi with
   | none=>simp [sliceBounds,HT.sIx]
   | some i =>
     simp only [sliceBounds,HT.sIx,Option.getD_none,show (1:Int) > 0 by decide,if_true]
     by_cases h:i<0
     · simp only [h,if_true] <;> omega
     · simp only [h,if_false] <;> omega
theorem slicePick_cut (its:List Value) (lo hi:Option Int):slicePick its.toArray lo hi none=((its.drop (HT.sIx its.length 0 lo)).take (HT.sIx its.length its.length hi - HT.sIx its.length 0 lo)).toArray:=by
 obtain ⟨h1,h2,h3⟩:=slice_bounds lo hi its.toArray.size
 unfold slicePick
 rw [h1,h2,h3]
 simp only [sliceRange_one,pick_run,List.size_toArray] <;> rfl
noncomputable def rSlL (K:PySem.W.Frag):V→Option Int→Option Int→Hp→VK→Prop:=fun x lo hi H Q=>∃ a xs,x=.ref a∧SqL K H a xs∧∀ p,H p=none→Q (.ref p) (upd H p (.lst (cutV xs lo hi)))
theorem sl_list:SlR X (rSlL X.K):=by
 intro pins s σ H x v vl vu lo hi sl Q I rx hs pl pu h
 obtain ⟨a,xs,rfl,hx,q⟩:=h
 cases rx
 obtain ⟨its,r,ht,hz⟩:=I.list hx
 have hlen:=r.length
 refine ⟨"list",_,slot_list_getitem.lookup,ht.isList.typeIs,?_⟩
 refine wpAny_getItem_list_slice ht.isList hs pl pu .none (by simp) ?_ (by rw [List.size_toArray] <;> omega)
 rw [slicePick_cut,← hlen]
 refine ⟨.ref s.heap.objs.size,_,I.laid (t':=s.toks) (o:=.lst (cutV xs lo hi)) (fun b ob q=>Heap.get?_push_of_some _ q) (Nat.le_refl _) ?_,rfl,q _ (I.hok.fresh (Nat.le_refl _))⟩
 exact ⟨Nat.le_trans (cutV_length xs lo hi) hz,_,0,(r.drop (HT.sIx xs.length 0 lo)).take (HT.sIx xs.length xs.length hi - HT.sIx xs.length 0 lo),Heap.get?_push_size _ rfl⟩
noncomputable def flatV:V→Bool
 | .non=>true
 | .bl _=>true
 | .int _=>true
 | .str _=>true
 | _=>false
noncomputable def eqV:V→V→Bool
 | .non,.non=>true
 | .bl a,.bl b=>a == b
 | .bl a,.int b=>(if a then 1 else 0) == b
 | .int a,.bl b=>a == (if b then 1 else 0)
 | .int a,.int b=>a == b
 | .str a,.str b=>a == b
 | _,_=>false
theorem eqAt_V {A:Around} {s:Shared} {y x:V} {u v:Value} (ry:RelV y u) (rx:RelV x v) (fy:flatV y=true) (fx:flatV x=true):SeqAt.EqAt A s u v (eqV y x):=by
 cases y with
 | non =>
   cases ry
   cases x with
   | non=>cases rx;exact SeqAt.EqAt.same _
   | bl b=>cases rx;exact SeqAt.EqAt.none_bool b
   | int b=>obtain ⟨t,rfl⟩:=rx;exact SeqAt.EqAt.none_int b t
   | str b=>obtain ⟨t,rfl⟩:=rx;exact SeqAt.EqAt.none_str b t
   | _=>exact absurd (show false=true from fx) Bool.false_ne_true
 | bl a =>
   cases ry
   cases x with
   | non=>cases rx;exact SeqAt.EqAt.bool_none a
   | bl b=>cases rx;exact SeqAt.EqAt.bool_bool a b
   | int b=>obtain ⟨t,rfl⟩:=rx;exact SeqAt.EqAt.bool_int a b t
   | str b=>obtain ⟨t,rfl⟩:=rx;exact SeqAt.EqAt.bool_str a b t
   | _=>exact absurd (show false=true from fx) Bool.false_ne_true
 | int a =>
   obtain ⟨t',rfl⟩:=ry
   cases x with
   | non=>cases rx;exact SeqAt.EqAt.int_none a t'
   | bl b=>cases rx;exact SeqAt.EqAt.int_bool a t' b
   | int b=>obtain ⟨t,rfl⟩:=rx;exact SeqAt.EqAt.int_int a t' b t
   | str b=>obtain ⟨t,rfl⟩:=rx;exact SeqAt.EqAt.int_str a t' b t
   | _=>exact absurd (show false=true from fx) Bool.false_ne_true
 | str a =>
   obtain ⟨t',rfl⟩:=ry
   cases x with
   | non=>cases rx;exact SeqAt.EqAt.str_none a t'
   | bl b=>cases rx;exact SeqAt.EqAt.str_bool a t' b
   | int b=>obtain ⟨t,rfl⟩:=rx;exact SeqAt.EqAt.str_int a t' b t
   | str b=>obtain ⟨t,rfl⟩:=rx;exact SeqAt.EqAt.str_str a t' b t
   | _=>exact absurd (show false=true from fx) Bool.false_ne_true
 | _=>exact absurd (show false=true from fy) Bool.false_ne_true
theorem op_notIn_str:OpR X (compareOp .NotIn) (fun x y H Q=>∃ i j,x=.str i∧y=.str j∧Q (.bl (!(!(Builtin.Str.occurrences j i 0 j.length 1).isEmpty))) H):=by
 intro pins s σ H x y v u Q I rx ry h
 obtain ⟨i,j,rfl,rfl,q⟩:=h
 obtain ⟨t,rfl⟩:=rx
 obtain ⟨t',rfl⟩:=ry
 exact notIn_str ⟨.bl _,H,I,rfl,q⟩
theorem call_len_seq:CallR X (.builtin "len") (fun xs H Q=>∃ p ys,xs=[.ref p]∧(SqL X.K H p ys∨SqT X.K H p ys)∧Q (.int ys.length) H):=by
 intro pins s σ H xs us Q I r h
 obtain ⟨p,ys,rfl,hq,q⟩:=h
 obtain ⟨u,rfl,rx⟩:=vals1 r
 cases rx
 have hn:=line63
 rcases hq with hq | hq
 · obtain ⟨its,r',pl,hz⟩:=I.list hq
   have hlen:=r'.length
   exact Calls.call_len_list pl.isList (by simp only [List.size_toArray] <;> omega) ⟨.int ys.length,H,I.tok _,⟨s.toks+1,by rw [List.size_toArray,hlen]⟩,q⟩
 · obtain ⟨its,r',pl,hz⟩:=I.tuple hq
   have hlen:=r'.length
   exact len_tuple pl (by simp only [List.size_toArray] <;> omega) ⟨.int ys.length,H,I.tok _,⟨s.toks+1,by rw [List.size_toArray,hlen]⟩,q⟩
theorem call_len_str:CallR X (.builtin "len") (fun xs H Q=>∃ z,xs=[.str z]∧z.length≤sizeLine∧Q (.int z.length) H):=by
 intro pins s σ H xs us Q I r h
 obtain ⟨z,rfl,hz,q⟩:=h
 obtain ⟨u,rfl,t,rfl⟩:=vals1 r
 have hn:=line63
 exact len_str (by omega) ⟨.int z.length,H,I.tok _,⟨_,rfl⟩,q⟩
theorem call_list_of:CallR X (.type "list") (fun xs H Q=>∃ p ys,xs=[.ref p]∧(SqL X.K H p ys∨SqT X.K H p ys)∧∀ l,H l=none→Q (.ref l) (upd H l (.lst ys))):=by
 intro pins s σ H xs us Q I r h
 obtain ⟨p,ys,rfl,hq,q⟩:=h
 obtain ⟨u,rfl,rx⟩:=vals1 r
 cases rx
 have fin:∀ (its:List Value),Vals ys its→ys.length≤sizeLine→∀ (h':Heap) (c':Nat),(∀ b o',s.heap.get? b=some o'→h'.get? b=some o') →
  h'.get? s.heap.objs.size=some { cls:=.type "list",dict:=none,data:=.seq its.toArray c',slots:=#[] }→EP X pins σ Q (.ref s.heap.objs.size) { s with heap:=h' }:=fun its r' hz h' c' kp e =>
  ⟨.ref s.heap.objs.size,_,I.laid (t':=s.toks) kp (Nat.le_refl _) (show ObjOk X.prog X.w _ h' _ (.lst ys) from ⟨hz,its,c',r',e⟩),rfl,q _ (I.hok.fresh (Nat.le_refl _))⟩
 rcases hq with hq | hq
 · obtain ⟨its,r',pl,hz⟩:=I.list hq
   have hlen:=r'.length
   obtain ⟨o,ho,hc,n,hd⟩:=pl.isList
   exact call_list_seq p (.inl rfl) ho hc hd (fun h' c' kp e=>fin its r' hz h' c' kp e) (by simp only [List.size_toArray] <;> omega)
 · obtain ⟨its,r',pl,hz⟩:=I.tuple hq
   have hlen:=r'.length
   obtain ⟨o,ho,hc,n,hd⟩:=pl
   exact call_list_seq p (.inr rfl) ho hc hd (fun h' c' kp e=>fin its r' hz h' c' kp e) (by simp only [List.size_toArray] <;> omega)
theorem call_tuple_of:CallR X (.type "tuple") (fun xs H Q=>∃ p ys,xs=[.ref p]∧((SqL X.K H p ys∧∀ l,H l=none→Q (.ref l) (upd H l (.tup ys)))∨(SqT X.K H p ys∧Q (.ref p) H))):=by
 intro pins s σ H xs us Q I r h
 obtain ⟨p,ys,rfl,h⟩:=h
 obtain ⟨u,rfl,rx⟩:=vals1 r
 cases rx
 rcases h with ⟨hq,q⟩ | ⟨hq,q⟩
 · obtain ⟨its,r',pl,hz⟩:=I.list hq
   have hlen:=r'.length
   refine call_tuple_list pl.isList (fun h' kp=>?_) (by simp only [List.size_toArray] <;> omega)
   have I1:Inv X pins σ H { s with heap:=h' }:=I.kept (t':=s.toks) kp
   have I2:Inv X pins σ (upd H h'.objs.size (.tup ys)) { s with heap:=h'.push { cls:=.type "tuple",data:=.seq its.toArray } } :=
    I1.laid (t':=s.toks) (fun b o e=>Heap.get?_push_of_some _ e) (Nat.le_refl _) (show ObjOk X.prog X.w _ _ _ (.tup ys) from ⟨hz,its,r',IsTupN.new _ _⟩)
   exact ⟨.ref h'.objs.size,_,I2,rfl,q _ (I1.hok.fresh (Nat.le_refl _))⟩
 · obtain ⟨its,r',pl,hz⟩:=I.tuple hq
   exact call_tuple_same pl ⟨.ref p,H,I,rfl,q⟩
noncomputable def tyV (K:PySem.W.Frag) (T:String) (x:V) (H:Hp):Prop:=match x with
 | .str _=>T="str"
 | .int _=>T="int"
 | .ref p=>(T="list"∧∃ xs,SqL K H p xs)∨(T="tuple"∧∃ o,K.lookup p=some o∧o.cls=.type "tuple"∧o.dict=none) ∨
  (T="dict"∧((∃ kvs,H p=some (.dK kvs))∨∃ kvs,H p=some (.dT kvs)))∨(T="set"∧∃ S n,H p=some (.set S n))
 | _=>False
theorem tyV_is {pins:List (Addr×Obj)} {σ:St} {H:Hp} {s:Shared} {T:String} {x:V} {v:Value} (I:Inv X pins σ H s) (r:RelV x v) (ty:tyV X.K T x H) :
 s.TypeIs v T∧∀ a,v=.ref a→∃ ob,s.heap.get? a=some ob∧ob.dict=none:=by
 cases x with
 | str z =>
   obtain ⟨t,rfl⟩:=r
   cases (show T="str" from ty)
   exact ⟨typeIs_str s z t,fun _ e=>nomatch e⟩
 | int i =>
   obtain ⟨t,rfl⟩:=r
   cases (show T="int" from ty)
   exact ⟨typeIs_int s i t,fun _ e=>nomatch e⟩
 | ref p =>
   cases r
   rcases ty with ⟨rfl,xs,hq⟩ | ⟨rfl,o,hk,hc,hd⟩ | ⟨rfl,hk⟩ | ⟨rfl,S,n,hk⟩
   · obtain ⟨its,_,pl,_⟩:=I.list hq
     refine ⟨pl.isList.typeIs,fun a e=>?_⟩
     cases e
     obtain ⟨o,n,e,c,hd,_⟩:=pl
     exact ⟨o,e,hd⟩
   · refine ⟨⟨o,I.kIn p o hk,hc⟩,fun a e=>?_⟩
     cases e
     exact ⟨o,I.kIn _ o hk,hd⟩
   · have z:∃ o,s.heap.get? p=some o∧o.ExactDict:=by
      rcases hk with ⟨kvs,hk⟩ | ⟨kvs,hk⟩
      · obtain ⟨_,_,_,_,o,_,_,e,ex,_⟩:=I.hok p _ hk
        exact ⟨o,e,ex⟩
      · obtain ⟨_,_,_,_,o,_,_,e,ex,_⟩:=I.hok p _ hk
        exact ⟨o,e,ex⟩
     obtain ⟨o,e,ex⟩:=z
     refine ⟨⟨o,e,ex.1⟩,fun a e2=>?_⟩
     cases e2
     exact ⟨o,e,ex.2.1⟩
   · obtain ⟨o,_,_,_,e,ex,_⟩:=I.hok p _ hk
     refine ⟨⟨o,e,ex.1⟩,fun a e2=>?_⟩
     cases e2
     exact ⟨o,e,ex.2.1⟩
 | _=>exact False.elim ty
noncomputable def tBM (K:PySem.W.Frag) (T:String) (r:V→List V→Hp→VK→Prop) (to:TE) (t:TA):TE:=fun σ H Q=>to σ H fun x H1=>tyV K T x H1∧t σ H1 fun xs H2=>r x xs H2 Q
variable {o e:Expr} {es:List Expr} {to:TE} {t:TA} {name:Str} {apos cpos:Pos} {T id:String} {r:V→List V→Hp→VK→Prop}
theorem pe_bm (pa:PlainAttrs T) (slot:Slot T name id) (hty:typeOf (.builtin id)=pure (.type "method_descriptor")) (hm:MtR X id r) (ho:PE X o to) (ha:PA X (e :: es) t)
 (hbase:attributeBase o name X.env (eval o X.env)=eval o X.env:=by rfl)
 (hfew:((backTo cpos (starEach (e :: es) X.env)).all (fun x=>!x.1) && (backToKw cpos (keywordEach [] X.env)).all (fun x=>x.1.isSome)
  && decide ((e :: es).length+([]:List Keyword).length+(if ([]:List Keyword).isEmpty then 0 else 1)<30))=true:=by rfl)
 (hline:(apos.endLine == cpos.line)=true:=by rfl) (hs:starEach (e :: es) X.env=(false,eval e X.env) :: starEach es X.env:=by rfl) (hplain:(backTo cpos (starEach es X.env)).any (·.1)=false:=by rfl) :
 PE X (.Call (.Attribute o name apos) (e :: es) [] cpos) (tBM X.K T r to t):=by
 intro pins s σ H Q I h
 refine wpAny_Call_method_late hbase hfew hline rfl (thn (ho pins s σ H _ I h) fun v s1 ⟨x,H1,I1,r1,ty,q1⟩=>?_)
 obtain ⟨h1,h2⟩:=tyV_is I1 r1 ty
 refine ⟨T,id,pa,slot,hty,h1,h2,?_⟩
 have hA:=ha cpos pins s1 σ H1 _ I1 q1
 rw [hs] at hA ⊢
 refine Calls.callWith_builtin (by show (false || (backTo cpos (starEach es X.env)).any (·.1))=false;rw [hplain] <;> rfl) (Calls.evalArgs_plain ?_)
 exact thn hA fun us s2 ⟨vs,H2,I2,r2,q2⟩=>hm pins s2 σ H2 x vs v us Q I2 r1 r2 q2
/- xs.append(e),list.index on a module's tuple .. are MtR facts of 06m -/
end
end L2
namespace L2
open PySem PySem.Spec PyProof.Rows
noncomputable def MtM (X:Cx) (id:String) (r:V→List V→Hp→VK→Prop):Prop :=
 ∀ (pins:List (Addr×Obj)) (s:Shared) (σ:St) (H:Hp) (x:V) (xs:List V) (v:Value) (us:List Value) (Q:VK),Inv X pins σ H s→RelV x v→Vals xs us→r x xs H Q →
   wpAny (model X.prog X.w) X.A (call (.builtin id) (v :: us)) (EP X pins σ Q) X.xe s
theorem Vals.one:∀ {x:V} {us:List Value},Vals [x] us→∃ u,us=[u]∧RelV x u
 | _,_,.cons r .nil=>⟨_,rfl,r⟩
theorem Vals.eraseIdx:∀ {xs:List V} {us:List Value} (i:Nat),Vals xs us→Vals (xs.eraseIdx i) (us.eraseIdx i)
 | _,_,_,.nil=>.nil
 | _,_,0,.cons _ t=>t
 | _,_,i+1,.cons r t=>.cons r (Vals.eraseIdx i t)
theorem Vals.rep {xs:List V} {us:List Value} (h:Vals xs us):∀ k:Nat,Vals (List.replicate k xs).flatten (List.replicate k us).flatten
 | 0=>.nil
 | k+1=>by
   rw [List.replicate_succ,List.replicate_succ,List.flatten_cons,List.flatten_cons]
   exact Vals.append h (Vals.rep h k)
theorem len_erase {α:Type}:∀ (l:List α) (i:Nat),(l.eraseIdx i).length≤l.length
 | [],_=>Nat.le_refl _
 | _ :: _,0=>Nat.le_succ _
 | _ :: r,i+1=>Nat.succ_le_succ (len_erase r i)
theorem foldl_rep (its:List Value):∀ (k:Nat) (acc:List Value),
 List.foldl (fun x1 x2=>x1 ++ x2) acc.toArray (List.replicate k its.toArray)=(acc ++ (List.replicate k its).flatten).toArray
 | 0,acc=>by simp
 | k+1,acc=>by
   have e:acc.toArray ++ its.toArray=(acc ++ its).toArray:=by simp
   have e2:(acc ++ its) ++ (List.replicate k its).flatten=acc ++ (List.replicate (k+1) its).flatten:=by
    rw [List.replicate_succ,List.flatten_cons,List.append_assoc]
   rw [← e2,← foldl_rep its k (acc ++ its),← e,List.replicate_succ,List.foldl_cons]
section
variable {X:Cx} {pins:List (Addr×Obj)} {σ:St} {H:Hp} {s:Shared} {l b:Addr} {xs ys zs:List V}
theorem Inv.lset {its its':List Value} {n:Nat} {f:Array Value→Array Value} {t':Nat} (I:Inv X pins σ H s) (hH:H l=some (.lst xs))
 (e:s.heap.get? l=some { cls:=.type "list",data:=.seq its.toArray n }) (hf:f its.toArray=its'.toArray) (hv:Vals ys its') (hz:ys.length≤sizeLine) :
 Inv X pins σ (upd H l (.lst ys)) { s with heap:=s.heap.update l (Obj.mapSeq f),toks:=t' }:=by
 have q:=PySem.IsL.update e f
 rw [hf] at q
 refine I.write (x:=l) (e:=l) (by rw [hH];exact trivial) (.inl rfl) (fun b' u hb hu=>(Heap.get?_update_other s.heap (Obj.mapSeq f) (Ne.symm hb)).trans hu) ⟨_,q⟩ ?_
 exact ⟨hz,its',_,hv,q⟩
theorem Inv.lnew {its:List Value} {t':Nat} (I:Inv X pins σ H s) (hv:Vals ys its) (hz:ys.length≤sizeLine) :
 Inv X pins σ (upd H s.heap.objs.size (.lst ys)) { s with heap:=s.heap.push { cls:=.type "list",data:=.seq its.toArray },toks:=t' } :=
 I.laid (fun _ _ q=>Heap.get?_push_of_some _ q) (Nat.le_refl _) ⟨hz,its,0,hv,Heap.get?_push_size _ rfl⟩
theorem Inv.fresh (I:Inv X pins σ H s):H s.heap.objs.size=none:=I.hok.fresh (Nat.le_refl _)
theorem Inv.lstM (I:Inv X pins σ H s) (hH:H l=some (.lst xs)):xs.length≤sizeLine∧∃ (its:List Value) (n:Nat),Vals xs its∧xs.length=its.length∧s.heap.get? l=some { cls:=.type "list",data:=.seq its.toArray n }:=by
 obtain ⟨z,its,n,r,e⟩:=I.hok l _ hH
 exact ⟨z,its,n,r,r.length,e⟩
theorem notLongL {n:Nat} (h:n≤sizeLine):Builtin.List.listTooLong n=false:=by
 unfold Builtin.List.listTooLong
 exact decide_eq_false (by omega)
end
section
variable {X:Cx}
noncomputable def rAppend:V→List V→Hp→VK→Prop:=fun x vs H Q=>∃ l xs y,x=.ref l∧vs=[y]∧H l=some (.lst xs)∧xs.length<sizeLine∧Q .non (upd H l (.lst (xs ++ [y])))
theorem mt_append:MtM X "list.append" rAppend:=by
 intro pins s σ H x vs v us Q I rx rv h
 obtain ⟨l,xs,y,rfl,rfl,hH,hz,q⟩:=h
 cases rx
 obtain ⟨u,rfl,ru⟩:=rv.one
 obtain ⟨z,its,n,r,hl,e⟩:=I.lstM hH
 refine call_meets F.slot_list_append ⟨_,e,rfl⟩ F.entry_list_append (F.args_list_append_2 _ _) (PySem.list_append l its.toArray n u (by rw [List.size_toArray];omega)) ⟨e,?_⟩
 refine ⟨.non,_,I.lset (its':=its ++ [u]) hH e (by simp) (r.append (.cons ru .nil)) ?_,rfl,q⟩
 rw [List.length_append,List.length_singleton]
 omega
noncomputable def rPopAt:V→List V→Hp→VK→Prop:=fun x vs H Q=>∃ l xs i k y,x=.ref l∧vs=[.int i]∧H l=some (.lst xs)∧-(2 ^ 63)≤i∧i<2 ^ 63∧seqIndex? i xs.length=some k∧xs[k]?=some y∧Q y (upd H l (.lst (xs.eraseIdx k)))
theorem mt_popAt:MtM X "list.pop" rPopAt:=by
 intro pins s σ H x vs v us Q I rx rv h
 obtain ⟨l,xs,i,k,y,rfl,rfl,hH,h1,h2,hk,hy,q⟩:=h
 cases rx
 obtain ⟨u,rfl,ru⟩:=rv.one
 obtain ⟨t,rfl⟩:=ru
 obtain ⟨z,its,n,r,hl,e⟩:=I.lstM hH
 obtain ⟨w,hw,rw'⟩:=r.get hy
 refine call_meets F.slot_list_pop ⟨_,e,rfl⟩ F.entry_list_pop (F.args_list_pop_2 _ _)
  (MeetsSeq.list_pop_at l its.toArray n i t k w (fitsIndex_both h1 h2) (by rw [List.size_toArray,← hl];exact hk) (by rw [← Array.getElem?_toList];exact hw) (by rw [List.size_toArray];omega)) ⟨e,?_⟩
 refine ⟨y,_,I.lset (its':=its.eraseIdx k) hH e ?_ (r.eraseIdx k) ?_,rw',q⟩
 · show its.toArray.eraseIdxIfInBounds k=(its.eraseIdx k).toArray
   rw [List.eraseIdxIfInBounds_toArray]
 · have:=len_erase xs k
   omega
noncomputable def rCat:R2:=fun x y H Q=>∃ l b xs zs,x=.ref l∧y=.ref b∧H l=some (.lst xs)∧H b=some (.lst zs)∧xs.length+zs.length≤sizeLine∧∀ p,H p=none→Q (.ref p) (upd H p (.lst (xs ++ zs)))
theorem op_cat:OpR X (binaryOp .Add) rCat:=by
 intro pins s σ H x y v u Q I rx ry h
 obtain ⟨l,b,xs,zs,rfl,rfl,hH,hB,hz,q⟩:=h
 cases rx
 cases ry
 obtain ⟨z,its,n,r,hl,e⟩:=I.lstM hH
 obtain ⟨z2,its2,n2,r2,hl2,e2⟩:=I.lstM hB
 refine PySem.P.add_list e e2 ?_ (by rw [List.size_toArray,List.size_toArray];omega)
 have ea:its.toArray ++ its2.toArray=(its ++ its2).toArray:=by simp
 rw [ea]
 exact ⟨.ref _,_,I.lnew (t':=s.toks) (r.append r2) (by rw [List.length_append];omega),rfl,q _ I.fresh⟩
noncomputable def rRep:R2:=fun x y H Q=>∃ l k xs,x=.ref l∧y=.int k∧H l=some (.lst xs)∧-(2 ^ 63)≤k∧k<2 ^ 63∧xs.length * k.toNat≤sizeLine ∧
 ∀ p,H p=none→Q (.ref p) (upd H p (.lst (List.replicate k.toNat xs).flatten))
theorem len_rep {α:Type} (xs:List α) (k:Nat):(List.replicate k xs).flatten.length=k * xs.length:=by
 induction k with
 | zero=>simp
 | succ k ih=>rw [List.replicate_succ,List.flatten_cons,List.length_append,ih,Nat.succ_mul,Nat.add_comm]
theorem op_rep:OpR X (binaryOp .Mult) rRep:=by
 intro pins s σ H x y v u Q I rx ry h
 obtain ⟨l,k,xs,rfl,rfl,hH,h1,h2,hz,q⟩:=h
 cases rx
 obtain ⟨t,rfl⟩:=ry
 obtain ⟨z,its,n,r,hl,e⟩:=I.lstM hH
 have hlen:its.toArray.size * k.toNat≤sizeLine:=by rw [List.size_toArray,← hl];exact hz
 have hcap:¬ its.toArray.size * k.toNat > (2 ^ 63 - 1) / 8:=by
  have:(sizeLine:Nat)≤(2 ^ 63 - 1) / 8:=by decide
  omega
 have hfit:¬ (!Builtin.List.listFitsIndex k)=true:=by
  rw [fitsIndex_both h1 h2]
  exact Bool.false_ne_true
 have hlong:¬ Builtin.List.listTooLong (its.toArray.size * k.toNat)=true:=by
  rw [notLongL hlen]
  exact Bool.false_ne_true
 have hnew:List.foldl (fun x1 x2=>x1 ++ x2) #[] (List.replicate (if its.toArray.isEmpty=true then 0 else k.toNat) its.toArray)=(List.replicate k.toNat its).flatten.toArray:=by
  have f0:∀ m:Nat,List.foldl (fun x1 x2=>x1 ++ x2) #[] (List.replicate m its.toArray)=(List.replicate m its).flatten.toArray:=fun m=>by
   have:=foldl_rep its m []
   rw [List.nil_append] at this
   exact this
  rw [f0]
  cases its with
  | nil=>simp
  | cons a r'=>rw [if_neg (by simp)]
 refine wpAny_binaryOp_repeat_ref (T:="list") (U:="int") (by decide) ⟨_,e,rfl⟩ (fun s'=>typeIs_int s' k t) noFill_list_mul F.fills_int_mul F.slot_int_rmul repeat_list F.slot_int_index.lookup
  (call_meets F.slot_int_rmul (typeIs_int s k t) F.entry_int_rmul (F.args_int_rmul_2 _ _) (int___rmul___int_list k t l its.toArray n)
   ⟨e,rfl,⟨_,e,rfl⟩,call_meets F.slot_list_mul ⟨_,e,rfl⟩ F.entry_list_mul (F.args_list_mul_2 _ _) (AutoListH.list___mul___list_int_3 l its.toArray n k t hfit hcap hlong) ⟨e,?_⟩⟩)
 rw [hnew]
 exact ⟨.ref _,_,I.lnew (t':=s.toks) (r.rep k.toNat) (by rw [len_rep,Nat.mul_comm];exact hz),rfl,q _ I.fresh⟩
end
section
variable {prog:Program} {w:World} {A:Around} {E:Value→Shared→Prop} {s:Shared}
end
section
variable {X:Cx}
end
end L2
namespace Att
open PySem PySem.W PySem.Calls PyProof.Rows
theorem ints_of_wellAll {P:Params} {h:Heap}:∀ (ns:List Int) (vs:List Value),WellAll P h vs (ns.map WData.int)→IntsAre vs ns:=by
 intro ns
 induction ns with
 | nil =>
   intro vs w
   rw [List.map_nil] at w
   cases w
   exact .nil
 | cons n ns ih =>
   intro vs w
   rw [List.map_cons] at w
   cases w with
   | cons a b =>
     cases a
     exact .cons _ _ (ih _ b)
theorem script_of {l:OpenLaw} {n:Nat} (hn:l.most=some n) {P:Params} {h:Heap} {args:List WData} {vals:List Value}
 (hpre:l.row.toRowW.claim.pre args=true) (hwl:WellAll P h vals args) :
 ∃ a vs ns,vals=[Value.ref a]∧args=[WData.list (ns.map WData.int)]∧h.get? a=some { cls:=.type "list",data:=.seq vs.toArray }∧IntsAre vs ns∧ns.length≤n:=by
 have hsh:WShape.hasAll [] args [.list .int]=true:=(pre_splitW hpre).1
 have hc:l.pre.holds [] { args:=args }=true:=(pre_splitW hpre).2
 obtain ⟨d,r,rfl,h1,h2⟩:=hasAllW_cons hsh
 obtain rfl:=hasAllW_nil h2
 obtain ⟨xs,rfl,h3⟩:=hasW_list h1
 obtain ⟨ns,rfl⟩:=items_int h3
 have hlen:ns.length≤n:=by
  unfold OpenLaw.pre at hc
  have h4:(WTm.not (.lt (.lit (.int (n:Int))) (.len (.arg 0)))).holds [] { args:=[.list (ns.map .int)] }=true:=by
   have h4:=(holds_andW hc).1
   rw [hn] at h4
   exact h4
  have h5:=condW_of h4 (w_not (w_lt w_lit (w_len_list (w_arg rfl))))
  rw [List.length_map] at h5
  refine Nat.le_of_not_lt fun q=>?_
  have q':(n:Int)<((ns.length:Nat):Int):=by omega
  first
   | (rw [decide_eq_true q'] at h5;exact absurd h5 (by decide))
   | (simp at h5;omega)
 cases hwl with
 | cons w1 w2 =>
   cases w2
   cases w1 with
   | list ho hall=>exact ⟨_,_,ns,rfl,rfl,ho,ints_of_wellAll ns _ hall,hlen⟩
theorem post_true (l:OpenLaw) (args:List WData):l.row.toRowW.claim.post args (.bool true) args=true :=
 postW_of (r:=l.row.toRowW) (X:=(true == true))
  (show WShape.has [] (.bool true) .bool=true by first | rfl | decide | simp [WShape.has,WShape.arms,WShape.armsAll])
  (show (WTm.eq .res (.lit (.bool true))).value [] { args:=args,res:=some (.bool true),after:=args }=some (.bool (true == true)) from w_eq_bool (w_res rfl) w_lit) rfl
theorem attach_call {l:OpenLaw} {n:Nat} {q:Program} {loose:List Str} {XP:(Str→Option Value)→Heap→Prop} {YP:World→Heap→Prop} {d:DefRec}
 (hn:l.most=some n) (hdf:d.params.defaults=[])
 (call:∀ (w:World) (s₀ s₁:Shared) (mg mb:Str→Option Value) (fa:Addr) (o:Obj) (pm cd doc:Value) (a:Addr) (vs:List Value) (ns:List Int),
  Ground q loose [] XP w s₀ mg mb s₁.heap→YP w s₁.heap →
  s₁.heap.get? fa=some o→o.data=.func (docDef d.name d.params d.body d.scope pm cd doc)→s₁.heap.CodeRec cd d.name→mg d.name=some (.ref fa) →
  s₁.heap.get? a=some { cls:=.type "list",data:=.seq vs.toArray }→IntsAre vs ns→ns.length≤n→s₁.gens=#[] →
  codeAny (model l.prog w) callerA (.call (.ref fa) ⟨[.ref a],[]⟩) (fun r s'=>r=.ok (.ret (.bool true))∧OldK s₁.heap s'.heap∧s'.os=s₁.os∧AllBare s'.gens) s₁) :
 WalkO q loose XP YP l.row.toRowW d [] (fun f vs=>PySem.call f vs):=by
 intro w s₀ s₁ mg mb G Y fa o pm cd doc dV kV ho hd hcd hD hmg hg args vals as hpre hlay hrd hwl hlo
 obtain rfl:dV=.none:=Dflts.none hD hdf
 obtain rfl:kV=.none:=Dflts.noKw hD
 obtain ⟨a,vs,ns,rfl,rfl,hobj,hints,hlen⟩:=script_of hn hpre hwl
 refine enter_call (codeAny_mono (call w s₀ s₁ mg mb fa o pm cd doc a vs ns G Y ho (fd_plain hd) hcd hmg hobj hints hlen hg) fun r s' hq=>?_)
 obtain ⟨rfl,h2,h3,h4⟩:=hq
 exact ⟨.inl ⟨.bool true,.bool true,[],rfl,fun _=>rfl,.bool true,post_true l _,fun _=>⟨List.Pairwise.nil,fun _ hm=>(nomatch hm)⟩⟩,h2,h3,h4⟩
section
variable {prog:Program} {w:World} {A:Around} {E:Value→Shared→Prop} {s:Shared} {K:Frag}
end
end Att
namespace L2
open PySem PySem.Spec PyProof.Rows
theorem vals_ints:∀ {vs:List Value} {ns:List Int},IntsAre vs ns→Vals (ns.map V.int) vs
 | _,_,.nil=>.nil
 | _,_,.cons n t h=>.cons ⟨t,rfl⟩ (vals_ints h)
noncomputable def Only (H:Hp):Prop:=∀ b,H b=none∨∃ o xs,H b=some (.frz o (.lst xs))
theorem law_call {P:Program} {w:World} {K:PySem.W.Frag} {mg mb:Str→Option Value} {CX:CXT} {k:Nat} {fa a:Addr} {fd:FuncData} {x:Str} {sp:Sp} {s₁:Shared} {vs:List Value} {ns:List Int}
 (KX:K.In s₁.heap) (hns:s₁.heap.Ns mainGlobals mg) (hb:s₁.heap.Ns builtinsNs mb) (hbb:∀ x:Str,x≠"__name__"→mb x=bootBuiltins x) (hlim:s₁.heap.NoLimit) (hg:s₁.gens=#[])
 (ha:s₁.heap.get? a=some { cls:=.type "list",data:=.seq vs.toArray }) (hi:IntsAre vs ns) (hl:ns.length≤sizeLine) (hr:Room k callerA)
 (F:∀ base:Heap,K.In base→base.Ns mainGlobals mg→FnOk P w K mg base CX k fa fd [x] sp) (hbind:∀ (s:Shared) (u:Value),BindsTo s fd ⟨[u],[]⟩ [(x,u)])
 (hsp:∀ H:Hp,Only H→SqL K H a (ns.map V.int)→sp [.ref a] H (fun v _=>v=.bl true) fun _ _ _=>False)
 (hCX:∀ H e s',CX [] H s₁ (fun _ _ _=>False) e s'→False) :
 codeAny (model P w) callerA (.call (.ref fa) ⟨[.ref a],[]⟩) (fun r s'=>r=.ok (.ret (.bool true))∧OldK s₁.heap s'.heap∧s'.os=s₁.os∧AllBare s'.gens) s₁:=by
 have rv:=vals_ints hi
 have lenV:=hi.length
 have core:∀ H:Hp,Only H→SqL K H a (ns.map V.int)→HOk P w H s₁.heap→(∀ b,H b≠none→b=a)→(H a≠none→K.lookup a=none) →
  codeAny (model P w) callerA (.call (.ref fa) ⟨[.ref a],[]⟩) (fun r s'=>r=.ok (.ret (.bool true))∧OldK s₁.heap s'.heap∧s'.os=s₁.os∧AllBare s'.gens) s₁:=by
  intro H hO hS hok hA hK
  have base_of:∀ {b:Addr} {o:Obj},s₁.heap.get? b=some o→H b=none→(hidT s₁.heap H).get? b=some o:=fun e n=>hidT_get e n
  have noA:∀ {b:Addr} {o:Obj} {es:Array DictEntry} {ep:Nat},s₁.heap.get? b=some o→o.data=.dict es ep→H b=none:=fun {b o es ep} e d=>by
   cases q:H b with
   | none=>rfl
   | some u =>
     have e':b=a:=hA b (by rw [q];simp)
     subst e'
     rw [ha] at e;cases e
     have d':Data.seq vs.toArray _=Data.dict es ep:=d
     cases d'
  have nsK:∀ {b:Addr} {m:Str→Option Value},s₁.heap.Ns b m→(hidT s₁.heap H).Ns b m:=fun {b m} ⟨o,es,ep,e,d,r⟩=>⟨o,es,ep,base_of e (noA e d),d,r⟩
  have hKb:K.In (hidT s₁.heap H):=fun b o e=>base_of (KX b o e) (by
   cases q:H b with
   | none=>rfl
   | some u =>
     have e':b=a:=hA b (by rw [q];simp)
     subst e'
     rw [hK (by rw [q];simp)] at e;cases e)
  have hM:Mod K mg (hidT s₁.heap H):=⟨hKb,nsK hns,⟨mb,nsK hb,hbb⟩,let ⟨mc,h1,h2⟩:=hlim;⟨mc,nsK h1,h2⟩⟩
  have e0:Env0 P w K mg (hidT s₁.heap H) callerA [] s₁ H:=⟨rfl,hM,fun b o e=>of_hidT e,Nat.le_of_eq (hidT_size _ _),trivial,fun b hb=>absurd (show b∈([]:List Addr) from hb) (by simp),hok,.of_eq hg⟩
  refine codeAny_mono ((F _ hKb (nsK hns)).run callerA [] s₁ H ⟨[.ref a],[]⟩ [.ref a] [.ref a] _ _ hr e0 (hbind s₁ (.ref a)) (.cons rfl .nil) (hsp H hO hS)) fun r s' h=>?_
  cases r with
  | error e=>exact (hCX H e s' h).elim
  | ok fl =>
    cases fl with
    | next=>exact False.elim h
    | brk=>exact False.elim h
    | cont=>exact False.elim h
    | ret u =>
      obtain ⟨v,H',os,bare,un,hok',r',q⟩:=h
      have q':v=.bl true:=q
      subst q'
      obtain rfl:u=Value.bool true:=r'
      refine ⟨rfl,OldK.of_keep fun b o e=>?_,os,bare⟩
      cases q:H b with
      | none=>exact un.keep b o e q (by intro z;exact absurd (show b∈([]:List Addr) from z) (by simp)) (by simp)
      | some u =>
        rcases hO b with z | ⟨ob,xs,z⟩
        · rw [q] at z;cases z
        · have z2:=un.frzs b ob _ z
          obtain ⟨e1,_⟩:=hok b _ z
          obtain ⟨e2,_⟩:=hok' b _ z2
          rw [e] at e1;cases e1
          exact e2
 cases hk:K.lookup a with
 | some o =>
   have e:=KX a o hk
   rw [ha] at e
   cases e
   refine core (fun _=>none) (fun _=>.inl rfl) (.inr ⟨_,vs.toArray,_,hk,rfl,rfl,rfl,by rw [List.size_toArray,lenV];exact hl,by simpa using rv⟩) (fun b u z=>by have z':(none:Option HO)=some u:=z;cases z') (fun b z=>absurd rfl z) fun z=>absurd rfl z
 | none =>
   refine core (fun b=>if b=a then some (.frz { cls:=.type "list",data:=.seq vs.toArray } (.lst (ns.map V.int))) else none) (fun b=>?_) (.inl (.inr ⟨{ cls:=.type "list",data:=.seq vs.toArray },if_pos rfl⟩)) (fun b u z=>?_) (fun b z=>?_) fun _=>hk
   · by_cases hb:b=a
     · exact .inr ⟨_,_,if_pos hb⟩
     · exact .inl (if_neg hb)
   · by_cases hb:b=a
     · have z':=(if_pos hb).symm.trans z
       cases z'
       subst hb
       exact ⟨ha,by rw [List.length_map];exact hl,vs,_,rv,ha⟩
     · have z':=(if_neg hb).symm.trans z
       cases z'
   · by_cases hb:b=a
     · exact hb
     · exact absurd (if_neg hb) z
end L2
namespace L2
open PySem PySem.Spec PyProof.Rows
theorem walk_of {l:PySem.W.OpenLaw} {n k:Nat} {q:Program} {loose:List Str} {XP:(Str→Option Value)→Heap→Prop} {YP:World→Heap→Prop} {d:DefRec} {K:Params→PySem.W.Frag} {CX:World→CXT} {sp:World→Sp} {x:Str}
 (hn:l.most=some n) (hn2:n≤sizeLine) (hdf:d.params.defaults=[]) (hr:Room k callerA)
 (hY:∀ (w:World) (h:Heap),YP w h→(K w.params).In h)
 (F:∀ (w:World) (mg:Str→Option Value) (fa:Addr) (h:Heap),(K w.params).In h→h.Ns mainGlobals mg→mg d.name=some (.ref fa) →
  ∃ fd:FuncData,(∀ (s:Shared) (u:Value),BindsTo s fd ⟨[u],[]⟩ [(x,u)]) ∧
    ∀ base:Heap,(K w.params).In base→base.Ns mainGlobals mg→FnOk l.prog w (K w.params) mg base (CX w) k fa fd [x] (sp w))
 (hsp:∀ (w:World) (H:Hp) (a:Addr) (ns:List Int),ns.length≤n→Only H→SqL (K w.params) H a (ns.map V.int)→sp w [.ref a] H (fun v _=>v=.bl true) fun _ _ _=>False)
 (hCX:∀ (w:World) (H:Hp) (s:Shared) (e:Value) (s':Shared),CX w [] H s (fun _ _ _=>False) e s'→False) :
 PySem.W.WalkO q loose XP YP l.row.toRowW d [] (fun f vs=>PySem.call f vs):=by
 refine Att.attach_call hn hdf fun w s₀ s₁ mg mb fa o pm cd doc a vs ns G Y ho hd hcd hmg hobj hints hlen hg=>?_
 have KX:=hY w _ Y
 obtain ⟨fd,hb,hF⟩:=F w mg fa _ KX G.T.g hmg
 exact law_call KX G.T.g G.T.b G.T.builtins G.T.nolimit hg hobj hints (Nat.le_trans hlen hn2) hr hF hb (fun H hO hS=>hsp w H a ns hlen hO hS) fun H e s'=>hCX w H s₁ e s'
end L2
namespace L2
open PySem PySem.Spec PyProof.Rows
noncomputable def defArgs (s:Stmt):Arguments:=match s with
 | .FunctionDef _ a _ _ _ _ _ _ _ _=>a
 | _=>{ posonlyargs:=[],args:=[],vararg:=none,kwonlyargs:=[],kw_defaults:=[],kwarg:=none,defaults:=[] }
noncomputable def defBody (s:Stmt):List Stmt:=match s with
 | .FunctionDef _ _ b _ _ _ _ _ _ _=>b
 | _=>[]
noncomputable def defScope (s:Stmt):Scope:=match s with
 | .FunctionDef _ _ _ _ _ _ sc _ _ _=>sc
 | _=>{ kind:=.function,names:=[],isGenerator:=false,isCoroutine:=false }
noncomputable abbrev CX0:CXT:=fun _ _ _ _ _ _=>False
noncomputable abbrev E0:XK:=fun _ _ _=>False
theorem pass0 {X:Cx}:Passes CX0 X E0:=fun _ _ _ _ _ _ _ h=>h.elim
structure Fun (K:PySem.W.Frag) (x qual:Str) (st:Stmt) (f:Addr) (fd:FuncData):Prop where
 ex:∃ (oc:Value) (od:Option Addr) (kV doc pm:Value) (an:Option Addr) (cdv ct:Value) (osl:Array (Option Value)),
  fd=PySem.W.fnOf x qual (defArgs st) (defBody st) (defScope st) .none kV doc pm an cdv ct∧K.lookup f=some ⟨oc,od,.func fd,osl⟩∧PySem.W.codeIn K cdv qual=true
 kp:PySem.W.keepIn K (.ref f)=true
section
variable {P:Program} {w:World} {K:PySem.W.Frag} {mg:Str→Option Value} {base:Heap}
theorem Fun.ok {x qual:Str} {st:Stmt} {f:Addr} {fd:FuncData} {N ps:List Str} {k:Nat} {sp:Sp} (F:Fun K x qual st f fd) (S:FnScope N ps (defScope st)) (len:∀ vs H Q E,sp vs H Q E→vs.length=ps.length)
 (hbody:∀ (cdv:Value) (A:Around) (outer:List Env) (s:Shared) (H:Hp) (vs:List V) (Q:VK) (E:XK),Room k (A.deeper (envOfC qual (defScope st) s.heap.objs.size f cdv))→sp vs H Q E →
  ∃ t,PSs (cxOf CX0 P w K mg base N qual (defScope st) f cdv A outer s H E).nox (defBody st) t∧t { nx:=fun _ H'=>Q .non H',rt:=Q } (start N vs) H):FnOk P w K mg base CX0 (k+1) f fd ps sp:=by
 obtain ⟨oc,od,kV,doc,pm,an,cdv,ct,osl,rfl,lk,hcd⟩:=F.ex
 refine fn_of lk hcd S len fun A outer s H vs Q E hr hsp=>?_
 obtain ⟨t,h,q⟩:=hbody cdv A outer s H vs Q E hr hsp
 exact ⟨t,h.nox,q⟩
theorem Fun.binds {x qual:Str} {st:Stmt} {f:Addr} {fd:FuncData} {ps:List Str} (F:Fun K x qual st f fd)
 (h:∀ (kV doc pm:Value) (an:Option Addr) (cdv ct:Value) (us:List Value),us.length=ps.length→bindArgs (PySem.W.fnOf x qual (defArgs st) (defBody st) (defScope st) .none kV doc pm an cdv ct) ⟨us,[]⟩=pure (ps.zip us)):Binds K fd ps []:=by
 obtain ⟨oc,od,kV,doc,pm,an,cdv,ct,osl,rfl,lk,hcd⟩:=F.ex
 exact .all (h kV doc pm an cdv ct)
theorem fun_mk {x qual:Str} {st:Stmt} {f:Addr} {oc:Value} {od an:Option Addr} {osl:Array (Option Value)} {kV doc pm cdv ct:Value} (l:K.lookup f=some ⟨oc,od,.func (PySem.W.fnOf x qual (defArgs st) (defBody st) (defScope st) .none kV doc pm an cdv ct),osl⟩)
 (c:PySem.W.codeIn K cdv qual=true) (k:PySem.W.keepIn K (.ref f)=true):Fun K x qual st f (PySem.W.fnOf x qual (defArgs st) (defBody st) (defScope st) .none kV doc pm an cdv ct):=⟨⟨oc,od,kV,doc,pm,an,cdv,ct,osl,rfl,l,c⟩,k⟩
end
theorem small1000 {n:Nat} (h:n≤1000):n<sizeLine:=Nat.lt_of_le_of_lt h (by decide)
section
variable {X:Cx}
theorem pv (i:Nat) {x:Str} {pos:Pos} (hN:X.N[i]?=some x:=by rfl) (hv:Vis X.env.scope x:=by first | exact Or.inl rfl | exact Or.inr (Or.inl rfl) | exact Or.inr (Or.inr rfl)) (hd:(x == ("__debug__":Str))=false:=by decide)
 (hcd:(x == ("__classdict__":Str))=false:=by decide):PE X (.Name x pos) (tVar i):=pe_var hN hv hd hcd
end
theorem iteF {A B:Prop} (h:B):if false=true then A else B:=by
 rw [if_neg Bool.false_ne_true]
 exact h
theorem iteT {A B:Prop} (h:A):if true=true then A else B:=by
 rw [if_pos rfl]
 exact h
noncomputable def Same (H H':Hp):Prop:=∀ b o,H b=some o→H' b=some o
theorem Same.refl (H:Hp):Same H H:=fun _ _ h=>h
theorem Same.trans {H H1 H2:Hp} (a:Same H H1) (b:Same H1 H2):Same H H2:=fun c o h=>b c o (a c o h)
theorem Same.free {H H':Hp} (e:Same H H') {l:Addr} (h:H' l=Option.none):H l=Option.none:=by
 cases q:H l with
 | none=>rfl
 | some o =>
   rw [e l o q] at h
   cases h
theorem Same.seq {K:PySem.W.Frag} {H H':Hp} {a:Addr} {xs:List V} (e:Same H H') (h:SqL K H a xs):SqL K H' a xs:=by
 rcases h with (h | ⟨o,h⟩) | h
 · exact .inl (.inl (e _ _ h))
 · exact .inl (.inr ⟨o,e _ _ h⟩)
 · exact .inr h
end L2
namespace L2
open PySem PySem.Spec PyProof.Rows
section
variable {prog:Program} {w:World} {A:Around} {R:Result→Shared→Prop} {s:Shared}
theorem compLoop_any {elt target iter:Expr} {ifs:List Expr} {scope:Scope} {pos:Pos} {it acc:Value} {env:Env} (I:Nat→Shared→Prop)
 (turn:∀ n s,I n s→wpAny (model prog w) A (pyNext it) (fun r s₁=>match r with
  | none=>R (.ok .next) s₁
  | some v=>wpAny (model prog w) A (letOwnedTupleGo target it v) (fun _ s₁'=>wpAny (model prog w) A (assign target env v) (fun _ s₂ =>
   wpAny (model prog w) A (forIn ifs true fun c r=>if r=true then do let ok ←isTrue c env (eval c env);pure (ForInStep.yield ok) else pure (ForInStep.yield r)) (fun ok s₃ =>
    if ok=true then wpAny (model prog w) A (eval elt env) (fun x s₄ =>
     wpAny (model prog w) A (call (.builtin "list.append") [acc,x]) (fun _ s₅=>∃ m,m<n∧I m s₅) (fun _ _=>False) s₄) (fun _ _=>False) s₃
    else ∃ m,m<n∧I m s₃) (fun _ _=>False) s₂) (fun _ _=>False) s₁') (fun _ _=>False) s₁) (fun _ _=>False) s)
 (n:Nat) (h:I n s) :
 codeAny (model prog w) A (.compLoop (.ListComp elt [⟨target,iter,ifs,0⟩] scope pos) 0 it acc env) R s:=by
 refine codeAny_loop rfl I (fun n s hI=>?_) n h
 show wpAny _ A ((compTurn (.ListComp elt [⟨target,iter,ifs,0⟩] scope pos) 0 it acc env).onRaise (fun x=>do noteFrame x env;theTreesLotGoes x)) _ _ s
 refine wpAny_noted ?_
 rw [compTurn_list]
 have el:∀ {E':Value→Shared→Prop} (x:Value) (s':Shared),False→E' x s':=fun _ _ f=>f.elim
 refine wpAny_bind (wpAny_standAt (wpAny_bind (wpAny_mono (turn n s hI) (fun r s₁ h₁=>?_) fun _ _ f=>f.elim)))
 cases r with
 | none=>exact wpAny_pure h₁
 | some v =>
   refine wpAny_bind (wpAny_mono h₁ (fun _ s₁' h₁'=>?_) fun _ _ f=>f.elim)
   refine wpAny_bind (wpAny_mono h₁' (fun _ s₂ h₂=>wpAny_bind (wpAny_mono h₂ (fun ok s₃ h₃=>?_) fun _ _ f=>f.elim)) fun _ _ f=>f.elim)
   cases ok with
   | false=>exact wpAny_pure ⟨rfl,h₃⟩
   | true =>
     exact wpAny_bind (wpAny_bind (wpAny_mono h₃ (fun x s₄ h₄=>wpAny_bind (wpAny_mono h₄ (fun _ s₅ h₅=>wpAny_pure (wpAny_pure ⟨rfl,h₅⟩)) fun _ _ f=>f.elim)) fun _ _ f=>f.elim))
end
noncomputable def compX (X:Cx) (N':List Str) (scope:Scope) (cl:List (Str×Addr)) (C:Addr) (s:Shared) (H:Hp) (fp:List Addr):Cx where
 prog:=X.prog
 w:=X.w
 K:=X.K
 mg:=X.mg
 base:=X.base
 A:=X.A
 N:=N'
 s₀:=s
 H₀:=H
 env:=compEnvC scope cl C X.env
 outer:=X.stack
 stack:=X.stack
 ex:=fp
 fn:=fun _=>false
 calm:=X.calm
 pn:=[]
 xe:=fun _ _=>False
noncomputable def PTs (X:Cx) (ifs:List Expr) (t:TT):Prop :=
 ∀ (pins:List (Addr×Obj)) (s:Shared) (σ:St) (H:Hp) (Q:Bool→Hp→Prop),Inv X pins σ H s→t σ H Q →
   wpAny (model X.prog X.w) X.A (forIn ifs true fun c r=>if r=true then do let ok ←isTrue c X.env (eval c X.env);pure (ForInStep.yield ok) else pure (ForInStep.yield r)) (TP X pins σ Q) X.xe s
theorem pts_nil {X:Cx}:PTs X [] (fun _ H Q=>Q true H):=fun _ _ _ H _ I h=>wpAny_pure ⟨H,I,h⟩
theorem pts_one {X:Cx} {c:Expr} {t:TT} (h:PT X c t):PTs X [c] t:=fun pins s σ H Q I hw=>by
 simp only [List.forIn_cons,List.forIn_nil,if_true]
 exact wpAny_bind (wpAny_bind (wpAny_mono (h pins s σ H Q I hw) (fun b s' hb=>wpAny_pure (wpAny_pure hb)) fun _ _ x=>x))
noncomputable def Cap (X:Cx) (sc:Scope):List Str→List (Option Nat)→Prop
 | [],[]=>True
 | _ :: N,none :: ks=>Cap X sc N ks
 | x :: N,some k :: ks=>(X.N[k]?=some x∧X.env.scope.names.lookup x=some .cell∧(sc.names.lookup x=some .cell∨sc.names.lookup x=some .free))∧Cap X sc N ks
 | _,_=>False
theorem Cap.len {X:Cx} {sc:Scope}:∀ {N:List Str} {ks:List (Option Nat)},Cap X sc N ks→ks.length=N.length
 | [],[],_=>rfl
 | _ :: N,none :: ks,h=>by simp [Cap.len (show Cap X sc N ks from h)]
 | _ :: N,some _ :: ks,h=>by simp [Cap.len (show Cap X sc N ks from h.2)]
 | [],_ :: _,h=>by cases h
 | _ :: _,[],h=>by cases h
theorem Cap.get {X:Cx} {sc:Scope}:∀ {N:List Str} {ks:List (Option Nat)} {i k:Nat} {x:Str},Cap X sc N ks→N[i]?=some x→ks[i]?=some (some k) →
 X.N[k]?=some x∧X.env.scope.names.lookup x=some .cell∧(sc.names.lookup x=some .cell∨sc.names.lookup x=some .free)
 | [],[],_,_,_,_,e,_=>by simp at e
 | [],_ :: _,_,_,_,h,_,_=>by cases h
 | _ :: _,[],_,_,_,h,_,_=>by cases h
 | _ :: N,none :: ks,0,k,x,h,e1,e2=>by simp at e2
 | _ :: N,none :: ks,i+1,k,x,h,e1,e2=>Cap.get (i:=i) (show Cap X sc N ks from h) (by simpa using e1) (by simpa using e2)
 | y :: N,some j :: ks,0,k,x,h,e1,e2=>by
   simp at e1 e2
   subst e1 e2
   exact h.1
 | _ :: N,some _ :: ks,i+1,k,x,h,e1,e2=>Cap.get (i:=i) (show Cap X sc N ks from h.2) (by simpa using e1) (by simpa using e2)
noncomputable def capt (ks:List (Option Nat)) (σ:St):St:=ks.map fun o=>match o with
 | none=>none
 | some k=>σ.getD k none
noncomputable def CompW (J:It) (D:Addr) (g:TG) (tt:TT) (te:TE) (Q:VK) (σ0:St) (H0:Hp):Prop :=
 ∃ W:Nat→Nat→List V→St→Hp→Prop,(∃ m,W 0 m [] σ0 H0)∧∀ i m ys σ' H',W i m ys σ' H'→H' D=some (.lst ys) ∧
   ((J.stop i H'∧Q (.ref D) H')∨(J.go i H'∧∀ x H2,J.yld i H' x H2→g x σ' H2 fun σ3 H3=>tt σ3 H3 fun b H4=>if b=true then
     te σ3 H4 fun y H5=>H5 D=some (.lst ys)∧ys.length<sizeLine∧∃ m',m'<m∧W (i+1) m' (ys ++ [y]) σ3 (upd H5 D (.lst (ys ++ [y]))) else ∃ m',m'<m∧W (i+1) m' ys σ3 H4))
noncomputable def tComp (wi:TI) (ks:List (Option Nat)) (g:TG) (tt:TT) (te:TE):TE:=fun σ H Q=>wi σ H fun J H1=>∀ D,H1 D=none→CompW J D g tt te Q (capt ks σ) (upd H1 D (.lst []))
section
variable {X:Cx}
theorem pe_comp {tg iter elt:Expr} {ifs:List Expr} {scope:Scope} {pos:Pos} {N':List Str} {ks:List (Option Nat)} {cl:List (Str×Addr)} {wi:TI} {g:TG} {tt:TT} {te:TE}
 (hcalm:X.calm=true) (hi:PI X tg iter wi) (hclos:closureFor scope X.env=pure cl) (hcl:∀ x c,cl.lookup x=some c→X.env.cells.lookup x=some c)
 (hcell:∀ y∈scope.names,y.2≠.cell) (hkind:scope.kind=.function) (hnames:∀ y∈scope.names,y.2=.local→scope.names.lookup y.1=some .local)
 (hhas:∀ x,((relabel scope X.env).names.lookup x=some .cell∨(relabel scope X.env).names.lookup x=some .free)→∃ c,cl.lookup x=some c)
 (hcap:Cap X (relabel scope X.env) N' ks)
 (hg:∀ C s H fp,PG (compX X N' scope cl C s H fp) tg g) (ht:∀ C s H fp,PTs (compX X N' scope cl C s H fp) ifs tt) (he:∀ C s H fp,PE (compX X N' scope cl C s H fp) elt te)
 (hs:∀ x,foldedSetIterable iter X.env x=pure x:=by intro _;rfl):PE X (.ListComp elt [⟨tg,iter,ifs,0⟩] scope pos) (tComp wi ks g tt te):=by
 intro pins s σ H Q I h
 rw [eval_ListComp]
 refine wpAny_comprehension_free (use:=none) rfl hs hclos hkind hnames (thn (hi pins s σ H _ I h) fun v s1 h1=>thn h1 fun itv s2 h2=>?_)
 obtain ⟨it,fp,tn,J,H2,e,I2,T,st2,f2,R⟩:=h2
 subst e
 refine wpAny_newObj_type (wpAny_newFunctionEnv hcell (by intro y hy;simp at hy) (fun h₁ hns₁ hsb₁=>?_) hkind)
 dsimp only at hns₁ hsb₁ ⊢
 have hD:H2 s2.heap.objs.size=none:=I2.hok.fresh (Nat.le_refl _)
 obtain ⟨W,⟨m0,w0⟩,turn⟩:=R _ hD
 generalize hs3:({ s2 with heap:=s2.heap.push { cls:=.type "list",dict:=none,data:=.seq ([]:List Value).toArray } }:Shared)=s3
 have e3:s3.heap=s2.heap.push { cls:=.type "list",dict:=none,data:=.seq ([]:List Value).toArray }:=by rw [← hs3]
 have I3:Inv X pins σ (upd H2 s2.heap.objs.size (.lst [])) s3:=by
  rw [← hs3]
  exact I2.laid (t':=s2.toks) (fun b o e=>Heap.get?_push_of_some _ e) (Nat.le_refl _) ⟨Nat.zero_le _,[],0,.nil,Heap.get?_push_size _ rfl⟩
 generalize hD0:s2.heap.objs.size=D at *
 generalize hH3:upd H2 D (.lst [])=H3 at *
 rw [← e3] at hns₁ hsb₁ ⊢
 have kp:∀ b o,s3.heap.get? b=some o→h₁.get? b=some o:=fun b o e=>hsb₁.extBut b o (Nat.ne_of_lt (Heap.lt_size e)) (Heap.get?_push_of_some _ e)
 have f3:∀ b∈fp,FpOk X pins H3 b∧b<s3.heap.objs.size:=fun b hb=>by
  obtain ⟨o,ho,_⟩:=T.obj 0 _ st2 b hb
  have hlt:b<D:=by rw [← hD0];exact Heap.lt_size ho
  refine ⟨⟨?_,(f2 b hb).2⟩,?_⟩
  · rw [← hH3,upd_ne (Nat.ne_of_lt hlt)];exact (f2 b hb).1
  · rw [e3,Heap.size_push,hD0];exact Nat.lt_succ_of_lt hlt
 have st3:tn 0 h₁:=T.keep 0 s2.heap h₁ st2 fun b hb o e=>kp b o (by rw [e3];exact Heap.get?_push_of_some _ e)
 have capK:∀ x c,cl.lookup x=some c→X.env.cells.lookup x=some c:=hcl
 have stkne:∀ b∈fp,b∉frs X.stack:=fun b hb z=>by
  rcases List.mem_cons.mp (I3.stkSub b z) with e | e
  · exact (f3 b hb).1.2.1 e
  · exact (f3 b hb).1.2.2.1 e
 have Cfresh:H3 s3.heap.objs.size=none:=I3.hok.fresh (Nat.le_refl _)
 have ok':(compX X N' scope cl s3.heap.objs.size s3 H3 fp).Ok:=by
  refine ⟨I3.ok.mod,hkind,I3.ok.glob,I3.ok.blt,Nat.le_refl _,fun x y c h1 h2=>I3.ok.inj x y c (capK x c h1) (capK y c h2),fun x hx=>hhas x hx,fun x c hf _=>absurd (show false=true from hf) Bool.false_ne_true,fun z=>I3.ok.hd z,I3.ok.frames,.inl rfl,
   fun b hb=>⟨Nat.ne_of_lt (f3 b hb).2,fun x c e=>(f3 b hb).1.2.2.2.2.1 x c (capK x c e)⟩,I3.bs,Nat.le_trans I3.ok.bsz I3.sz,fun b o e hb=>?_,fun b hb=>stkne b hb,I3.stack,I3.stkFree⟩
  rcases (f3 b hb).1.2.2.2.1 with z | z
  · exact I3.ok.noex b o e z
  · exact absurd (Nat.lt_of_lt_of_le (Heap.lt_size e) (Nat.le_trans I3.ok.bsz z)) (Nat.lt_irrefl _)
 have I4:Inv (compX X N' scope cl s3.heap.objs.size s3 H3 fp) [] (capt ks σ) H3 { s3 with heap:=h₁,toks:=s3.toks+([]:List (Str×Value)).length }:=by
  refine ⟨ok',rfl,I3.bare,Un.kept kp,⟨_,hns₁,fun i x v e1 e2 e3'=>?_⟩,fun x c e=>?_,Cfresh,fun x c e=>I3.freeC x c (capK x c e),fun p hp=>absurd (show p∈([]:List (Addr×Obj)) from hp) (by simp),I3.hok.kept kp,?_⟩
  · have e2':(capt ks σ)[i]?=some (some v):=e2
    unfold capt at e2'
    rw [List.getElem?_map] at e2'
    cases hk:ks[i]? with
    | none=>rw [hk] at e2';cases e2'
    | some o =>
      rw [hk] at e2'
      cases o with
      | none=>cases e2'
      | some k =>
        have ev:σ.getD k none=some v:=Option.some.inj e2'
        obtain ⟨c1,c2,c3⟩:=hcap.get e1 hk
        obtain ⟨m,hn,hl⟩:=I3.loc
        have es:σ[k]?=some (some v):=by
         rw [List.getD_eq_getElem?_getD] at ev
         cases q:σ[k]? with
         | none=>rw [q] at ev;cases ev
         | some z=>rw [q] at ev;exact congrArg some ev
        obtain ⟨u,r,l⟩:=hl k x v c1 es (.inr (.inl c2))
        refine ⟨u,r,.inr ⟨c3,?_⟩⟩
        rcases l with ⟨l1,_⟩ | ⟨_,c,l2,l3⟩
        · have l1':X.env.scope.names.lookup x=some .local:=l1
          rw [c2] at l1';cases l1'
        · obtain ⟨c',hc'⟩:=hhas x c3
          have:X.env.cells.lookup x=some c':=capK x c' hc'
          rw [l2] at this
          cases this
          refine ⟨c,hc',?_⟩
          obtain ⟨o,ho,hd⟩:=l3
          exact ⟨o,kp c o ho,hd⟩
  · obtain ⟨v,o,ho,hd⟩:=I3.cell x c (capK x c e)
    exact ⟨v,o,kp c o ho,hd⟩
  · show (capt ks σ).length=N'.length
    unfold capt
    rw [List.length_map,hcap.len]
 have Cne:∀ p∈X.pn ++ pins,p.1≠s3.heap.objs.size:=fun p hp=>Nat.ne_of_lt (Heap.lt_size (I3.pin p hp).1)
 have back:∀ {σ':St} {H':Hp} {s':Shared},Inv (compX X N' scope cl s3.heap.objs.size s3 H3 fp) [] σ' H' s'→∀ h'':Heap,Heap.SameBut s3.heap.objs.size s'.heap h''→Inv X pins σ H' { s' with heap:=h'' }:=fun {σ' H' s'} I' h'' sb=>by
  have J1:Inv X pins σ H' s':=I3.call' (ch:=fp) I'.os I'.base I'.hok I'.bare fun b hb=>⟨(f3 b hb).1.2.2.2.1,(f3 b hb).1.2.1,(f3 b hb).1.2.2.2.2.1,(f3 b hb).1.2.2.2.2.2⟩
  refine J1.turned (t':=s'.toks) (it:=s3.heap.objs.size) (fun b o hb e=>(sb.2 b hb).trans e) I'.free (Nat.ne_of_gt I3.lt) (.inr I3.sz) (fun x c e=>?_) Cne
  obtain ⟨v,q⟩:=I3.cell x c e
  exact Nat.ne_of_lt q.lt
 have fpok:∀ {H':Hp},(∀ b∈fp,H' b=none)→∀ b∈fp,FpOk (compX X N' scope cl s3.heap.objs.size s3 H3 fp) [] H' b:=fun hn b hb =>
  ⟨hn b hb,Nat.ne_of_lt (f3 b hb).2,stkne b hb,.inl hb,fun x c e=>(f3 b hb).1.2.2.2.2.1 x c (capK x c e),fun p hp=>absurd (show p∈([]:List (Addr×Obj)) from hp) (by simp)⟩
 have loop:codeAny (model X.prog X.w) X.A (.compLoop (.ListComp elt [⟨tg,iter,ifs,0⟩] scope pos) 0 (.ref it) (.ref D) (compEnvC scope cl s3.heap.objs.size X.env))
  (compPost (model X.prog X.w) X.A X.xe none (EP X pins σ Q) (.ref D) s3.heap.objs.size) { s3 with heap:=h₁,toks:=s3.toks+([]:List (Str×Value)).length }:=by
  refine compLoop_any (fun n s'=>∃ i ys σ' H',Inv (compX X N' scope cl s3.heap.objs.size s3 H3 fp) [] σ' H' s'∧tn i s'.heap∧(∀ b∈fp,H' b=none)∧W i n ys σ' H') ?_ m0 ⟨0,[],_,_,I4,st3,fun b hb=>(f3 b hb).1.1,w0⟩
  rintro n s5 ⟨i,ys,σ5,H5,I5,st5,fr5,w5⟩
  obtain ⟨hD5,tq⟩:=turn i n ys σ5 H5 w5
  rcases tq with ⟨stop,q⟩ | ⟨go,step⟩
  · refine thn (T.done (compX X N' scope cl s3.heap.objs.size s3 H3 fp) rfl rfl rfl hcalm i [] s5 σ5 H5 _ I5 (fpok fr5) st5 stop) fun r s6 ⟨hr,I6⟩=>?_
    subst hr
    obtain ⟨m,hn,_⟩:=I6.loc
    exact ⟨m,hn,fun h'' sb=>⟨.ref D,H5,back I6 h'' sb,rfl,q⟩⟩
  · refine thn (T.item (compX X N' scope cl s3.heap.objs.size s3 H3 fp) rfl rfl rfl hcalm i [] s5 σ5 H5 _ I5 (fpok fr5) st5 go) fun r s6 ⟨u,hr,h6⟩=>?_
    subst hr
    refine thn h6 fun _ s7 ⟨x,H7,I7,r7,y7,st7,fr7⟩=>?_
    have I7':=I7.pinned (fpok fr7) (T.obj _ _ st7)
    refine thn (hg _ _ _ _ _ s7 σ5 H7 x u _ I7' r7 (step x H7 y7)) fun _ s8 ⟨σ8,H8,I8,q8⟩=>?_
    refine thn (ht _ _ _ _ _ s8 σ8 H8 _ I8 q8) fun ok s9 ⟨H9,I9,q9⟩=>?_
    have again:∀ {σ':St} {H':Hp} {s':Shared} {ys':List V},Inv (compX X N' scope cl s3.heap.objs.size s3 H3 fp) ([] ++ pinsAt fp s7.heap) σ' H' s'→(∃ m',m'<n∧W (i+1) m' ys' σ' H') →
     ∃ m',m'<n∧∃ i ys σ' H',Inv (compX X N' scope cl s3.heap.objs.size s3 H3 fp) [] σ' H' s'∧tn i s'.heap∧(∀ b∈fp,H' b=none)∧W i m' ys σ' H':=fun {σ' H' s' ys'} I' hw=>by
     obtain ⟨m',hm,w'⟩:=hw
     refine ⟨m',hm,i+1,ys',σ',H',I'.unpinned,T.keep _ _ _ st7 fun b hb o e=>(I'.pin (b,o) (List.mem_append_right _ (List.mem_append_right _ (mem_pinsAt hb e)))).1,fun b hb=>?_,w'⟩
     obtain ⟨o,e,d⟩:=T.obj _ _ st7 b hb
     exact (I'.pin (b,o) (List.mem_append_right _ (List.mem_append_right _ (mem_pinsAt hb e)))).2.1
    cases ok with
    | false =>
      rw [if_neg Bool.false_ne_true] at q9 ⊢
      exact again I9 q9
    | true =>
      rw [if_pos rfl] at q9 ⊢
      refine thn (he _ _ _ _ _ s9 σ8 H9 _ I9 q9) fun y s10 ⟨yv,H10,I10,r10,q10,z10,w10⟩=>?_
      refine thn (mt_append _ s10 σ8 H10 (.ref D) [yv] (.ref D) [y] (fun v H'=>v=.non∧H'=upd H10 D (.lst (ys ++ [yv]))) I10 rfl (.cons r10 .nil) ⟨D,ys,yv,rfl,rfl,q10,z10,rfl,rfl⟩) fun _ s11 ⟨_,H11,I11,_,_,e11⟩=>?_
      subst e11
      exact again I11 w10
 have es:({ s3 with heap:=h₁,toks:=s3.toks+([]:List (Str×Value)).length }:Shared)={ s2 with heap:=h₁,toks:=s2.toks+([]:List (Str×Value)).length }:=by rw [← hs3]
 rw [es] at loop
 exact codeAny_compStart_list loop (T.self _ 0 _ _ _ st3 loop)
end
end L2
namespace L2
open PySem PySem.Spec PyProof.Rows
noncomputable def Sz (n:Nat) (k:Int):Prop:=k.natAbs<2 ^ n
theorem Sz.mono {n m:Nat} {k:Int} (h:Sz n k) (l:n≤m):Sz m k:=Nat.lt_of_lt_of_le h (Nat.pow_le_pow_right (by decide) l)
theorem Sz.mul {n m:Nat} {a b:Int} (h:Sz n a) (h':Sz m b):Sz (n+m) (a * b):=by
 unfold Sz at *
 rw [Int.natAbs_mul,Nat.pow_add]
 exact Nat.mul_lt_mul'' h h'
theorem Sz.add {n:Nat} {a b:Int} (h:Sz n a) (h':Sz n b):Sz (n+1) (a+b):=by
 unfold Sz at *
 rw [Nat.pow_succ]
 omega
theorem Sz.sub {n:Nat} {a b:Int} (h:Sz n a) (h':Sz n b):Sz (n+1) (a - b):=by
 unfold Sz at *
 rw [Nat.pow_succ]
 omega
theorem Sz.neg {n:Nat} {a:Int} (h:Sz n a):Sz n (-a):=by
 unfold Sz at *
 omega
theorem Sz.bits {n:Nat} {k:Int} (h:Sz n k):Builtin.Int.intBits k≤n:=by
 unfold Builtin.Int.intBits
 split
 · exact Nat.zero_le _
 · rename_i hk
   have h0:k.natAbs≠0:=fun z=>hk (by simp at z;simp [z])
   have:=(Nat.log2_lt h0).mpr h
   omega
theorem Sz.log2 {n:Nat} {k:Int} (h:Sz n k) (hn:0<n):k.natAbs.log2<n:=by
 by_cases h0:k.natAbs=0
 · rw [h0];exact hn
 · exact (Nat.log2_lt h0).mpr h
noncomputable def CMulB (i j:Int):Prop:=Sz 100000 i∧Sz 100000 j
theorem CMulB.ok {i j:Int} (h:CMulB i j):IntMulOk i j:=by
 have h1:=h.1.bits
 have h2:=h.2.bits
 have e:Builtin.Int.intTooBig ((Builtin.Int.intBits i:Int)+Builtin.Int.intBits j)=false:=by
  unfold Builtin.Int.intTooBig
  refine decide_eq_false ?_
  have:(bitsLine:Nat)=134217728:=rfl
  rw [this]
  omega
 unfold IntMulOk
 simp [e]
noncomputable def CDivB (_ j:Int):Prop:=j≠0∧Sz 9000 j
section
variable {X:Cx}
theorem op_mulB:OpR X (binaryOp .Mult) (rI CMulB fun i j=>.int (i * j)):=opI fun _ _ _ _ _ _ _ hc q=>mul_int q hc.ok
theorem op_fdivB:OpR X (binaryOp .FloorDiv) (rI CDivB fun i j=>.int (i.fdiv j)):=opI fun _ _ _ _ _ _ _ hc q=>floordiv_int hc.1 q (.inl (PyProof.noPylong_of_log2 (hc.2.log2 (by decide))))
end
inductive Dt where
 | non | bl (b:Bool) | int (i:Int) | str (x:Str) | tup (xs:List Dt) | lst (xs:List Dt)
mutual
def Den (K:PySem.W.Frag) (H:Hp):Dt→V→Prop
 | .non,v=>v=.non
 | .bl b,v=>v=.bl b
 | .int i,v=>v=.int i
 | .str x,v=>v=.str x
 | .tup ds,v=>∃ a xs,v=.ref a∧SqT K H a xs∧Dens K H ds xs
 | .lst ds,v=>∃ a xs,v=.ref a∧SqL K H a xs∧Dens K H ds xs
def Dens (K:PySem.W.Frag) (H:Hp):List Dt→List V→Prop
 | [],xs=>xs=[]
 | d :: ds,xs=>∃ x r,xs=x :: r∧Den K H d x∧Dens K H ds r
end
mutual
def eqD:Dt→Dt→Bool
 | .non,.non=>true
 | .bl a,.bl b=>a == b
 | .bl a,.int b=>(if a then 1 else 0) == b
 | .int a,.bl b=>a == (if b then 1 else 0)
 | .int a,.int b=>a == b
 | .str a,.str b=>a == b
 | .tup xs,.tup ys=>eqDs xs ys
 | .lst xs,.lst ys=>eqDs xs ys
 | _,_=>false
def eqDs:List Dt→List Dt→Bool
 | [],[]=>true
 | x :: xs,y :: ys=>eqD x y && eqDs xs ys
 | _,_=>false
end
mutual
def depD:Dt→Nat
 | .tup xs=>depDs xs+1
 | .lst xs=>depDs xs+1
 | _=>0
def depDs:List Dt→Nat
 | []=>0
 | x :: xs=>max (depD x) (depDs xs)
end
mutual
theorem eqD_refl:∀ d:Dt,eqD d d=true
 | .non=>rfl
 | .bl b=>by simp [eqD]
 | .int b=>by simp [eqD]
 | .str b=>by simp [eqD]
 | .tup xs=>by simp only [eqD];exact eqDs_refl xs
 | .lst xs=>by simp only [eqD];exact eqDs_refl xs
theorem eqDs_refl:∀ ds:List Dt,eqDs ds ds=true
 | []=>rfl
 | x :: xs=>by simp only [eqDs,eqD_refl x,eqDs_refl xs,Bool.and_self]
end
theorem Dens.length {K:PySem.W.Frag} {H:Hp}:∀ {ds:List Dt} {xs:List V},Dens K H ds xs→xs.length=ds.length
 | [],_,h=>by simp only [Dens] at h;subst h;rfl
 | d :: ds,_,h=>by
   simp only [Dens] at h
   obtain ⟨x,r,rfl,_,h⟩:=h
   simp [Dens.length h]
section
variable {X:Cx} {pins:List (Addr×Obj)} {σ:St} {H:Hp} {s:Shared}
theorem kinds_apart (I:Inv X pins σ H s) {a:Addr} {xs ys:List V} (h:SqT X.K H a xs) (h':SqL X.K H a ys):False:=by
 obtain ⟨its,_,⟨o,e,c,_⟩,_⟩:=I.tuple h
 obtain ⟨its',_,⟨o',n',e',c',_⟩,_⟩:=I.list h'
 rw [e] at e';cases e'
 rw [c] at c'
 have:("tuple":String)="list":=by injection c'
 exact absurd this (by decide)
mutual
theorem Den.inj (I:Inv X pins σ H s):∀ {d e:Dt} {v:V},Den X.K H d v→Den X.K H e v→d=e
 | .non,e,v,h,h'=>by
   simp only [Den] at h
   subst h
   cases e <;> simp only [Den] at h' <;> first
    | rfl
    | (obtain ⟨_,_,z,_⟩:=h';cases z;done)
    | (cases h';done)
 | .bl b,e,v,h,h'=>by
   simp only [Den] at h
   subst h
   cases e <;> simp only [Den] at h' <;> first
    | (obtain ⟨_,_,z,_⟩:=h';cases z;done)
    | (cases h';rfl)
    | (cases h';done)
 | .int b,e,v,h,h'=>by
   simp only [Den] at h
   subst h
   cases e <;> simp only [Den] at h' <;> first
    | (obtain ⟨_,_,z,_⟩:=h';cases z;done)
    | (cases h';rfl)
    | (cases h';done)
 | .str b,e,v,h,h'=>by
   simp only [Den] at h
   subst h
   cases e <;> simp only [Den] at h' <;> first
    | (obtain ⟨_,_,z,_⟩:=h';cases z;done)
    | (cases h';rfl)
    | (cases h';done)
 | .tup ds,e,v,h,h'=>by
   simp only [Den] at h
   obtain ⟨a,xs,rfl,hx,hd⟩:=h
   cases e with
   | tup es =>
     simp only [Den] at h'
     obtain ⟨b,ys,z,hy,he⟩:=h'
     cases z
     rw [I.tuple_inj hy hx] at he
     rw [Dens.inj I hd he]
   | lst es =>
     simp only [Den] at h'
     obtain ⟨b,ys,z,hy,he⟩:=h'
     cases z
     exact (kinds_apart I hx hy).elim
   | non=>simp only [Den] at h';cases h'
   | bl b=>simp only [Den] at h';cases h'
   | int b=>simp only [Den] at h';cases h'
   | str b=>simp only [Den] at h';cases h'
 | .lst ds,e,v,h,h'=>by
   simp only [Den] at h
   obtain ⟨a,xs,rfl,hx,hd⟩:=h
   cases e with
   | lst es =>
     simp only [Den] at h'
     obtain ⟨b,ys,z,hy,he⟩:=h'
     cases z
     rw [I.list_inj hy hx] at he
     rw [Dens.inj I hd he]
   | tup es =>
     simp only [Den] at h'
     obtain ⟨b,ys,z,hy,he⟩:=h'
     cases z
     exact (kinds_apart I hy hx).elim
   | non=>simp only [Den] at h';cases h'
   | bl b=>simp only [Den] at h';cases h'
   | int b=>simp only [Den] at h';cases h'
   | str b=>simp only [Den] at h';cases h'
theorem Dens.inj (I:Inv X pins σ H s):∀ {ds es:List Dt} {vs:List V},Dens X.K H ds vs→Dens X.K H es vs→ds=es
 | [],[],_,_,_=>rfl
 | [],e :: es,vs,h,h'=>by
   simp only [Dens] at h h'
   subst h
   obtain ⟨_,_,z,_⟩:=h'
   cases z
 | d :: ds,[],vs,h,h'=>by
   simp only [Dens] at h h'
   subst h'
   obtain ⟨_,_,z,_⟩:=h
   cases z
 | d :: ds,e :: es,vs,h,h'=>by
   simp only [Dens] at h h'
   obtain ⟨x,r,rfl,h1,h2⟩:=h
   obtain ⟨y,r',z,h3,h4⟩:=h'
   cases z
   rw [Den.inj I h1 h3,Dens.inj I h2 h4]
end
noncomputable def eqAtD (ds es:List Dt) (j:Nat):Bool:=match ds[j]?,es[j]? with
 | some d,some e=>eqD d e
 | _,_=>true
theorem all_eqAtD:∀ (ds es:List Dt),ds.length=es.length→(List.range ds.length).all (eqAtD ds es)=eqDs ds es
 | [],[],_=>rfl
 | d :: ds,e :: es,h=>by
   have ih:=all_eqAtD ds es (by simpa using h)
   rw [List.length_cons,List.range_succ_eq_map,List.all_cons,List.all_map]
   have e0:eqAtD (d :: ds) (e :: es) 0=eqD d e:=rfl
   have e1:(eqAtD (d :: ds) (e :: es)) ∘ Nat.succ=eqAtD ds es:=by
    funext j
    simp [eqAtD,Function.comp]
   rw [e0,e1,ih]
   rfl
theorem eqDs_len:∀ (ds es:List Dt),ds.length≠es.length→eqDs ds es=false
 | [],[],h=>absurd rfl h
 | [],_ :: _,_=>rfl
 | _ :: _,[],_=>rfl
 | d :: ds,e :: es,h=>by
   simp only [eqDs]
   rw [eqDs_len ds es (by simpa using h),Bool.and_false]
end
end L2
namespace L2
open PySem PySem.Spec PyProof.Rows
section
variable {X:Cx} {pins:List (Addr×Obj)} {σ:St} {H:Hp} {s:Shared}
theorem Dens.get {K:PySem.W.Frag} {H:Hp}:∀ {ds:List Dt} {xs:List V} {j:Nat} {d:Dt},Dens K H ds xs→ds[j]?=some d→∃ x,xs[j]?=some x∧Den K H d x
 | [],_,_,_,_,e=>by simp at e
 | d :: ds,xs,0,d',h,e=>by
   simp only [Dens] at h
   obtain ⟨x,r,rfl,h1,_⟩:=h
   simp at e
   subst e
   exact ⟨x,rfl,h1⟩
 | d :: ds,xs,j+1,d',h,e=>by
   simp only [Dens] at h
   obtain ⟨x,r,rfl,_,h2⟩:=h
   obtain ⟨y,h3,h4⟩:=Dens.get (j:=j) h2 (by simpa using e)
   exact ⟨y,by simpa using h3,h4⟩
theorem depDs_mem:∀ {ds:List Dt} {j:Nat} {d:Dt},ds[j]?=some d→depD d≤depDs ds
 | [],_,_,e=>by simp at e
 | d :: ds,0,d',e=>by simp at e;subst e;simp only [depDs];exact Nat.le_max_left _ _
 | d :: ds,j+1,d',e=>by
   have:=depDs_mem (ds:=ds) (j:=j) (d:=d') (by simpa using e)
   simp only [depDs]
   exact Nat.le_trans this (Nat.le_max_right _ _)
theorem items_eq {A:Around} (n:Nat) (ih:∀ (A:Around) (d e:Dt) (x y:V) (u v:Value),depD d≤n→A.units+n<cLine→Den X.K H d x→Den X.K H e y→RelV x u→RelV y v→SeqAt.EqAt A s u v (eqD d e))
 {ds es:List Dt} {xs ys:List V} {us vs:List Value} (hd:depDs ds≤n) (hu:A.units+n+1<cLine) (h1:Dens X.K H ds xs) (h2:Dens X.K H es ys) (r1:Vals xs us) (r2:Vals ys vs) :
 ∀ j (g1:j<us.toArray.size) (g2:j<vs.toArray.size),SeqAt.EqAt A.in1 s us.toArray[j] vs.toArray[j] (eqAtD ds es j):=by
 intro j g1 g2
 have l1:=h1.length
 have l2:=h2.length
 have l3:=r1.length
 have l4:=r2.length
 have g1':j<us.length:=by simpa using g1
 have g2':j<vs.length:=by simpa using g2
 have j1:j<ds.length:=by rw [← l1,l3];exact g1'
 have j2:j<es.length:=by rw [← l2,l4];exact g2'
 have e1:ds[j]?=some ds[j]:=by simp [j1]
 have e2:es[j]?=some es[j]:=by simp [j2]
 obtain ⟨x,ex,dx⟩:=h1.get e1
 obtain ⟨y,ey,dy⟩:=h2.get e2
 obtain ⟨u,eu,ru⟩:=r1.get ex
 obtain ⟨v,ev,rv⟩:=r2.get ey
 have e3:eqAtD ds es j=eqD ds[j] es[j]:=by unfold eqAtD;rw [e1,e2]
 rw [e3]
 have a1:us.toArray[j]=u:=by
  have:us[j]?=some us[j]:=by simp [g1']
  rw [this] at eu
  simpa using Option.some.inj eu
 have a2:vs.toArray[j]=v:=by
  have:vs[j]?=some vs[j]:=by simp [g2']
  rw [this] at ev
  simpa using Option.some.inj ev
 rw [a1,a2]
 exact ih A.in1 _ _ x y u v (Nat.le_trans (depDs_mem e1) hd) (by show A.units+1+n<cLine;omega) dx dy ru rv
theorem rc_seqT {A:Around} (I:Inv X pins σ H s) (n:Nat) (ih:∀ (A:Around) (d e:Dt) (x y:V) (u v:Value),depD d≤n→A.units+n<cLine→Den X.K H d x→Den X.K H e y→RelV x u→RelV y v→SeqAt.EqAt A s u v (eqD d e))
 {ds es:List Dt} {a b:Addr} {xs ys:List V} (hd:depDs ds≤n) (hu:A.units+n+1<cLine) (ha:SqT X.K H a xs) (hb:SqT X.K H b ys) (h1:Dens X.K H ds xs) (h2:Dens X.K H es ys) :
 SeqAt.RcAt A s (.ref a) (.ref b) (eqDs ds es)∧SeqAt.RcNeAt A s (.ref a) (.ref b) (!eqDs ds es):=by
 obtain ⟨its,r1,p1,_⟩:=I.tuple ha
 obtain ⟨its2,r2,p2,_⟩:=I.tuple hb
 have l1:=h1.length
 have l2:=h2.length
 have l3:=r1.length
 have l4:=r2.length
 have hu':A.units<cLine:=by omega
 have q:=SeqAt.RcAt.tuples (A:=A) (s:=s) (e:=eqAtD ds es) p1 p2 hu' (items_eq n ih hd hu h1 h2 r1 r2)
 have q2:=SeqAt.RcNeAt.tuples (A:=A) (s:=s) (e:=eqAtD ds es) p1 p2 hu' (items_eq n ih hd hu h1 h2 r1 r2)
 have e:((List.range (min its.toArray.size its2.toArray.size)).all (eqAtD ds es) && its.toArray.size == its2.toArray.size)=eqDs ds es:=by
  simp only [List.size_toArray]
  by_cases hl:ds.length=es.length
  · have:its.length=its2.length:=by rw [← l3,← l4,l1,l2,hl]
    rw [this,Nat.min_self,← l4,l2,← hl,all_eqAtD ds es hl]
    simp
  · have:its.length≠its2.length:=by rw [← l3,← l4,l1,l2];exact hl
    rw [eqDs_len ds es hl]
    simp [this]
 rw [e] at q q2
 exact ⟨q,q2⟩
theorem rc_seqL {A:Around} (I:Inv X pins σ H s) (n:Nat) (ih:∀ (A:Around) (d e:Dt) (x y:V) (u v:Value),depD d≤n→A.units+n<cLine→Den X.K H d x→Den X.K H e y→RelV x u→RelV y v→SeqAt.EqAt A s u v (eqD d e))
 {ds es:List Dt} {a b:Addr} {xs ys:List V} (hd:depDs ds≤n) (hu:A.units+n+1<cLine) (ha:SqL X.K H a xs) (hb:SqL X.K H b ys) (h1:Dens X.K H ds xs) (h2:Dens X.K H es ys) :
 SeqAt.RcAt A s (.ref a) (.ref b) (eqDs ds es)∧SeqAt.RcNeAt A s (.ref a) (.ref b) (!eqDs ds es):=by
 obtain ⟨its,r1,p1,_⟩:=I.list ha
 obtain ⟨its2,r2,p2,_⟩:=I.list hb
 have l1:=h1.length
 have l2:=h2.length
 have l3:=r1.length
 have l4:=r2.length
 have hu':A.units<cLine:=by omega
 by_cases hl:ds.length=es.length
 · have hsz:its.toArray.size=its2.toArray.size:=by simp only [List.size_toArray];rw [← l3,← l4,l1,l2,hl]
   have q:=SeqAt.RcAt.lists (A:=A) (s:=s) (e:=eqAtD ds es) p1.isList p2.isList hsz hu' (items_eq n ih hd hu h1 h2 r1 r2)
   have q2:=SeqAt.RcNeAt.lists (A:=A) (s:=s) (e:=eqAtD ds es) p1.isList p2.isList hsz hu' (items_eq n ih hd hu h1 h2 r1 r2)
   have e:(List.range its.toArray.size).all (eqAtD ds es)=eqDs ds es:=by
    simp only [List.size_toArray]
    rw [← l3,l1,all_eqAtD ds es hl]
   rw [e] at q q2
   exact ⟨q,q2⟩
 · have hsz:(its.toArray.size != its2.toArray.size)=true:=by
    simp only [List.size_toArray]
    rw [← l3,← l4,l1,l2]
    simpa using hl
   rw [eqDs_len ds es hl]
   exact ⟨SeqAt.RcAt.lists_lengths p1.isList p2.isList hsz hu',SeqAt.RcNeAt.lists_lengths p1.isList p2.isList hsz hu'⟩
theorem eqAt_D (I:Inv X pins σ H s):∀ (n:Nat) (A:Around) (d e:Dt) (x y:V) (u v:Value),depD d≤n→A.units+n<cLine→Den X.K H d x→Den X.K H e y→RelV x u→RelV y v→SeqAt.EqAt A s u v (eqD d e):=by
 intro n
 induction n with
 | zero =>
   intro A d e x y u v hd hu h1 h2 rx ry
   have hu':A.units<cLine:=by omega
   cases d with
   | tup ds=>simp only [depD] at hd;omega
   | lst ds=>simp only [depD] at hd;omega
   | non =>
     simp only [Den] at h1
     subst h1
     cases e with
     | tup es =>
       simp only [Den] at h2
       obtain ⟨b,ys,rfl,hy,_⟩:=h2
       cases rx;cases ry
       obtain ⟨its,_,p,_⟩:=I.tuple hy
       exact SeqAt.EqAt.none_tuple p hu'
     | lst es =>
       simp only [Den] at h2
       obtain ⟨b,ys,rfl,hy,_⟩:=h2
       cases rx;cases ry
       obtain ⟨its,_,p,_⟩:=I.list hy
       exact SeqAt.EqAt.none_list p.isList hu'
     | _=>simp only [Den] at h2;subst h2;exact eqAt_V rx ry rfl rfl
   | bl i =>
     simp only [Den] at h1
     subst h1
     cases e with
     | tup es =>
       simp only [Den] at h2
       obtain ⟨b,ys,rfl,hy,_⟩:=h2
       cases rx;cases ry
       obtain ⟨its,_,p,_⟩:=I.tuple hy
       exact SeqAt.EqAt.bool_tuple _ p hu'
     | lst es =>
       simp only [Den] at h2
       obtain ⟨b,ys,rfl,hy,_⟩:=h2
       cases rx;cases ry
       obtain ⟨its,_,p,_⟩:=I.list hy
       exact SeqAt.EqAt.bool_list _ p.isList hu'
     | _=>simp only [Den] at h2;subst h2;exact eqAt_V rx ry rfl rfl
   | int i =>
     simp only [Den] at h1
     subst h1
     cases e with
     | tup es =>
       simp only [Den] at h2
       obtain ⟨b,ys,rfl,hy,_⟩:=h2
       obtain ⟨t,rfl⟩:=rx
       cases ry
       obtain ⟨its,_,p,_⟩:=I.tuple hy
       exact SeqAt.EqAt.int_tuple _ _ p hu'
     | lst es =>
       simp only [Den] at h2
       obtain ⟨b,ys,rfl,hy,_⟩:=h2
       obtain ⟨t,rfl⟩:=rx
       cases ry
       obtain ⟨its,_,p,_⟩:=I.list hy
       exact SeqAt.EqAt.int_list _ _ p.isList hu'
     | _=>simp only [Den] at h2;subst h2;exact eqAt_V rx ry rfl rfl
   | str i =>
     simp only [Den] at h1
     subst h1
     cases e with
     | tup es =>
       simp only [Den] at h2
       obtain ⟨b,ys,rfl,hy,_⟩:=h2
       obtain ⟨t,rfl⟩:=rx
       cases ry
       obtain ⟨its,_,p,_⟩:=I.tuple hy
       exact SeqAt.EqAt.str_tuple _ _ p hu'
     | lst es =>
       simp only [Den] at h2
       obtain ⟨b,ys,rfl,hy,_⟩:=h2
       obtain ⟨t,rfl⟩:=rx
       cases ry
       obtain ⟨its,_,p,_⟩:=I.list hy
       exact SeqAt.EqAt.str_list _ _ p.isList hu'
     | _=>simp only [Den] at h2;subst h2;exact eqAt_V rx ry rfl rfl
 | succ n ih =>
   intro A d e x y u v hd hu h1 h2 rx ry
   have hu':A.units<cLine:=by omega
   by_cases hle:depD d≤n
   · exact ih A d e x y u v hle (by omega) h1 h2 rx ry
   cases d with
   | tup ds =>
     simp only [depD] at hd
     have h1':=h1
     simp only [Den] at h1
     obtain ⟨a,xs,rfl,hx,hds⟩:=h1
     cases rx
     have hT:=I.tuple hx
     obtain ⟨its,r1,p1,_⟩:=hT
     cases e with
     | tup es =>
       have h2':=h2
       simp only [Den] at h2
       obtain ⟨b,ys,rfl,hy,hes⟩:=h2
       cases ry
       by_cases hab:a=b
       · subst hab
         rw [Den.inj I h1' h2',eqD_refl]
         exact SeqAt.EqAt.same _
       · simp only [eqD]
         exact SeqAt.EqAt.of_refs hab (rc_seqT I n ih (by omega) (by omega) hx hy hds hes).1
     | lst es =>
       simp only [Den] at h2
       obtain ⟨b,ys,rfl,hy,_⟩:=h2
       cases ry
       obtain ⟨its',_,p,_⟩:=I.list hy
       exact SeqAt.EqAt.tuple_list p1 p.isList hu'
     | non=>simp only [Den] at h2;subst h2;cases ry;exact SeqAt.EqAt.tuple_none p1 hu'
     | bl i=>simp only [Den] at h2;subst h2;cases ry;exact SeqAt.EqAt.tuple_bool _ p1 hu'
     | int i=>simp only [Den] at h2;subst h2;obtain ⟨t,rfl⟩:=ry;exact SeqAt.EqAt.tuple_int _ _ p1 hu'
     | str i=>simp only [Den] at h2;subst h2;obtain ⟨t,rfl⟩:=ry;exact SeqAt.EqAt.tuple_str _ _ p1 hu'
   | lst ds =>
     simp only [depD] at hd
     have h1':=h1
     simp only [Den] at h1
     obtain ⟨a,xs,rfl,hx,hds⟩:=h1
     cases rx
     have hT:=I.list hx
     obtain ⟨its,r1,p1,_⟩:=hT
     cases e with
     | lst es =>
       have h2':=h2
       simp only [Den] at h2
       obtain ⟨b,ys,rfl,hy,hes⟩:=h2
       cases ry
       by_cases hab:a=b
       · subst hab
         rw [Den.inj I h1' h2',eqD_refl]
         exact SeqAt.EqAt.same _
       · simp only [eqD]
         exact SeqAt.EqAt.of_refs hab (rc_seqL I n ih (by omega) (by omega) hx hy hds hes).1
     | tup es =>
       simp only [Den] at h2
       obtain ⟨b,ys,rfl,hy,_⟩:=h2
       cases ry
       obtain ⟨its',_,p,_⟩:=I.tuple hy
       exact SeqAt.EqAt.list_tuple p1.isList p hu'
     | non=>simp only [Den] at h2;subst h2;cases ry;exact SeqAt.EqAt.list_none p1.isList hu'
     | bl i=>simp only [Den] at h2;subst h2;cases ry;exact SeqAt.EqAt.list_bool _ p1.isList hu'
     | int i=>simp only [Den] at h2;subst h2;obtain ⟨t,rfl⟩:=ry;exact SeqAt.EqAt.list_int _ _ p1.isList hu'
     | str i=>simp only [Den] at h2;subst h2;obtain ⟨t,rfl⟩:=ry;exact SeqAt.EqAt.list_str _ _ p1.isList hu'
   | _=>simp only [depD] at hle;omega
end
section
variable {X:Cx}
noncomputable def rEqD (K:PySem.W.Frag) (neg:Bool):R2:=fun x y H Q=>∃ a b xs ys ds es,x=.ref a∧y=.ref b∧((SqT K H a xs∧SqT K H b ys)∨(SqL K H a xs∧SqL K H b ys))∧Dens K H ds xs∧Dens K H es ys∧depDs ds≤20 ∧
 Q (.bl (if neg then !eqDs ds es else eqDs ds es)) H
theorem op_eqD {k:Nat} (hr:Room k X.A):OpR X (compareOp .Eq) (rEqD X.K false):=by
 intro pins s σ H x y v u Q I rx ry h
 obtain ⟨a,b,xs,ys,ds,es,rfl,rfl,hk,h1,h2,hd,q⟩:=h
 cases rx
 cases ry
 have hu:=hr.units
 rcases hk with ⟨ha,hb⟩ | ⟨ha,hb⟩
 · exact (rc_seqT (A:=X.A) I 20 (eqAt_D I 20) hd (by omega) ha hb h1 h2).1 _ _ _ _ ⟨.bl _,H,I,rfl,q⟩
 · exact (rc_seqL (A:=X.A) I 20 (eqAt_D I 20) hd (by omega) ha hb h1 h2).1 _ _ _ _ ⟨.bl _,H,I,rfl,q⟩
theorem op_neD {k:Nat} (hr:Room k X.A):OpR X (compareOp .NotEq) (rEqD X.K true):=by
 intro pins s σ H x y v u Q I rx ry h
 obtain ⟨a,b,xs,ys,ds,es,rfl,rfl,hk,h1,h2,hd,q⟩:=h
 cases rx
 cases ry
 have hu:=hr.units
 rcases hk with ⟨ha,hb⟩ | ⟨ha,hb⟩
 · exact (rc_seqT (A:=X.A) I 20 (eqAt_D I 20) hd (by omega) ha hb h1 h2).2 _ _ _ _ ⟨.bl _,H,I,rfl,q⟩
 · exact (rc_seqL (A:=X.A) I 20 (eqAt_D I 20) hd (by omega) ha hb h1 h2).2 _ _ _ _ ⟨.bl _,H,I,rfl,q⟩
noncomputable def rIsi (K:PySem.W.Frag):List V→Hp→VK→Prop:=fun xs H Q=>∃ x T t b,xs=[x,.ty T]∧TyOf K H x t∧PySem.W.kitOne K t (.type T)=some b∧Q (.bl b) H
theorem call_isi:CallR X (.builtin "isinstance") (rIsi X.K):=by
 intro pins s σ H xs us Q I r h
 obtain ⟨x,T,t,b,rfl,ty,e,q⟩:=h
 obtain ⟨u,w',rfl,ru,rw'⟩:=vals2 r
 cases rw'
 exact isinst_ok I ru ty e fun tk=>⟨.bl b,H,I.tok tk,rfl,q⟩
end
end L2
namespace L2
open PySem PySem.Spec PyProof.Rows
section
variable {prog:Program} {w:World} {A:Around} {E:Value→Shared→Prop} {s:Shared}
end
end L2
namespace L2
open PySem PySem.Spec PyProof.Rows
section
variable {X:Cx} {pins:List (Addr×Obj)} {σ:St} {H:Hp} {s:Shared} {h':Heap}
end
end L2
namespace L2
open PySem PySem.Spec PyProof.Rows
section
variable {X:Cx} {pins:List (Addr×Obj)} {σ:St} {H:Hp} {s:Shared}
end
section
variable {X:Cx}
end
end L2
namespace Pw
noncomputable def mk (a b:Int):Int×Int:=if b<0 then (a.fdiv (-(Int.gcd a b:Int)),b.fdiv (-(Int.gcd a b:Int))) else (a.fdiv (Int.gcd a b:Int),b.fdiv (Int.gcd a b:Int))
noncomputable def Canon (p:Int×Int):Prop:=0<p.2∧Int.gcd p.1 p.2=1
theorem gpos {a b:Int} (h:b≠0):0<(Int.gcd a b:Int):=by
 have:0<Int.gcd a b:=Nat.pos_of_ne_zero fun z=>h (Int.gcd_eq_zero_iff.mp z).2
 omega
theorem dvd_left {k m n:Int} (h:k∣m * n) (c:Int.gcd m k=1):k∣n:=by
 have h1:k.natAbs∣m.natAbs * n.natAbs:=by rw [← Int.natAbs_mul];exact Int.natAbs_dvd_natAbs.mpr h
 have h2:Nat.Coprime k.natAbs m.natAbs:=by
  show Nat.gcd _ _=1
  rw [Nat.gcd_comm];exact c
 exact Int.natAbs_dvd_natAbs.mp (Nat.Coprime.dvd_of_dvd_mul_left h2 h1)
theorem mk_spec {a b:Int} (h:b≠0):Canon (mk a b)∧(mk a b).1 * b=a * (mk a b).2:=by
 have hg:=gpos (a:=a) h
 obtain ⟨x,hx⟩:((Int.gcd a b:Nat):Int)∣a:=Int.gcd_dvd_left ..
 obtain ⟨y,hy⟩:((Int.gcd a b:Nat):Int)∣b:=Int.gcd_dvd_right ..
 generalize hG:(Int.gcd a b:Int)=g at *
 have hgn:g≠0:=by omega
 have cop:Int.gcd x y=1:=by
  have h1:Int.gcd a b=Int.gcd (g * x) (g * y):=by rw [← hx,← hy]
  rw [Int.gcd_mul_left] at h1
  have h2:(g.natAbs:Int)=g:=by omega
  have h3:(Int.gcd a b:Int)=g.natAbs:=by rw [hG,h2]
  have h4:Int.gcd a b=g.natAbs:=by omega
  have h5:g.natAbs * Int.gcd x y=g.natAbs * 1:=by rw [← h1,h4];simp
  exact Nat.eq_of_mul_eq_mul_left (by omega) h5
 have e1:a.fdiv g=x:=by rw [hx];exact Int.mul_fdiv_cancel_left _ hgn
 have e2:b.fdiv g=y:=by rw [hy];exact Int.mul_fdiv_cancel_left _ hgn
 have e3:a.fdiv (-g)=-x:=by
  have:a=(-g) * (-x):=by rw [Int.neg_mul_neg];exact hx
  rw [this];exact Int.mul_fdiv_cancel_left _ (by omega)
 have e4:b.fdiv (-g)=-y:=by
  have:b=(-g) * (-y):=by rw [Int.neg_mul_neg];exact hy
  rw [this];exact Int.mul_fdiv_cancel_left _ (by omega)
 unfold mk
 rw [hG]
 by_cases hb:b<0
 · rw [if_pos hb,e3,e4]
   have hy0:y<0:=by
    refine Int.not_le.mp fun hy0=>?_
    have:=Int.mul_nonneg (Int.le_of_lt hg) hy0
    omega
   refine ⟨⟨by show 0 < -y;omega,by show Int.gcd (-x) (-y)=1;rw [Int.neg_gcd,Int.gcd_neg];exact cop⟩,?_⟩
   show -x * b=a * -y
   rw [hx,hy];grind
 · rw [if_neg hb,e1,e2]
   have hy0:0<y:=by
    refine Int.not_le.mp fun hy0=>?_
    have:=Int.mul_nonneg (Int.le_of_lt hg) (show 0≤-y by omega)
    rw [Int.mul_neg,← hy] at this
    omega
   refine ⟨⟨hy0,cop⟩,?_⟩
   show x * b=a * y
   rw [hx,hy];grind
theorem canon_unique {p q:Int×Int} (hp:Canon p) (hq:Canon q) (h:p.1 * q.2=q.1 * p.2):p=q:=by
 obtain ⟨p1,p2⟩:=p
 obtain ⟨q1,q2⟩:=q
 obtain ⟨a1,a2⟩:=hp
 obtain ⟨b1,b2⟩:=hq
 simp only at *
 have d1:p2∣q2:=by
  have:p2∣p1 * q2:=⟨q1,by rw [h];grind⟩
  exact dvd_left this a2
 have d2:q2∣p2:=by
  have:q2∣q1 * p2:=⟨p1,by rw [← h];grind⟩
  exact dvd_left this b2
 have e:p2=q2:=Int.dvd_antisymm (by omega) (by omega) d1 d2
 subst e
 have:p1=q1:=Int.eq_of_mul_eq_mul_right (by omega) h
 rw [this]
theorem mk_uniq {a b:Int} {p:Int×Int} (h:b≠0) (hp:Canon p) (hw:p.1 * b=a * p.2):mk a b=p:=by
 obtain ⟨c,w⟩:=mk_spec (a:=a) h
 refine canon_unique c hp (Int.eq_of_mul_eq_mul_right h ?_)
 grind
theorem mk_mul {a b m:Int} (h:b≠0) (hm:m≠0):mk (a * m) (b * m)=mk a b:=by
 obtain ⟨c,w⟩:=mk_spec (a:=a) h
 exact mk_uniq (Int.mul_ne_zero h hm) c (by grind)
theorem mk_canon {p:Int×Int} (h:Canon p):mk p.1 p.2=p:=mk_uniq (by have:=h.1;omega) h (by grind)
theorem mk_le {a b:Int} (h:b≠0):(mk a b).1.natAbs≤a.natAbs∧(mk a b).2.natAbs≤b.natAbs:=by
 obtain ⟨⟨c1,c2⟩,w⟩:=mk_spec (a:=a) h
 generalize mk a b=p at *
 obtain ⟨x,y⟩:=p
 simp only at *
 have d1:y∣b:=by
  have:y∣x * b:=⟨a,by rw [w];grind⟩
  exact dvd_left this c2
 have d2:x∣a:=by
  have:x∣y * a:=⟨b,by rw [w];grind⟩
  exact dvd_left this (by rw [Int.gcd_comm];exact c2)
 refine ⟨?_,Nat.le_of_dvd (by omega) (Int.natAbs_dvd_natAbs.mpr d1)⟩
 by_cases ha:a=0
 · subst ha
   have:x * b=0:=by rw [w,Int.zero_mul]
   rcases Int.mul_eq_zero.mp this with z | z
   · rw [z];simp
   · exact absurd z h
 · exact Nat.le_of_dvd (by omega) (Int.natAbs_dvd_natAbs.mpr d2)
theorem gcd_turn {x y:Int} (hx:0≤x) (hy:0<y):Int.gcd y (x % y)=Int.gcd x y:=by
 obtain ⟨m,rfl⟩:=Int.eq_ofNat_of_zero_le hx
 obtain ⟨n,rfl⟩:=Int.eq_ofNat_of_zero_le (Int.le_of_lt hy)
 show Nat.gcd n (((m:Int) % (n:Int)).natAbs)=Nat.gcd m n
 have e:((m:Int) % (n:Int)).natAbs=m % n:=by rw [← Int.natCast_emod,Int.natAbs_natCast]
 rw [e,Nat.gcd_comm m n,Nat.gcd_comm n (m % n),← Nat.gcd_rec]
end Pw
namespace L2
open PySem PySem.Spec PyProof.Rows
theorem ifT {b:Bool} {A B:Prop} (e:b=true) (a:A):if b=true then A else B:=by rw [if_pos e];exact a
theorem ifF {b:Bool} {A B:Prop} (e:b=false) (h:B):if b=true then A else B:=by rw [e];exact iteF h
theorem if2 {b:Bool} {A B:Prop} (h1:b=true→A) (h2:b=false→B):if b=true then A else B:=by
 cases b with
 | true=>exact iteT (h1 rfl)
 | false=>exact iteF (h2 rfl)
theorem vne {i j:Int} (h:i≠j):(!decide (V.int i=V.int j))=true:=by
 rw [decide_eq_false (fun z=>h (V.int.inj z))];rfl
theorem veq {i j:Int} (h:i=j):(!decide (V.int i=V.int j))=false:=by
 rw [decide_eq_true (congrArg V.int h)];rfl
theorem sz_of {k:Int} (n:Nat) {m:Nat} (h:k.natAbs<2 ^ n) (l:n≤m:=by decide):Sz m k:=Sz.mono h l
noncomputable def Wt (Pv:Nat→List V→St→Hp→Prop) (n:Nat):Nat→Nat→List V→St→Hp→Prop:=fun i m ys σ H=>m=n - i∧i≤n∧Pv i ys σ H
theorem Wt.next {Pv:Nat→List V→St→Hp→Prop} {n i:Nat} {ys:List V} {σ:St} {H:Hp} (h:i<n) (p:Pv (i+1) ys σ H):∃ m',m'<n - i∧Wt Pv n (i+1) m' ys σ H:=⟨n - (i+1),by omega,rfl,h,p⟩
section
variable {K:PySem.W.Frag} {a D:Addr} {xs:List V} {g:TG} {tt:TT} {te:TE} {σ0:St} {H0:Hp} {Q:VK}
theorem comp_tup (Pv:Nat→List V→St→Hp→Prop) (h0:Pv 0 [] σ0 H0) (hl:∀ i ys σ H,Pv i ys σ H→SqT K H a xs∧H D=some (.lst ys))
 (hs:∀ i x ys σ H,xs[i]?=some x→i<xs.length→Pv i ys σ H→g x σ H fun σ3 H3=>tt σ3 H3 fun b H4=>if b=true then
  te σ3 H4 fun y H5=>H5 D=some (.lst ys)∧ys.length<sizeLine∧∃ m',m'<xs.length - i∧Wt Pv xs.length (i+1) m' (ys ++ [y]) σ3 (upd H5 D (.lst (ys ++ [y]))) else ∃ m',m'<xs.length - i∧Wt Pv xs.length (i+1) m' ys σ3 H4)
 (hd:∀ ys σ H,Pv xs.length ys σ H→Q (.ref D) H) :
 CompW (Itt K a) D g tt te Q σ0 H0:=by
 refine ⟨Wt Pv xs.length,⟨xs.length,rfl,Nat.zero_le _,h0⟩,?_⟩
 rintro i m ys σ' H' ⟨rfl,hi,p⟩
 obtain ⟨hq,hD⟩:=hl i ys σ' H' p
 refine ⟨hD,?_⟩
 by_cases hlt:i<xs.length
 · refine .inr ⟨⟨xs,xs[i],hq,by simp [hlt]⟩,fun x H2 y=>?_⟩
   obtain ⟨e,y⟩:=y
   subst e
   exact hs i x ys σ' _ (y xs hq) hlt p
 · have e:i=xs.length:=by omega
   subst e
   exact .inl ⟨⟨xs,hq,Nat.le_refl _⟩,hd ys σ' H' p⟩
theorem comp_lst (Pv:Nat→List V→St→Hp→Prop) (h0:Pv 0 [] σ0 H0) (hl:∀ i ys σ H,Pv i ys σ H→SqL K H a xs∧H D=some (.lst ys))
 (hs:∀ i x ys σ H,xs[i]?=some x→i<xs.length→Pv i ys σ H→g x σ H fun σ3 H3=>tt σ3 H3 fun b H4=>if b=true then
  te σ3 H4 fun y H5=>H5 D=some (.lst ys)∧ys.length<sizeLine∧∃ m',m'<xs.length - i∧Wt Pv xs.length (i+1) m' (ys ++ [y]) σ3 (upd H5 D (.lst (ys ++ [y]))) else ∃ m',m'<xs.length - i∧Wt Pv xs.length (i+1) m' ys σ3 H4)
 (hd:∀ ys σ H,Pv xs.length ys σ H→Q (.ref D) H) :
 CompW (Itl K a) D g tt te Q σ0 H0:=by
 refine ⟨Wt Pv xs.length,⟨xs.length,rfl,Nat.zero_le _,h0⟩,?_⟩
 rintro i m ys σ' H' ⟨rfl,hi,p⟩
 obtain ⟨hq,hD⟩:=hl i ys σ' H' p
 refine ⟨hD,?_⟩
 by_cases hlt:i<xs.length
 · refine .inr ⟨⟨xs,xs[i],hq,by simp [hlt]⟩,fun x H2 y=>?_⟩
   obtain ⟨e,y⟩:=y
   subst e
   exact hs i x ys σ' _ (y xs hq) hlt p
 · have e:i=xs.length:=by omega
   subst e
   exact .inl ⟨⟨xs,hq,Nat.le_refl _⟩,hd ys σ' H' p⟩
end
section
variable {X:Cx} {K:PySem.W.Frag}
theorem ix_listK (e:X.K=K):IxR X (rIxL K):=e ▸ ix_list
theorem ix_tupK (e:X.K=K):IxR X (rIxT K):=e ▸ ix_tup
end
theorem dens_ints (K:PySem.W.Frag) (H:Hp):∀ ns:List Int,Dens K H (ns.map Dt.int) (ns.map V.int)
 | []=>by simp only [List.map_nil,Dens]
 | n :: ns=>by
   simp only [List.map_cons,Dens]
   exact ⟨_,_,rfl,by simp only [Den],dens_ints K H ns⟩
theorem eqDs_ints:∀ ns ms:List Int,eqDs (ns.map Dt.int) (ms.map Dt.int)=decide (ns=ms)
 | [],[]=>rfl
 | [],_ :: _=>rfl
 | _ :: _,[]=>rfl
 | n :: ns,m :: ms=>by
   simp only [List.map_cons,eqDs,eqD]
   rw [eqDs_ints ns ms]
   by_cases h:n=m
   · subst h;simp
   · simp [h]
theorem dens2 (K:PySem.W.Frag) (H:Hp) (x y:Int):Dens K H [Dt.int x,Dt.int y] [V.int x,V.int y]:=dens_ints K H [x,y]
theorem eqDs2 (x y z u:Int):eqDs [Dt.int x,Dt.int y] [Dt.int z,Dt.int u]=decide ((x,y)=(z,u)):=by
 rw [show ([Dt.int x,Dt.int y]:List Dt)=[x,y].map Dt.int from rfl,show ([Dt.int z,Dt.int u]:List Dt)=[z,u].map Dt.int from rfl,eqDs_ints]
 simp
noncomputable def Kp (p:Addr) (H H':Hp):Prop:=∀ b o,H b=some o→b≠p→H' b=some o
theorem Kp.trans {p:Addr} {H H1 H2:Hp} (a:Kp p H H1) (b:Kp p H1 H2):Kp p H H2:=fun c o h n=>b c o (a c o h n) n
theorem Kp.new {p q:Addr} {H:Hp} {o:HO} (hq:H q=none):Kp p H (upd H q o):=fun b u h _=>by rw [upd_ne (ne_of_none h hq)];exact h
theorem Kp.set {p:Addr} {H:Hp} {o:HO}:Kp p H (upd H p o):=fun b u h n=>by rw [upd_ne n];exact h
theorem Same.new {q:Addr} {H:Hp} {o:HO} (hq:H q=none):Same H (upd H q o):=fun b u h=>by rw [upd_ne (ne_of_none h hq)];exact h
theorem Same.seqT {K:PySem.W.Frag} {H H':Hp} {a:Addr} {xs:List V} (e:Same H H') (h:SqT K H a xs):SqT K H' a xs:=by
 rcases h with (h | ⟨o,h⟩) | h
 · exact .inl (.inl (e _ _ h))
 · exact .inl (.inr ⟨o,e _ _ h⟩)
 · exact .inr h
noncomputable def spCommon:Sp:=fun vs H Q _=>∃ x y:Int,vs=[.int x,.int y]∧0≤x∧0≤y∧Q (.int (Int.gcd x y:Int)) H
noncomputable def spMade:Sp:=fun vs H Q _=>∃ x y:Int,vs=[.int x,.int y]∧y≠0∧Sz 8000 x∧Sz 8000 y∧∀ p,H p=none→Q (.ref p) (upd H p (.tup [.int (Pw.mk x y).1,.int (Pw.mk x y).2]))
noncomputable def spLaw (K:PySem.W.Frag):Sp:=fun vs H Q _=>∃ (a:Addr) (ns:List Int),vs=[.ref a]∧SqL K H a (ns.map V.int)∧ns.length≤63∧∀ H',Q (.bl true) H'
end L2
namespace Pw
noncomputable def fplus (p q:Int×Int):Int×Int:=mk (p.1 * q.2+q.1 * p.2) (p.2 * q.2)
noncomputable def fless (p q:Int×Int):Int×Int:=mk (p.1 * q.2 - q.1 * p.2) (p.2 * q.2)
noncomputable def ftimes (p q:Int×Int):Int×Int:=mk (p.1 * q.1) (p.2 * q.2)
structure Fr (A:Int×Int) (n d:Int):Prop where
 canon:Canon A
 ne:d≠0
 w:A.1 * d=n * A.2
theorem Fr.pos {A:Int×Int} {n d:Int} (h:Fr A n d):A.2≠0:=by have:=h.canon.1;omega
theorem Fr.made {n d:Int} (h:d≠0):Fr (Pw.mk n d) n d:=⟨(mk_spec h).1,h,(mk_spec h).2⟩
theorem Fr.of {A:Int×Int} (h:Canon A):Fr A A.1 A.2:=⟨h,by have:=h.1;omega,rfl⟩
end Pw
namespace L2
open PySem PySem.Spec PyProof.Rows
section
variable {X:Cx}
end
noncomputable def tMid (t u:TS):TS:=fun D σ H=>∃ R:St→Hp→Prop,t { D with nx:=R } σ H∧∀ σ' H',R σ' H'→u D σ' H'
theorem pss_mid {X:Cx} {st:Stmt} {rest:List Stmt} {t u:TS} (h1:PS X st t) (h2:PSs X rest u):PSs X (st :: rest) (tMid t u):=by
 intro pins s σ H D I h
 obtain ⟨R,h,hR⟩:=h
 refine wpAny_execs_cons (thn (h1 pins s σ H { D with nx:=R } I h) fun f s1 q=>?_)
 cases f with
 | next =>
   obtain ⟨σ',H',I',q⟩:=q
   exact h2 pins s1 σ' H' D I' (hR σ' H' q)
 | ret v=>exact q
 | brk=>exact q
 | cont=>exact q
noncomputable def tTupS (t:TA):TE:=fun σ H Q=>t σ H fun xs H1=>xs.length≤sizeLine∧∀ (p:Addr) (H':Hp),Same H1 H'→H1 p=none→H' p=some (.tup xs)→Q (.ref p) H'
noncomputable def tLstS (t:TA):TE:=fun σ H Q=>t σ H fun xs H1=>xs.length≤sizeLine∧∀ (p:Addr) (H':Hp),Same H1 H'→H1 p=none→H' p=some (.lst xs)→Q (.ref p) H'
section
variable {X:Cx} {es:List Expr} {t:TA} {pos:Pos}
theorem pe_tupS {x1} (h:PA X es t):PE X (.Tuple es x1 pos) (tTupS t):=by
 intro pins s σ H Q I hq
 refine wpAny_Tuple_spliced (thn (h pos pins s σ H _ I hq) fun us s1 ⟨xs,H1,I1,r,z,q⟩=>⟨by rw [← r.length];exact z,?_⟩)
 have hf:H1 s1.heap.objs.size=none:=I1.hok.fresh (Nat.le_refl _)
 refine ⟨.ref s1.heap.objs.size,upd H1 s1.heap.objs.size (.tup xs),I1.laid (t':=s1.toks) (fun b u e=>Heap.get?_push_of_some _ e) (Nat.le_refl _) ?_,rfl,q _ _ (Same.new hf) hf upd_same⟩
 exact ⟨z,us,r,⟨_,Heap.get?_push_size _ rfl,rfl,_,rfl⟩⟩
theorem pe_lstS (h:PA X es t):PE X (.List es pos) (tLstS t):=by
 intro pins s σ H Q I hq
 refine wpAny_List_spliced (thn (h pos pins s σ H _ I hq) fun us s1 ⟨xs,H1,I1,r,z,q⟩=>⟨by rw [← r.length];exact z,?_⟩)
 have hf:H1 s1.heap.objs.size=none:=I1.hok.fresh (Nat.le_refl _)
 refine ⟨.ref s1.heap.objs.size,upd H1 s1.heap.objs.size (.lst xs),I1.laid (t':=s1.toks) (fun b u e=>Heap.get?_push_of_some _ e) (Nat.le_refl _) ?_,rfl,q _ _ (Same.new hf) hf upd_same⟩
 exact ⟨z,us,0,r,Heap.get?_push_size _ rfl⟩
end
noncomputable def Sz2 (n:Nat) (A:Int×Int):Prop:=Sz n A.1∧Sz n A.2
theorem Sz2.mono {n m:Nat} {A:Int×Int} (h:Sz2 n A) (l:n≤m):Sz2 m A:=⟨h.1.mono l,h.2.mono l⟩
theorem mk_sz {n:Nat} {x y:Int} (hy:y≠0) (sx:Sz n x) (sy:Sz n y):Sz2 n (Pw.mk x y) :=
 ⟨Nat.lt_of_le_of_lt (Pw.mk_le hy).1 sx,Nat.lt_of_le_of_lt (Pw.mk_le hy).2 sy⟩
theorem ftimes_sz {n m:Nat} {A B:Int×Int} (a:Sz2 n A) (b:Sz2 m B) (ha:A.2≠0) (hb:B.2≠0):Sz2 (n+m+1) (Pw.ftimes A B) :=
 mk_sz (Int.mul_ne_zero ha hb) ((a.1.mul b.1).mono (by omega)) ((a.2.mul b.2).mono (by omega))
noncomputable abbrev FrA (_:PySem.W.Frag) (H:Hp) (p:Addr) (A:Int×Int):Prop:=H p=some (.tup [.int A.1,.int A.2])
end L2
namespace Srt
open PySem PySem.W PyProof.Rows
noncomputable def run {α:Type} (lt:Nat→Nat→Bool):KasT α→α
 | .ret a=>a
 | .ask i j k=>run lt (k (lt i j))
theorem run_bind {α β:Type} (lt:Nat→Nat→Bool) (f:α→KasT β):∀ t:KasT α,run lt (t.bind f)=run lt (f (run lt t))
 | .ret _=>rfl
 | .ask i j k=>by
   show run lt ((k (lt i j)).bind f)=_
   rw [run_bind lt f (k (lt i j))]
   rfl
noncomputable def e (p:Array Nat) (k:Nat):Nat:=p.getD k 0
theorem e_of {p q:Array Nat} {i k:Nat} (h:p[i]?=q[k]?):e p i=e q k:=by
 have h1:p.getD i 0=(p[i]?).getD 0:=by simp [Array.getD_eq_getD_getElem?]
 have h2:q.getD k 0=(q[k]?).getD 0:=by simp [Array.getD_eq_getD_getElem?]
 show p.getD i 0=q.getD k 0
 rw [h1,h2,h]
theorem e_rev_in {p:Array Nat} {i j k:Nat} (hj:j≤p.size) (h1:i≤k) (h2:k<j):e (kas_rev p i j) k=e p (i+j - 1 - k):=by
 unfold kas_rev
 refine e_of ?_
 rw [getElem?_mirror hj ((j - i) / 2) (by omega) k]
 split
 · rfl
 · rename_i h
   have:i+j - 1 - k=k:=by omega
   rw [this]
theorem e_rev_out {p:Array Nat} {i j k:Nat} (hj:j≤p.size) (h:k<i∨j≤k):e (kas_rev p i j) k=e p k:=by
 unfold kas_rev
 refine e_of ?_
 rw [getElem?_mirror hj ((j - i) / 2) (by omega) k]
 split
 · omega
 · rfl
theorem e_bub {p:Array Nat} {k l i:Nat} (hk:k<p.size) (hl:l≤k):e (bubble p k (k - l)) i=if i=l then e p k else if l<i∧i≤k then e p (i - 1) else e p i:=by
 have h:=getElem?_bubble hk (k - l) (by omega) i
 have h3:k - (k - l)=l:=by omega
 rw [h3] at h
 split
 · rename_i hi
   rw [if_pos hi] at h
   exact e_of h
 · rename_i hi
   rw [if_neg hi] at h
   split
   · rename_i h2
     rw [if_pos h2] at h
     exact e_of h
   · rename_i h2
     rw [if_neg h2] at h
     exact e_of h
theorem rev_size (p:Array Nat) (i j:Nat):(kas_rev p i j).size=p.size:=mirror_size _ _ _ _
theorem rev_perm (p:Array Nat) (i j:Nat):(kas_rev p i j).Perm p:=mirror_perm _ _ _ _
structure Ord (lt:Nat→Nat→Bool):Prop where
 asym:∀ i j,lt i j=true→lt j i=false
 trans:∀ i j k,lt j i=false→lt k j=false→lt k i=false
section
variable {lt:Nat→Nat→Bool} (O:Ord lt)
noncomputable def Up (lt:Nat→Nat→Bool) (p:Array Nat) (b:Nat):Prop:=∀ k,1≤k→k<b→lt (e p k) (e p (k - 1))=false
noncomputable def Down (lt:Nat→Nat→Bool) (p:Array Nat) (b:Nat):Prop:=∀ k,1≤k→k<b→lt (e p (k - 1)) (e p k)=false
noncomputable def Alike (lt:Nat→Nat→Bool) (p:Array Nat) (a b:Nat):Prop:=∀ i j,a≤i→i<b→a≤j→j<b→lt (e p i) (e p j)=false
include O
theorem irr (i:Nat):lt i i=false:=by
 cases h:lt i i with
 | false=>rfl
 | true=>rw [O.asym i i h] at h;cases h
theorem Up.pair {p:Array Nat} {b:Nat} (h:Up lt p b):∀ d i,i+d<b→lt (e p (i+d)) (e p i)=false
 | 0,i,_=>irr O _
 | d+1,i,hb=>O.trans _ _ _ (Up.pair h d i (by omega)) (by
     have:=h (i+(d+1)) (by omega) hb
     rw [show i+(d+1) - 1=i+d by omega] at this
     exact this)
theorem Up.le {p:Array Nat} {b i j:Nat} (h:Up lt p b) (hij:i≤j) (hj:j<b):lt (e p j) (e p i)=false:=by
 have:=Up.pair O h (j - i) i (by omega)
 rw [show i+(j - i)=j by omega] at this
 exact this
theorem asc_ok {p:Array Nat}:∀ (f n:Nat),1≤n→Up lt p n→n≤run lt (kas_asc p f n)∧run lt (kas_asc p f n)≤n+f∧Up lt p (run lt (kas_asc p f n))∧(run lt (kas_asc p f n)<n+f→lt (e p (run lt (kas_asc p f n))) (e p (run lt (kas_asc p f n) - 1))=true)
 | 0,n,h1,h=>⟨Nat.le_refl _,Nat.le_refl _,h,fun z=>absurd z (Nat.lt_irrefl _)⟩
 | f+1,n,h1,h=>by
   have er:run lt (kas_asc p (f+1) n)=run lt (if lt (e p n) (e p (n - 1))=true then KasT.ret n else kas_asc p f (n+1)):=rfl
   cases c:lt (e p n) (e p (n - 1)) with
   | true =>
     rw [er,c,if_pos rfl]
     exact ⟨Nat.le_refl _,Nat.le_add_right _ _,h,fun _=>c⟩
   | false =>
     rw [er,c,if_neg Bool.false_ne_true]
     obtain ⟨a1,a2,a3,a4⟩:=asc_ok (p:=p) f (n+1) (by omega) (fun k k1 k2=>by
      by_cases hk:k<n
      · exact h k k1 hk
      · have:k=n:=by omega
        subst this;exact c)
     exact ⟨by omega,by omega,a3,fun z=>a4 (by omega)⟩
theorem Down.rev {p:Array Nat} {a b n:Nat} (hn:n≤p.size) (hb:b≤n) (h:Down lt p n) (al:Alike lt p a b):Down lt (kas_rev p a b) n:=by
 intro k k1 k2
 have hj:b≤p.size:=Nat.le_trans hb hn
 by_cases i1:a≤k∧k<b
 · by_cases i0:a≤k - 1∧k - 1<b
   · rw [e_rev_in hj i1.1 i1.2,e_rev_in hj i0.1 i0.2]
     exact al _ _ (by omega) (by omega) (by omega) (by omega)
   · rw [e_rev_in (k:=k) hj i1.1 i1.2,e_rev_out (k:=k - 1) hj (by omega)]
     have ek:k=a:=by omega
     have h1:=h k k1 k2
     have h2:=al (a+b - 1 - k) k (by omega) (by omega) i1.1 i1.2
     have h3:=al k (a+b - 1 - k) i1.1 i1.2 (by omega) (by omega)
     exact O.trans _ _ _ h3 h1
 · by_cases i0:a≤k - 1∧k - 1<b
   · rw [e_rev_out (k:=k) hj (by omega),e_rev_in (k:=k - 1) hj i0.1 i0.2]
     have h1:=h k k1 k2
     have h2:=al (a+b - 1 - (k - 1)) (k - 1) (by omega) (by omega) i0.1 i0.2
     exact O.trans _ _ _ h1 h2
   · rw [e_rev_out (k:=k) hj (by omega),e_rev_out (k:=k - 1) hj (by omega)]
     exact h k k1 k2
theorem desc_ok:∀ (f:Nat) (p:Array Nat) (n q:Nat),n+f≤p.size→q+1≤n→Down lt p n→Alike lt p (n - (q+1)) n →
 (run lt (kas_desc f p n q)).1.size=p.size∧(run lt (kas_desc f p n q)).1.Perm p∧n≤(run lt (kas_desc f p n q)).2.1∧(run lt (kas_desc f p n q)).2.1≤n+f∧(run lt (kas_desc f p n q)).2.2+1≤(run lt (kas_desc f p n q)).2.1 ∧
 Down lt (run lt (kas_desc f p n q)).1 (run lt (kas_desc f p n q)).2.1∧Alike lt (run lt (kas_desc f p n q)).1 ((run lt (kas_desc f p n q)).2.1 - ((run lt (kas_desc f p n q)).2.2+1)) (run lt (kas_desc f p n q)).2.1
 | 0,p,n,q,hz,hq,hd,ha=>⟨rfl,Array.Perm.refl _,Nat.le_refl _,Nat.le_refl _,hq,hd,ha⟩
 | f+1,p,n,q,hz,hq,hd,ha=>by
   have er:run lt (kas_desc (f+1) p n q)=run lt (if lt (e p n) (e p (n - 1))=true then (if q > 0 then kas_desc f (kas_rev p (n - (q+1)) n) (n+1) 0 else kas_desc f p (n+1) 0)
    else .ask (e p (n - 1)) (e p n) fun d=>if d=true then .ret (p,n,q) else kas_desc f p (n+1) (q+1)):=rfl
   have one:∀ (p':Array Nat),Alike lt p' (n+1 - (0+1)) (n+1):=fun p' i j i1 i2 j1 j2=>by
    have e1:i=n:=by omega
    have e2:j=n:=by omega
    subst e1 e2;exact irr O _
   cases c:lt (e p n) (e p (n - 1)) with
   | true =>
     rw [er,c,if_pos rfl]
     by_cases q0:q > 0
     · rw [if_pos q0]
       have hs:=rev_size p (n - (q+1)) n
       have d1:Down lt (kas_rev p (n - (q+1)) n) n:=Down.rev O (by omega) (Nat.le_refl _) hd ha
       have d2:Down lt (kas_rev p (n - (q+1)) n) (n+1):=fun k k1 k2=>by
        by_cases hk:k<n
        · exact d1 k k1 hk
        · have ek:k=n:=by omega
          subst ek
          rw [e_rev_out (k:=k) (by omega) (Or.inr (Nat.le_refl _)),e_rev_in (k:=k - 1) (by omega) (by omega) (by omega)]
          have h1:=ha (k - 1) (k - (q+1)+k - 1 - (k - 1)) (by omega) (by omega) (by omega) (by omega)
          have h2:=ha (k - (q+1)+k - 1 - (k - 1)) (k - 1) (by omega) (by omega) (by omega) (by omega)
          exact O.trans _ _ _ (O.asym _ _ c) h2
       obtain ⟨a1,a2,a3,a4,a5,a6,a7⟩:=desc_ok f (kas_rev p (n - (q+1)) n) (n+1) 0 (by omega) (by omega) d2 (one _)
       exact ⟨a1.trans hs,a2.trans (rev_perm ..),by omega,by omega,a5,a6,a7⟩
     · rw [if_neg q0]
       have d2:Down lt p (n+1):=fun k k1 k2=>by
        by_cases hk:k<n
        · exact hd k k1 hk
        · have ek:k=n:=by omega
          subst ek
          exact O.asym _ _ c
       obtain ⟨a1,a2,a3,a4,a5,a6,a7⟩:=desc_ok f p (n+1) 0 (by omega) (by omega) d2 (one _)
       exact ⟨a1,a2,by omega,by omega,a5,a6,a7⟩
   | false =>
     rw [er,c,if_neg Bool.false_ne_true]
     have er2:run lt (KasT.ask (e p (n - 1)) (e p n) fun d=>if d=true then KasT.ret (p,n,q) else kas_desc f p (n+1) (q+1))=run lt (if lt (e p (n - 1)) (e p n)=true then KasT.ret (p,n,q) else kas_desc f p (n+1) (q+1)):=rfl
     rw [er2]
     cases c2:lt (e p (n - 1)) (e p n) with
     | true =>
       rw [if_pos rfl]
       exact ⟨rfl,Array.Perm.refl _,Nat.le_refl _,Nat.le_add_right _ _,hq,hd,ha⟩
     | false =>
       rw [if_neg Bool.false_ne_true]
       have d2:Down lt p (n+1):=fun k k1 k2=>by
        by_cases hk:k<n
        · exact hd k k1 hk
        · have ek:k=n:=by omega
          subst ek
          exact c2
       have al2:Alike lt p (n+1 - (q+1+1)) (n+1):=fun i j i1 i2 j1 j2=>by
        by_cases hi:i<n
        · by_cases hj:j<n
          · exact ha i j (by omega) hi (by omega) hj
          · have ej:j=n:=by omega
            subst ej
            exact O.trans _ _ _ c2 (ha i (j - 1) (by omega) hi (by omega) (by omega))
        · have ei:i=n:=by omega
          subst ei
          by_cases hj:j<i
          · exact O.trans _ _ _ (ha (i - 1) j (by omega) (by omega) (by omega) hj) c
          · have ej:j=i:=by omega
            subst ej;exact irr O _
       obtain ⟨a1,a2,a3,a4,a5,a6,a7⟩:=desc_ok f p (n+1) (q+1) (by omega) (by omega) d2 al2
       exact ⟨a1,a2,by omega,by omega,a5,a6,a7⟩
theorem Down.up {p:Array Nat} {n:Nat} (hn:n≤p.size) (h:Down lt p n):Up lt (kas_rev p 0 n) n:=fun k k1 k2=>by
 rw [e_rev_in (k:=k) hn (Nat.zero_le _) k2,e_rev_in (k:=k - 1) hn (Nat.zero_le _) (by omega)]
 have:=h (0+n - 1 - (k - 1)) (by omega) (by omega)
 rw [show 0+n - 1 - (k - 1) - 1=0+n - 1 - k by omega] at this
 exact this
theorem tail3_ok {p:Array Nat} {n nrem:Nat} (h1:1≤n) (hn:n≤nrem) (hz:nrem≤p.size) (h:Down lt p n) :
 (run lt (kas_tail3 n nrem p)).2.size=p.size∧(run lt (kas_tail3 n nrem p)).2.Perm p∧1≤(run lt (kas_tail3 n nrem p)).1∧(run lt (kas_tail3 n nrem p)).1≤nrem∧Up lt (run lt (kas_tail3 n nrem p)).2 (run lt (kas_tail3 n nrem p)).1:=by
 have er:run lt (kas_tail3 n nrem p)=(run lt (kas_asc (kas_rev p 0 n) (nrem - n) n),kas_rev p 0 n):=by
  unfold kas_tail3
  rw [run_bind];rfl
 rw [er]
 obtain ⟨a1,a2,a3,_⟩:=asc_ok O (p:=kas_rev p 0 n) (nrem - n) n h1 (Down.up O (by omega) h)
 exact ⟨rev_size ..,rev_perm ..,by show 1≤run lt _;omega,by show run lt _≤nrem;omega,a3⟩
theorem descPart_ok {p:Array Nat} {n nrem:Nat} (h1:1≤n) (hn:n+1≤nrem) (hz:nrem≤p.size) (h:Down lt p (n+1)) :
 (run lt (kas_descPart n nrem p)).2.size=p.size∧(run lt (kas_descPart n nrem p)).2.Perm p∧1≤(run lt (kas_descPart n nrem p)).1∧(run lt (kas_descPart n nrem p)).1≤nrem∧Up lt (run lt (kas_descPart n nrem p)).2 (run lt (kas_descPart n nrem p)).1:=by
 have one:Alike lt p (n+1 - (0+1)) (n+1):=fun i j i1 i2 j1 j2=>by
  have e1:i=n:=by omega
  have e2:j=n:=by omega
  subst e1 e2;exact irr O _
 obtain ⟨a1,a2,a3,a4,a5,a6,a7⟩:=desc_ok O (nrem - (n+1)) p (n+1) 0 (by omega) (by omega) h one
 have er:run lt (kas_descPart n nrem p)=run lt (if (run lt (kas_desc (nrem - (n+1)) p (n+1) 0)).2.2 > 0 then kas_tail3 (run lt (kas_desc (nrem - (n+1)) p (n+1) 0)).2.1 nrem (kas_rev (run lt (kas_desc (nrem - (n+1)) p (n+1) 0)).1 ((run lt (kas_desc (nrem - (n+1)) p (n+1) 0)).2.1 - ((run lt (kas_desc (nrem - (n+1)) p (n+1) 0)).2.2+1)) (run lt (kas_desc (nrem - (n+1)) p (n+1) 0)).2.1)
  else kas_tail3 (run lt (kas_desc (nrem - (n+1)) p (n+1) 0)).2.1 nrem (run lt (kas_desc (nrem - (n+1)) p (n+1) 0)).1):=by
  unfold kas_descPart
  rw [run_bind]
 rw [er]
 generalize run lt (kas_desc (nrem - (n+1)) p (n+1) 0)=r at *
 split
 · have hs:=rev_size r.1 (r.2.1 - (r.2.2+1)) r.2.1
   obtain ⟨b1,b2,b3,b4,b5⟩:=tail3_ok O (p:=kas_rev r.1 (r.2.1 - (r.2.2+1)) r.2.1) (n:=r.2.1) (nrem:=nrem) (by omega) (by omega) (by rw [hs,a1];exact hz) (Down.rev O (by omega) (Nat.le_refl _) a6 a7)
   exact ⟨b1.trans (hs.trans a1),b2.trans ((rev_perm ..).trans a2),b3,b4,b5⟩
 · obtain ⟨b1,b2,b3,b4,b5⟩:=tail3_ok O (p:=r.1) (n:=r.2.1) (nrem:=nrem) (by omega) (by omega) (by rw [a1];exact hz) a6
   exact ⟨b1.trans a1,b2.trans a2,b3,b4,b5⟩
theorem count_ok {p:Array Nat} {nrem:Nat} (h2:1≤nrem) (hz:nrem≤p.size) :
 (run lt (kas_count nrem p)).2.size=p.size∧(run lt (kas_count nrem p)).2.Perm p∧1≤(run lt (kas_count nrem p)).1∧(run lt (kas_count nrem p)).1≤nrem∧Up lt (run lt (kas_count nrem p)).2 (run lt (kas_count nrem p)).1:=by
 obtain ⟨a1,a2,a3,a4⟩:=asc_ok O (p:=p) (nrem - 1) 1 (Nat.le_refl _) (fun k k1 k2=>by omega)
 have er:run lt (kas_count nrem p)=run lt (if (run lt (kas_asc p (nrem - 1) 1) == nrem)=true then KasT.ret (run lt (kas_asc p (nrem - 1) 1),p) else if run lt (kas_asc p (nrem - 1) 1) > 1 then
  .ask (e p 0) (e p (run lt (kas_asc p (nrem - 1) 1) - 1)) fun c=>if c=true then .ret (run lt (kas_asc p (nrem - 1) 1),p) else kas_descPart (run lt (kas_asc p (nrem - 1) 1)) nrem (kas_rev p 0 (run lt (kas_asc p (nrem - 1) 1)))
  else kas_descPart (run lt (kas_asc p (nrem - 1) 1)) nrem p):=by
  unfold kas_count
  rw [run_bind]
  rfl
 rw [er]
 generalize run lt (kas_asc p (nrem - 1) 1)=n at *
 split
 · exact ⟨rfl,Array.Perm.refl _,a1,by show n≤nrem;omega,a3⟩
 · rename_i hne
   have hne':n≠nrem:=fun z=>hne (by simp [z])
   have hlt:=a4 (by omega)
   split
   · rename_i hn1
     have er2:run lt (KasT.ask (e p 0) (e p (n - 1)) fun c=>if c=true then KasT.ret (n,p) else kas_descPart n nrem (kas_rev p 0 n))=run lt (if lt (e p 0) (e p (n - 1))=true then KasT.ret (n,p) else kas_descPart n nrem (kas_rev p 0 n)):=rfl
     rw [er2]
     cases c:lt (e p 0) (e p (n - 1)) with
     | true =>
       rw [if_pos rfl]
       exact ⟨rfl,Array.Perm.refl _,a1,by show n≤nrem;omega,a3⟩
     | false =>
       rw [if_neg Bool.false_ne_true]
       have al:Alike lt p 0 n:=fun i j _ i2 _ j2=>by
        have h1:=Up.le O a3 (Nat.zero_le j) j2
        have h2:=Up.le O a3 (show i≤n - 1 by omega) (by omega)
        have h3:=Up.le O a3 (show j≤n - 1 by omega) (by omega)
        have h4:=Up.le O a3 (Nat.zero_le i) i2
        exact O.trans _ _ _ (O.trans _ _ _ h3 c) h4
       have hs:=rev_size p 0 n
       have dn:Down lt p n:=fun k k1 k2=>al _ _ (Nat.zero_le _) (by omega) (Nat.zero_le _) k2
       have d1:Down lt (kas_rev p 0 n) (n+1):=fun k k1 k2=>by
        by_cases hk:k<n
        · exact Down.rev O (by omega) (Nat.le_refl _) dn al k k1 hk
        · have ek:k=n:=by omega
          subst ek
          rw [e_rev_out (k:=k) (by omega) (Or.inr (Nat.le_refl _)),e_rev_in (k:=k - 1) (by omega) (Nat.zero_le _) (by omega)]
          have h1:=al (0+k - 1 - (k - 1)) (k - 1) (Nat.zero_le _) (by omega) (Nat.zero_le _) (by omega)
          exact O.trans _ _ _ (O.asym _ _ hlt) h1
       obtain ⟨b1,b2,b3,b4,b5⟩:=descPart_ok O (p:=kas_rev p 0 n) (n:=n) (nrem:=nrem) a1 (by omega) (by rw [hs];exact hz) d1
       exact ⟨b1.trans hs,b2.trans (rev_perm ..),b3,b4,b5⟩
   · have en:n=1:=by omega
     subst en
     have d1:Down lt p 2:=fun k k1 k2=>by
      have ek:k=1:=by omega
      subst ek
      exact O.asym _ _ hlt
     exact descPart_ok O (p:=p) (n:=1) (nrem:=nrem) (Nat.le_refl _) (by omega) hz d1
theorem place_ok {p:Array Nat} {k:Nat} (h:Up lt p k):∀ (f l r:Nat),r≤l+f→l≤r→r≤k→(∀ i,i<l→lt (e p k) (e p i)=false)→(∀ i,r≤i→i<k→lt (e p k) (e p i)=true) →
 run lt (kas_place p k f l r)≤k∧(∀ i,i<run lt (kas_place p k f l r)→lt (e p k) (e p i)=false)∧(∀ i,run lt (kas_place p k f l r)≤i→i<k→lt (e p k) (e p i)=true)
 | 0,l,r,h1,h2,h3,h4,h5=>by
   have:r=l:=by omega
   subst this
   exact ⟨h3,h4,h5⟩
 | f+1,l,r,h1,h2,h3,h4,h5=>by
   have er:run lt (kas_place p k (f+1) l r)=run lt (if l ≥ r then KasT.ret l else KasT.ask (e p k) (e p ((l+r) / 2)) fun c=>if c=true then kas_place p k f l ((l+r) / 2) else kas_place p k f ((l+r) / 2+1) r):=rfl
   rw [er]
   by_cases hlr:l ≥ r
   · rw [if_pos hlr]
     have:r=l:=by omega
     subst this
     exact ⟨h3,h4,h5⟩
   · rw [if_neg hlr]
     have er2:run lt (KasT.ask (e p k) (e p ((l+r) / 2)) fun c=>if c=true then kas_place p k f l ((l+r) / 2) else kas_place p k f ((l+r) / 2+1) r)=run lt (if lt (e p k) (e p ((l+r) / 2))=true then kas_place p k f l ((l+r) / 2) else kas_place p k f ((l+r) / 2+1) r):=rfl
     rw [er2]
     cases c:lt (e p k) (e p ((l+r) / 2)) with
     | true =>
       rw [if_pos rfl]
       refine place_ok h f l ((l+r) / 2) (by omega) (by omega) (by omega) h4 fun i i1 i2=>?_
       cases d:lt (e p k) (e p i) with
       | true=>rfl
       | false =>
         have:=O.trans _ _ _ (Up.le O h i1 i2) d
         rw [c] at this
         cases this
     | false =>
       rw [if_neg Bool.false_ne_true]
       refine place_ok h f ((l+r) / 2+1) r (by omega) (by omega) h3 (fun i i1=>?_) h5
       exact O.trans _ _ _ (Up.le O h (show i≤(l+r) / 2 by omega) (by omega)) c
theorem bin_ok:∀ (f:Nat) (p:Array Nat) (k:Nat),k+f≤p.size→1≤k→Up lt p k→(run lt (kas_bin f p k)).Perm p∧Up lt (run lt (kas_bin f p k)) (k+f)
 | 0,p,k,_,_,h=>⟨Array.Perm.refl _,h⟩
 | f+1,p,k,hz,h1,h=>by
   have er:run lt (kas_bin (f+1) p k)=run lt (kas_bin f (bubble p k (k - run lt (kas_place p k k 0 k))) (k+1)):=by
    show run lt ((kas_place p k k 0 k).bind fun l=>kas_bin f (bubble p k (k - l)) (k+1))=_
    rw [run_bind]
   rw [er]
   obtain ⟨a1,a2,a3⟩:=place_ok O h k 0 k (by omega) (Nat.zero_le _) (Nat.le_refl _) (fun i hi=>absurd hi (Nat.not_lt_zero _)) (fun i h1 h2=>by omega)
   generalize run lt (kas_place p k k 0 k)=l at *
   have hk:k<p.size:=by omega
   have up:Up lt (bubble p k (k - l)) (k+1):=fun j j1 j2=>by
    rw [e_bub hk a1,e_bub hk a1]
    by_cases c1:j=l
    · rw [if_pos c1,if_neg (by omega),if_neg (by omega)]
      exact a2 _ (by omega)
    · rw [if_neg c1]
      by_cases c2:j - 1=l
      · rw [if_pos c2,if_pos (by omega)]
        exact O.asym _ _ (a3 _ (by omega) (by omega))
      · rw [if_neg c2]
        by_cases c3:l<j - 1∧j - 1≤k
        · rw [if_pos c3,if_pos (by omega)]
          exact h (j - 1) (by omega) (by omega)
        · rw [if_neg c3,if_neg (by omega)]
          exact h j j1 (by omega)
   obtain ⟨b1,b2⟩:=bin_ok f (bubble p k (k - l)) (k+1) (by rw [bubble_size];omega) (by omega) up
   refine ⟨b1.trans (bubble_perm ..),?_⟩
   rw [show k+(f+1)=k+1+f by omega]
   exact b2
theorem sort_ok {n:Nat} (hn:1≤n):(run lt (kas_sort n)).toList.Perm (List.range n)∧Up lt (run lt (kas_sort n)) n:=by
 have hz:n≤(List.toArray (List.range n)).size:=by simp
 obtain ⟨a1,a2,a3,a4,a5⟩:=count_ok O (p:=List.toArray (List.range n)) hn hz
 have er:run lt (kas_sort n)=run lt (if (run lt (kas_count n (List.toArray (List.range n)))).1<n then kas_bin (n - max (run lt (kas_count n (List.toArray (List.range n)))).1 1) (run lt (kas_count n (List.toArray (List.range n)))).2 (max (run lt (kas_count n (List.toArray (List.range n)))).1 1) else .ret (run lt (kas_count n (List.toArray (List.range n)))).2):=by
  unfold kas_sort
  rw [run_bind]
 rw [er]
 generalize run lt (kas_count n (List.toArray (List.range n)))=r at *
 have hm:max r.1 1=r.1:=by omega
 rw [hm]
 have hsz:r.2.size=n:=by rw [a1];simp
 split
 · obtain ⟨b1,b2⟩:=bin_ok O (n - r.1) r.2 r.1 (by omega) a3 a5
   refine ⟨(b1.trans a2).toList,?_⟩
   rw [show r.1+(n - r.1)=n by omega] at b2
   exact b2
 · have e1:r.1=n:=by omega
   refine ⟨a2.toList,?_⟩
   rw [e1] at a5
   exact a5
end
end Srt
namespace Srt
open PySem PySem.W PyProof.Rows
noncomputable def Asks {α:Type} (n:Nat):KasT α→(α→Prop)→Prop
 | .ret a,Q=>Q a
 | .ask i j k,Q=>i<n∧j<n∧∀ b,Asks n (k b) Q
theorem Asks.bind {α β:Type} {n:Nat} {f:α→KasT β} {Q:β→Prop}:∀ {t:KasT α},Asks n t (fun a=>Asks n (f a) Q)→Asks n (t.bind f) Q
 | .ret _,h=>h
 | .ask _ _ _,h=>⟨h.1,h.2.1,fun b=>Asks.bind (h.2.2 b)⟩
theorem run_wp' {α:Type} {n:Nat} (lt:Nat→Nat→Bool) {cmp:Nat→Nat→(Bool→Shared→Prop)→Shared→Prop} {P:Shared→Prop} (h:∀ i j (C:Bool→Shared→Prop) s,i<n→j<n→P s→(∀ s',P s'→C (lt i j) s')→cmp i j C s)
 {Q:α→Shared→Prop} {T:α→Prop}:∀ (t:KasT α) (s:Shared),Asks n t T→P s→(∀ s',P s'→Q (run lt t) s')→t.kasWp cmp Q s
 | .ret a,s,_,p,q=>q s p
 | .ask i j k,s,a,p,q=>h i j _ s a.1 a.2.1 p fun s' p'=>run_wp' lt h (k (lt i j)) s' (a.2.2 _) p' q
noncomputable def AllLt (n:Nat) (p:Array Nat):Prop:=∀ k,p.getD k 0<n
theorem AllLt.perm {n:Nat} {p q:Array Nat} (hn:0<n) (h:AllLt n p) (pm:q.Perm p):AllLt n q:=fun k=>by
 by_cases hk:k<q.size
 · have e1:q.getD k 0=q[k]:=by simp [Array.getD,hk]
   rw [e1]
   have hm:q[k]∈q:=Array.getElem_mem hk
   have hm2:q[k]∈p:=by
    have:=pm.toList.mem_iff (a:=q[k])
    simpa using this.mp (by simpa using hm)
   obtain ⟨j,hj,e2⟩:=Array.mem_iff_getElem.mp hm2
   have:=h j
   have e3:p.getD j 0=p[j]:=by simp [Array.getD,hj]
   rw [e3,e2] at this
   exact this
 · have e1:q.getD k 0=0:=by simp [Array.getD,hk]
   rw [e1];exact hn
section
variable {n:Nat} (hn:0<n)
include hn
theorem asc_asks {p:Array Nat} (h:AllLt n p):∀ f m,Asks n (kas_asc p f m) (fun _=>True)
 | 0,_=>trivial
 | f+1,m=>⟨h _,h _,fun b=>by
     cases b with
     | true=>exact trivial
     | false=>exact asc_asks h f (m+1)⟩
theorem desc_asks:∀ (f:Nat) (p:Array Nat) (m q:Nat),AllLt n p→Asks n (kas_desc f p m q) (fun r=>AllLt n r.1)
 | 0,p,_,_,h=>h
 | f+1,p,m,q,h=>⟨h _,h _,fun b=>by
     cases b with
     | true =>
       show Asks n (if true=true then (if q > 0 then kas_desc f (kas_rev p (m - (q+1)) m) (m+1) 0 else kas_desc f p (m+1) 0) else _) _
       rw [if_pos rfl]
       split
       · exact desc_asks f _ _ _ (h.perm hn (rev_perm ..))
       · exact desc_asks f _ _ _ h
     | false =>
       show Asks n (if false=true then _ else KasT.ask (p.getD (m - 1) 0) (p.getD m 0) fun d=>if d=true then KasT.ret (p,m,q) else kas_desc f p (m+1) (q+1)) _
       rw [if_neg Bool.false_ne_true]
       refine ⟨h _,h _,fun d=>?_⟩
       cases d with
       | true=>exact h
       | false=>exact desc_asks f _ _ _ h⟩
theorem Asks.mono {α:Type} {Q Q':α→Prop} (hq:∀ a,Q a→Q' a):∀ {t:KasT α},Asks n t Q→Asks n t Q'
 | .ret a,h=>hq a h
 | .ask _ _ _,h=>⟨h.1,h.2.1,fun b=>Asks.mono hq (h.2.2 b)⟩
theorem tail3_asks {p:Array Nat} (h:AllLt n p) (m r:Nat):Asks n (kas_tail3 m r p) (fun x=>AllLt n x.2):=by
 have h':=h.perm hn (rev_perm p 0 m)
 exact Asks.bind (Asks.mono hn (fun _ _=>h') (asc_asks hn h' _ _))
theorem descPart_asks {p:Array Nat} (h:AllLt n p) (m r:Nat):Asks n (kas_descPart m r p) (fun x=>AllLt n x.2):=by
 refine Asks.bind (Asks.mono hn (fun x hx=>?_) (desc_asks hn _ _ _ _ h))
 split
 · exact tail3_asks hn (hx.perm hn (rev_perm ..)) _ _
 · exact tail3_asks hn hx _ _
theorem count_asks {p:Array Nat} (h:AllLt n p) (r:Nat):Asks n (kas_count r p) (fun x=>AllLt n x.2):=by
 refine Asks.bind (Asks.mono hn (fun m _=>?_) (asc_asks hn h _ _))
 split
 · exact h
 · split
   · refine ⟨h _,h _,fun b=>?_⟩
     cases b with
     | true=>exact h
     | false=>exact descPart_asks hn (h.perm hn (rev_perm ..)) _ _
   · exact descPart_asks hn h _ _
theorem place_asks {p:Array Nat} (h:AllLt n p) (k:Nat):∀ f l r,Asks n (kas_place p k f l r) (fun _=>True)
 | 0,_,_=>trivial
 | f+1,l,r=>by
   show Asks n (if l ≥ r then KasT.ret l else KasT.ask (p.getD k 0) (p.getD ((l+r) / 2) 0) fun c=>if c=true then kas_place p k f l ((l+r) / 2) else kas_place p k f ((l+r) / 2+1) r) _
   split
   · exact trivial
   · refine ⟨h _,h _,fun b=>?_⟩
     cases b with
     | true=>exact place_asks h k f _ _
     | false=>exact place_asks h k f _ _
theorem bin_asks:∀ (f:Nat) (p:Array Nat) (k:Nat),AllLt n p→Asks n (kas_bin f p k) (fun _=>True)
 | 0,_,_,_=>trivial
 | f+1,p,k,h=>Asks.bind (Asks.mono hn (fun l _=>bin_asks f _ _ (h.perm hn (bubble_perm ..))) (place_asks hn h k _ _ _))
theorem sort_asks:Asks n (kas_sort n) (fun _=>True):=by
 have h0:AllLt n (List.toArray (List.range n)):=fun k=>by
  by_cases hk:k<n
  · simp [Array.getD,hk]
  · simp [Array.getD,hk];exact hn
 refine Asks.bind (Asks.mono hn (fun r hr=>?_) (count_asks hn h0 n))
 split
 · exact bin_asks hn _ _ _ hr
 · exact trivial
end
end Srt
namespace L2
open PySem PySem.Spec PyProof.Rows PySem.W
section
variable {prog:Program} {w:World} {A:Around} {E:Value→Shared→Prop} {s:Shared}
theorem zip_snd (vs:List Value):(vs.toArray.zip vs.toArray).map (·.2)=vs.toArray:=by
 apply Array.toList_inj.mp
 simp [List.map_snd_zip]
set_option maxHeartbeats 2000000 in
theorem sorted_small {l:Addr} {vs:List Value} {Q:Value→Shared→Prop} (hl:s.heap.IsList l vs.toArray) (h2:vs.length<2)
 (h:∀ (h':Heap) (c:Nat),(∀ b o,s.heap.get? b=some o→h'.get? b=some o)→h'.get? (s.heap.objs.size+1)=some (seqObj "list" vs.toArray c)→Q (.ref (s.heap.objs.size+1)) { s with heap:=h' }) :
 wpAny (model prog w) A (call (.builtin "sorted") [.ref l]) Q E s:=by
 refine Calls.call_function_entry kind_sorted plain_sorted entry_sorted (args_sorted1 _) ?_
 unfold Builtin.«sorted»
 refine wpAny_bind (m:=checkCount "sorted" 1 1 _) (wpAny_pure ?_)
 refine wpAny_bind (collect_list hl ?_ (by rw [sizeLine_eq];omega))
 refine wpAny_bind (wpAny_newList ?_ (by rw [sizeLine_eq];omega))
 have hsz:((s.heap.push (seqObj "list" #[] 0)).update s.heap.objs.size (Obj.mapSeq (· ++ vs.toArray))).objs.size=s.heap.objs.size+1:=by
  rw [Heap.size_update,size_push']
 have hoL:(((s.heap.push (seqObj "list" #[] 0)).update s.heap.objs.size (Obj.mapSeq (· ++ vs.toArray))).push (seqObj "list" vs.toArray 0)).get? (s.heap.objs.size+1)=some (seqObj "list" vs.toArray 0):=by
  rw [← hsz];exact Heap.get?_push_size _ rfl
 have keep:∀ b o,s.heap.get? b=some o→(((s.heap.push (seqObj "list" #[] 0)).update s.heap.objs.size (Obj.mapSeq (· ++ vs.toArray))).push (seqObj "list" vs.toArray 0)).get? b=some o:=fun b o q=>by
  have hlt:b<s.heap.objs.size:=Heap.lt_size q
  rw [Heap.get?_push_ne _ _ _ (by rw [hsz];exact Nat.ne_of_lt (Nat.lt_succ_of_lt hlt)),Heap.get?_update_ne _ _ _ _ (Nat.ne_of_lt hlt),Heap.get?_push_ne _ _ _ (Nat.ne_of_lt hlt)]
  exact q
 show wpAny _ _ _ _ _ { s with heap:=((s.heap.push (seqObj "list" #[] 0)).update s.heap.objs.size (Obj.mapSeq (· ++ vs.toArray))).push (seqObj "list" vs.toArray 0) }
 rw [hsz]
 generalize ((s.heap.push (seqObj "list" #[] 0)).update s.heap.objs.size (Obj.mapSeq (· ++ vs.toArray))).push (seqObj "list" vs.toArray 0)=g at *
 generalize hD:s.heap.objs.size+1=D at *
 have hDs:∀ b o,s.heap.get? b=some o→b≠D:=fun b o q=>by rw [← hD];exact Nat.ne_of_lt (Nat.lt_succ_of_lt (Heap.lt_size q))
 refine wpAny_bind (wpAny_holding (wpAny_call_entry slot_list_sort ⟨_,hoL,rfl⟩ entry_list_sort ?body (args_list_sort _)))
 case body =>
  obtain ⟨e1,ho1⟩:∃ e1,(g.update D (Obj.mapSeq fun _=>(#[]:Array Value))).get? D=some (seqObj "list" #[] e1):=⟨_,get?_update_seq hoL fun _=>#[]⟩
  rw [list_sort_plain]
  refine wpAny_bind (listItems_at hoL rfl ?_)
  refine wpAny_bind (listUpdate_at hoL rfl ?_ (by rw [List.size_toArray,sizeLine_eq];omega) (Nat.zero_le _))
  refine wpAny_bind (seqEpoch_at ho1 rfl ?_)
  refine wpAny_bind (wpAny_newTuple ?_ (by show vs.length≤_;rw [sizeLine_eq];omega))
  refine wpAny_bind (wpAny_newList ?_ (Nat.zero_le _))
  refine wpAny_holding ?_
  show wpAny (model prog w) _ _ _ E { s with heap:=((g.update D (Obj.mapSeq fun _=>(#[]:Array Value))).push (seqObj "tuple" vs.toArray 0)).push (seqObj "list" #[] 0) }
  dsimp only
  have hn2:vs.toArray.size<2:=by rw [List.size_toArray];exact h2
  rw [if_pos hn2,if_pos hn2]
  refine wpAny_bind (wpAny_pure ?_)
  refine wpAny_bind (wpAny_pure ?_)
  dsimp only
  have ho6:(((g.update D (Obj.mapSeq fun _=>(#[]:Array Value))).push (seqObj "tuple" vs.toArray 0)).push (seqObj "list" #[] 0)).get? D=some (seqObj "list" #[] e1):=Heap.get?_push_of_some _ (Heap.get?_push_of_some _ ho1)
  have harr:(arrOf (SortSt.mk' general' (vs.toArray.zip vs.toArray) #[] 7 none)).map (·.2)=vs.toArray:=by
   exact zip_snd vs
  rw [harr]
  refine wpAny_bind (seqEpoch_at ho6 rfl ?_)
  refine wpAny_bind (listUpdate_at ho6 rfl ?_ (Nat.zero_le _) (by show vs.toArray.size≤_;rw [List.size_toArray,sizeLine_eq];omega))
  simp only [bne_self_eq_false,Bool.false_eq_true,if_false]
  obtain ⟨c2,hc2⟩:∃ c2,((((g.update D (Obj.mapSeq fun _=>(#[]:Array Value))).push (seqObj "tuple" vs.toArray 0)).push (seqObj "list" #[] 0)).update D (Obj.mapSeq fun _=>vs.toArray)).get? D=some (seqObj "list" vs.toArray c2):=⟨_,get?_update_seq ho6 fun _=>vs.toArray⟩
  refine wpAny_pure ⟨_,rfl,wpAny_pure ⟨_,rfl,?_⟩⟩
  refine h _ c2 (fun b o q=>?_) hc2
  have hb:=hDs b o q
  exact (Heap.get?_update_other _ _ (Ne.symm hb)).trans (Heap.get?_push_of_some _ (Heap.get?_push_of_some _ ((Heap.get?_update_other _ _ (Ne.symm hb)).trans (keep b o q))))
end
end L2
namespace L2
open PySem PySem.Spec PyProof.Rows PySem.W
theorem ns_inj {h:Heap} {a:Addr} {m m':Str→Option Value} (x:h.Ns a m) (y:h.Ns a m'):m=m':=by
 obtain ⟨o,es,ep,ho,hd,_,hm⟩:=x
 obtain ⟨o',es',ep',ho',hd',_,hm'⟩:=y
 rw [ho] at ho';cases ho'
 rw [hd] at hd';cases hd'
 funext z
 rw [← hm z,← hm' z]
theorem ObjOk.there {P:Program} {w:World} {H:Hp} {h:Heap} {a:Addr} {o:HO} (x:ObjOk P w H h a o):∃ u,h.get? a=some u:=by
 cases o with
 | lst xs=>obtain ⟨_,_,_,_,e⟩:=x;exact ⟨_,e⟩
 | tup xs=>obtain ⟨_,_,_,ob,e,_⟩:=x;exact ⟨_,e⟩
 | dK kvs=>obtain ⟨_,_,_,_,o,_,_,e,_⟩:=x;exact ⟨_,e⟩
 | dT kvs=>obtain ⟨_,_,_,_,o,_,_,e,_⟩:=x;exact ⟨_,e⟩
 | set S n=>obtain ⟨o,_,_,_,e,_⟩:=x;exact ⟨_,e⟩
 | ins C dx fs=>obtain ⟨_,_,_,e,_⟩:=x;exact ⟨_,e⟩
 | own y=>obtain ⟨_,e⟩:=x;exact ⟨_,e⟩
 | xd fs=>obtain ⟨_,⟨_,_,_,e,_⟩,_⟩:=x;exact ⟨_,e⟩
 | rng lo hi=>obtain ⟨_,_,_,e⟩:=x;exact ⟨_,e⟩
 | frz ob u=>obtain ⟨e,_⟩:=x;exact ⟨_,e⟩
 | tbl ps=>exact ⟨_,(show h.get? a=some _ from x)⟩
 | met f y=>exact ⟨_,(show h.get? a=some _ from x)⟩
 | ext φ=>obtain ⟨_,⟨_,e⟩,_⟩:=x;exact ⟨_,e⟩
theorem map_small:∀ (xs:List V),xs.length<2→(List.range xs.length).map (fun i=>xs.getD i V.non)=xs
 | [],_=>rfl
 | [_],_=>rfl
 | _ :: _ :: _,h=>by simp at h;omega
section
variable {X:Cx} {pins:List (Addr×Obj)} {σ:St} {H:Hp} {s:Shared}
theorem Inv.byNews {h':Heap} {m:Str→Option Value} {D:Addr} {ws:List V} {out:List Value} {c:Nat} {t':Nat} (I:Inv X pins σ H s) (hn:s.heap.Ns X.env.locals m) (F:Fr X.base X.env.locals h' m)
 (k:∀ b o,b≠X.env.locals→s.heap.get? b=some o→h'.get? b=some o) (hD:H D=none) (hDs:∀ o,s.heap.get? D≠some o) (ho:h'.get? D=some { cls:=.type "list",data:=.seq out.toArray c }) (r:Vals ws out) (hz:ws.length≤sizeLine) :
 Inv X pins σ (upd H D (.lst ws)) { s with heap:=h',toks:=t' }:=by
 have nD:∀ b o,s.heap.get? b=some o→b≠D:=fun b o e z=>by subst z;exact hDs o e
 have nL:∀ b u,H b=some u→b≠X.env.locals:=fun b u e z=>by rw [z,I.free] at e;cases e
 refine I.step (g':=s.gens) (d':=s.drawn) (ch:=[]) (fun _ z=>nomatch z) (fun b o hL _ _ e _=>k b o hL e) (fun b o hL _ _ e _=>⟨o.slots,k b o hL e⟩) (fun b o _ e n=>by rw [upd_ne (nD b o e)];exact n) (fun b o _ e=>?_)
  (fun b xs e=>by rw [upd_ne (ne_of_none e hD)];exact e) (fun b o u e=>by rw [upd_ne (ne_of_none e hD)];exact e) (fun b ps e=>⟨#[],by rw [upd_ne (ne_of_none e hD),e];simp⟩) (fun m' hm=>?_) (fun b u e=>?_) I.bare
 · by_cases hb:b=X.env.locals
   · obtain ⟨o',_,_,e',_⟩:=F.ns
     exact ⟨o',by rw [hb];exact e'⟩
   · exact ⟨o,k b o hb e⟩
 · rw [← ns_inj hn hm];exact F.ns
 · by_cases hb:b=D
   · subst hb
     rw [upd_same] at e;cases e
     exact ⟨hz,out,c,r,ho⟩
   · rw [upd_ne hb] at e
     refine (I.hok b u e).stay (fun x v hx q=>k x v ?_ q) (fun x q=>by rw [upd_ne (ne_of_none q hD)];exact q) fun x xs q=>by rw [upd_ne (ne_of_none q hD)];exact q
     rcases hx with z | z
     · rw [z];exact nL b u e
     · exact nL x _ z
theorem getD_e (p:Array Nat) (j:Nat):p.toList.getD j 0=Srt.e p j:=by
 unfold Srt.e
 simp [List.getD_eq_getElem?_getD]
set_option maxHeartbeats 2000000 in
theorem sorted_ok {l:Addr} {xs:List V} {Q:VK} (I:Inv X pins σ H s) (hl:SqL X.K H l xs) (h64:xs.length<64) (lt:Nat→Nat→Bool) (O:Srt.Ord lt)
 (hkind:∀ (vs:List Value) (s':Shared),Vals xs vs→2≤vs.length→(∀ b o,b≠X.env.locals→s.heap.get? b=some o→s'.heap.get? b=some o)→∃ κ:SortKind,(∀ (R:SortKind→Shared→Prop),R κ s'→wpAny (model X.prog X.w) X.A.in1.in1 (keyKind' vs.toArray) R (fun _ _=>False) s') ∧
  ∀ (i j:Nat) (C:Bool→Shared→Prop) (s2:Shared),i<vs.length→j<vs.length→(∀ b o,b≠X.env.locals→s.heap.get? b=some o→s2.heap.get? b=some o)→C (lt i j) s2→kas_ask X.prog X.w X.A.in1.in1 κ vs i j C s2)
 (q:∀ (p:List Nat) (D:Addr),p.Perm (List.range xs.length)→(∀ k,1≤k→k<xs.length→lt (p.getD k 0) (p.getD (k - 1) 0)=false)→H D=none→Q (.ref D) (upd H D (.lst (p.map fun i=>xs.getD i .non)))) :
 wpAny (model X.prog X.w) X.A (call (.builtin "sorted") [.ref l]) (EP X pins σ Q) X.xe s:=by
 obtain ⟨its,rv,pl,hz⟩:=id (I.list hl)
 have hlen:=rv.length
 by_cases h2:its.length<2
 · refine sorted_small pl.isList h2 fun h' c kp ho=>?_
   have hf:H (s.heap.objs.size+1)=none:=I.hok.fresh (Nat.le_succ _)
   have I':Inv X pins σ (upd H (s.heap.objs.size+1) (.lst xs)) { s with heap:=h' }:=I.laid (t':=s.toks) kp (Nat.le_succ _) ⟨hz,its,c,rv,ho⟩
   have hq:=q (List.range xs.length) (s.heap.objs.size+1) (List.Perm.refl _) (fun k k1 k2=>by omega) hf
   have ex:(List.range xs.length).map (fun i=>xs.getD i .non)=xs:=by
    exact map_small xs (by omega)
   rw [ex] at hq
   exact ⟨.ref (s.heap.objs.size+1),_,I',rfl,hq⟩
 · obtain ⟨m,hn,_⟩:=id I.loc
   have F:Fr X.base X.env.locals s.heap m:=⟨hn,I.bk,Nat.le_trans I.ok.bsz I.ok.above⟩
   have N:News X.base X.env.locals s.heap (allNews X.base s.heap X.env.locals):=news_all
   have keepN:∀ {h':Heap} {r:List (Addr×Obj)},Fr X.base X.env.locals h' m→News X.base X.env.locals h' r→(∀ p∈allNews X.base s.heap X.env.locals,p∈r)→∀ b o,b≠X.env.locals→s.heap.get? b=some o→h'.get? b=some o:=fun {h' r} F' N' sub b o hb e=>by
    cases z:X.base.get? b with
    | some u =>
      have:=I.bk b u z
      rw [e] at this;cases this
      exact F'.keep b _ z
    | none=>exact (N' (b,o) (sub _ (mem_allNews hb z e))).1
   have h2':2≤its.length:=by omega
   refine kat_sorted F N pl.isList h2' (by omega) fun D e1 h' F' N' hD=>?_
   have kp:=keepN F' N' (fun p hp=>List.mem_cons_of_mem _ hp)
   have nDD:=N' (D,seqObj "list" #[] e1) List.mem_cons_self
   have hDs:∀ o,s.heap.get? D≠some o:=fun o e=>Nat.lt_irrefl _ (hD (D,o) (mem_allNews nDD.2.1 nDD.2.2 e))
   have hHD:H D=none:=by
    cases z:H D with
    | none=>rfl
    | some u =>
      obtain ⟨o,e⟩:=ObjOk.there (I.hok D u z)
      exact absurd e (hDs o)
   obtain ⟨κ,hκ,hask⟩:=hkind its { s with heap:=h' } rv h2' kp
   refine hκ _ ?_
   have hn1:0<its.length:=by omega
   refine Srt.run_wp' (n:=its.length) (P:=fun s'=>s'={ s with heap:=h' }) lt (fun i j C s2 hi hj p2 hc=>by subst p2;exact hask i j C _ hi hj kp (hc _ rfl)) (kas_sort its.length) _ (Srt.sort_asks hn1) rfl fun s2 p2=>?_
   subst p2
   obtain ⟨pm,up⟩:=Srt.sort_ok O (n:=its.length) (by omega)
   generalize Srt.run lt (kas_sort its.length)=p at *
   refine KasFin.intro F' N' (.head fun x hx=>Nat.ne_of_lt (hD x hx)) fun h3 c F3 N3=>?_
   have kp3:=keepN F3 N3 (fun p hp=>List.mem_cons_of_mem _ hp)
   have hD3:=(N3 (D,listOf (List.toArray (p.toList.map fun i=>its.getD i Value.none)) c) List.mem_cons_self).1
   have rel:Vals (p.toList.map fun i=>xs.getD i .non) (p.toList.map fun i=>its.getD i Value.none):=by
    have key:∀ (l:List Nat),(∀ i∈l,i<its.length)→Vals (l.map fun i=>xs.getD i .non) (l.map fun i=>its.getD i Value.none):=by
     intro l
     induction l with
     | nil=>intro _;exact .nil
     | cons a l ih =>
       intro hl'
       have ha:=hl' a List.mem_cons_self
       have ha2:a<xs.length:=by omega
       obtain ⟨u,hu,ru⟩:=rv.get (i:=a) (x:=xs[a]) (by simp [ha2])
       have e1:xs.getD a .non=xs[a]:=by simp [ha2]
       have e2:its.getD a Value.none=u:=by rw [List.getD_eq_getElem?_getD,hu];rfl
       rw [List.map_cons,List.map_cons,e1,e2]
       exact .cons ru (ih fun i hi=>hl' i (List.mem_cons_of_mem _ hi))
    exact key _ fun i hi=>List.mem_range.mp (pm.mem_iff.mp hi)
   have hq:=q p.toList D (by rw [hlen];exact pm) (fun k k1 k2=>by
    have:=up k k1 (by omega)
    rw [getD_e,getD_e];exact this) hHD
   refine ⟨.ref D,_,I.byNews (t':=s.toks) hn F3 kp3 hHD hDs hD3 rel ?_,rfl,hq⟩
   rw [List.length_map,pm.length_eq,List.length_range,← hlen]
   exact hz
end
end L2
namespace L2
open PySem PySem.Spec PyProof.Rows PySem.W
theorem pairwise_of_adj {α:Type} {R:α→α→Prop} (tr:∀ a b c,R a b→R b c→R a c):∀ l:List α,(∀ k a b,l[k]?=some a→l[k+1]?=some b→R a b)→l.Pairwise R
 | [],_=>.nil
 | [a],_=>by simp
 | a :: b :: l,h=>by
   have ih:=pairwise_of_adj tr (b :: l) fun k x y hx hy=>h (k+1) x y (by simpa using hx) (by simpa using hy)
   refine List.pairwise_cons.mpr ⟨fun c hc=>?_,ih⟩
   rcases List.mem_cons.mp hc with rfl | hc
   · exact h 0 a c rfl rfl
   · exact tr a b c (h 0 a b rfl rfl) ((List.pairwise_cons.mp ih).1 c hc)
theorem range_getD {α:Type} (l:List α) (d:α):(List.range l.length).map (fun i=>l.getD i d)=l:=by
 refine List.ext_getElem (by simp) fun i h1 h2=>?_
 simp [h2]
theorem perm_getD {α:Type} {l:List α} {d:α} {p:List Nat} (h:p.Perm (List.range l.length)):(p.map fun i=>l.getD i d).Perm l:=by
 have:=h.map (fun i=>l.getD i d)
 rw [range_getD] at this
 exact this
theorem vals_getD {xs:List V} {vs:List Value} (r:Vals xs vs) {i:Nat} (h:i<vs.length):RelV (xs.getD i .non) (vs.getD i Value.none):=by
 have h':i<xs.length:=by rw [r.length];exact h
 obtain ⟨u,hu,ru⟩:=r.get (i:=i) (x:=xs[i]) (by simp [h'])
 have e1:xs.getD i .non=xs[i]:=by simp [h']
 have e2:vs.getD i Value.none=u:=by rw [List.getD_eq_getElem?_getD,hu];rfl
 rw [e1,e2];exact ru
noncomputable def lexB (p q:Int×Int):Bool:=decide (p.1<q.1∨(p.1=q.1∧p.2<q.2))
noncomputable def lexR (p q:Int×Int):Prop:=p.1<q.1∨(p.1=q.1∧p.2≤q.2)
theorem lexR_of {p q:Int×Int} (h:lexB q p=false):lexR p q:=by
 simp only [lexB,lexR,decide_eq_false_iff_not] at *
 omega
theorem lexR_trans (a b c:Int×Int) (h1:lexR a b) (h2:lexR b c):lexR a c:=by
 simp only [lexR] at *
 omega
noncomputable def ltP (ps:List (Int×Int)) (i j:Nat):Bool:=lexB (ps.getD i (0,0)) (ps.getD j (0,0))
theorem ltP_ord (ps:List (Int×Int)):Srt.Ord (ltP ps):=by
 refine ⟨fun i j h=>?_,fun i j k h1 h2=>?_⟩ <;> simp only [ltP,lexB,decide_eq_true_eq,decide_eq_false_iff_not] at * <;> omega
theorem up_pairwise {α:Type} {R:α→α→Prop} (tr:∀ a b c,R a b→R b c→R a c) {l:List α} {d:α} {p:List Nat} (h:p.Perm (List.range l.length)) {lt:Nat→Nat→Bool}
 (up:∀ k,1≤k→k<l.length→lt (p.getD k 0) (p.getD (k - 1) 0)=false) (hR:∀ i j,lt j i=false→R (l.getD i d) (l.getD j d)):(p.map fun i=>l.getD i d).Pairwise R:=by
 refine pairwise_of_adj tr _ fun k a b ha hb=>?_
 have hl:p.length=l.length:=by rw [h.length_eq,List.length_range]
 rw [List.getElem?_map] at ha hb
 cases e1:p[k]? with
 | none=>rw [e1] at ha;cases ha
 | some i =>
   cases e2:p[k+1]? with
   | none=>rw [e2] at hb;cases hb
   | some j =>
     rw [e1] at ha;rw [e2] at hb
     have ha:l.getD i d=a:=Option.some.inj ha
     have hb:l.getD j d=b:=Option.some.inj hb
     subst ha hb
     have hk:k+1<p.length:=(List.getElem?_eq_some_iff.mp e2).1
     have:=up (k+1) (by omega) (by omega)
     have g1:p.getD (k+1) 0=j:=by rw [List.getD_eq_getElem?_getD,e2];rfl
     have g2:p.getD (k+1 - 1) 0=i:=by rw [List.getD_eq_getElem?_getD,Nat.add_sub_cancel,e1];rfl
     rw [g1,g2] at this
     exact hR i j this
noncomputable def dtP (p:Int×Int):Dt:=.tup [.int p.1,.int p.2]
noncomputable def Prs (K:PySem.W.Frag) (H:Hp) (ps:List (Int×Int)) (vs:List V):Prop:=Dens K H (ps.map dtP) vs
theorem dens_pick {K:PySem.W.Frag} {H:Hp} {α:Type} {f:α→Dt} {l:List α} {d:α} {vs:List V} (h:Dens K H (l.map f) vs):∀ {p:List Nat},(∀ i∈p,i<l.length)→Dens K H ((p.map fun i=>l.getD i d).map f) (p.map fun i=>vs.getD i .non)
 | [],_=>by simp only [List.map_nil,Dens]
 | i :: p,hp=>by
   have hi:=hp i List.mem_cons_self
   simp only [List.map_cons,Dens]
   obtain ⟨x,hx,dx⟩:=h.get (j:=i) (d:=f l[i]) (by simp [hi])
   refine ⟨_,_,rfl,?_,dens_pick h fun j hj=>hp j (List.mem_cons_of_mem _ hj)⟩
   have e1:l.getD i d=l[i]:=by simp [hi]
   have e2:vs.getD i .non=x:=by rw [List.getD_eq_getElem?_getD,hx];rfl
   rw [e1,e2];exact dx
theorem prs_at {K:PySem.W.Frag} {H:Hp} {ps:List (Int×Int)} {vs:List V} (h:Prs K H ps vs) {i:Nat} (hi:i<ps.length):∃ a,vs.getD i .non=.ref a∧SqT K H a [.int (ps.getD i (0,0)).1,.int (ps.getD i (0,0)).2]:=by
 obtain ⟨x,hx,dx⟩:=Dens.get (j:=i) (d:=dtP ps[i]) h (by simp [hi])
 have e1:ps.getD i (0,0)=ps[i]:=by simp [hi]
 have e2:vs.getD i .non=x:=by rw [List.getD_eq_getElem?_getD,hx];rfl
 rw [e1,e2]
 simp only [dtP,Den,Dens] at dx
 obtain ⟨a,xs,rfl,hq,y,r,rfl,rfl,y2,r2,rfl,rfl,rfl⟩:=dx
 exact ⟨a,rfl,hq⟩
section
variable {X:Cx} {pins:List (Addr×Obj)} {σ:St} {H:Hp} {s:Shared}
theorem Inv.tupNe {a:Addr} {xs:List V} (I:Inv X pins σ H s) (h:SqT X.K H a xs):a≠X.env.locals:=by
 rintro rfl
 obtain ⟨its,_,⟨o,e,c,n,d⟩,_⟩:=I.tuple h
 obtain ⟨m,⟨o',es,ep,ho,hd,_⟩,_⟩:=I.loc
 rw [e] at ho;cases ho
 rw [d] at hd;cases hd
noncomputable def rSortP (K:PySem.W.Frag):List V→Hp→VK→Prop:=fun xs H Q=>∃ (l:Addr) (vs:List V) (ps:List (Int×Int)),xs=[.ref l]∧SqL K H l vs∧Prs K H ps vs∧ps.length<64∧∀ (us:List V) (ms:List (Int×Int)) (D:Addr),ms.Perm ps→ms.Pairwise lexR→Prs K H ms us→H D=none→Q (.ref D) (upd H D (.lst us))
theorem call_sortedP:CallR X (.builtin "sorted") (rSortP X.K):=by
 intro pins s σ H xs us Q I r h
 obtain ⟨l,xs,ps,rfl,hl,hp,h64,q⟩:=h
 obtain ⟨u,rfl,rfl⟩:=vals1 r
 have hlen:xs.length=ps.length:=by have:=Dens.length hp;rw [List.length_map] at this;exact this
 refine sorted_ok I hl (by omega) (ltP ps) (ltP_ord ps) (fun vs s' rv h2 kp=>?_) fun p D pm up hD=>?_
 · have hv:vs.length=ps.length:=by rw [← rv.length,hlen]
   have tup:∀ {s2:Shared},(∀ b o,b≠X.env.locals→s.heap.get? b=some o→s2.heap.get? b=some o)→∀ {i:Nat},i<vs.length→∃ a o n t1 t2,vs.getD i Value.none=.ref a∧s2.heap.get? a=some o∧o.cls=.type "tuple"∧o.data=.seq #[.int (ps.getD i (0,0)).1 t1,.int (ps.getD i (0,0)).2 t2] n:=fun {s2} k {i} hi=>by
    obtain ⟨a,e,hq⟩:=prs_at hp (show i<ps.length by omega)
    have rr:=vals_getD rv hi
    rw [e] at rr
    obtain ⟨its,ri,⟨o,ho,hc,n,hd⟩,_⟩:=I.tuple hq
    obtain ⟨u1,u2,rfl,⟨t1,rfl⟩,⟨t2,rfl⟩⟩:=vals2 ri
    exact ⟨a,o,n,t1,t2,rr,k a o (I.tupNe hq) ho,hc,by simpa using hd⟩
   refine ⟨tuples' true,fun R hR=>?_,fun i j C s2 hi hj k hc=>?_⟩
   · have build:∀ (ws:List Value),(∀ v∈ws,∃ a o n x t1 y t2,v=.ref a∧s'.heap.get? a=some o∧o.cls=.type "tuple"∧o.data=.seq #[.int x t1,.int y t2] n)→∃ fs:List Value,fs.length=ws.length∧KatTups s'.heap ws fs∧∀ v∈fs,∃ x t,v=.int x t:=by
      intro ws
      induction ws with
      | nil=>intro _;exact ⟨[],rfl,KatTups.nil,fun v h=>by simp at h⟩
      | cons w ws ih =>
        intro h
        obtain ⟨fs,e,t,a⟩:=ih fun v hv=>h v (List.mem_cons_of_mem _ hv)
        obtain ⟨b,o,n,x,t1,y,t2,rfl,ho,hc,hd⟩:=h w List.mem_cons_self
        refine ⟨.int x t1 :: fs,by simp [e],KatTups.cons ho hc hd rfl t,fun v hv=>?_⟩
        rcases List.mem_cons.mp hv with rfl | hv
        · exact ⟨_,_,rfl⟩
        · exact a v hv
     obtain ⟨fs,e,kt,fa⟩:=build vs fun v hv=>by
      obtain ⟨i,hi,rfl⟩:=List.mem_iff_getElem.mp hv
      obtain ⟨a,o,n,t1,t2,e,ho,hc,hd⟩:=tup kp hi
      have:vs.getD i Value.none=vs[i]:=by simp [hi]
      rw [this] at e
      exact ⟨a,o,n,_,t1,_,t2,e,ho,hc,hd⟩
     refine kat_kind (T:=.type "int") kt (by omega) (fun v hv=>?_) (by decide) hR
     obtain ⟨x,t,rfl⟩:=fa v hv
     exact Looks.of_pure rfl
   · unfold kas_ask
     obtain ⟨a,o,n,t1,t2,e,ho,_,hd⟩:=tup k hi
     obtain ⟨a',o',n',t1',t2',e',ho',_,hd'⟩:=tup k hj
     rw [e,e']
     refine kat_lt ho hd ho' hd' (kat_cons ?_)
     have hc':C (lexB (ps.getD i (0,0)) (ps.getD j (0,0))) s2:=hc
     generalize ps.getD i (0,0)=x at *
     generalize ps.getD j (0,0)=y at *
     refine wpAny_eqBool_int ?_
     by_cases h1:x.1=y.1
     · rw [show (x.1 == y.1)=true by simp [h1]]
       refine kat_yes (kat_cons (wpAny_eqBool_int ?_))
       by_cases h2:x.2=y.2
       · rw [show (x.2 == y.2)=true by simp [h2]]
         refine kat_yes (kat_nil ?_)
         have:lexB x y=false:=by simp only [lexB,decide_eq_false_iff_not];omega
         rw [this] at hc'
         simpa using hc'
       · rw [show (x.2 == y.2)=false by simp [h2]]
         refine kat_no (kat_one _ _ ?_)
         have:lexB x y=decide (x.2<y.2):=by simp only [lexB,decide_eq_decide];omega
         rw [this] at hc'
         exact lt_int hc'
     · rw [show (x.1 == y.1)=false by simp [h1]]
       refine kat_no (oneLt_int ?_)
       have:lexB x y=decide (x.1<y.1):=by simp only [lexB,decide_eq_decide];omega
       rw [this] at hc'
       exact hc'
 · rw [hlen] at pm up
   have hb:∀ i∈p,i<ps.length:=fun i hi=>List.mem_range.mp (pm.mem_iff.mp hi)
   exact q _ _ D (perm_getD pm) (up_pairwise lexR_trans pm up fun i j h=>lexR_of h) (dens_pick hp hb) hD
end
end L2
namespace L2
open PySem PySem.Spec PyProof.Rows PySem.W
theorem closure_loop (env:Env):∀ (names:List (Str×NameKind)) (cs:List (Str×Addr)),(∀ y∈names,y.2=.free→∃ c,env.cells.lookup y.1=some c)→(∀ p∈cs,env.cells.lookup p.1=some p.2) →
 ∃ cl:List (Str×Addr),(forIn names cs fun x cs=>(match x with | (name,kind)=>if (kind == .free)=true then do let __do_lift ←cellOf env name;pure (ForInStep.yield ((name,__do_lift) :: cs)) else pure (ForInStep.yield cs):Sem (ForInStep (List (Str×Addr)))))=pure cl ∧
   (∀ p∈cl,env.cells.lookup p.1=some p.2)∧(∀ p∈cs,p∈cl)∧∀ x,(x,NameKind.free)∈names→∃ c,(x,c)∈cl
 | [],cs,_,hc=>⟨cs,by rw [List.forIn_nil],hc,fun _ h=>h,fun x h=>by simp at h⟩
 | (n,k) :: names,cs,h,hc=>by
   have h':=fun y hy=>h y (List.mem_cons_of_mem _ hy)
   rw [List.forIn_cons]
   by_cases hk:k=.free
   · subst hk
     obtain ⟨c,e⟩:=h (n,.free) List.mem_cons_self rfl
     obtain ⟨cl,e1,e2,e3,e4⟩:=closure_loop env names ((n,c) :: cs) h' fun p hp=>by
      rcases List.mem_cons.mp hp with rfl | hp
      · exact e
      · exact hc p hp
     refine ⟨cl,?_,e2,fun p hp=>e3 p (List.mem_cons_of_mem _ hp),fun x hx=>?_⟩
     · have ec:cellOf env n=pure c:=by unfold cellOf;rw [e]
       simp only [ec,beq_self_eq_true,if_true,pure_bind]
       exact e1
     · rcases List.mem_cons.mp hx with z | hx
       · cases z;exact ⟨c,e3 _ List.mem_cons_self⟩
       · exact e4 x hx
   · obtain ⟨cl,e1,e2,e3,e4⟩:=closure_loop env names cs h' hc
     refine ⟨cl,?_,e2,e3,fun x hx=>?_⟩
     · have:(k == NameKind.free)=false:=by simpa using hk
       simp only [this,Bool.false_eq_true,if_false,pure_bind]
       exact e1
     · rcases List.mem_cons.mp hx with z | hx
       · cases z;exact absurd rfl hk
       · exact e4 x hx
theorem lookup_some_of_mem {x:Str} {c:Addr}:∀ {l:List (Str×Addr)},(x,c)∈l→∃ c',l.lookup x=some c'
 | [],h=>by simp at h
 | (n,d) :: l,h=>by
   rw [List.lookup_cons]
   cases e:x == n with
   | true=>exact ⟨d,rfl⟩
   | false =>
     rcases List.mem_cons.mp h with z | h
     · cases z;simp at e
     · exact lookup_some_of_mem h
theorem closure_ok {scope:Scope} {env:Env} (h:∀ y∈scope.names,y.2=.free→∃ c,env.cells.lookup y.1=some c) :
 ∃ cl,closureFor scope env=pure cl∧(∀ x c,cl.lookup x=some c→env.cells.lookup x=some c)∧∀ x,(x,NameKind.free)∈scope.names→∃ c,cl.lookup x=some c:=by
 obtain ⟨cl,e1,e2,_,e4⟩:=closure_loop env scope.names [] h (fun p hp=>by simp at hp)
 refine ⟨cl,?_,fun x c hx=>e2 (x,c) (PySem.mem_of_lookup hx),fun x hx=>?_⟩
 · unfold closureFor
   refine Eq.trans (congrArg (fun t=>t >>= fun cs=>pure cs) ?_) (bind_pure _)
   exact e1
 · obtain ⟨c,hc⟩:=e4 x hx
   exact lookup_some_of_mem hc
section
variable {X:Cx}
theorem pe_compC {tg iter elt:Expr} {ifs:List Expr} {scope:Scope} {pos:Pos} (N':List Str) (ks:List (Option Nat)) {wi:TI} {g:TG} {tt:TT} {te:TE}
 (hcalm:X.calm=true) (hi:PI X tg iter wi) (hfree:∀ y∈scope.names,y.2=.free→X.env.scope.names.lookup y.1=some .cell)
 (hcell:∀ y∈scope.names,y.2≠.cell) (hkind:scope.kind=.function) (hnames:∀ y∈scope.names,y.2=.local→scope.names.lookup y.1=some .local)
 (hcap:Cap X (relabel scope X.env) N' ks)
 (hg:∀ cl C s H fp,PG (compX X N' scope cl C s H fp) tg g) (ht:∀ cl C s H fp,PTs (compX X N' scope cl C s H fp) ifs tt) (he:∀ cl C s H fp,PE (compX X N' scope cl C s H fp) elt te)
 (hs:∀ x,foldedSetIterable iter X.env x=pure x:=by intro _;rfl):PE X (.ListComp elt [⟨tg,iter,ifs,0⟩] scope pos) (tComp wi ks g tt te):=by
 intro pins s σ H Q I h
 obtain ⟨cl,e1,e2,e3⟩:=closure_ok (scope:=scope) (env:=X.env) fun y hy hf=>I.ok.has y.1 (.inl (hfree y hy hf))
 refine pe_comp hcalm hi e1 e2 hcell hkind hnames (fun x hx=>?_) hcap (hg cl) (ht cl) (he cl) hs pins s σ H Q I h
 have key:∀ k,(x,k)∈(relabel scope X.env).names→k=.cell∨k=.free→(x,NameKind.free)∈scope.names:=fun k hm hk=>by
  unfold relabel at hm
  obtain ⟨⟨n,k'⟩,hy,e⟩:=List.mem_map.mp hm
  dsimp only at e
  split at e
  · rename_i hc
    cases e
    have:k'=.free:=by simp at hc;exact hc.1.1
    rw [← this];exact hy
  · cases e
    rcases hk with rfl | rfl
    · exact absurd rfl (hcell _ hy)
    · exact hy
 rcases hx with hx | hx
 · exact e3 x (key _ (PySem.mem_of_lookup hx) (.inl rfl))
 · exact e3 x (key _ (PySem.mem_of_lookup hx) (.inr rfl))
theorem comp_rng {lo:Int} {n:Nat} {D:Addr} {g:TG} {tt:TT} {te:TE} {σ0:St} {H0:Hp} {Q:VK} (Pv:Nat→List V→St→Hp→Prop) (h0:Pv 0 [] σ0 H0) (hl:∀ i ys σ H,Pv i ys σ H→H D=some (.lst ys))
 (hs:∀ i ys σ H,i<n→Pv i ys σ H→g (.int (lo+i)) σ H fun σ3 H3=>tt σ3 H3 fun b H4=>if b=true then
  te σ3 H4 fun y H5=>H5 D=some (.lst ys)∧ys.length<sizeLine∧∃ m',m'<n - i∧Wt Pv n (i+1) m' (ys ++ [y]) σ3 (upd H5 D (.lst (ys ++ [y]))) else ∃ m',m'<n - i∧Wt Pv n (i+1) m' ys σ3 H4)
 (hd:∀ ys σ H,Pv n ys σ H→Q (.ref D) H) :
 CompW (Itr lo n) D g tt te Q σ0 H0:=by
 refine ⟨Wt Pv n,⟨n,rfl,Nat.zero_le _,h0⟩,?_⟩
 rintro i m ys σ' H' ⟨rfl,hi,p⟩
 refine ⟨hl i ys σ' H' p,?_⟩
 by_cases hlt:i<n
 · refine .inr ⟨hlt,fun x H2 y=>?_⟩
   obtain ⟨e,y⟩:=y
   subst e y
   exact hs i ys σ' _ hlt p
 · have e:i=n:=by omega
   subst e
   exact .inl ⟨Nat.le_refl _,hd ys σ' H' p⟩
theorem pg_tupK {K:PySem.W.Frag} {es:List Expr} {k:Nat} {t:TGs} {pos:Pos} (n:Nat) (e:X.K=K) (hc:X.calm=true) (h:PGs X es t)
 (hn:(assignEach es X.env).length=n:=by rfl) (hst:(assignEach es X.env).findIdx? (·.1)=none:=by rfl):PG X (.Tuple es k pos) (gTup K n t):=e ▸ pg_tup hc h hn hst
noncomputable def rSum (K:PySem.W.Frag):List V→Hp→VK→Prop:=fun xs H Q=>∃ (l:Addr) (ns:List Int),xs=[.ref l]∧SqL K H l (ns.map V.int)∧Q (.int ns.sum) H
theorem call_sum (hc:X.calm=true):CallR X (.builtin "sum") (rSum X.K):=by
 intro pins s σ H xs us Q I r h
 obtain ⟨l,ns,rfl,hl,q⟩:=h
 obtain ⟨u,rfl,rfl⟩:=vals1 r
 obtain ⟨its,rv,pl,_⟩:=I.list hl
 have hi:=intsAre_of rv
 obtain ⟨xs,hx⟩:=hi.allInts.items
 have hl':s.heap.IsList l (intItems xs):=hx ▸ pl.isList
 refine sum_intListG (I.ok.hd hc) hl' fun h' tk t' hk=>?_
 have e1:ns=xs.toList.map (·.1):=by
  rw [← nums_intItems,← hx]
  exact (show numsOf its.toArray.toList=ns from hi.numsOf).symm
 have e2:preSum (numAt xs) xs.size=ns.sum:=by
  rw [preSum_eq,List.take_of_length_le (by simp),e1]
 rw [e2]
 exact ⟨.int ns.sum,H,I.kept (t':=tk) hk,⟨_,rfl⟩,q⟩
end
theorem newS {H:Hp} {Q:VK} {o:HO} (h:∀ (p:Addr) (H':Hp),Same H H'→H p=none→H' p=some o→Q (.ref p) H'):∀ p,H p=none→Q (.ref p) (upd H p o):=fun p hp=>h p _ (Same.new hp) hp upd_same
noncomputable def KL (H H':Hp):Prop:=∀ b o,H b=some o→(∀ xs,o≠.lst xs)→H' b=some o
theorem KL.trans {H H1 H2:Hp} (a:KL H H1) (b:KL H1 H2):KL H H2:=fun c o h n=>b c o (a c o h n) n
theorem Same.kl {H H':Hp} (s:Same H H'):KL H H':=fun b o h _=>s b o h
theorem KL.set {H:Hp} {l:Addr} {xs ys:List V} (h:H l=some (.lst xs)):KL H (upd H l (.lst ys)):=fun b o e n=>by
 have:b≠l:=by rintro rfl;rw [h] at e;cases e;exact n xs rfl
 rw [upd_ne this];exact e
theorem Kp.kl {H H':Hp} {l:Addr} {xs:List V} (k:Kp l H H') (h:H l=some (.lst xs)):KL H H':=fun b o e n=>k b o e (by rintro rfl;rw [h] at e;cases e;exact n xs rfl)
theorem KL.tup {H H':Hp} {b:Addr} {xs:List V} (k:KL H H') (h:H b=some (.tup xs)):H' b=some (.tup xs):=k b _ h fun _ z=>by cases z
theorem KL.seqT {K:PySem.W.Frag} {H H':Hp} {a:Addr} {xs:List V} (e:KL H H') (h:SqT K H a xs):SqT K H' a xs:=by
 rcases h with (h | ⟨o,h⟩) | h
 · exact .inl (.inl (e _ _ h fun _ z=>by cases z))
 · exact .inl (.inr ⟨o,e _ _ h fun _ z=>by cases z⟩)
 · exact .inr h
theorem prs_nil {K:PySem.W.Frag} {H:Hp}:Prs K H [] []:=by simp only [Prs,List.map_nil,Dens]
theorem prs_cons {K:PySem.W.Frag} {H:Hp} {a:Addr} {p:Int×Int} {ps:List (Int×Int)} {vs:List V} (h:SqT K H a [.int p.1,.int p.2]) (r:Prs K H ps vs):Prs K H (p :: ps) (.ref a :: vs):=by
 simp only [Prs,List.map_cons,Dens,dtP,Den]
 exact ⟨_,_,rfl,⟨a,_,rfl,h,_,_,rfl,rfl,_,_,rfl,rfl,rfl⟩,r⟩
theorem prs_uncons {K:PySem.W.Frag} {H:Hp} {p:Int×Int} {ps:List (Int×Int)} {vs:List V} (h:Prs K H (p :: ps) vs):∃ a r,vs=.ref a :: r∧SqT K H a [.int p.1,.int p.2]∧Prs K H ps r:=by
 simp only [Prs,List.map_cons,Dens,dtP,Den] at h
 obtain ⟨x,r,rfl,⟨a,xs,rfl,hq,y,r1,rfl,rfl,y2,r2,rfl,rfl,rfl⟩,hr⟩:=h
 exact ⟨a,r,rfl,hq,hr⟩
theorem Prs.kl {K:PySem.W.Frag} {H H':Hp} (k:KL H H'):∀ {ps:List (Int×Int)} {vs:List V},Prs K H ps vs→Prs K H' ps vs
 | [],vs,h=>by
   simp only [Prs,List.map_nil,Dens] at h
   subst h
   exact prs_nil
 | p :: ps,vs,h=>by
   obtain ⟨a,r,rfl,hq,hr⟩:=prs_uncons h
   exact prs_cons (k.seqT hq) (Prs.kl k hr)
theorem Prs.snoc {K:PySem.W.Frag} {H:Hp} {a:Addr} {p:Int×Int} (hp:SqT K H a [.int p.1,.int p.2]):∀ {ps:List (Int×Int)} {vs:List V},Prs K H ps vs→Prs K H (ps ++ [p]) (vs ++ [.ref a])
 | [],vs,h=>by
   simp only [Prs,List.map_nil,Dens] at h
   subst h
   exact prs_cons hp prs_nil
 | q :: ps,vs,h=>by
   obtain ⟨b,r,rfl,hq,hr⟩:=prs_uncons h
   exact prs_cons hq (Prs.snoc hp hr)
theorem Prs.len {K:PySem.W.Frag} {H:Hp} {ps:List (Int×Int)} {vs:List V} (h:Prs K H ps vs):vs.length=ps.length:=by
 have:=Dens.length h
 rw [List.length_map] at this
 exact this
theorem Prs.get {K:PySem.W.Frag} {H:Hp} {ps:List (Int×Int)} {vs:List V} (h:Prs K H ps vs) {i:Nat} {v:V} (hv:vs[i]?=some v):∃ a p,ps[i]?=some p∧v=.ref a∧SqT K H a [.int p.1,.int p.2]:=by
 have hi:i<ps.length:=by rw [← h.len];exact (List.getElem?_eq_some_iff.mp hv).1
 obtain ⟨a,e,q⟩:=prs_at h hi
 have e1:vs.getD i .non=v:=by rw [List.getD_eq_getElem?_getD,hv];rfl
 have e2:ps.getD i (0,0)=ps[i]:=by simp [hi]
 rw [e1] at e
 rw [e2] at q
 exact ⟨a,ps[i],by simp [hi],e,q⟩
theorem eqDs_prs:∀ ps qs:List (Int×Int),eqDs (ps.map dtP) (qs.map dtP)=decide (ps=qs)
 | [],[]=>rfl
 | [],_ :: _=>rfl
 | _ :: _,[]=>rfl
 | p :: ps,q :: qs=>by
   have e:eqD (dtP p) (dtP q)=decide (p=q):=by
    simp only [dtP,eqD]
    exact eqDs2 p.1 p.2 q.1 q.2
   simp only [List.map_cons,eqDs,e,eqDs_prs ps qs]
   by_cases h:p=q <;> simp [h]
noncomputable def rCatS:R2:=fun x y H Q=>∃ l b xs zs,x=.ref l∧y=.ref b∧H l=some (.lst xs)∧H b=some (.lst zs)∧xs.length+zs.length≤sizeLine∧∀ (p:Addr) (H':Hp),Same H H'→H p=none→H' p=some (.lst (xs ++ zs))→Q (.ref p) H'
noncomputable def rRepS:R2:=fun x y H Q=>∃ l k xs,x=.ref l∧y=.int k∧H l=some (.lst xs)∧-(2 ^ 63)≤k∧k<2 ^ 63∧xs.length * k.toNat≤sizeLine ∧
 ∀ (p:Addr) (H':Hp),Same H H'→H p=none→H' p=some (.lst (List.replicate k.toNat xs).flatten)→Q (.ref p) H'
noncomputable def rSortPS (K:PySem.W.Frag):List V→Hp→VK→Prop:=fun xs H Q=>∃ (l:Addr) (vs:List V) (ps:List (Int×Int)),xs=[.ref l]∧SqL K H l vs∧Prs K H ps vs∧ps.length<64∧∀ (us:List V) (ms:List (Int×Int)) (D:Addr) (H':Hp),ms.Perm ps→ms.Pairwise lexR→Prs K H' ms us→Same H H'→H D=none→H' D=some (.lst us)→Q (.ref D) H'
noncomputable def rTupOf (K:PySem.W.Frag):List V→Hp→VK→Prop:=fun xs H Q=>∃ (p:Addr) (ys:List V),xs=[.ref p]∧SqL K H p ys∧∀ (t:Addr) (H':Hp),Same H H'→H t=none→H' t=some (.tup ys)→Q (.ref t) H'
section
variable {X:Cx}
theorem op_catS:OpR X (binaryOp .Add) rCatS:=fun pins s σ H x y v u Q I rx ry ⟨l,b,xs,zs,e1,e2,h1,h2,h3,q⟩=>op_cat pins s σ H x y v u Q I rx ry ⟨l,b,xs,zs,e1,e2,h1,h2,h3,newS q⟩
theorem op_repS:OpR X (binaryOp .Mult) rRepS:=fun pins s σ H x y v u Q I rx ry ⟨l,k,xs,e1,e2,h1,h2,h3,h4,q⟩=>op_rep pins s σ H x y v u Q I rx ry ⟨l,k,xs,e1,e2,h1,h2,h3,h4,newS q⟩
theorem call_sortedPS:CallR X (.builtin "sorted") (rSortPS X.K):=fun pins s σ H xs us Q I r ⟨l,vs,ps,e,h1,h2,h3,q⟩=>call_sortedP pins s σ H xs us Q I r ⟨l,vs,ps,e,h1,h2,h3,fun us ms D a b c hD=>q us ms D _ a b (c.kl (Same.new hD).kl) (Same.new hD) hD upd_same⟩
theorem call_tupOf:CallR X (.type "tuple") (rTupOf X.K):=fun pins s σ H xs us Q I r ⟨p,ys,e,h1,q⟩=>call_tuple_of pins s σ H xs us Q I r ⟨p,ys,e,.inl ⟨h1,newS q⟩⟩
end
end L2
namespace Pw
noncomputable def outs (ps:List (Int×Int)) (page:Int):List Int:=(ps.filter fun p=>decide (p.1=page)).map (·.2)
theorem outs_snoc (ps:List (Int×Int)) (p:Int×Int) (page:Int):outs (ps ++ [p]) page=outs ps page ++ (if p.1=page then [p.2] else []):=by
 unfold outs
 rw [List.filter_append,List.map_append]
 by_cases h:p.1=page <;> simp [h]
theorem outs_len (ps:List (Int×Int)) (page:Int):(outs ps page).length≤ps.length:=by
 unfold outs
 rw [List.length_map]
 exact List.length_filter_le ..
structure WebOk (pages:Int) (ps:List (Int×Int)):Prop where
 lo:1≤pages
 hi:pages≤12
 few:ps.length≤60
 up:ps.Pairwise L2.lexR
 lk:∀ p∈ps,0≤p.1∧p.1<pages∧0≤p.2∧p.2<pages
end Pw
namespace L2
open PySem PySem.Spec PyProof.Rows PySem.W
noncomputable def WebAt (K:PySem.W.Frag) (H:Hp) (w:Addr) (pages:Int) (ps:List (Int×Int)):Prop:=∃ (ws:Addr) (us:List V),H w=some (.tup [.int pages,.ref ws])∧H ws=some (.tup us)∧Prs K H ps us
theorem WebAt.kl {K:PySem.W.Frag} {H H':Hp} {w:Addr} {pages:Int} {ps:List (Int×Int)} (h:WebAt K H w pages ps) (k:KL H H'):WebAt K H' w pages ps:=by
 obtain ⟨ws,us,a,b,c⟩:=h
 exact ⟨ws,us,k.tup a,k.tup b,c.kl k⟩
theorem WebAt.same {K:PySem.W.Frag} {H H':Hp} {w:Addr} {pages:Int} {ps:List (Int×Int)} (h:WebAt K H w pages ps) (k:Same H H'):WebAt K H' w pages ps:=h.kl k.kl
noncomputable def spLinks (K:PySem.W.Frag) (f:List (Int×Int)→Int→List Int):Sp:=fun vs H Q _=>∃ (w:Addr) (pages page:Int) (ps:List (Int×Int)),vs=[.ref w,.int page]∧WebAt K H w pages ps∧ps.length≤100 ∧
 ∀ (p:Addr) (H':Hp),Same H H'→H p=none→H' p=some (.lst ((f ps page).map V.int))→Q (.ref p) H'
end L2
namespace L2
open PySem PySem.Spec PyProof.Rows PySem.W
open Builtin in
theorem int_rmul_tup (a:Int) (t:Tok) (l:Addr) (items:Array Value) (n:Nat) (dd:Option Addr) (sl:Array (Option Value)) :
 Meets (Builtin.«int.__rmul__» ⟨[.int a t,.ref l],[]⟩) (fun _ R s=>s.heap.get? l=some { cls:=.type "tuple",dict:=dd,data:=.seq items n,slots:=sl }∧R (.ok (.ret Value.notImplemented)) s) :=
 .of_wp fun prog w A R s h=>by obtain ⟨hp,g,d,tk,os⟩:=s;obtain ⟨hl,h⟩:=h;wp_walk;exact ⟨_,rfl,h⟩
theorem noFill_tup_mul:fillsNumberSlot (.type "tuple") "mul"=pure false :=
 PySem.fillsNumberSlot_seq (id:="tuple.__mul__") (r:=some (.builtin "tuple.__rmul__")) F.slot_tuple_mul.lookup (by decide +kernel) F.slot_tuple_rmul.lookup (by decide +kernel)
theorem repeat_tup:seqRepeat? (.type "tuple")=pure (some (.builtin "tuple.__mul__")):=by
 unfold seqRepeat?
 rw [PySem.seqSlot_of (T:="tuple") (name:="__mul__") (id:="tuple.__mul__") F.slot_tuple_mul.lookup (by decide +kernel),PySem.seqSlot_of (T:="tuple") (name:="__rmul__") (id:="tuple.__rmul__") F.slot_tuple_rmul.lookup (by decide +kernel)]
 rfl
open Builtin in
theorem tup_mul_one (l:Addr) (items:Array Value) (n:Nat) (dd:Option Addr) (sl:Array (Option Value)) (u:Tok) :
 Meets (Builtin.«tuple.__mul__» ⟨[.ref l,.int 1 u],[]⟩) (fun _ R s=>s.heap.get? l=some { cls:=.type "tuple",dict:=dd,data:=.seq items n,slots:=sl }∧R (.ok (.ret (.ref l))) s) :=
 .of_wp fun prog w A R s h=>by obtain ⟨hp,g,d,tk,os⟩:=s;obtain ⟨hl,h⟩:=h;have f1:=AutoSeq1.idx_int;have f2:=AutoSeq1.sub_tuple_tuple;wp_walk using wpAny_loadPart' hl;exact ⟨_,rfl,h⟩
open Builtin in
theorem tup_mul_more (l:Addr) (items:Array Value) (n:Nat) (dd:Option Addr) (sl:Array (Option Value)) (x:Int) (u:Tok) (h1:(decide (x < -(2 ^ 63)) || decide (x ≥ 2 ^ 63))=false) (h2:(items.isEmpty || x == 1)=false) (h3:(decide (x≤0) || items.isEmpty)=false)
 (h4:¬ (items.size * x > (2 ^ 63 - 1) / 8)) (h5:Builtin.Tuple.tupleTooMany (items.size * x)=false) (hz:sizeOk (.seq ((List.replicate x.toNat items).foldl (· ++ ·) #[]))) :
 Meets (Builtin.«tuple.__mul__» ⟨[.ref l,.int x u],[]⟩) (fun _ R s=>s.heap.get? l=some { cls:=.type "tuple",dict:=dd,data:=.seq items n,slots:=sl }∧R (.ok (.ret (.ref s.heap.objs.size))) { s with heap:=s.heap.push { cls:=.type "tuple",data:=.seq ((List.replicate x.toNat items).foldl (· ++ ·) #[]) } }) :=
 .of_wp fun prog w A R s h=>by obtain ⟨hp,g,d,tk,os⟩:=s;obtain ⟨hl,h⟩:=h;have f1:=AutoSeq1.idx_int;have f2:=AutoSeq1.sub_tuple_tuple;wp_walk using wpAny_loadPart' hl;refine wpAny_ite_false (by simpa using h1) ?_;wp_walk using wpAny_loadPart' hl;refine wpAny_ite_false (decide_eq_false h4) ?_;wp_walk using wpAny_loadPart' hl;refine wpAny_ite_false (decide_eq_false (Nat.not_lt.mpr hz)) ?_;wp_walk using wpAny_loadPart' hl;exact ⟨_,rfl,h⟩
section
variable {X:Cx}
noncomputable def rRepT:R2:=fun x y H Q=>∃ l k xs,x=.ref l∧y=.int k∧H l=some (.tup xs)∧xs≠[]∧1≤k∧k<2 ^ 60∧xs.length * k.toNat≤sizeLine ∧
 ∀ (p:Addr) (H':Hp),Same H H'→H' p=some (.tup (List.replicate k.toNat xs).flatten)→Q (.ref p) H'
theorem foldl_repA (its:List Value) (m:Nat):List.foldl (fun x1 x2=>x1 ++ x2) #[] (List.replicate m its.toArray)=(List.replicate m its).flatten.toArray:=by
 have:∀ (m:Nat) (a:List Value),List.foldl (fun x1 x2=>x1 ++ x2) a.toArray (List.replicate m its.toArray)=(a ++ (List.replicate m its).flatten).toArray:=fun m=>by
  induction m with
  | zero=>intro a;simp
  | succ m ih=>intro a;rw [List.replicate_succ,List.foldl_cons,List.replicate_succ,List.flatten_cons,show a.toArray ++ its.toArray=(a ++ its).toArray by simp,ih (a ++ its),List.append_assoc]
 have:=this m []
 rw [List.nil_append] at this
 exact this
theorem op_repT:OpR X (binaryOp .Mult) rRepT:=by
 intro pins s σ H x y v u Q I rx ry h
 obtain ⟨l,k,xs,rfl,rfl,hH,hne,h1,h2,hz,q⟩:=h
 cases rx
 obtain ⟨t,rfl⟩:=ry
 obtain ⟨z,its,r,p⟩:xs.length≤sizeLine∧∃ its:List Value,Vals xs its∧IsTupN s.heap l its.toArray:=I.hok l _ hH
 have p:=p.tup
 obtain ⟨⟨cls,dd,data,sl⟩,ho,hc,n,hd⟩:=id p
 simp only at hc hd
 subst hc hd
 have hlen:its.toArray.size=xs.length:=by rw [List.size_toArray];exact r.length.symm
 have hpos:0<xs.length:=List.length_pos_iff.mpr hne
 by_cases hk:k=1
 · subst hk
   refine wpAny_binaryOp_repeat_ref (T:="tuple") (U:="int") (by decide) ⟨_,ho,rfl⟩ (fun s'=>typeIs_int s' 1 t) noFill_tup_mul F.fills_int_mul F.slot_int_rmul repeat_tup F.slot_int_index.lookup
    (call_meets F.slot_int_rmul (typeIs_int s 1 t) F.entry_int_rmul (F.args_int_rmul_2 _ _) (int_rmul_tup 1 t l its.toArray n dd sl)
     ⟨ho,rfl,⟨_,ho,rfl⟩,call_meets F.slot_tuple_mul ⟨_,ho,rfl⟩ F.entry_tuple_mul (F.args_tuple_mul_2 _ _) (tup_mul_one l its.toArray n dd sl t) ⟨ho,?_⟩⟩)
   refine ⟨.ref l,H,I,rfl,q l H (Same.refl _) ?_⟩
   have:(List.replicate (1:Int).toNat xs).flatten=xs:=by
    show (List.replicate 1 xs).flatten=xs
    simp
   rw [this]
   exact hH
 · have hz2:(List.replicate k.toNat its).flatten.length≤sizeLine:=by
    rw [len_rep,← r.length,Nat.mul_comm];exact hz
   have e1:((its.toArray.size:Nat):Int) * k=((xs.length * k.toNat:Nat):Int):=by
    rw [hlen,Int.natCast_mul,Int.toNat_of_nonneg (by omega)]
   have hsl:((sizeLine:Nat):Int)≤(2 ^ 63 - 1) / 8:=by decide
   have hzi:((xs.length * k.toNat:Nat):Int)≤((sizeLine:Nat):Int):=Int.ofNat_le.mpr hz
   have hem:its.toArray.isEmpty=false:=by
    rw [Bool.eq_false_iff]
    intro h
    have:=Array.isEmpty_iff.mp h
    have h2:its.toArray.size=0:=by rw [this];rfl
    omega
   refine wpAny_binaryOp_repeat_ref (T:="tuple") (U:="int") (by decide) ⟨_,ho,rfl⟩ (fun s'=>typeIs_int s' k t) noFill_tup_mul F.fills_int_mul F.slot_int_rmul repeat_tup F.slot_int_index.lookup
    (call_meets F.slot_int_rmul (typeIs_int s k t) F.entry_int_rmul (F.args_int_rmul_2 _ _) (int_rmul_tup k t l its.toArray n dd sl)
     ⟨ho,rfl,⟨_,ho,rfl⟩,call_meets F.slot_tuple_mul ⟨_,ho,rfl⟩ F.entry_tuple_mul (F.args_tuple_mul_2 _ _)
      (tup_mul_more l its.toArray n dd sl k t (by rw [decide_eq_false (by omega),decide_eq_false (by omega)];rfl) (by rw [hem];simpa using hk) (by rw [hem,decide_eq_false (by omega)];rfl)
       (by rw [e1];omega) (by unfold Builtin.Tuple.tupleTooMany;rw [e1];exact decide_eq_false (by omega)) (by rw [foldl_repA];show (List.replicate k.toNat its).flatten.toArray.size≤sizeLine;rw [List.size_toArray];exact hz2)) ⟨ho,?_⟩⟩)
   rw [foldl_repA]
   refine ⟨.ref s.heap.objs.size,_,I.laid (t':=s.toks) (o:=.tup (List.replicate k.toNat xs).flatten) (fun b ob q=>Heap.get?_push_of_some _ q) (Nat.le_refl _) ?_,rfl,q _ _ (Same.new I.fresh) upd_same⟩
   exact ⟨by rw [len_rep,Nat.mul_comm];exact hz,_,r.rep k.toNat,IsTupN.new _ _⟩
end
end L2
namespace Pw
theorem mk_pos {a b:Int} (hb:0<b) (ha:0<a):0<(mk a b).1:=by
 obtain ⟨⟨c1,_⟩,w⟩:=mk_spec (a:=a) (b:=b) (by omega)
 have h:0<(mk a b).1 * b:=by rw [w];exact Int.mul_pos ha c1
 exact Int.pos_of_mul_pos_left h hb
theorem mk_nonneg {a b:Int} (hb:0<b) (ha:0≤a):0≤(mk a b).1:=by
 obtain ⟨⟨c1,_⟩,w⟩:=mk_spec (a:=a) (b:=b) (by omega)
 have h:0≤(mk a b).1 * b:=by rw [w];exact Int.mul_nonneg ha (by omega)
 exact Int.nonneg_of_mul_nonneg_left h hb
theorem mk_le1 {a b:Int} (hb:0<b) (ha:a≤b):(mk a b).1≤(mk a b).2:=by
 obtain ⟨⟨c1,_⟩,w⟩:=mk_spec (a:=a) (b:=b) (by omega)
 have h:(mk a b).1 * b≤(mk a b).2 * b:=by
  rw [w,Int.mul_comm (mk a b).2 b]
  exact Int.mul_le_mul_of_nonneg_right ha (by omega)
 exact Int.le_of_mul_le_mul_right h hb
theorem sum_nn:∀ {l:List Int},(∀ n∈l,0≤n)→0≤l.sum
 | [],_=>by simp
 | a :: l,h=>by
   have:=sum_nn fun n hn=>h n (List.mem_cons_of_mem _ hn)
   have:=h a List.mem_cons_self
   rw [List.sum_cons];omega
theorem sum_pos:∀ {l:List Int} {m:Int},(∀ n∈l,0≤n)→m∈l→0<m→0<l.sum
 | a :: l,m,h,hm,p=>by
   have h1:=sum_nn fun n hn=>h n (List.mem_cons_of_mem _ hn)
   have h2:=h a List.mem_cons_self
   rw [List.sum_cons]
   rcases List.mem_cons.mp hm with rfl | hm
   · omega
   · have:=sum_pos (fun n hn=>h n (List.mem_cons_of_mem _ hn)) hm p
     omega
theorem sum_le {B:Int}:∀ {l:List Int},(∀ n∈l,n≤B)→l.sum≤l.length * B
 | [],_=>by simp
 | a :: l,h=>by
   have h1:=sum_le fun n hn=>h n (List.mem_cons_of_mem _ hn)
   have h2:=h a List.mem_cons_self
   rw [List.sum_cons,List.length_cons,Int.natCast_add,Int.add_mul]
   omega
theorem mk_1 {n:Int} (hn:0<n):mk 1 n=(1,n):=mk_canon (p:=(1,n)) ⟨hn,by simp [Canon]⟩
end Pw
namespace L2
open PySem PySem.Spec PyProof.Rows
noncomputable def FrL (K:PySem.W.Frag) (H:Hp):List (Int×Int)→List V→Prop
 | [],vs=>vs=[]
 | A :: As,vs=>∃ p r,vs=.ref p :: r∧FrA K H p A∧FrL K H As r
noncomputable def tupD (A:Int×Int):Dt:=.tup [.int A.1,.int A.2]
theorem FrL.same {K:PySem.W.Frag} {H H':Hp} (s:Same H H'):∀ {As:List (Int×Int)} {vs:List V},FrL K H As vs→FrL K H' As vs
 | [],_,h=>h
 | _ :: _,_,⟨p,r,e,f,h⟩=>⟨p,r,e,s _ _ f,FrL.same s h⟩
theorem FrL.snoc {K:PySem.W.Frag} {H:Hp} {p:Addr} {A:Int×Int} (f:FrA K H p A):∀ {As:List (Int×Int)} {vs:List V},FrL K H As vs→FrL K H (As ++ [A]) (vs ++ [.ref p])
 | [],_,h=>by
   have h:_=([]:List V):=h
   subst h
   exact ⟨p,[],rfl,f,rfl⟩
 | _ :: _,_,⟨q,r,e,g,h⟩=>⟨q,r ++ [.ref p],by rw [e];rfl,g,FrL.snoc f h⟩
theorem FrL.dens {K:PySem.W.Frag} {H:Hp}:∀ {As:List (Int×Int)} {vs:List V},FrL K H As vs→Dens K H (As.map tupD) vs
 | [],_,h=>by simp only [List.map_nil,Dens];exact h
 | A :: As,_,⟨p,r,e,f,h⟩=>by
   simp only [List.map_cons,Dens]
   refine ⟨.ref p,r,e,?_,FrL.dens h⟩
   unfold tupD
   simp only [Den]
   exact ⟨p,_,rfl,SqT.of f,dens2 K H A.1 A.2⟩
theorem FrL.dep:∀ As:List (Int×Int),depDs (As.map tupD)≤20
 | []=>by simp only [List.map_nil,depDs];decide
 | A :: As=>by
   have:=FrL.dep As
   simp only [List.map_cons,depDs,tupD,depD]
   omega
theorem FrL.len {K:PySem.W.Frag} {H:Hp}:∀ {As:List (Int×Int)} {vs:List V},FrL K H As vs→vs.length=As.length
 | [],_,h=>by
   have h:_=([]:List V):=h
   subst h;rfl
 | _ :: _,_,⟨p,r,e,f,h⟩=>by rw [e];simp [FrL.len h]
theorem FrL.kp {K:PySem.W.Frag} {H H':Hp} (k:KL H H'):∀ {As:List (Int×Int)} {vs:List V},FrL K H As vs→FrL K H' As vs
 | [],_,h=>h
 | _ :: _,_,⟨p,r,e,f,h⟩=>⟨p,r,e,k.tup f,FrL.kp k h⟩
theorem FrL.at {K:PySem.W.Frag} {H:Hp} {As:List (Int×Int)} {vs:List V} (h:FrL K H As vs) {j:Nat} {A:Int×Int} (e:As[j]?=some A):∃ p,vs[j]?=some (.ref p)∧FrA K H p A:=by
 induction As generalizing vs j with
 | nil=>simp at e
 | cons B As ih =>
   obtain ⟨p,r,rfl,f,h⟩:=h
   cases j with
   | zero=>simp at e;subst e;exact ⟨p,by simp,f⟩
   | succ j =>
     obtain ⟨q,a,b⟩:=ih h (j:=j) (by simpa using e)
     exact ⟨q,by simpa using a,b⟩
theorem FrL.rep {K:PySem.W.Frag} {H:Hp} {p:Addr} {A:Int×Int} (f:FrA K H p A):∀ n:Nat,FrL K H (List.replicate n A) (List.replicate n [V.ref p]).flatten
 | 0=>rfl
 | n+1=>by
   rw [List.replicate_succ,List.replicate_succ,List.flatten_cons]
   exact ⟨p,_,rfl,f,FrL.rep f n⟩
structure Wts (pages:Int) (ws:List Int):Prop where
 len:(ws.length:Int)=pages
 nn:∀ w∈ws,0≤w∧w<2 ^ 37
 pos:0<ws.sum
noncomputable def lps (ws:List Int):List (Int×Int):=ws.map fun w=>Pw.mk w ws.sum
section
variable {X:Cx}
theorem call_sumK {K:PySem.W.Frag} (e:X.K=K) (hc:X.calm=true):CallR X (.builtin "sum") (rSum K):=e ▸ call_sum hc
theorem pa_consX {e:Expr} {es:List Expr} {te:TE} {t:TA} (hs:starEach (e :: es) X.env=(false,eval e X.env) :: starEach es X.env) (h1:PE X e te) (h2:PA X es t):PA X (e :: es) (tCons te t):=pa_cons h1 h2 hs
theorem ps_setX {pos:Pos} {i:Nat} {x:Str} {e:Expr} {te:TE} {pos':Pos} (hs:swapsWith e (some (.Name x pos')) pos.line X.env=pure false) (hf:X.fn x=true∨X.env.scope.names.lookup x=some .local) (hN:X.N.Nodup) (hi:X.N[i]?=some x) (hx:Loc X.env.scope x) (he:PE X e te) :
 PS X (.Assign [.Name x pos'] e pos) (tAsg te (gName i)):=ps_set hN hi hx he hs hf
end
end L2
namespace L2
open PySem PySem.Spec PyProof.Rows PySem.W
noncomputable def rNil (K:PySem.W.Frag) (neg:Bool):R2:=fun x y H Q=>∃ a b xs,x=.ref a∧y=.ref b∧((SqT K H a xs∧SqT K H b [])∨(SqL K H a xs∧SqL K H b []))∧Q (.bl (if neg then !xs.isEmpty else xs.isEmpty)) H
section
variable {X:Cx} {pins:List (Addr×Obj)} {σ:St} {H:Hp} {s:Shared}
theorem rc_nilT {A:Around} {a b:Addr} {xs:List V} (I:Inv X pins σ H s) (hu:A.units<cLine) (ha:SqT X.K H a xs) (hb:SqT X.K H b []) :
 SeqAt.RcAt A s (.ref a) (.ref b) xs.isEmpty∧SeqAt.RcNeAt A s (.ref a) (.ref b) (!xs.isEmpty):=by
 obtain ⟨its,r1,p1,_⟩:=I.tuple ha
 obtain ⟨its2,r2,p2,_⟩:=I.tuple hb
 cases r2
 have l3:=r1.length
 have q:=SeqAt.RcAt.tuples (A:=A) (s:=s) (e:=fun _=>true) p1 p2 hu (fun j h1 h2=>absurd h2 (Nat.not_lt_zero j))
 have q2:=SeqAt.RcNeAt.tuples (A:=A) (s:=s) (e:=fun _=>true) p1 p2 hu (fun j h1 h2=>absurd h2 (Nat.not_lt_zero j))
 have e:((List.range (min its.toArray.size ([]:List Value).toArray.size)).all (fun _=>true) && its.toArray.size == ([]:List Value).toArray.size)=xs.isEmpty:=by
  cases xs <;> cases its <;> simp at l3 ⊢
 rw [e] at q q2
 exact ⟨q,q2⟩
theorem rc_nilL {A:Around} {a b:Addr} {xs:List V} (I:Inv X pins σ H s) (hu:A.units<cLine) (ha:SqL X.K H a xs) (hb:SqL X.K H b []) :
 SeqAt.RcAt A s (.ref a) (.ref b) xs.isEmpty∧SeqAt.RcNeAt A s (.ref a) (.ref b) (!xs.isEmpty):=by
 obtain ⟨its,r1,p1,_⟩:=I.list ha
 obtain ⟨its2,r2,p2,_⟩:=I.list hb
 cases r2
 have l3:=r1.length
 cases xs with
 | nil =>
   cases r1
   exact ⟨SeqAt.RcAt.lists (A:=A) (s:=s) (e:=fun _=>true) p1.isList p2.isList rfl hu (fun j h1 h2=>absurd h2 (Nat.not_lt_zero j)),SeqAt.RcNeAt.lists (A:=A) (s:=s) (e:=fun _=>true) p1.isList p2.isList rfl hu (fun j h1 h2=>absurd h2 (Nat.not_lt_zero j))⟩
 | cons x xs =>
   have hsz:(its.toArray.size != ([]:List Value).toArray.size)=true:=by
    cases its <;> simp at l3 ⊢
   exact ⟨SeqAt.RcAt.lists_lengths p1.isList p2.isList hsz hu,SeqAt.RcNeAt.lists_lengths p1.isList p2.isList hsz hu⟩
end
section
variable {X:Cx}
theorem op_eqNil {k:Nat} (hr:Room k X.A):OpR X (compareOp .Eq) (rNil X.K false):=by
 intro pins s σ H x y v u Q I rx ry h
 obtain ⟨a,b,xs,rfl,rfl,hk,q⟩:=h
 cases rx
 cases ry
 have hu:=hr.units
 rcases hk with ⟨ha,hb⟩ | ⟨ha,hb⟩
 · exact (rc_nilT (A:=X.A) I (by omega) ha hb).1 _ _ _ _ ⟨.bl _,H,I,rfl,q⟩
 · exact (rc_nilL (A:=X.A) I (by omega) ha hb).1 _ _ _ _ ⟨.bl _,H,I,rfl,q⟩
theorem op_neNil {k:Nat} (hr:Room k X.A):OpR X (compareOp .NotEq) (rNil X.K true):=by
 intro pins s σ H x y v u Q I rx ry h
 obtain ⟨a,b,xs,rfl,rfl,hk,q⟩:=h
 cases rx
 cases ry
 have hu:=hr.units
 rcases hk with ⟨ha,hb⟩ | ⟨ha,hb⟩
 · exact (rc_nilT (A:=X.A) I (by omega) ha hb).2 _ _ _ _ ⟨.bl _,H,I,rfl,q⟩
 · exact (rc_nilL (A:=X.A) I (by omega) ha hb).2 _ _ _ _ ⟨.bl _,H,I,rfl,q⟩
end
end L2
namespace HT
open PySem PyProof.Rows
section
variable {prog:Program} {w:World} {A:Around} {E:Value→Shared→Prop} {s:Shared}
end
end HT
namespace L2
open PySem PySem.Spec PyProof.Rows PySem.W
section
variable {X:Cx}
noncomputable def rListS (K:PySem.W.Frag):List V→Hp→VK→Prop:=fun xs H Q=>∃ (p:Addr) (ys:List V),xs=[.ref p]∧(SqL K H p ys∨SqT K H p ys)∧∀ (l:Addr) (H':Hp),Same H H'→H l=none→H' l=some (.lst ys)→Q (.ref l) H'
theorem call_listS:CallR X (.type "list") (rListS X.K):=fun pins s σ H xs us Q I r ⟨p,ys,e,h1,q⟩=>call_list_of pins s σ H xs us Q I r ⟨p,ys,e,h1,newS q⟩
end
end L2
namespace L2
open PySem PySem.Spec PyProof.Rows
section
variable {κ:Type} [DecidableEq κ]
end
section
variable {P:Program} {w:World} {H:Hp} {h:Heap} {a:Addr}
end
section
variable {X:Cx} {pins:List (Addr×Obj)} {σ:St} {H:Hp} {s:Shared} {a:Addr} {y v:V} {u r:Value} {o:Option V} {A:Around} {E:Value→Shared→Prop}
end
section
variable {X:Cx} {pins:List (Addr×Obj)} {σ:St} {H:Hp} {s:Shared} {a:Addr} {kvs:List (Key×V)} {k:Key} {u:Value} {A:Around} {E:Value→Shared→Prop}
end
section
variable {X:Cx} {o i e value:Expr} {pos pos' tpos:Pos} {td ty tv:TE}
end
section
variable {X:Cx} {pos:Pos}
end
end L2
namespace L2
open PySem PySem.Spec PyProof.Rows PySem.W
theorem pe_neg1 {X:Cx} {j:Nat} {pos pos':Pos}:PE X (.UnaryOp .USub (.Constant (.int 1) j pos') pos) (tC (.int (-1))):=fun pins s σ H Q I h=>pe_un un_neg pe_int pins s σ H Q I ⟨_,rfl,h⟩
section
variable {K:PySem.W.Frag} {H H':Hp} {n m:Nat} {v:V}
end
end L2
namespace L2
open PySem PySem.Spec PyProof.Rows PySem.W
section
variable {X:Cx}
theorem ps_forX {tg iter:Expr} {body:List Stmt} {wi:TI} {g:TG} {tb:TS} {pos:Pos} (hs:∀ x:Value,foldedSetIterable iter X.env x=pure x) (h1:PassesOwn (model X.prog X.w) X.A X.env X.xe) (h2:X.calm=true) (hi:PI X tg iter wi) (hg:PG X tg g) (hb:PSs X body tb) :
 PS X (.For tg iter body [] pos) (tFor wi g tb):=ps_for h1 h2 hi hg hb hs
end
end L2
namespace Pw
noncomputable def qs:Nat→(Nat→Rat)→Rat
 | 0,_=>0
 | n+1,f=>qs n f+f n
theorem qs_congr {f g:Nat→Rat}:∀ {n:Nat},(∀ i,i<n→f i=g i)→qs n f=qs n g
 | 0,_=>rfl
 | n+1,h=>by
   show qs n f+f n=qs n g+g n
   rw [qs_congr (n:=n) fun i hi=>h i (by omega),h n (by omega)]
theorem qs_add (f g:Nat→Rat):∀ n,qs n (fun i=>f i+g i)=qs n f+qs n g
 | 0=>by show (0:Rat)=0+0;grind
 | n+1=>by
   show qs n _+(f n+g n)=(qs n f+f n)+(qs n g+g n)
   rw [qs_add f g n];grind
theorem qs_mul (c:Rat) (f:Nat→Rat):∀ n,qs n (fun i=>c * f i)=c * qs n f
 | 0=>by show (0:Rat)=c * 0;grind
 | n+1=>by
   show qs n _+c * f n=c * (qs n f+f n)
   rw [qs_mul c f n];grind
theorem qs_zero:∀ n,qs n (fun _=>0)=0
 | 0=>rfl
 | n+1=>by show qs n _+0=(0:Rat);rw [qs_zero n];grind
theorem qs_swap (f:Nat→Nat→Rat) (m:Nat):∀ n,qs n (fun i=>qs m (fun j=>f i j))=qs m (fun j=>qs n (fun i=>f i j))
 | 0=>(qs_zero m).symm
 | n+1=>by
   show qs n _+qs m _=qs m (fun j=>qs n (fun i=>f i j)+f n j)
   rw [qs_add,qs_swap f m n]
theorem qs_nonneg {f:Nat→Rat}:∀ {n:Nat},(∀ i,i<n→0≤f i)→0≤qs n f
 | 0,_=>by show (0:Rat)≤0;grind
 | n+1,h=>by
   have h1:=qs_nonneg (n:=n) fun i hi=>h i (by omega)
   have h2:=h n (by omega)
   show 0≤qs n f+f n
   grind
theorem qs_le {f g:Nat→Rat}:∀ {n:Nat},(∀ i,i<n→f i≤g i)→qs n f≤qs n g
 | 0,_=>by show (0:Rat)≤0;grind
 | n+1,h=>by
   have h1:=qs_le (n:=n) fun i hi=>h i (by omega)
   have h2:=h n (by omega)
   show qs n f+f n≤qs n g+g n
   grind
theorem qs_single {f:Nat→Rat} {k:Nat}:∀ {n:Nat},k<n→(∀ i,i<n→i≠k→f i=0)→qs n f=f k
 | n+1,hk,h=>by
   show qs n f+f n=f k
   by_cases e:k=n
   · subst e
     rw [qs_congr (g:=fun _=>0) fun i hi=>h i (by omega) (by omega),qs_zero];grind
   · rw [qs_single (n:=n) (by omega) fun i hi hn=>h i (by omega) hn,h n (by omega) (by omega)];grind
noncomputable def val (A:Int×Int):Rat:=(A.1:Rat) / (A.2:Rat)
theorem castne {d:Int} (h:d≠0):(d:Rat)≠0:=by simpa using h
theorem div_eq {a b c d:Rat} (hb:b≠0) (hd:d≠0):a / b=c / d↔a * d=c * b:=by
 constructor
 · intro h;grind
 · intro h;grind
end Pw
namespace Pw
theorem val_fr {A:Int×Int} {n d:Int} (h:Fr A n d):val A=(n:Rat) / (d:Rat):=by
 unfold val
 rw [div_eq (castne h.pos) (castne h.ne)]
 exact_mod_cast h.w
theorem val_inj {A B:Int×Int} (a:Canon A) (b:Canon B) (h:val A=val B):A=B:=by
 have ha:=(Fr.of a).pos
 have hb:=(Fr.of b).pos
 unfold val at h
 rw [div_eq (castne ha) (castne hb)] at h
 exact canon_unique a b (by exact_mod_cast h)
theorem val_mk {a b:Int} (h:b≠0):val (mk a b)=(a:Rat) / (b:Rat):=val_fr (Fr.made h)
theorem canon_mk {a b:Int} (h:b≠0):Canon (mk a b):=(mk_spec h).1
theorem val_fplus {A B:Int×Int} (ha:A.2≠0) (hb:B.2≠0):val (fplus A B)=val A+val B:=by
 unfold fplus
 rw [val_mk (Int.mul_ne_zero ha hb)]
 unfold val
 have h1:=castne ha
 have h2:=castne hb
 rw [Rat.intCast_add,Rat.intCast_mul,Rat.intCast_mul,Rat.intCast_mul]
 grind
theorem val_fless {A B:Int×Int} (ha:A.2≠0) (hb:B.2≠0):val (fless A B)=val A - val B:=by
 unfold fless
 rw [val_mk (Int.mul_ne_zero ha hb)]
 unfold val
 have h1:=castne ha
 have h2:=castne hb
 rw [Rat.intCast_sub,Rat.intCast_mul,Rat.intCast_mul,Rat.intCast_mul]
 grind
theorem val_ftimes {A B:Int×Int} (ha:A.2≠0) (hb:B.2≠0):val (ftimes A B)=val A * val B:=by
 unfold ftimes
 rw [val_mk (Int.mul_ne_zero ha hb)]
 unfold val
 have h1:=castne ha
 have h2:=castne hb
 rw [Rat.intCast_mul,Rat.intCast_mul]
 grind
theorem canon_fplus {A B:Int×Int} (ha:A.2≠0) (hb:B.2≠0):Canon (fplus A B):=canon_mk (Int.mul_ne_zero ha hb)
theorem canon_fless {A B:Int×Int} (ha:A.2≠0) (hb:B.2≠0):Canon (fless A B):=canon_mk (Int.mul_ne_zero ha hb)
theorem canon_ftimes {A B:Int×Int} (ha:A.2≠0) (hb:B.2≠0):Canon (ftimes A B):=canon_mk (Int.mul_ne_zero ha hb)
theorem canon_ne {A:Int×Int} (h:Canon A):A.2≠0:=by have:=h.1;omega
theorem canon01:Canon (0,1):=⟨by decide,by decide⟩
theorem canon11:Canon (1,1):=⟨by decide,by decide⟩
theorem val11:val (1,1)=1:=by unfold val;show ((1:Int):Rat) / ((1:Int):Rat)=1;rw [Rat.intCast_one];grind
noncomputable def wayF (A B:Int×Int) (c m:Int):Int×Int:=fplus (ftimes A B) (ftimes (fless (1,1) A) (mk c m))
theorem val_wayF {A B:Int×Int} {c m:Int} (a:Canon A) (b:Canon B) (hm:m≠0):val (wayF A B c m)=val A * val B+(1 - val A) * ((c:Rat) / (m:Rat)):=by
 have ha:=canon_ne a
 have hb:=canon_ne b
 unfold wayF
 rw [val_fplus (canon_ne (canon_ftimes ha hb)) (canon_ne (canon_ftimes (canon_ne (canon_fless (by decide) ha)) (canon_ne (canon_mk hm)))),val_ftimes ha hb,val_ftimes (canon_ne (canon_fless (by decide) ha)) (canon_ne (canon_mk hm)),val_fless (by decide) ha,val11,val_mk hm]
noncomputable def waysL (ps:List (Int×Int)) (A:Int×Int) (Bs:List (Int×Int)) (page:Int):List (Int×Int) :=
 if outs ps page=[] then Bs else (List.range Bs.length).map fun t=>wayF A (Bs.getD t (0,1)) ((outs ps page).count (t:Int):Nat) ((outs ps page).length:Nat)
noncomputable def Canons (Bs:List (Int×Int)):Prop:=∀ B∈Bs,Canon B
theorem Canons.getD {Bs:List (Int×Int)} (h:Canons Bs) (t:Nat):Canon (Bs.getD t (0,1)):=by
 rw [List.getD_eq_getElem?_getD]
 cases e:Bs[t]? with
 | none=>exact canon01
 | some B=>exact h B (List.mem_of_getElem? e)
theorem outs_len_ne {ps:List (Int×Int)} {page:Int} (h:outs ps page≠[]):(((outs ps page).length:Nat):Int)≠0:=by
 have:=List.length_pos_iff.mpr h
 omega
theorem sum_count {n:Nat}:∀ {l:List Int},(∀ x∈l,0≤x∧x<n)→qs n (fun t=>((l.count (t:Int):Nat):Rat))=((l.length:Nat):Rat)
 | [],_=>by
   rw [qs_congr (g:=fun _=>0) fun i _=>by simp,qs_zero];simp
 | x :: l,h=>by
   have ih:=sum_count (n:=n) (l:=l) fun y hy=>h y (List.mem_cons_of_mem _ hy)
   have hx:=h x List.mem_cons_self
   rw [qs_congr (g:=fun t=>((l.count (t:Int):Nat):Rat)+(if (t:Int)=x then 1 else 0)) fun t _=>?_,qs_add,ih,qs_single (k:=x.toNat) (by omega) fun i _ hi=>?_]
   · rw [if_pos (by omega)]
     simp
   · rw [if_neg (by omega)]
   · rw [List.count_cons]
     by_cases c:(t:Int)=x
     · rw [if_pos c,if_pos (by simp [c])];simp
     · rw [if_neg c,if_neg (by simpa using fun z=>c z.symm)];simp;grind
theorem getD_map_range {n t:Nat} {f:Nat→Int×Int} {d:Int×Int} (h:t<n):((List.range n).map f).getD t d=f t:=by
 rw [List.getD_eq_getElem?_getD,List.getElem?_map,List.getElem?_range h];rfl
theorem outs_mem {pages:Int} {ps:List (Int×Int)} (ok:∀ p∈ps,0≤p.2∧p.2<pages) {page x:Int} (h:x∈outs ps page):0≤x∧x<pages:=by
 unfold outs at h
 obtain ⟨p,hp,rfl⟩:=List.mem_map.mp h
 exact ok p (List.mem_filter.mp hp).1
theorem ways_sum {n:Nat} {ps:List (Int×Int)} {A:Int×Int} {Bs:List (Int×Int)} {page:Int} (ok:∀ p∈ps,0≤p.2∧p.2<(n:Int)) (a:Canon A) (b:Canons Bs) (hn:Bs.length=n) (h1:qs n (fun t=>val (Bs.getD t (0,1)))=1) :
 qs n (fun t=>val ((waysL ps A Bs page).getD t (0,1)))=1:=by
 unfold waysL
 split
 · exact h1
 · rename_i h
   have hm:=outs_len_ne h
   have hs:=sum_count (n:=n) (l:=outs ps page) fun x hx=>outs_mem ok hx
   have hm':=castne hm
   rw [qs_congr (g:=fun t=>val A * val (Bs.getD t (0,1))+((1 - val A) / ((((outs ps page).length:Nat):Int):Rat)) * (((outs ps page).count (t:Int):Nat):Rat)) fun t ht=>?_,qs_add,qs_mul,qs_mul,hs,h1]
   · have e:((((outs ps page).length:Nat):Int):Rat)=(((outs ps page).length:Nat):Rat):=rfl
     rw [e] at hm' ⊢
     grind
   · rw [getD_map_range (by omega),val_wayF a (b.getD t) hm]
     have e:((((outs ps page).count (t:Int):Nat):Int):Rat)=(((outs ps page).count (t:Int):Nat):Rat):=rfl
     rw [e]
     grind
theorem qs_list:∀ ws:List Int,qs ws.length (fun t=>((ws.getD t 0:Int):Rat))=((ws.sum:Int):Rat):=by
 intro ws
 have key:∀ k,k≤ws.length→qs k (fun t=>((ws.getD t 0:Int):Rat))=(((ws.take k).sum:Int):Rat):=by
  intro k
  induction k with
  | zero=>intro _;simp [qs]
  | succ k ih =>
    intro hk
    show qs k _+_=_
    have e:ws[k]?=some ws[k]:=by simp
    rw [ih (by omega),List.take_succ,List.sum_append,Rat.intCast_add,e]
    show _+((ws.getD k 0:Int):Rat)=_
    rw [List.getD_eq_getElem?_getD,e]
    simp
 have:=key ws.length (Nat.le_refl _)
 rwa [List.take_of_length_le (Nat.le_refl _)] at this
end Pw
namespace L2
theorem lps_len (ws:List Int):(lps ws).length=ws.length:=by unfold lps;simp
theorem lps_canon {pages:Int} {ws:List Int} (h:Wts pages ws):Pw.Canons (lps ws):=by
 intro B hB
 obtain ⟨x,_,rfl⟩:=List.mem_map.mp hB
 have:=h.pos
 exact Pw.canon_mk (by omega)
theorem lps_sz {pages:Int} {ws:List Int} (h:Wts pages ws) (hp:pages≤12):∀ B∈lps ws,Sz2 41 B:=by
 intro B hB
 obtain ⟨x,hx,rfl⟩:=List.mem_map.mp hB
 have hl:=h.len
 have hb:=h.nn x hx
 have hsum:ws.sum≤12 * 2 ^ 37:=by
  have h1:=Pw.sum_le (B:=2 ^ 37) fun n hn=>Int.le_of_lt (h.nn n hn).2
  have h2:(ws.length:Int) * 2 ^ 37≤12 * 2 ^ 37:=Int.mul_le_mul_of_nonneg_right (by omega) (by decide)
  omega
 have:=h.pos
 exact mk_sz (by omega) (sz_of 41 (by omega)) (sz_of 41 (by omega))
theorem lps_nn {pages:Int} {ws:List Int} (h:Wts pages ws):∀ B∈lps ws,0≤B.1:=by
 intro B hB
 obtain ⟨x,hx,rfl⟩:=List.mem_map.mp hB
 exact Pw.mk_nonneg h.pos (h.nn x hx).1
theorem lps_sum {pages:Int} {ws:List Int} (h:Wts pages ws):Pw.qs ws.length (fun t=>Pw.val ((lps ws).getD t (0,1)))=1:=by
 have hp:=h.pos
 have h0:ws.sum≠0:=by omega
 have h0':=Pw.castne h0
 rw [Pw.qs_congr (g:=fun t=>(1 / (ws.sum:Rat)) * ((ws.getD t 0:Int):Rat)) fun t ht=>?_,Pw.qs_mul,Pw.qs_list]
 · grind
 · have e:ws[t]?=some ws[t]:=by simp
   rw [List.getD_eq_getElem?_getD,List.getD_eq_getElem?_getD]
   unfold lps
   rw [List.getElem?_map,e]
   show Pw.val (Pw.mk ws[t] ws.sum)=_
   rw [Pw.val_mk h0]
   simp only [Option.getD_some]
   grind
end L2
namespace L2
open PySem PySem.Spec PyProof.Rows
section
variable {X:Cx} {pins:List (Addr×Obj)} {σ:St} {H:Hp} {s:Shared} {h':Heap}
theorem Inv.turnedL {ch:List Addr} {t':Nat} (I:Inv X pins σ H s) (k:∀ b ob,b∉ch→s.heap.get? b=some ob→h'.get? b=some ob) (fe:∀ b∈ch,FpOk X pins H b):Inv X pins σ H { s with heap:=h',toks:=t' }:=by
 have nit:∀ b u,H b=some u→b∉ch:=fun b u q z=>by rw [(fe b z).1] at q;cases q
 refine I.step (g':=s.gens) (d':=s.drawn) (ch:=ch) (fun b hb=>?_) (fun b ob _ _ hc q _=>k b ob hc q) (fun b ob _ _ hc q _=>⟨ob.slots,k b ob hc q⟩) (fun _ _ _ _ n=>n)
  (fun b ob hc q=>⟨ob,k b ob hc q⟩) (fun _ _ q=>q) (fun _ _ _ q=>q) (fun b ps q=>⟨#[],by rw [q];simp⟩) (fun m hm=>?_) (fun b u q=>?_) I.bare
 · have z:=fe b hb
   exact ⟨z.2.2.2.1,z.2.1,z.2.2.2.2.1,z.2.2.2.2.2⟩
 · obtain ⟨ob,es,ep,ho,r⟩:=hm
   exact ⟨ob,es,ep,k _ ob (fun z=>(fe _ z).2.1 rfl) ho,r⟩
 · refine (I.hok b u q).stay (fun c v hc z=>k c v ?_ z) (fun _ z=>z) fun _ _ z=>z
   rcases hc with z | z
   · rw [z];exact nit b u q
   · exact nit c _ z
theorem Inv.turnedNewL {ch:List Addr} {T:Addr} {o:HO} {t':Nat} (I:Inv X pins σ H s) (k:∀ b ob,b∉ch→s.heap.get? b=some ob→h'.get? b=some ob) (fe:∀ b∈ch,FpOk X pins H b)
 (hT:s.heap.objs.size≤T) (new:ObjOk X.prog X.w (upd H T o) h' T o):Inv X pins σ (upd H T o) { s with heap:=h',toks:=t' }:=by
 have hn:H T=none:=I.hok.fresh hT
 have neT:∀ b ob,s.heap.get? b=some ob→b≠T:=fun b ob q=>Nat.ne_of_lt (Nat.lt_of_lt_of_le (Heap.lt_size q) hT)
 have nit:∀ b u,H b=some u→b∉ch:=fun b u q z=>by rw [(fe b z).1] at q;cases q
 refine I.step (g':=s.gens) (d':=s.drawn) (ch:=ch) (fun b hb=>?_) (fun b ob _ _ hc q _=>k b ob hc q) (fun b ob _ _ hc q _=>⟨ob.slots,k b ob hc q⟩)
  (fun b ob _ q n=>by rw [upd_ne (neT b ob q)];exact n) (fun b ob hc q=>⟨ob,k b ob hc q⟩)
  (fun b xs q=>by rw [upd_ne (ne_of_none q hn)];exact q) (fun b ob u q=>by rw [upd_ne (ne_of_none q hn)];exact q) (fun b ps q=>⟨#[],by rw [upd_ne (ne_of_none q hn),q];simp⟩) (fun m hm=>?_) (fun b u q=>?_) I.bare
 · have z:=fe b hb
   exact ⟨z.2.2.2.1,z.2.1,z.2.2.2.2.1,z.2.2.2.2.2⟩
 · obtain ⟨ob,es,ep,ho,r⟩:=hm
   exact ⟨ob,es,ep,k _ ob (fun z=>(fe _ z).2.1 rfl) ho,r⟩
 · by_cases hb:b=T
   · subst hb;rw [upd_same] at q;cases q;exact new
   · rw [upd_ne hb] at q
     refine (I.hok b u q).stay (fun c v hc z=>?_) (fun c z=>by rw [upd_ne (ne_of_none z hn)];exact z) fun c xs z=>by rw [upd_ne (ne_of_none z hn)];exact z
     rcases hc with e1 | e1
     · subst e1;exact k _ v (nit _ u q) z
     · exact k c v (nit c _ e1) z
end
noncomputable def ItemN (prog:Program) (w:World) (A:Around) (I:Addr) (wr:List Addr) (n:Nat) (Pt:Nat→Array Value→Prop) (St:Nat→Heap→Prop) (Mid:Nat→Addr→Heap→Prop):Prop :=
 ∀ (i:Nat) (s:Shared) (Q:Option Value→Shared→Prop) (E:Value→Shared→Prop),i<n→St i s.heap →
   (∀ (T:Addr) (x y:Value) (h':Heap) (tk:Nat),Pt i #[x,y]→s.heap.objs.size≤T→h'.get? T=some { cls:=.type "tuple",data:=.seq #[x,y] }→Mid i T h'→(∀ b o,b∉wr→s.heap.get? b=some o→h'.get? b=some o)→Q (some (.ref T)) { s with heap:=h',toks:=tk }) →
   wpAny (model prog w) A (pyNext (.ref I)) Q E s
theorem itemN_enum {prog:Program} {w:World} {A:Around} {it:Addr} {fp:List Addr} {n:Nat} {Pp:Nat→Value→Prop} {St:Nat→Heap→Prop} (D:Draws prog w A.in1 it fp n Pp St) (e:Addr) (hei:e≠it) (hef:e∉fp) :
 ItemN prog w A e [e,it] n (fun i vals=>∃ t x,Pp i x∧vals=#[.int i t,x]) (fun i h=>(∃ old,IsEnum h e it i old)∧St i h) (fun i T h=>(∃ x,IsEnumOut h e it ((i:Int)+1) x T)∧St (i+1) h∧T≠e∧T≠it):=fun i s Q E hi hst q=>by
 obtain ⟨⟨old,he⟩,hs⟩:=hst
 refine wpAny_pyNext_enum_itemD D he hs hi hei hef fun x hp tk hP ho hs' hT hsz hk=>?_
 have l1:e<s.heap.objs.size:=Heap.lt_size he
 have l2:it<s.heap.objs.size:=by obtain ⟨_,y⟩:=D.live _ _ hs;exact Heap.lt_size y
 exact q _ _ _ hp (tk+1) ⟨_,_,hP,rfl⟩ (Nat.le_refl _) hT ⟨⟨_,ho⟩,hs',Nat.ne_of_gt l1,Nat.ne_of_gt l2⟩ fun b o hb y=>hk b o (fun z=>hb (by simp [z])) (fun z=>hb (by simp [z])) y
theorem itemN_zip {prog:Program} {w:World} {A:Around} (z TI TO i1 i2 l1 l2:Addr) (D:ZipApart z TI TO i1 i2 l1 l2) (xs ys:Array Value) :
 ItemN prog w A z [z,TO,i1,i2] (min xs.size ys.size) (fun i vals=>∃ x y,xs[i]?=some x∧ys[i]?=some y∧vals=#[x,y])
  (fun i h=>IsZip h z TI TO .none∧IsPair h TI (.ref i1) (.ref i2)∧(∃ a b,IsPair h TO a b)∧h.IsListIter i1 l1 i∧h.IsListIter i2 l2 i∧h.IsList l1 xs∧h.IsList l2 ys)
  (fun i T h=>IsZip h z TI TO (rawInt T)∧IsPair h TI (.ref i1) (.ref i2)∧(∃ a b,IsPair h TO a b)∧h.IsListIter i1 l1 (i+1)∧h.IsListIter i2 l2 (i+1)∧h.IsList l1 xs∧h.IsList l2 ys ∧
   T≠z∧T≠TO∧T≠i1∧T≠i2):=fun i s Q E hi hst q=>by
 obtain ⟨g1,g2,⟨a,b,g3⟩,g4,g5,g6,g7⟩:=hst
 have e1:i<xs.size:=Nat.lt_of_lt_of_le hi (Nat.min_le_left ..)
 have e2:i<ys.size:=Nat.lt_of_lt_of_le hi (Nat.min_le_right ..)
 refine wpAny_pyNext_zip_item D g1 g2 g3 g4 g5 g6 g7 (Array.getElem?_eq_getElem e1) (Array.getElem?_eq_getElem e2) fun hp a1 a2 a3 a4 a5 a6 hk=>?_
 have gt:∀ {c:Addr} {o:Obj},s.heap.get? c=some o→s.heap.objs.size≠c:=fun e=>Nat.ne_of_gt (Heap.lt_size e)
 exact q _ _ _ hp s.toks ⟨_,_,Array.getElem?_eq_getElem e1,Array.getElem?_eq_getElem e2,rfl⟩ (Nat.le_refl _) a5
  ⟨a1,hk _ _ D.TIz D.TITO D.TIi1 D.TIi2 g2,⟨_,_,a2⟩,a3,a4,g6.at fun o e=>hk _ o D.l1z D.l1TO D.l1i1 D.l1i2 e,g7.at fun o e=>hk _ o D.l2z D.l2TO D.l2i1 D.l2i2 e,gt g1,gt g3,(by obtain ⟨_,e,_⟩:=g4;exact gt e),(by obtain ⟨_,e,_⟩:=g5;exact gt e)⟩
  fun c o hc e=>hk c o (fun y=>hc (by simp [y])) (fun y=>hc (by simp [y])) (fun y=>hc (by simp [y])) (fun y=>hc (by simp [y])) e
noncomputable def ItP (go:Nat→Hp→Prop) (pr:Nat→Hp→V→V→Prop) (stop:Nat→Hp→Prop):It:=⟨go,fun i H x H'=>∃ T u v,x=.ref T∧H T=none∧H'=upd H T (.tup [u,v])∧pr i H u v,stop⟩
section
variable {P:Program} {w:World} {K:PySem.W.Frag}
theorem turn_pairs {elts:List Expr} {ek:Nat} {epos:Pos} {go:Nat→Hp→Prop} {pr:Nat→Hp→V→V→Prop} {stop:Nat→Hp→Prop} {I:Addr} {fp wr:List Addr} {tn:Nat→Heap→Prop}
 (hI:I∈fp) (hw:∀ b∈wr,b∈fp) (obj:∀ i h,tn i h→∀ b∈fp,∃ o,h.get? b=some o∧∀ v,o.data≠.cell v)
 (keep:∀ i h h',tn i h→(∀ b∈fp,∀ o,h.get? b=some o→h'.get? b=some o)→tn i h')
 (self:∀ (A:Around) (i:Nat) (s:Shared) (Q:Value→Shared→Prop) (E:Value→Shared→Prop),tn i s.heap→Q (.ref I) s→wpAny (model P w) A (pyIter (.ref I)) Q E s)
 (it:∀ (X:Cx),X.prog=P→X.w=w→X.K=K→X.calm=true→∀ (i:Nat) (pins:List (Addr×Obj)) (s:Shared) (σ:St) (H:Hp),Inv X pins σ H s→(∀ b∈fp,FpOk X pins H b)→tn i s.heap→go i H →
  ∃ fp' n Pt St Mid,(WalksT P w X.A I fp' wr n Pt St Mid∧ItemN P w X.A I wr n Pt St Mid)∧i<n∧St i s.heap∧(∀ h',St (i+1) h'→tn (i+1) h')∧∀ vals,Pt i vals→∃ u v x y,vals=#[x,y]∧RelV u x∧RelV v y∧pr i H u v)
 (dn:∀ (X:Cx),X.prog=P→X.w=w→X.K=K→X.calm=true→∀ (i:Nat) (pins:List (Addr×Obj)) (s:Shared) (σ:St) (H:Hp),Inv X pins σ H s→(∀ b∈fp,FpOk X pins H b)→tn i s.heap→stop i H →
  ∃ fp' n Pt St Mid,WalksT P w X.A I fp' wr n Pt St Mid∧St n s.heap) :
 Turn P w K (.Tuple elts ek epos) (ItP go pr stop) fp I tn where
 mem:=hI
 obj:=obj
 keep:=keep
 self:=self
 item:=by
  intro X hP hw' hK hc i pins s σ H E I0 hf st hg
  obtain ⟨fp',n,Pt,St,Mid,⟨W,WN⟩,hi,hst,hnx,hpt⟩:=it X hP hw' hK hc i pins s σ H I0 hf st hg
  subst hP hw' hK
  refine WN i s _ _ hi hst fun T x0 y0 h1 tk hv hT hIT hmid hk1=>⟨.ref T,rfl,?_⟩
  refine W.go elts ek epos i T _ _ _ hmid fun h2 hs2 hk2=>?_
  obtain ⟨u,v,x,y,exy,ru,rv,hpr⟩:=hpt _ hv
  cases exy
  have fe:∀ b∈wr,FpOk X pins H b:=fun b hb=>hf b (hw b hb)
  have hTw:T∉wr:=W.apart i T _ hmid
  have hn:H T=none:=I0.hok.fresh hT
  have I2:Inv X pins σ (upd H T (.tup [u,v])) { s with heap:=h2,toks:=tk } :=
   I0.turnedNewL (ch:=wr) (fun b ob hb q=>hk2 b ob hb (hk1 b ob hb q)) fe hT ⟨by show 2≤sizeLine;decide,[x0,y0],.cons ru (.cons rv .nil),⟨_,hk2 T _ hTw hIT,rfl,_,rfl⟩⟩
  refine ⟨.ref T,_,I2,rfl,⟨T,u,v,rfl,hn,rfl,hpr⟩,hnx _ hs2,fun b hb=>?_⟩
  obtain ⟨ob,eb,_⟩:=obj i _ st b hb
  rw [upd_ne (Nat.ne_of_lt (Nat.lt_of_lt_of_le (Heap.lt_size eb) hT))]
  exact (hf b hb).1
 done:=by
  intro X hP hw' hK hc i pins s σ H E I0 hf st hg
  obtain ⟨fp',n,Pt,St,Mid,W,hst⟩:=dn X hP hw' hK hc i pins s σ H I0 hf st hg
  subst hP hw' hK
  exact W.done s _ _ hst fun h1 tk hk=>⟨rfl,I0.turnedL hk fun b hb=>hf b (hw b hb)⟩
end
section
variable {prog:Program} {w:World} {A:Around}
theorem nextT_some {j t:Addr} {i:Nat} {its:Array Value} {y:Value} {s:Shared} {E Q:Value→Shared→Prop} (hj:s.heap.IsTupleIter j t i) (hs:s.heap.IsTuple t its) (hy:its[i]?=some y) (q:∀ hp,hp.IsTupleIter j t (i+1)→Heap.SameBut j s.heap hp→Q y { s with heap:=hp }):wpAny (model prog w) A (Builtin.SmallTypes.nextOf (.ref j)) Q E s:=by
 obtain ⟨oj,gj,cj,dj⟩:=id hj
 obtain ⟨ot,gt,ct,nt,dt⟩:=hs
 unfold Builtin.SmallTypes.nextOf;refine wpAny_bind (wpAny_callSpecial?_slot (name:=Str.ofString "__next__") hj.typeIs slot_tupleiter_next (wpAny_call_entry slot_tupleiter_next hj.typeIs entry_tupleiter_next ?_ (args_tupleiter_next _)))
 show wpAny _ _ (field (.ref j) 0 >>= _) _ _ s;refine wpAny_bind (wpAny_field gj dj (x:=.ref t) rfl ?_)
 show wpAny _ _ (if (Value.ref t == Value.none)=true then _ else _) _ _ s;rw [if_neg (show ¬ ((Value.ref t == Value.none)=true) from Bool.false_ne_true)]
 show wpAny _ _ (field (.ref j) 1 >>= _) _ _ s;refine wpAny_bind (wpAny_field gj dj (x:=.int i 0) rfl ?_)
 show wpAny _ _ (seqItems? (.ref t) >>= _) _ _ s;refine wpAny_bind (wpAny_seqItems gt dt ?_)
 simp only [Int.toNat_natCast,hy];refine wpAny_bind (wpAny_setField gj dj (by simp) (wpAny_pure ⟨y,rfl,wpAny_pure (q _ ?_ (Heap.SameBut.update ..))⟩))
 exact ⟨_,Heap.get?_update_self _ gj (Obj.isFreed_of_fields (Obj.data_mapFields dj _)),(Obj.cls_mapFields ..).trans cj,by rw [Obj.data_mapFields dj];simp [rawInt]⟩
theorem nextT_none {j t:Addr} {i:Nat} {its:Array Value} {s:Shared} {E Q:Value→Shared→Prop} (hh:A.handled=none) (hj:s.heap.IsTupleIter j t i) (hs:s.heap.IsTuple t its) (hy:its[i]?=none) (q:∀ hp e,Heap.ExtBut j s.heap hp→(∃ o,hp.get? e=some o∧o.cls=.type "StopIteration")→E (.ref e) { s with heap:=hp }):wpAny (model prog w) A (Builtin.SmallTypes.nextOf (.ref j)) Q E s:=by
 obtain ⟨oj,gj,cj,dj⟩:=id hj
 obtain ⟨ot,gt,ct,nt,dt⟩:=hs
 unfold Builtin.SmallTypes.nextOf;refine wpAny_bind (wpAny_callSpecial?_slot (name:=Str.ofString "__next__") hj.typeIs slot_tupleiter_next (wpAny_call_entry slot_tupleiter_next hj.typeIs entry_tupleiter_next ?_ (args_tupleiter_next _)))
 show wpAny _ _ (field (.ref j) 0 >>= _) _ _ s;refine wpAny_bind (wpAny_field gj dj (x:=.ref t) rfl ?_)
 show wpAny _ _ (if (Value.ref t == Value.none)=true then _ else _) _ _ s;rw [if_neg (show ¬ ((Value.ref t == Value.none)=true) from Bool.false_ne_true)]
 show wpAny _ _ (field (.ref j) 1 >>= _) _ _ s;refine wpAny_bind (wpAny_field gj dj (x:=.int i 0) rfl ?_)
 show wpAny _ _ (seqItems? (.ref t) >>= _) _ _ s;refine wpAny_bind (wpAny_seqItems gt dt ?_)
 simp only [Int.toNat_natCast,hy];refine wpAny_bind (wpAny_rule (wpAny_bind (wpAny_setField gj dj (by simp) ?_)))
 show wpAny _ _ (newExc (.type "StopIteration") [] >>= _) _ _ _;refine wpAny_bind ?_;simp only [newExc,newTuple]
 refine wpAny_bind (wpAny_newObj_type ?_ (by size_fits));refine wpAny_bind (m:=firstArgMember _ _) (wpAny_of_eq (a:=Value.none) (by first | rfl | (simp only [firstArgMember];rfl)) ?_)
 refine wpAny_newObj_type ?_ (by size_fits);simp only [raiseNew];refine wpAny_bind (wpAny_handled ?_)
 first | rw [show A.in1.handled=none from hh] | rw [hh]
 refine wpAny_bind (wpAny_pure (wpAny_throw ?_));exact q _ _ (((Heap.SameBut.update ..).extBut.push _).push _) ⟨_,Heap.get?_push_size _ rfl,rfl⟩
theorem drawsT (hh:A.handled=none) (it l:Addr) (hne:l≠it) (its:Array Value) :
 Draws prog w A it [it,l] its.size (fun i v=>its[i]?=some v) (fun i h=>h.IsTupleIter it l i∧h.IsTuple l its) where
 live:=fun _ _ st=>by
  obtain ⟨o,ho,_⟩:=st.1
  exact ⟨o,ho⟩
 frame:=fun _ _ _ st hk=>by
  obtain ⟨o,ho,r⟩:=st.2
  exact ⟨st.1.at fun o e=>hk it (by simp) o e,o,hk l (by simp) o ho,r⟩
 item:=fun i s Q E hi st hQ=>by
  obtain ⟨s1,o,ho,r⟩:=st
  exact nextT_some s1 ⟨o,ho,r⟩ (y:=its[i]) (by simp [hi]) fun hp a b=>hQ _ hp s.toks (by simp [hi]) ⟨a,o,b.extBut l o hne ho,r⟩ b
 done:=fun s Q E st hE=>nextT_none hh st.1 st.2 (by simp) hE
end
noncomputable def ItEL (K:PySem.W.Frag) (a:Addr):It:=ItP (fun i H=>∃ xs x,SqL K H a xs∧xs[i]?=some x) (fun i H u v=>u=.int i∧∀ xs,SqL K H a xs→xs[i]?=some v) (fun i H=>∃ xs,SqL K H a xs∧xs.length=i)
noncomputable def ItZ (K:PySem.W.Frag) (a b:Addr):It:=ItP (fun i H=>∃ xs ys x y,SqL K H a xs∧SqL K H b ys∧xs[i]?=some x∧ys[i]?=some y) (fun i H u v=>(∀ xs,SqL K H a xs→xs[i]?=some u)∧∀ ys,SqL K H b ys→ys[i]?=some v) (fun i H=>∃ xs ys,SqL K H a xs∧SqL K H b ys∧xs.length=i∧ys.length=i)
section
variable {P:Program} {w:World} {K:PySem.W.Frag} {elts:List Expr} {ek:Nat} {epos:Pos}
theorem turn_enumL {a e it:Addr} (hei:e≠it) (hae:a≠e) (hai:a≠it):Turn P w K (.Tuple elts ek epos) (ItEL K a) [e,it] e (fun i h=>(∃ old,IsEnum h e it i old)∧h.IsListIter it a i):=by
 have hef:e∉[it,a]:=fun z=>by
  rcases List.mem_cons.mp z with z | z
  · exact hei z
  · exact hae (List.mem_singleton.mp z).symm
 refine turn_pairs (wr:=[e,it]) (by simp) (fun b hb=>hb) (fun i h st b hb=>?_) (fun i h h' st k=>?_) (fun A i s Q E st q=>?_) ?_ ?_
 · obtain ⟨⟨old,g⟩,o,ho,oc,od⟩:=st
   rcases List.mem_cons.mp hb with z | z
   · subst z;exact ⟨_,g,fun v z=>by cases z⟩
   · have z:=List.mem_singleton.mp z
     subst z;exact ⟨o,ho,fun v z=>by rw [od] at z;cases z⟩
 · obtain ⟨⟨old,g⟩,g2⟩:=st
   exact ⟨⟨old,k e (by simp) _ g⟩,g2.at fun o z=>k it (by simp) o z⟩
 · obtain ⟨⟨old,g⟩,g2⟩:=st
   exact wpAny_pyIter_enum g q
 · intro X hP hw' hK hc i pins s σ H I0 hf st hg
   obtain ⟨xs,x,hq,hx⟩:=hg
   rw [← hK] at hq
   obtain ⟨its,rv,p,hz⟩:=I0.list hq
   obtain ⟨u,hu,ru⟩:=rv.get hx
   have hl:=rv.length
   have hix:i<xs.length:=(List.getElem?_eq_some_iff.mp hx).1
   refine ⟨_,_,_,_,_,⟨WalksT.enumerateD (Draws.list (prog:=P) (w:=w) (A:=X.A.in1) (I0.ok.hd hc) it a hai its.toArray) e hei hef (by simp),itemN_enum (Draws.list (prog:=P) (w:=w) (A:=X.A.in1) (I0.ok.hd hc) it a hai its.toArray) e hei hef⟩,by rw [List.size_toArray];omega,⟨st.1,st.2,p.isList⟩,fun h' z=>⟨z.1,z.2.1⟩,?_⟩
   rintro vals ⟨t,y,hy,rfl⟩
   refine ⟨.int i,x,_,y,rfl,⟨t,rfl⟩,?_,rfl,fun ys hys=>?_⟩
   · have:its[i]?=some y:=by simpa using hy
     rw [hu] at this
     cases this
     exact ru
   · have hys':SqL X.K H a ys:=by rw [hK];exact hys
     rw [I0.list_inj hys' hq];exact hx
 · intro X hP hw' hK hc i pins s σ H I0 hf st hg
   obtain ⟨xs,hq,hx⟩:=hg
   rw [← hK] at hq
   obtain ⟨its,rv,p,hz⟩:=I0.list hq
   have hl:=rv.length
   have e1:its.toArray.size=i:=by rw [List.size_toArray];omega
   refine ⟨_,_,_,_,_,WalksT.enumerateD (Draws.list (prog:=P) (w:=w) (A:=X.A.in1) (I0.ok.hd hc) it a hai its.toArray) e hei hef (by simp),?_⟩
   rw [e1]
   exact ⟨st.1,st.2,p.isList⟩
theorem turn_zip {z TI TO i1 i2 l1 l2:Addr} (D:ZipApart z TI TO i1 i2 l1 l2):Turn P w K (.Tuple elts ek epos) (ItZ K l1 l2) [z,TI,TO,i1,i2] z (fun i h=>IsZip h z TI TO .none∧IsPair h TI (.ref i1) (.ref i2)∧(∃ a b,IsPair h TO a b)∧h.IsListIter i1 l1 i∧h.IsListIter i2 l2 i):=by
 refine turn_pairs (wr:=[z,TO,i1,i2]) (by simp) (fun b hb=>?_) (fun i h st b hb=>?_) (fun i h h' st k=>?_) (fun A i s Q E st q=>?_) ?_ ?_
 · simp at hb ⊢
   rcases hb with rfl | rfl | rfl | rfl <;> simp
 · obtain ⟨g1,g2,⟨x,y,g3⟩,⟨o1,h1,c1,d1⟩,⟨o2,h2,c2,d2⟩⟩:=st
   simp at hb
   rcases hb with rfl | rfl | rfl | rfl | rfl
   · exact ⟨_,g1,fun v z=>by cases z⟩
   · exact ⟨_,g2,fun v z=>by cases z⟩
   · exact ⟨_,g3,fun v z=>by cases z⟩
   · exact ⟨_,h1,fun v z=>by rw [d1] at z;cases z⟩
   · exact ⟨_,h2,fun v z=>by rw [d2] at z;cases z⟩
 · obtain ⟨g1,g2,⟨x,y,g3⟩,g4,g5⟩:=st
   exact ⟨k z (by simp) _ g1,k TI (by simp) _ g2,⟨x,y,k TO (by simp) _ g3⟩,g4.at fun o e=>k i1 (by simp) o e,g5.at fun o e=>k i2 (by simp) o e⟩
 · exact wpAny_pyIter_zip st.1 q
 · intro X hP hw' hK hc i pins s σ H I0 hf st hg
   obtain ⟨xs,ys,x,y,hq,hq',hx,hy⟩:=hg
   rw [← hK] at hq hq'
   obtain ⟨its,rv,p,hz⟩:=I0.list hq
   obtain ⟨its',rv',p',hz'⟩:=I0.list hq'
   obtain ⟨u,hu,ru⟩:=rv.get hx
   obtain ⟨u',hu',ru'⟩:=rv'.get hy
   have hl:=rv.length
   have hl':=rv'.length
   have hix:i<xs.length:=(List.getElem?_eq_some_iff.mp hx).1
   have hiy:i<ys.length:=(List.getElem?_eq_some_iff.mp hy).1
   obtain ⟨g1,g2,g3,g4,g5⟩:=st
   refine ⟨_,_,_,_,_,⟨WalksT.zip2 (prog:=P) (w:=w) (A:=X.A) (I0.ok.hd hc) z TI TO i1 i2 l1 l2 D its.toArray its'.toArray,itemN_zip z TI TO i1 i2 l1 l2 D its.toArray its'.toArray⟩,by rw [List.size_toArray,List.size_toArray];omega,⟨g1,g2,g3,g4,g5,p.isList,p'.isList⟩,fun h' q=>⟨q.1,q.2.1,q.2.2.1,q.2.2.2.1,q.2.2.2.2.1⟩,?_⟩
   rintro vals ⟨v,v',hv,hv',rfl⟩
   have e1:its[i]?=some v:=by simpa using hv
   have e2:its'[i]?=some v':=by simpa using hv'
   rw [hu] at e1
   rw [hu'] at e2
   cases e1
   cases e2
   exact ⟨x,y,_,_,rfl,ru,ru',fun ys hys=>by
    have hys':SqL X.K H l1 ys:=by rw [hK];exact hys
    rw [I0.list_inj hys' hq];exact hx,fun ys hys=>by
    have hys':SqL X.K H l2 ys:=by rw [hK];exact hys
    rw [I0.list_inj hys' hq'];exact hy⟩
 · intro X hP hw' hK hc i pins s σ H I0 hf st hg
   obtain ⟨xs,ys,hq,hq',hx,hy⟩:=hg
   rw [← hK] at hq hq'
   obtain ⟨its,rv,p,hz⟩:=I0.list hq
   obtain ⟨its',rv',p',hz'⟩:=I0.list hq'
   have hl:=rv.length
   have hl':=rv'.length
   obtain ⟨g1,g2,g3,g4,g5⟩:=st
   have e1:min its.toArray.size its'.toArray.size=i:=by rw [List.size_toArray,List.size_toArray];omega
   refine ⟨_,_,_,_,_,WalksT.zip2 (prog:=P) (w:=w) (A:=X.A) (I0.ok.hd hc) z TI TO i1 i2 l1 l2 D its.toArray its'.toArray,?_⟩
   rw [e1]
   exact ⟨g1,g2,g3,g4,g5,p.isList,p'.isList⟩
end
section
variable {X:Cx} {elts:List Expr} {ek:Nat} {epos:Pos}
noncomputable def iEnL (K:PySem.W.Frag) (ta:TA):TI:=fun σ H R=>ta σ H fun vs H1=>∃ a xs,vs=[.ref a]∧SqL K H1 a xs∧R (ItEL K a) H1
noncomputable def iZip (K:PySem.W.Frag) (ta:TA):TI:=fun σ H R=>ta σ H fun vs H1=>∃ a b xs ys,vs=[.ref a,.ref b]∧SqL K H1 a xs∧SqL K H1 b ys∧R (ItZ K a b) H1
theorem pi_enL {a:Expr} {ta:TA} {p pos:Pos} (hg:Gl X "enumerate") (hm:X.mg "enumerate"=none) (ha:PA X [a] ta) (hs:starEach [a] X.env=[(false,eval a X.env)]:=by rfl):PI X (.Tuple elts ek epos) (.Call (.Name "enumerate" p) [a] [] pos) (iEnL X.K ta):=by
 intro pins s σ H R I h
 refine Call_ (ld_blt I hg hm boot_enumerate (PyProof.Rows.callWith_type1 (thn (ha pos pins s σ H _ I h) fun us s1 ⟨vs,H1,I1,r1,q1⟩=>?_) hs rfl))
 obtain ⟨l,xs,rfl,hl,q⟩:=q1
 obtain ⟨u,rfl,ru⟩:=vals1 r1
 cases ru
 obtain ⟨its,rv,pl,hz⟩:=id (I1.list hl)
 have hll:l<s1.heap.objs.size:=by obtain ⟨o,z,_⟩:=pl.isList;exact Heap.lt_size z
 refine call_enumerate_list pl.isList fun hp he hit hsz hk=>?_
 have I2:Inv X pins σ H1 { s1 with heap:=hp }:=I1.kept (t':=s1.toks) hk
 have nx:∀ b,s1.heap.objs.size≤b→FpOk X pins H1 b:=fun b hb=>I1.fpOk hb (I1.hok.fresh hb)
 refine wpAny_pyIter_enum he ⟨_,[s1.heap.objs.size+1,s1.heap.objs.size],_,_,H1,rfl,I2,turn_enumL (Nat.succ_ne_self _) (Nat.ne_of_lt (Nat.lt_succ_of_lt hll)) (Nat.ne_of_lt hll),⟨⟨_,he⟩,hit⟩,fun b hb=>?_,q⟩
 rcases List.mem_cons.mp hb with z | z
 · subst z;exact nx _ (Nat.le_succ _)
 · have z:=List.mem_singleton.mp z
   subst z;exact nx _ (Nat.le_refl _)
theorem pi_zip {a b:Expr} {ta:TA} {p pos:Pos} (hg:Gl X "zip") (hm:X.mg "zip"=none) (ha:PA X [a,b] ta) (hs:starEach [a,b] X.env=[(false,eval a X.env),(false,eval b X.env)]:=by rfl) (hs2:starEach [b] X.env=[(false,eval b X.env)]:=by rfl) :
 PI X (.Tuple elts ek epos) (.Call (.Name "zip" p) [a,b] [] pos) (iZip X.K ta):=by
 intro pins s σ H R I h
 refine Call_ (ld_blt I hg hm boot_zip (PyProof.Rows.callWith_type1 (thn (ha pos pins s σ H _ I h) fun us s1 ⟨vs,H1,I1,r1,q1⟩=>?_) (by rw [hs,hs2]) (by rw [hs2];rfl)))
 obtain ⟨l,l',xs,ys,rfl,hl,hl',q⟩:=q1
 obtain ⟨u,v,rfl,ru,rv'⟩:=vals2 r1
 cases ru
 cases rv'
 obtain ⟨its,rv,pl,hz⟩:=id (I1.list hl)
 obtain ⟨its',rv',pl',hz'⟩:=id (I1.list hl')
 have hll:l<s1.heap.objs.size:=by obtain ⟨o,z,_⟩:=pl.isList;exact Heap.lt_size z
 have hll':l'<s1.heap.objs.size:=by obtain ⟨o,z,_⟩:=pl'.isList;exact Heap.lt_size z
 refine call_zip_2 pl.isList pl'.isList fun hp g1 g2 g3 g4 g5 hsz hk=>?_
 have I2:Inv X pins σ H1 { s1 with heap:=hp }:=I1.kept (t':=s1.toks) hk
 have nx:∀ b,s1.heap.objs.size≤b→FpOk X pins H1 b:=fun b hb=>I1.fpOk hb (I1.hok.fresh hb)
 generalize s1.heap.objs.size=n at *
 have D:ZipApart (n+4) (n+2) (n+3) n (n+1) l l':=zipApart_new hll hll'
 refine wpAny_pyIter_zip g1 ⟨_,[n+4,n+2,n+3,n,n+1],_,_,H1,rfl,I2,turn_zip D,⟨g1,g2,⟨_,_,g3⟩,g4,g5⟩,fun b hb=>?_,q⟩
 have le:∀ m,n≤n+m:=fun m=>Nat.le_add_right n m
 simp at hb
 rcases hb with rfl | rfl | rfl | rfl | rfl
 · exact nx _ (le 4)
 · exact nx _ (le 2)
 · exact nx _ (le 3)
 · exact nx _ (Nat.le_refl _)
 · exact nx _ (le 1)
end
section
variable {X:Cx}
end
end L2
namespace L2
open PySem PySem.Spec PyProof.Rows
noncomputable def Fnd (K:PySem.W.Frag) (mg:Str→Option Value) (nm:Str) (st:Stmt) (ps:List Str):Prop:=∃ (f:Addr) (fd:FuncData),Fun K nm nm st f fd∧mg nm=some (.ref f)∧Binds K fd ps []
noncomputable def Def (P:Program) (w:World) (K:PySem.W.Frag) (mg:Str→Option Value) (base:Heap) (k:Nat) (nm:Str) (ps:List Str) (sp:Sp):Prop :=
 ∃ (f:Addr) (fd:FuncData),PySem.W.keepIn K (.ref f)=true∧mg nm=some (.ref f)∧Binds K fd ps []∧FnOk P w K mg base CX0 k f fd ps sp
theorem Fnd.def {P:Program} {w:World} {K:PySem.W.Frag} {mg:Str→Option Value} {base:Heap} {k:Nat} {nm:Str} {st:Stmt} {ps:List Str} {sp:Sp} (S:Fnd K mg nm st ps) (h:∀ f fd,Fun K nm nm st f fd→FnOk P w K mg base CX0 k f fd ps sp):Def P w K mg base k nm ps sp:=by
 obtain ⟨f,fd,F,m,b⟩:=S
 exact ⟨f,fd,F.kp,m,b,h f fd F⟩
theorem Def.imp {P:Program} {w:World} {K:PySem.W.Frag} {mg:Str→Option Value} {base:Heap} {k:Nat} {nm:Str} {ps:List Str} {sp sp':Sp} (D:Def P w K mg base k nm ps sp) (h:∀ vs H Q E,sp' vs H Q E→sp vs H Q E):Def P w K mg base k nm ps sp':=by
 obtain ⟨f,fd,a,b,c,F⟩:=D
 exact ⟨f,fd,a,b,c,F.imp h⟩
section
variable {X:Cx}
theorem pe_def {k:Nat} {nm:Str} {ps:List Str} {sp:Sp} {e:Expr} {es:List Expr} {t:TA} {p pos:Pos} (hg:Gl X nm) (he:starEach (e :: es) X.env=(false,eval e X.env) :: starEach es X.env) (hpl:(backTo pos (starEach es X.env)).any (·.1)=false) (hdb:(nm == ("__debug__":Str))=false)
 (D:Def X.prog X.w X.K X.mg X.base k nm ps sp) (hr:Room k X.A) (ha:PA X (e :: es) t) :
 PE X (.Call (.Name nm p) (e :: es) [] pos) (tCall sp [] E0 t):=by
 obtain ⟨f,fd,a,b,c,F⟩:=D
 exact pe_call F hr hg b a c .nil pass0 ha hdb he hpl
theorem pe_bmK {K:PySem.W.Frag} {o e:Expr} {es:List Expr} {to:TE} {t:TA} {name:Str} {apos cpos:Pos} {T id:String} {r:V→List V→Hp→VK→Prop} (hX:X.K=K) (hbase:attributeBase o name X.env (eval o X.env)=eval o X.env)
 (hfew:((backTo cpos (starEach (e :: es) X.env)).all (fun x=>!x.1) && (backToKw cpos (keywordEach [] X.env)).all (fun x=>x.1.isSome) && decide ((e :: es).length+([]:List Keyword).length+(if ([]:List Keyword).isEmpty then 0 else 1)<30))=true)
 (hline:(apos.endLine == cpos.line)=true) (hs:starEach (e :: es) X.env=(false,eval e X.env) :: starEach es X.env) (hplain:(backTo cpos (starEach es X.env)).any (·.1)=false)
 (pa:PlainAttrs T) (slot:Slot T name id) (hty:typeOf (.builtin id)=pure (.type "method_descriptor")) (hm:MtR X id r) (ho:PE X o to) (ha:PA X (e :: es) t):PE X (.Call (.Attribute o name apos) (e :: es) [] cpos) (tBM K T r to t):=by
 subst hX
 exact pe_bm pa slot hty hm ho ha hbase hfew hline hs hplain
theorem pi_enLK {K:PySem.W.Frag} {elts:List Expr} {ek:Nat} {epos:Pos} {a:Expr} {ta:TA} {p pos:Pos} (hg:Gl X "enumerate") (hs:starEach [a] X.env=[(false,eval a X.env)]) (e:X.K=K) (hm:X.mg "enumerate"=none) (ha:PA X [a] ta):PI X (.Tuple elts ek epos) (.Call (.Name "enumerate" p) [a] [] pos) (iEnL K ta):=e ▸ pi_enL hg hm ha hs
theorem pi_zipK {K:PySem.W.Frag} {elts:List Expr} {ek:Nat} {epos:Pos} {a b:Expr} {ta:TA} {p pos:Pos} (hg:Gl X "zip") (hs:starEach [a,b] X.env=[(false,eval a X.env),(false,eval b X.env)]) (hs2:starEach [b] X.env=[(false,eval b X.env)]) (e:X.K=K) (hm:X.mg "zip"=none) (ha:PA X [a,b] ta) :
 PI X (.Tuple elts ek epos) (.Call (.Name "zip" p) [a,b] [] pos) (iZip K ta):=e ▸ pi_zip hg hm ha hs hs2
end
section
variable {K:PySem.W.Frag} {a b D:Addr} {xs zs:List V} {g:TG} {tt:TT} {te:TE} {σ0:St} {H0:Hp} {Q:VK}
theorem comp_enL (Pv:Nat→List V→St→Hp→Prop) (h0:Pv 0 [] σ0 H0) (hl:∀ i ys σ H,Pv i ys σ H→SqL K H a xs∧H D=some (.lst ys))
 (hs:∀ i x ys σ H T G,xs[i]?=some x→i<xs.length→Pv i ys σ H→H T=none→Same H G→G T=some (.tup [.int i,x])→g (.ref T) σ G fun σ3 H3=>tt σ3 H3 fun b H4=>if b=true then
  te σ3 H4 fun y H5=>H5 D=some (.lst ys)∧ys.length<sizeLine∧∃ m',m'<xs.length - i∧Wt Pv xs.length (i+1) m' (ys ++ [y]) σ3 (upd H5 D (.lst (ys ++ [y]))) else ∃ m',m'<xs.length - i∧Wt Pv xs.length (i+1) m' ys σ3 H4)
 (hd:∀ ys σ H,Pv xs.length ys σ H→Q (.ref D) H):CompW (ItEL K a) D g tt te Q σ0 H0:=by
 refine ⟨Wt Pv xs.length,⟨xs.length,rfl,Nat.zero_le _,h0⟩,?_⟩
 rintro i m ys σ' H' ⟨rfl,hi,p⟩
 obtain ⟨hq,hD⟩:=hl i ys σ' H' p
 refine ⟨hD,?_⟩
 by_cases hlt:i<xs.length
 · refine .inr ⟨⟨xs,xs[i],hq,by simp [hlt]⟩,fun x H2 y=>?_⟩
   obtain ⟨T,u,v,rfl,hT,rfl,rfl,hv⟩:=y
   exact hs i v ys σ' H' T _ (hv xs hq) hlt p hT (Same.new hT) upd_same
 · have e:i=xs.length:=by omega
   subst e
   exact .inl ⟨⟨xs,hq,rfl⟩,hd ys σ' H' p⟩
theorem comp_zip (hlen:zs.length=xs.length) (Pv:Nat→List V→St→Hp→Prop) (h0:Pv 0 [] σ0 H0) (hl:∀ i ys σ H,Pv i ys σ H→SqL K H a xs∧SqL K H b zs∧H D=some (.lst ys))
 (hs:∀ i x z ys σ H T G,xs[i]?=some x→zs[i]?=some z→i<xs.length→Pv i ys σ H→H T=none→Same H G→G T=some (.tup [x,z])→g (.ref T) σ G fun σ3 H3=>tt σ3 H3 fun b H4=>if b=true then
  te σ3 H4 fun y H5=>H5 D=some (.lst ys)∧ys.length<sizeLine∧∃ m',m'<xs.length - i∧Wt Pv xs.length (i+1) m' (ys ++ [y]) σ3 (upd H5 D (.lst (ys ++ [y]))) else ∃ m',m'<xs.length - i∧Wt Pv xs.length (i+1) m' ys σ3 H4)
 (hd:∀ ys σ H,Pv xs.length ys σ H→Q (.ref D) H):CompW (ItZ K a b) D g tt te Q σ0 H0:=by
 refine ⟨Wt Pv xs.length,⟨xs.length,rfl,Nat.zero_le _,h0⟩,?_⟩
 rintro i m ys σ' H' ⟨rfl,hi,p⟩
 obtain ⟨hq,hq',hD⟩:=hl i ys σ' H' p
 refine ⟨hD,?_⟩
 by_cases hlt:i<xs.length
 · refine .inr ⟨⟨xs,zs,xs[i],zs[i],hq,hq',by simp [hlt],by simp [hlt,hlen]⟩,fun x H2 y=>?_⟩
   obtain ⟨T,u,v,rfl,hT,rfl,hu,hv⟩:=y
   exact hs i u v ys σ' H' T _ (hu xs hq) (hv zs hq') hlt p hT (Same.new hT) upd_same
 · have e:i=xs.length:=by omega
   subst e
   exact .inl ⟨⟨xs,zs,hq,hq',rfl,hlen⟩,hd ys σ' H' p⟩
end
structure Txt (mg:Str→Option Value):Prop where
 abs:mg "abs"=none
 isi:mg "isinstance"=none
 tup:mg "tuple"=none
 int:mg "int"=none
 bool:mg "bool"=none
 lst:mg "list"=none
 enu:mg "enumerate"=none
 len:mg "len"=none
 range:mg "range"=none
 srt:mg "sorted"=none
 sum:mg "sum"=none
 zip:mg "zip"=none
 max:mg "max"=none
noncomputable def SqF (K:PySem.W.Frag) (H:Hp) (p:Addr) (A:Int×Int):Prop:=SqT K H p [.int A.1,.int A.2]
theorem SqF.of {K:PySem.W.Frag} {H:Hp} {p:Addr} {A:Int×Int} (h:FrA K H p A):SqF K H p A:=SqT.of h
theorem SqF.same {K:PySem.W.Frag} {H H':Hp} {p:Addr} {A:Int×Int} (h:SqF K H p A) (s:Same H H'):SqF K H' p A:=s.seqT h
noncomputable def spF2G (K:PySem.W.Frag) (op:Int×Int→Int×Int→Int×Int):Sp:=fun vs H Q _=>∃ (p q:Addr) (A B:Int×Int),vs=[.ref p,.ref q]∧SqF K H p A∧SqF K H q B∧0<A.2∧0<B.2∧Sz2 3000 A∧Sz2 3000 B∧∀ (r:Addr) (H':Hp),Same H H'→FrA K H' r (op A B)→Q (.ref r) H'
noncomputable def spMadeS:Sp:=fun vs H Q _=>∃ x y:Int,vs=[.int x,.int y]∧y≠0∧Sz 8000 x∧Sz 8000 y∧∀ (p:Addr) (H':Hp),Same H H'→H' p=some (.tup [.int (Pw.mk x y).1,.int (Pw.mk x y).2])→Q (.ref p) H'
end L2
namespace L2
open PySem PySem.Spec PyProof.Rows
section
variable {X:Cx}
theorem ps_compSet {i:Nat} {x:Str} {pos' pos2:Pos} {tg iter elt:Expr} {ifs:List Expr} {scope:Scope} {pos:Pos} {N':List Str} {ks:List (Option Nat)} {cl:List (Str×Addr)} {wi:TI} {g:TG} {tt:TT} {te:TE}
 (hsw:swapsWith (.ListComp elt [⟨tg,iter,ifs,0⟩] scope pos) (some (.Name x pos')) pos2.line X.env=pure true) (hN:X.N.Nodup) (hxi:X.N[i]?=some x) (hxl:X.env.scope.names.lookup x=some .local)
 (hcalm:X.calm=true) (hi:PI X tg iter wi) (hclos:closureFor scope X.env=pure cl) (hcl:∀ x c,cl.lookup x=some c→X.env.cells.lookup x=some c)
 (hcell:∀ y∈scope.names,y.2≠.cell) (hkind:scope.kind=.function) (hnames:∀ y∈scope.names,y.2=.local→scope.names.lookup y.1=some .local)
 (hhas:∀ x,((relabel scope X.env).names.lookup x=some .cell∨(relabel scope X.env).names.lookup x=some .free)→∃ c,cl.lookup x=some c)
 (hcap:Cap X (relabel scope X.env) N' ks)
 (hg:∀ C s H fp,PG (compX X N' scope cl C s H fp) tg g) (ht:∀ C s H fp,PTs (compX X N' scope cl C s H fp) ifs tt) (he:∀ C s H fp,PE (compX X N' scope cl C s H fp) elt te)
 (hs:∀ x,foldedSetIterable iter X.env x=pure x:=by intro _;rfl):PS X (.Assign [.Name x pos'] (.ListComp elt [⟨tg,iter,ifs,0⟩] scope pos) pos2) (tAsg (tComp wi ks g tt te) (gName i)):=by
 intro pins s σ H DD I h
 let Q:VK:=fun v H1=>DD.nx (σ.set i (some v)) H1
 have h:tComp wi ks g tt te σ H Q:=h
 rw [exec_Assign_Name_used _ _ _ _ hsw]
 refine wpAny_bind (wpAny_standAt (wpAny_bind ?_))
 show wpAny _ _ (do let _ ←comprehension (.ListComp elt [⟨tg,iter,ifs,0⟩] scope pos) scope X.env _ (newList []) false (eval iter X.env) (some (assign (.Name x pos') X.env))) _ _ s
 refine wpAny_bind (wpAny_mono (wpAny_comprehension_free (use:=some (assign (.Name x pos') X.env)) (Q:=fun _ s'=>SP X pins DD .next s') rfl hs hclos hkind hnames (thn (hi pins s σ H _ I h) fun v s1 h1=>thn h1 fun itv s2 h2=>?_)) (fun _ s' hq=>wpAny_pure (wpAny_pure hq)) fun _ _ z=>z)
 obtain ⟨it,fp,tn,J,H2,e,I2,T,st2,f2,R⟩:=h2
 subst e
 refine wpAny_newObj_type (wpAny_newFunctionEnv hcell (by intro y hy;simp at hy) (fun h₁ hns₁ hsb₁=>?_) hkind)
 dsimp only at hns₁ hsb₁ ⊢
 have hD:H2 s2.heap.objs.size=none:=I2.hok.fresh (Nat.le_refl _)
 obtain ⟨W,⟨m0,w0⟩,turn⟩:=R _ hD
 generalize hs3:({ s2 with heap:=s2.heap.push { cls:=.type "list",dict:=none,data:=.seq ([]:List Value).toArray } }:Shared)=s3
 have e3:s3.heap=s2.heap.push { cls:=.type "list",dict:=none,data:=.seq ([]:List Value).toArray }:=by rw [← hs3]
 have I3:Inv X pins σ (upd H2 s2.heap.objs.size (.lst [])) s3:=by
  rw [← hs3]
  exact I2.laid (t':=s2.toks) (fun b o e=>Heap.get?_push_of_some _ e) (Nat.le_refl _) ⟨Nat.zero_le _,[],0,.nil,Heap.get?_push_size _ rfl⟩
 generalize hD0:s2.heap.objs.size=D at *
 generalize hH3:upd H2 D (.lst [])=H3 at *
 rw [← e3] at hns₁ hsb₁ ⊢
 have kp:∀ b o,s3.heap.get? b=some o→h₁.get? b=some o:=fun b o e=>hsb₁.extBut b o (Nat.ne_of_lt (Heap.lt_size e)) (Heap.get?_push_of_some _ e)
 have f3:∀ b∈fp,FpOk X pins H3 b∧b<s3.heap.objs.size:=fun b hb=>by
  obtain ⟨o,ho,_⟩:=T.obj 0 _ st2 b hb
  have hlt:b<D:=by rw [← hD0];exact Heap.lt_size ho
  refine ⟨⟨?_,(f2 b hb).2⟩,?_⟩
  · rw [← hH3,upd_ne (Nat.ne_of_lt hlt)];exact (f2 b hb).1
  · rw [e3,Heap.size_push,hD0];exact Nat.lt_succ_of_lt hlt
 have st3:tn 0 h₁:=T.keep 0 s2.heap h₁ st2 fun b hb o e=>kp b o (by rw [e3];exact Heap.get?_push_of_some _ e)
 have capK:∀ x c,cl.lookup x=some c→X.env.cells.lookup x=some c:=hcl
 have stkne:∀ b∈fp,b∉frs X.stack:=fun b hb z=>by
  rcases List.mem_cons.mp (I3.stkSub b z) with e | e
  · exact (f3 b hb).1.2.1 e
  · exact (f3 b hb).1.2.2.1 e
 have Cfresh:H3 s3.heap.objs.size=none:=I3.hok.fresh (Nat.le_refl _)
 have ok':(compX X N' scope cl s3.heap.objs.size s3 H3 fp).Ok:=by
  refine ⟨I3.ok.mod,hkind,I3.ok.glob,I3.ok.blt,Nat.le_refl _,fun x y c h1 h2=>I3.ok.inj x y c (capK x c h1) (capK y c h2),fun x hx=>hhas x hx,fun x c hf _=>absurd (show false=true from hf) Bool.false_ne_true,fun z=>I3.ok.hd z,I3.ok.frames,.inl rfl,
   fun b hb=>⟨Nat.ne_of_lt (f3 b hb).2,fun x c e=>(f3 b hb).1.2.2.2.2.1 x c (capK x c e)⟩,I3.bs,Nat.le_trans I3.ok.bsz I3.sz,fun b o e hb=>?_,fun b hb=>stkne b hb,I3.stack,I3.stkFree⟩
  rcases (f3 b hb).1.2.2.2.1 with z | z
  · exact I3.ok.noex b o e z
  · exact absurd (Nat.lt_of_lt_of_le (Heap.lt_size e) (Nat.le_trans I3.ok.bsz z)) (Nat.lt_irrefl _)
 have I4:Inv (compX X N' scope cl s3.heap.objs.size s3 H3 fp) [] (capt ks σ) H3 { s3 with heap:=h₁,toks:=s3.toks+([]:List (Str×Value)).length }:=by
  refine ⟨ok',rfl,I3.bare,Un.kept kp,⟨_,hns₁,fun i x v e1 e2 e3'=>?_⟩,fun x c e=>?_,Cfresh,fun x c e=>I3.freeC x c (capK x c e),fun p hp=>absurd (show p∈([]:List (Addr×Obj)) from hp) (by simp),I3.hok.kept kp,?_⟩
  · have e2':(capt ks σ)[i]?=some (some v):=e2
    unfold capt at e2'
    rw [List.getElem?_map] at e2'
    cases hk:ks[i]? with
    | none=>rw [hk] at e2';cases e2'
    | some o =>
      rw [hk] at e2'
      cases o with
      | none=>cases e2'
      | some k =>
        have ev:σ.getD k none=some v:=Option.some.inj e2'
        obtain ⟨c1,c2,c3⟩:=hcap.get e1 hk
        obtain ⟨m,hn,hl⟩:=I3.loc
        have es:σ[k]?=some (some v):=by
         rw [List.getD_eq_getElem?_getD] at ev
         cases q:σ[k]? with
         | none=>rw [q] at ev;cases ev
         | some z=>rw [q] at ev;exact congrArg some ev
        obtain ⟨u,r,l⟩:=hl k x v c1 es (.inr (.inl c2))
        refine ⟨u,r,.inr ⟨c3,?_⟩⟩
        rcases l with ⟨l1,_⟩ | ⟨_,c,l2,l3⟩
        · have l1':X.env.scope.names.lookup x=some .local:=l1
          rw [c2] at l1';cases l1'
        · obtain ⟨c',hc'⟩:=hhas x c3
          have:X.env.cells.lookup x=some c':=capK x c' hc'
          rw [l2] at this
          cases this
          refine ⟨c,hc',?_⟩
          obtain ⟨o,ho,hd⟩:=l3
          exact ⟨o,kp c o ho,hd⟩
  · obtain ⟨v,o,ho,hd⟩:=I3.cell x c (capK x c e)
    exact ⟨v,o,kp c o ho,hd⟩
  · show (capt ks σ).length=N'.length
    unfold capt
    rw [List.length_map,hcap.len]
 have Cne:∀ p∈X.pn ++ pins,p.1≠s3.heap.objs.size:=fun p hp=>Nat.ne_of_lt (Heap.lt_size (I3.pin p hp).1)
 have back:∀ {σ':St} {H':Hp} {s':Shared},Inv (compX X N' scope cl s3.heap.objs.size s3 H3 fp) [] σ' H' s'→∀ h'':Heap,Heap.SameBut s3.heap.objs.size s'.heap h''→Inv X pins σ H' { s' with heap:=h'' }:=fun {σ' H' s'} I' h'' sb=>by
  have J1:Inv X pins σ H' s':=I3.call' (ch:=fp) I'.os I'.base I'.hok I'.bare fun b hb=>⟨(f3 b hb).1.2.2.2.1,(f3 b hb).1.2.1,(f3 b hb).1.2.2.2.2.1,(f3 b hb).1.2.2.2.2.2⟩
  refine J1.turned (t':=s'.toks) (it:=s3.heap.objs.size) (fun b o hb e=>(sb.2 b hb).trans e) I'.free (Nat.ne_of_gt I3.lt) (.inr I3.sz) (fun x c e=>?_) Cne
  obtain ⟨v,q⟩:=I3.cell x c e
  exact Nat.ne_of_lt q.lt
 have fpok:∀ {H':Hp},(∀ b∈fp,H' b=none)→∀ b∈fp,FpOk (compX X N' scope cl s3.heap.objs.size s3 H3 fp) [] H' b:=fun hn b hb =>
  ⟨hn b hb,Nat.ne_of_lt (f3 b hb).2,stkne b hb,.inl hb,fun x c e=>(f3 b hb).1.2.2.2.2.1 x c (capK x c e),fun p hp=>absurd (show p∈([]:List (Addr×Obj)) from hp) (by simp)⟩
 have loop:codeAny (model X.prog X.w) X.A (.compLoop (.ListComp elt [⟨tg,iter,ifs,0⟩] scope pos) 0 (.ref it) (.ref D) (compEnvC scope cl s3.heap.objs.size X.env))
  (compPost (model X.prog X.w) X.A X.xe (some (assign (.Name x pos') X.env)) (fun _ s'=>SP X pins DD .next s') (.ref D) s3.heap.objs.size) { s3 with heap:=h₁,toks:=s3.toks+([]:List (Str×Value)).length }:=by
  refine compLoop_any (fun n s'=>∃ i ys σ' H',Inv (compX X N' scope cl s3.heap.objs.size s3 H3 fp) [] σ' H' s'∧tn i s'.heap∧(∀ b∈fp,H' b=none)∧W i n ys σ' H') ?_ m0 ⟨0,[],_,_,I4,st3,fun b hb=>(f3 b hb).1.1,w0⟩
  rintro n s5 ⟨i,ys,σ5,H5,I5,st5,fr5,w5⟩
  obtain ⟨hD5,tq⟩:=turn i n ys σ5 H5 w5
  rcases tq with ⟨stop,q⟩ | ⟨go,step⟩
  · refine thn (T.done (compX X N' scope cl s3.heap.objs.size s3 H3 fp) rfl rfl rfl hcalm i [] s5 σ5 H5 _ I5 (fpok fr5) st5 stop) fun r s6 ⟨hr,I6⟩=>?_
    subst hr
    obtain ⟨m,hn,_⟩:=I6.loc
    have J1:Inv X pins σ H5 s6:=I3.call' (ch:=fp) I6.os I6.base I6.hok I6.bare fun b hb=>⟨(f3 b hb).1.2.2.2.1,(f3 b hb).1.2.1,(f3 b hb).1.2.2.2.2.1,(f3 b hb).1.2.2.2.2.2⟩
    have cL:∀ y c,X.env.cells.lookup y=some c→c≠s3.heap.objs.size:=fun y c e=>by
     obtain ⟨v,q⟩:=I3.cell y c e
     exact Nat.ne_of_lt q.lt
    refine wpAny_assign_Name (store_ok2 (v:=.ref D) J1 hN hxi (.inl hxl) rfl (fun s7 I7 sb7=>?_) (.inr hxl))
    obtain ⟨a,sba,ha⟩:=sb7
    have nC:s3.heap.objs.size≠a:=fun z=>by
     rcases ha with e | e
     · exact Nat.ne_of_gt I3.lt (z.trans e)
     · exact cL _ _ e z.symm
    refine ⟨m,hn.at' fun o e=>(sba.2 _ nC).trans e,fun h'' sb=>⟨_,H5,?_,q⟩⟩
    exact I7.turned (t':=s7.toks) (it:=s3.heap.objs.size) (fun b o hb e=>(sb.2 b hb).trans e) I6.free (Nat.ne_of_gt I3.lt) (.inr I3.sz) cL Cne
  · refine thn (T.item (compX X N' scope cl s3.heap.objs.size s3 H3 fp) rfl rfl rfl hcalm i [] s5 σ5 H5 _ I5 (fpok fr5) st5 go) fun r s6 ⟨u,hr,h6⟩=>?_
    subst hr
    refine thn h6 fun _ s7 ⟨x,H7,I7,r7,y7,st7,fr7⟩=>?_
    have I7':=I7.pinned (fpok fr7) (T.obj _ _ st7)
    refine thn (hg _ _ _ _ _ s7 σ5 H7 x u _ I7' r7 (step x H7 y7)) fun _ s8 ⟨σ8,H8,I8,q8⟩=>?_
    refine thn (ht _ _ _ _ _ s8 σ8 H8 _ I8 q8) fun ok s9 ⟨H9,I9,q9⟩=>?_
    have again:∀ {σ':St} {H':Hp} {s':Shared} {ys':List V},Inv (compX X N' scope cl s3.heap.objs.size s3 H3 fp) ([] ++ pinsAt fp s7.heap) σ' H' s'→(∃ m',m'<n∧W (i+1) m' ys' σ' H') →
     ∃ m',m'<n∧∃ i ys σ' H',Inv (compX X N' scope cl s3.heap.objs.size s3 H3 fp) [] σ' H' s'∧tn i s'.heap∧(∀ b∈fp,H' b=none)∧W i m' ys σ' H':=fun {σ' H' s' ys'} I' hw=>by
     obtain ⟨m',hm,w'⟩:=hw
     refine ⟨m',hm,i+1,ys',σ',H',I'.unpinned,T.keep _ _ _ st7 fun b hb o e=>(I'.pin (b,o) (List.mem_append_right _ (List.mem_append_right _ (mem_pinsAt hb e)))).1,fun b hb=>?_,w'⟩
     obtain ⟨o,e,d⟩:=T.obj _ _ st7 b hb
     exact (I'.pin (b,o) (List.mem_append_right _ (List.mem_append_right _ (mem_pinsAt hb e)))).2.1
    cases ok with
    | false =>
      rw [if_neg Bool.false_ne_true] at q9 ⊢
      exact again I9 q9
    | true =>
      rw [if_pos rfl] at q9 ⊢
      refine thn (he _ _ _ _ _ s9 σ8 H9 _ I9 q9) fun y s10 ⟨yv,H10,I10,r10,q10,z10,w10⟩=>?_
      refine thn (mt_append _ s10 σ8 H10 (.ref D) [yv] (.ref D) [y] (fun v H'=>v=.non∧H'=upd H10 D (.lst (ys ++ [yv]))) I10 rfl (.cons r10 .nil) ⟨D,ys,yv,rfl,rfl,q10,z10,rfl,rfl⟩) fun _ s11 ⟨_,H11,I11,_,_,e11⟩=>?_
      subst e11
      exact again I11 w10
 have es:({ s3 with heap:=h₁,toks:=s3.toks+([]:List (Str×Value)).length }:Shared)={ s2 with heap:=h₁,toks:=s2.toks+([]:List (Str×Value)).length }:=by rw [← hs3]
 rw [es] at loop
 exact codeAny_compStart_list loop (T.self _ 0 _ _ _ st3 loop)
theorem ps_setC {x:Str} {pos' pos2:Pos} (i:Nat) {tg iter elt:Expr} {ifs:List Expr} {scope:Scope} {pos:Pos} (N':List Str) (ks:List (Option Nat)) {wi:TI} {g:TG} {tt:TT} {te:TE}
 (hsw:swapsWith (.ListComp elt [⟨tg,iter,ifs,0⟩] scope pos) (some (.Name x pos')) pos2.line X.env=pure true) (hN:X.N.Nodup) (hxi:X.N[i]?=some x) (hxl:X.env.scope.names.lookup x=some .local)
 (hcalm:X.calm=true) (hi:PI X tg iter wi) (hfree:∀ y∈scope.names,y.2=.free→X.env.scope.names.lookup y.1=some .cell)
 (hcell:∀ y∈scope.names,y.2≠.cell) (hkind:scope.kind=.function) (hnames:∀ y∈scope.names,y.2=.local→scope.names.lookup y.1=some .local)
 (hcap:Cap X (relabel scope X.env) N' ks)
 (hg:∀ cl C s H fp,PG (compX X N' scope cl C s H fp) tg g) (ht:∀ cl C s H fp,PTs (compX X N' scope cl C s H fp) ifs tt) (he:∀ cl C s H fp,PE (compX X N' scope cl C s H fp) elt te)
 (hs:∀ x,foldedSetIterable iter X.env x=pure x:=by intro _;rfl):PS X (.Assign [.Name x pos'] (.ListComp elt [⟨tg,iter,ifs,0⟩] scope pos) pos2) (tAsg (tComp wi ks g tt te) (gName i)):=by
 intro pins s σ H D I h
 obtain ⟨cl,e1,e2,e3⟩:=closure_ok (scope:=scope) (env:=X.env) fun y hy hf=>I.ok.has y.1 (.inl (hfree y hy hf))
 refine ps_compSet hsw hN hxi hxl hcalm hi e1 e2 hcell hkind hnames (fun x hx=>?_) hcap (hg cl) (ht cl) (he cl) hs pins s σ H D I h
 have key:∀ k,(x,k)∈(relabel scope X.env).names→k=.cell∨k=.free→(x,NameKind.free)∈scope.names:=fun k hm hk=>by
  unfold relabel at hm
  obtain ⟨⟨n,k'⟩,hy,e⟩:=List.mem_map.mp hm
  dsimp only at e
  split at e
  · rename_i hc
    cases e
    have:k'=.free:=by simp at hc;exact hc.1.1
    rw [← this];exact hy
  · cases e
    rcases hk with rfl | rfl
    · exact absurd rfl (hcell _ hy)
    · exact hy
 rcases hx with hx | hx
 · exact e3 x (key _ (PySem.mem_of_lookup hx) (.inl rfl))
 · exact e3 x (key _ (PySem.mem_of_lookup hx) (.inr rfl))
end
end L2
namespace L2
open PySem PySem.Spec PyProof.Rows
theorem tupD_refl (As:List (Int×Int)):eqDs (As.map tupD) (As.map tupD)=true:=(eqDs_prs As As).trans (by simp)
section
variable {K:PySem.W.Frag} {H:Hp} {p q:Addr} {W V':List (Int×Int)} {xs ys:List V} {Q:VK}
theorem neTT (h1:SqT K H p xs) (h2:SqT K H q ys) (f1:FrL K H W xs) (f2:FrL K H W ys) (k:Q (.bl false) H):rEqD K true (.ref p) (.ref q) H Q :=
 ⟨p,q,_,_,_,_,rfl,rfl,.inl ⟨h1,h2⟩,f1.dens,f2.dens,FrL.dep _,by rw [if_pos rfl,tupD_refl];exact k⟩
theorem eqTT (h1:SqT K H p xs) (h2:SqT K H q ys) (f1:FrL K H W xs) (f2:FrL K H W ys) (k:Q (.bl true) H):rEqD K false (.ref p) (.ref q) H Q :=
 ⟨p,q,_,_,_,_,rfl,rfl,.inl ⟨h1,h2⟩,f1.dens,f2.dens,FrL.dep _,by rw [if_neg Bool.false_ne_true,tupD_refl];exact k⟩
end
theorem mem_getD {Bs:List (Int×Int)} {t:Nat} (h:t<Bs.length):Bs.getD t (0,1)∈Bs:=by
 rw [List.getD_eq_getElem?_getD,List.getElem?_eq_getElem h]
 exact List.getElem_mem h
end L2
namespace Pw
noncomputable def ofQ (q:Rat):Int×Int:=(q.num,(q.den:Int))
theorem ofQ_canon (q:Rat):Canon (ofQ q):=⟨by show (0:Int)<(q.den:Int);have:=q.den_nz;omega,by show Int.gcd q.num (q.den:Int)=1;have:=q.reduced;unfold Int.gcd;simpa [Nat.Coprime] using this⟩
theorem val_ofQ (q:Rat):val (ofQ q)=q:=by
 unfold val ofQ
 show ((q.num:Int):Rat) / (((q.den:Nat):Int):Rat)=q
 rw [← Rat.divInt_eq_div,Rat.num_divInt_den]
theorem ofQ_val {A:Int×Int} (h:Canon A):ofQ (val A)=A:=val_inj (ofQ_canon _) h (val_ofQ _)
theorem fplus_ofQ {A B:Int×Int} (ha:A.2≠0) (hb:B.2≠0):fplus A B=ofQ (val A+val B):=val_inj (canon_fplus ha hb) (ofQ_canon _) (by rw [val_fplus ha hb,val_ofQ])
theorem cpos {d:Int} (h:0<d):(0:Rat)<(d:Rat):=by
 have:((0:Int):Rat)<(d:Rat):=Rat.intCast_lt_intCast.mpr h
 simpa using this
theorem cnn {d:Int} (h:0≤d):(0:Rat)≤(d:Rat):=by
 have:((0:Int):Rat)≤(d:Rat):=Rat.intCast_le_intCast.mpr h
 simpa using this
theorem mul_le_r {a b c:Rat} (h:a≤b) (hc:0≤c):a * c≤b * c:=Rat.mul_le_mul_of_nonneg_right h hc
theorem mul_nn {a b:Rat} (ha:0≤a) (hb:0≤b):0≤a * b:=by
 have:=mul_le_r ha hb
 grind
theorem div_nn {a b:Rat} (ha:0≤a) (hb:0<b):0≤a / b:=by
 rw [Rat.div_def]
 exact mul_nn ha (Rat.le_of_lt (Rat.inv_pos.mpr hb))
theorem le_of_mul {a b c:Rat} (hc:0<c) (h:a * c≤b * c):a≤b:=Rat.le_of_mul_le_mul_right h hc
theorem val_nn {A:Int×Int} (h:0<A.2) (h1:0≤A.1):0≤val A:=div_nn (cnn h1) (cpos h)
theorem val_le1 {A:Int×Int} (h:0<A.2) (h1:A.1≤A.2):val A≤1:=by
 have hp:=cpos h
 refine le_of_mul hp ?_
 unfold val
 have:(A.1:Rat)≤(A.2:Rat):=Rat.intCast_le_intCast.mpr h1
 have e:(A.1:Rat) / (A.2:Rat) * (A.2:Rat)=A.1:=by have:=castne (d:=A.2) (by omega);grind
 rw [e]
 grind
structure Bd (D:Int) (C:Rat) (q:Rat):Prop where
 int:∃ n:Int,q * (D:Rat)=(n:Rat)
 lo:-C≤q
 hi:q≤C
theorem Bd.zero {D:Int}:Bd D 0 0:=⟨⟨0,by simp⟩,by grind,by grind⟩
theorem Bd.add {D:Int} {C C' p q:Rat} (a:Bd D C p) (b:Bd D C' q):Bd D (C+C') (p+q):=by
 obtain ⟨⟨n,hn⟩,l1,h1⟩:=a
 obtain ⟨⟨m,hm⟩,l2,h2⟩:=b
 refine ⟨⟨n+m,?_⟩,by grind,by grind⟩
 rw [Rat.intCast_add];grind
theorem Bd.mono {D:Int} {C C' q:Rat} (a:Bd D C q) (h:C≤C'):Bd D C' q:=⟨a.int,by have:=a.lo;grind,by have:=a.hi;grind⟩
theorem Bd.qs {D:Int} {C:Rat} {f:Nat→Rat}:∀ {n:Nat},(∀ i,i<n→Bd D C (f i))→Bd D ((n:Nat) * C) (qs n f)
 | 0,_=>by
   have:(((0:Nat):Rat)) * C=0:=by simp
   rw [this];exact Bd.zero
 | n+1,h=>by
   have h1:=(Bd.qs (n:=n) fun i hi=>h i (by omega)).add (h n (by omega))
   have e:(((n+1:Nat):Rat)) * C=((n:Nat):Rat) * C+C:=by
    have:((n+1:Nat):Rat)=((n:Nat):Rat)+1:=by push_cast;rfl
    rw [this];grind
   rw [e]
   exact h1
theorem den_dvd {q:Rat} {D n:Int} (hD:D≠0) (h:q * (D:Rat)=(n:Rat)):(q.den:Int)∣D:=by
 have hq:Fr (ofQ q) n D:=by
  refine ⟨ofQ_canon q,hD,?_⟩
  have e:=val_ofQ q
  unfold val at e
  have hd:=castne (canon_ne (ofQ_canon q))
  have:((ofQ q).1:Rat) * (D:Rat)=(n:Rat) * ((ofQ q).2:Rat):=by rw [← h];rw [← e];grind
  exact_mod_cast this
 have w:=hq.w
 have:(ofQ q).2∣(ofQ q).1 * D:=⟨n,by rw [w];exact Int.mul_comm ..⟩
 exact dvd_left this hq.canon.2
theorem Bd.sz {D:Int} {C:Int} {q:Rat} {k:Nat} (a:Bd D (C:Rat) q) (hD:0<D) (hC:1≤C) (z:L2.Sz k (C * D)):L2.Sz2 k (ofQ q):=by
 obtain ⟨⟨n,hn⟩,lo,hi⟩:=a
 have hd:=den_dvd (by omega) hn
 have hle:(q.den:Int)≤D:=Int.le_of_dvd hD hd
 have hp:(0:Int)<(q.den:Int):=(ofQ_canon q).1
 have hz:(C * D).natAbs<2 ^ k:=z
 have hCD:D≤C * D:=by
  have:=Int.mul_le_mul_of_nonneg_right hC (Int.le_of_lt hD)
  omega
 refine ⟨?_,?_⟩
 · show q.num.natAbs<2 ^ k
   have e:=val_ofQ q
   unfold val at e
   have hpq:=cpos hp
   have hne:=castne (d:=(q.den:Int)) (by omega)
   have en:(q.num:Rat)=q * ((q.den:Int):Rat):=by
    have:((ofQ q).1:Rat) / ((ofQ q).2:Rat)=q:=e
    have e2:(q.num:Rat) / ((q.den:Int):Rat)=q:=this
    grind
   have u1:(q.num:Rat)≤((C * (q.den:Int):Int):Rat):=by
    rw [en,Rat.intCast_mul];exact mul_le_r hi (Rat.le_of_lt hpq)
   have u2:((-(C * (q.den:Int)):Int):Rat)≤(q.num:Rat):=by
    rw [en,Rat.intCast_neg,Rat.intCast_mul]
    have:=mul_le_r lo (Rat.le_of_lt hpq)
    grind
   have v1:q.num≤C * (q.den:Int):=Rat.intCast_le_intCast.mp u1
   have v2:-(C * (q.den:Int))≤q.num:=Rat.intCast_le_intCast.mp u2
   have v3:C * (q.den:Int)≤C * D:=Int.mul_le_mul_of_nonneg_left hle (by omega)
   omega
 · show (q.den:Int).natAbs<2 ^ k
   omega
noncomputable def lcmI (w d:Int):Int:=(w.fdiv (Int.gcd w d:Int)) * d
theorem lcmI_eq {w d:Int} (hw:0<w) (hd:0<d):lcmI w d=(Int.lcm w d:Int):=by
 unfold lcmI
 have hg:=gpos (a:=w) (b:=d) (by omega)
 obtain ⟨u,hu⟩:=Int.gcd_dvd_left w d
 have e1:w.fdiv (Int.gcd w d:Int)=u:=by
  conv=>lhs;lhs;rw [hu]
  rw [Int.fdiv_eq_ediv_of_nonneg _ (by omega),Int.mul_ediv_cancel_left _ (by omega)]
 rw [e1]
 have key:(Int.gcd w d:Int) * (Int.lcm w d:Int)=w * d:=by
  have:=Int.gcd_mul_lcm w d
  have h2:((Int.gcd w d * Int.lcm w d:Nat):Int)=(((w * d).natAbs:Nat):Int):=by rw [this,Int.natAbs_mul]
  have h3:(((w * d).natAbs:Nat):Int)=w * d:=Int.natAbs_of_nonneg (Int.le_of_lt (Int.mul_pos hw hd))
  rw [← h3,← h2];push_cast;rfl
 refine Int.eq_of_mul_eq_mul_left (a:=(Int.gcd w d:Int)) (by omega) ?_
 rw [key]
 conv=>rhs;rw [hu]
 rw [Int.mul_assoc]
structure IsLcm (As:List (Int×Int)) (L:Int):Prop where
 pos:0<L
 dvd:∀ A∈As,A.2∣L
 least:∀ M:Int,0<M→(∀ A∈As,A.2∣M)→L∣M
theorem IsLcm.nil:IsLcm [] 1:=⟨by decide,by simp,fun M _ _=>Int.one_dvd M⟩
theorem IsLcm.snoc {As:List (Int×Int)} {L:Int} {A:Int×Int} (h:IsLcm As L) (hA:0<A.2):IsLcm (As ++ [A]) (lcmI L A.2):=by
 rw [lcmI_eq h.pos hA]
 refine ⟨?_,fun B hB=>?_,fun M hM hd=>?_⟩
 · have:=Int.lcm_pos (m:=L) (n:=A.2) (by have:=h.pos;omega) (by omega)
   omega
 · rcases List.mem_append.mp hB with hB | hB
   · exact Int.dvd_trans (h.dvd B hB) (Int.dvd_lcm_left _ _)
   · rw [List.mem_singleton.mp hB];exact Int.dvd_lcm_right _ _
 · have h1:=h.least M hM fun B hB=>hd B (List.mem_append_left _ hB)
   have h2:=hd A (by simp)
   obtain ⟨m,rfl⟩:∃ m:Nat,M=m:=⟨M.toNat,by omega⟩
   exact Int.natCast_dvd_natCast.mpr (Int.lcm_dvd h1 h2)
theorem IsLcm.le {As:List (Int×Int)} {L M:Int} (h:IsLcm As L) (hM:0<M) (hd:∀ A∈As,A.2∣M):L≤M:=Int.le_of_dvd hM (h.least M hM hd)
noncomputable def abv (As:List (Int×Int)) (L:Int):List Int:=As.map fun A=>A.1 * (L.fdiv A.2)
theorem abv_val {A:Int×Int} {L:Int} (hA:0<A.2) (hL:0<L) (h:A.2∣L):((A.1 * (L.fdiv A.2):Int):Rat)=val A * (L:Rat):=by
 obtain ⟨u,rfl⟩:=h
 have e:(A.2 * u).fdiv A.2=u:=by rw [Int.fdiv_eq_ediv_of_nonneg _ (by omega),Int.mul_ediv_cancel_left _ (by omega)]
 rw [e]
 unfold val
 have:=castne (d:=A.2) (by omega)
 rw [Rat.intCast_mul,Rat.intCast_mul]
 grind
theorem qs_ints {f:Nat→Int}:∀ n,qs n (fun i=>((f i:Int):Rat))=((((List.range n).map f).sum:Int):Rat)
 | 0=>by simp [qs]
 | n+1=>by
   show qs n _+_=_
   rw [qs_ints n,List.range_succ,List.map_append,List.sum_append,Rat.intCast_add]
   simp
end Pw
namespace L2
open PySem PySem.Spec PyProof.Rows
noncomputable def Sq (b:Bool) (K:PySem.W.Frag) (H:Hp) (a:Addr) (xs:List V):Prop:=if b=true then SqL K H a xs else SqT K H a xs
noncomputable def ItB (b:Bool) (K:PySem.W.Frag) (a:Addr):It:=if b=true then Itl K a else Itt K a
noncomputable def iSeq (K:PySem.W.Frag) (tl:TE):TI:=fun σ H R=>tl σ H fun x H1=>∃ (b:Bool) (a:Addr),x=.ref a∧(∃ xs,Sq b K H1 a xs)∧R (ItB b K a) H1
theorem Sq.same {b:Bool} {K:PySem.W.Frag} {H H':Hp} {a:Addr} {xs:List V} (h:Sq b K H a xs) (s:Same H H'):Sq b K H' a xs:=by
 cases b
 · exact s.seqT h
 · exact s.seq h
theorem pi_seq {X:Cx} {tg l:Expr} {tl:TE} (hl:PE X l tl):PI X tg l (iSeq X.K tl):=by
 intro pins s σ H R I h
 refine thn (hl pins s σ H _ I h) fun v s1 ⟨x,H1,I1,r1,q1⟩=>?_
 obtain ⟨b,a,e,⟨xs,hq⟩,q⟩:=q1
 subst e
 cases r1
 cases b with
 | true =>
   have hq:SqL X.K H1 a xs:=hq
   have q:R (Itl X.K a) H1:=q
   obtain ⟨its,rv,p,hz⟩:=I1.list hq
   refine wpAny_pyIter_list p.isList ?_
   refine ⟨s1.heap.objs.size,[s1.heap.objs.size],_,_,H1,rfl,I1.kept (t':=s1.toks) fun b o e=>Heap.get?_push_of_some _ e,turn_list a _,⟨_,Heap.get?_push_size _ rfl,rfl,rfl⟩,fun b hb=>?_,q⟩
   have e:b=s1.heap.objs.size:=by simpa using hb
   subst e
   exact I1.fpOk (Nat.le_refl _) (I1.hok.fresh (Nat.le_refl _))
 | false =>
   have hq:SqT X.K H1 a xs:=hq
   have q:R (Itt X.K a) H1:=q
   obtain ⟨its,rv,p,hz⟩:=I1.tuple hq
   refine wpAny_pyIter_tuple (show s1.heap.IsTuple a its.toArray from p) ?_
   refine ⟨s1.heap.objs.size,[s1.heap.objs.size],_,_,H1,rfl,I1.kept (t':=s1.toks) fun b o e=>Heap.get?_push_of_some _ e,turn_tuple a _,⟨_,Heap.get?_push_size _ rfl,rfl,rfl⟩,fun b hb=>?_,q⟩
   have e:b=s1.heap.objs.size:=by simpa using hb
   subst e
   exact I1.fpOk (Nat.le_refl _) (I1.hok.fresh (Nat.le_refl _))
section
variable {b:Bool} {K:PySem.W.Frag} {a D:Addr} {xs:List V} {g:TG} {tt:TT} {te:TE} {σ0:St} {H0:Hp} {Q:VK}
theorem comp_seq (Pv:Nat→List V→St→Hp→Prop) (h0:Pv 0 [] σ0 H0) (hl:∀ i ys σ H,Pv i ys σ H→Sq b K H a xs∧H D=some (.lst ys))
 (hs:∀ i x ys σ H,xs[i]?=some x→i<xs.length→Pv i ys σ H→g x σ H fun σ3 H3=>tt σ3 H3 fun b H4=>if b=true then
  te σ3 H4 fun y H5=>H5 D=some (.lst ys)∧ys.length<sizeLine∧∃ m',m'<xs.length - i∧Wt Pv xs.length (i+1) m' (ys ++ [y]) σ3 (upd H5 D (.lst (ys ++ [y]))) else ∃ m',m'<xs.length - i∧Wt Pv xs.length (i+1) m' ys σ3 H4)
 (hd:∀ ys σ H,Pv xs.length ys σ H→Q (.ref D) H):CompW (ItB b K a) D g tt te Q σ0 H0:=by
 cases b
 · exact comp_tup Pv h0 hl hs hd
 · exact comp_lst Pv h0 hl hs hd
end
theorem for_seq {b:Bool} {K:PySem.W.Frag} {a:Addr} {xs:List V} {g:TG} {tb:TS} {D:Ends} {σ:St} {H:Hp} (Pv:Nat→St→Hp→Prop) (h0:Pv 0 σ H) (hl:∀ i σ H,i≤xs.length→Pv i σ H→Sq b K H a xs)
 (hs:∀ i x σ H,xs[i]?=some x→Pv i σ H→g x σ H fun σ2 H2=>tb { D with nx:=Pv (i+1),ct:=Pv (i+1),bk:=D.nx } σ2 H2) (hd:∀ σ H,Pv xs.length σ H→D.nx σ H) :
 ∃ W:Nat→Nat→St→Hp→Prop,(∃ m,W 0 m σ H)∧∀ i m σ H,W i m σ H →
   ((ItB b K a).stop i H∧D.nx σ H)∨((ItB b K a).go i H∧∃ N:St→Hp→Prop,(∀ σ' H',N σ' H'→∃ m',m'<m∧W (i+1) m' σ' H')∧∀ x H',(ItB b K a).yld i H x H'→g x σ H' fun σ2 H2=>tb { D with nx:=N,ct:=N,bk:=D.nx } σ2 H2):=by
 cases b
 · exact for_tup Pv h0 hl hs hd
 · exact for_list Pv h0 hl hs hd
set_option genInjectivity false in
structure Rw (Rs:List (Int×Int)) (n:Nat) (D C:Int):Prop where
 len:Rs.length=n
 canon:Pw.Canons Rs
 dpos:0<D
 cpos:1≤C
 dvd:∀ R∈Rs,R.2∣D
 bnd:∀ R∈Rs,-(C * R.2)≤R.1∧R.1≤C * R.2
 sz:Sz 2000 (C * D)
theorem Rw.bd {Rs:List (Int×Int)} {n:Nat} {D C:Int} (h:Rw Rs n D C) {R:Int×Int} (hR:R∈Rs):Pw.Bd D (C:Rat) (Pw.val R):=by
 have c:=h.canon R hR
 have hp:=Pw.cpos c.1
 have hne:=Pw.castne (Pw.canon_ne c)
 obtain ⟨u,hu⟩:=h.dvd R hR
 obtain ⟨b1,b2⟩:=h.bnd R hR
 have e:Pw.val R * (R.2:Rat)=(R.1:Rat):=by unfold Pw.val;grind
 refine ⟨⟨R.1 * u,?_⟩,?_,?_⟩
 · rw [hu,Rat.intCast_mul,Rat.intCast_mul,← e];grind
 · refine Pw.le_of_mul hp ?_
   rw [e]
   have:((-(C * R.2):Int):Rat)≤(R.1:Rat):=Rat.intCast_le_intCast.mpr b1
   rw [Rat.intCast_neg,Rat.intCast_mul] at this
   grind
 · refine Pw.le_of_mul hp ?_
   rw [e]
   have:(R.1:Rat)≤((C * R.2:Int):Rat):=Rat.intCast_le_intCast.mpr b2
   rw [Rat.intCast_mul] at this
   exact this
theorem Rw.sz2 {Rs:List (Int×Int)} {n:Nat} {D C:Int} (h:Rw Rs n D C) {R:Int×Int} (hR:R∈Rs):Sz2 2000 R:=by
 have:=(h.bd hR).sz h.dpos h.cpos h.sz
 rwa [Pw.ofQ_val (h.canon R hR)] at this
set_option genInjectivity false in
structure Pr (A:Int×Int) (Bs:List (Int×Int)) (S:Int):Prop where
 a0:0<A.1
 a1:A.1≤A.2
 nn:∀ B∈Bs,0≤B.1
 one:Pw.qs Bs.length (fun t=>Pw.val (Bs.getD t (0,1)))=1
 spos:0<S
 ssz:Sz 700 S
 sdvd:∀ B∈Bs,B.2∣S
end L2
namespace Pw
theorem fr_dvd {A:Int×Int} {n d:Int} (h:Fr A n d):A.2∣d:=by
 have w:=h.w
 have:A.2∣A.1 * d:=⟨n,by rw [w];exact Int.mul_comm ..⟩
 exact dvd_left this h.canon.2
theorem qs_ge {f:Nat→Rat}:∀ {n k:Nat},k<n→(∀ i,i<n→0≤f i)→f k≤qs n f
 | n+1,k,hk,h=>by
   show f k≤qs n f+f n
   by_cases e:k=n
   · subst e
     have:=qs_nonneg (n:=k) (f:=f) fun i hi=>h i (by omega)
     grind
   · have h1:=qs_ge (n:=n) (k:=k) (by omega) fun i hi=>h i (by omega)
     have h2:=h n (by omega)
     grind
noncomputable def behQ (ps:List (Int×Int)) (A:Int×Int) (Bs Rs:List (Int×Int)) (n t:Nat):Rat:=qs n (fun i=>val (Rs.getD i (0,1)) * val ((waysL ps A Bs i).getD t (0,1)))
end Pw
namespace L2
open PySem PySem.Spec PyProof.Rows
theorem newEnv_cell1 {M:Model} {A:Around} {E:Value→Shared→Prop} {s:Shared} {xo:Str} {scope:Scope} {globals:Addr} {cl:List (Str×Addr)} {qual:Str} {around:Env} {Q:Env→Shared→Prop}
 (hcf:∀ (n:Addr) (l:List (Str×Addr)),cellsFrom n scope.names l=(xo,n) :: l) (hpc:∀ h:Heap,pushCells h scope.names=h.push { cls:=.type "cell",data:=.cell none })
 (q:∀ h₁:Heap,h₁.Ns s.heap.objs.size (fun _=>none)→(∀ b o,s.heap.get? b=some o→h₁.get? b=some o)→h₁.IsCell (s.heap.objs.size+1) none→Q (newEnv scope s.heap.objs.size globals ((xo,s.heap.objs.size+1) :: cl) qual none .none (some around) builtinsNs) { s with heap:=h₁ }) :
 wpAny M A (newFunctionEnv scope globals cl [] qual none .none (some around)) Q E s:=by
 simp only [newFunctionEnv,Option.isSome_some,if_true]
 refine wpAny_bind (wpAny_alloc ?_);refine wpAny_bind (wpAny_layCells _ (fun name kind cells=>by cases hkc:kind == NameKind.cell <;> simp [hkc]) _ _ _ _ ?_)
 have z:({ s with heap:=s.heap.push { cls:=.type "dict",data:=.dict #[] } }:Shared).heap.objs.size=s.heap.objs.size+1:=Heap.size_push ..
 rw [hcf,hpc,z]
 simp only [List.forIn_nil]
 refine wpAny_bind (wpAny_pure (wpAny_pure (q _ ((Heap.Ns.new s.heap (.type "dict")).keeps fun b o e=>Heap.get?_push_of_some _ e) (fun b o e=>Heap.get?_push_of_some _ (Heap.get?_push_of_some _ e)) ⟨{ cls:=.type "cell",data:=.cell none },?_,rfl⟩)))
 have:=Heap.get?_push_size (s.heap.push { cls:=.type "dict",data:=.dict #[] }) (o:={ cls:=.type "cell",data:=.cell none }) rfl
 rw [show (s.heap.push { cls:=.type "dict",data:=.dict #[] }).objs.size=s.heap.objs.size+1 from Heap.size_push ..] at this
 exact this
noncomputable def compX1 (xo:Str) (X:Cx) (N':List Str) (scope:Scope) (cl:List (Str×Addr)) (C:Addr) (s:Shared) (H:Hp) (fp:List Addr):Cx :=
 { compX X N' scope ((xo,C+1) :: cl) C s H fp with fn:=fun y=>y == xo }
section
variable {X:Cx}
theorem pe_comp1 {xo:Str} {tg iter elt:Expr} {ifs:List Expr} {scope:Scope} {pos:Pos} {N':List Str} {ks:List (Option Nat)} {cl:List (Str×Addr)} {wi:TI} {g:TG} {tt:TT} {te:TE}
 (hcalm:X.calm=true) (hi:PI X tg iter wi) (hclos:closureFor scope X.env=pure cl) (hcl:∀ x c,cl.lookup x=some c→X.env.cells.lookup x=some c)
 (hcf:∀ (n:Addr) (l:List (Str×Addr)),cellsFrom n scope.names l=(xo,n) :: l) (hpc:∀ h:Heap,pushCells h scope.names=h.push { cls:=.type "cell",data:=.cell none }) (hno:∀ (i k:Nat),ks[i]?=some (some k)→N'[i]?≠some xo) (hkind:scope.kind=.function) (hnames:∀ y∈scope.names,y.2=.local→scope.names.lookup y.1=some .local)
 (hhas:∀ x,((relabel scope X.env).names.lookup x=some .cell∨(relabel scope X.env).names.lookup x=some .free)→x=xo∨∃ c,cl.lookup x=some c)
 (hcap:Cap X (relabel scope X.env) N' ks)
 (hg:∀ C s H fp,PG (compX1 xo X N' scope cl C s H fp) tg g) (ht:∀ C s H fp,PTs (compX1 xo X N' scope cl C s H fp) ifs tt) (he:∀ C s H fp,PE (compX1 xo X N' scope cl C s H fp) elt te)
 (hs:∀ x,foldedSetIterable iter X.env x=pure x:=by intro _;rfl):PE X (.ListComp elt [⟨tg,iter,ifs,0⟩] scope pos) (tComp wi ks g tt te):=by
 intro pins s σ H Q I h
 rw [eval_ListComp]
 refine wpAny_comprehension_free (use:=none) rfl hs hclos hkind hnames (thn (hi pins s σ H _ I h) fun v s1 h1=>thn h1 fun itv s2 h2=>?_)
 obtain ⟨it,fp,tn,J,H2,e,I2,T,st2,f2,R⟩:=h2
 subst e
 refine wpAny_newObj_type (newEnv_cell1 hcf hpc (fun h₁ hns₁ hkp₁ hce₁=>?_))
 dsimp only at hns₁ hkp₁ hce₁ ⊢
 have hD:H2 s2.heap.objs.size=none:=I2.hok.fresh (Nat.le_refl _)
 obtain ⟨W,⟨m0,w0⟩,turn⟩:=R _ hD
 generalize hs3:({ s2 with heap:=s2.heap.push { cls:=.type "list",dict:=none,data:=.seq ([]:List Value).toArray } }:Shared)=s3
 have e3:s3.heap=s2.heap.push { cls:=.type "list",dict:=none,data:=.seq ([]:List Value).toArray }:=by rw [← hs3]
 have I3:Inv X pins σ (upd H2 s2.heap.objs.size (.lst [])) s3:=by
  rw [← hs3]
  exact I2.laid (t':=s2.toks) (fun b o e=>Heap.get?_push_of_some _ e) (Nat.le_refl _) ⟨Nat.zero_le _,[],0,.nil,Heap.get?_push_size _ rfl⟩
 generalize hD0:s2.heap.objs.size=D at *
 generalize hH3:upd H2 D (.lst [])=H3 at *
 rw [← e3] at hns₁ hkp₁ hce₁ ⊢
 have kp:∀ b o,s3.heap.get? b=some o→h₁.get? b=some o:=hkp₁
 have lk:∀ y c,((xo,s3.heap.objs.size+1) :: cl).lookup y=some c→(y=xo∧c=s3.heap.objs.size+1)∨cl.lookup y=some c:=fun y c e=>by
  rw [List.lookup_cons] at e
  cases hb:y == xo with
  | true=>rw [hb] at e;cases e;exact .inl ⟨beq_iff_eq.mp hb,rfl⟩
  | false=>rw [hb] at e;exact .inr e
 have lk2:∀ y c,y≠xo→cl.lookup y=some c→((xo,s3.heap.objs.size+1) :: cl).lookup y=some c:=fun y c hy e=>by
  rw [List.lookup_cons,beq_eq_false_iff_ne.mpr hy];exact e
 have small:∀ y c,cl.lookup y=some c→c<s3.heap.objs.size:=fun y c e=>by
  obtain ⟨v,q⟩:=I3.cell y c (hcl y c e)
  exact q.lt
 have f3:∀ b∈fp,FpOk X pins H3 b∧b<s3.heap.objs.size:=fun b hb=>by
  obtain ⟨o,ho,_⟩:=T.obj 0 _ st2 b hb
  have hlt:b<D:=by rw [← hD0];exact Heap.lt_size ho
  refine ⟨⟨?_,(f2 b hb).2⟩,?_⟩
  · rw [← hH3,upd_ne (Nat.ne_of_lt hlt)];exact (f2 b hb).1
  · rw [e3,Heap.size_push,hD0];exact Nat.lt_succ_of_lt hlt
 have st3:tn 0 h₁:=T.keep 0 s2.heap h₁ st2 fun b hb o e=>kp b o (by rw [e3];exact Heap.get?_push_of_some _ e)
 have capK:∀ x c,cl.lookup x=some c→X.env.cells.lookup x=some c:=hcl
 have stkne:∀ b∈fp,b∉frs X.stack:=fun b hb z=>by
  rcases List.mem_cons.mp (I3.stkSub b z) with e | e
  · exact (f3 b hb).1.2.1 e
  · exact (f3 b hb).1.2.2.1 e
 have Cfresh:H3 s3.heap.objs.size=none:=I3.hok.fresh (Nat.le_refl _)
 have ok':(compX1 xo X N' scope cl s3.heap.objs.size s3 H3 fp).Ok:=by
  refine ⟨I3.ok.mod,hkind,I3.ok.glob,I3.ok.blt,Nat.le_refl _,fun x y c h1 h2=>?_,fun x hx=>?_,fun x c hf h1=>?_,fun z=>I3.ok.hd z,I3.ok.frames,.inl rfl,
   fun b hb=>⟨Nat.ne_of_lt (f3 b hb).2,fun x c e=>?_⟩,I3.bs,Nat.le_trans I3.ok.bsz I3.sz,fun b o e hb=>?_,fun b hb=>stkne b hb,I3.stack,I3.stkFree⟩
  · rcases lk x c h1 with ⟨a1,a2⟩ | a <;> rcases lk y c h2 with ⟨b1,b2⟩ | b
    · rw [a1,b1]
    · exact absurd (small y c b) (by rw [a2];exact Nat.not_lt.mpr (Nat.le_succ _))
    · exact absurd (small x c a) (by rw [b2];exact Nat.not_lt.mpr (Nat.le_succ _))
    · exact I3.ok.inj x y c (capK x c a) (capK y c b)
  · by_cases hxo:x=xo
    · subst hxo;exact ⟨_,List.lookup_cons_self⟩
    · rcases hhas x hx with z | ⟨c,z⟩
      · exact absurd z hxo
      · exact ⟨c,lk2 x c hxo z⟩
  · have hf:(x == xo)=true:=hf
    rcases lk x c h1 with ⟨_,a2⟩ | a
    · rw [a2];exact Nat.le_succ _
    · have h1:((xo,s3.heap.objs.size+1) :: cl).lookup x=some c:=h1
      rw [beq_iff_eq.mp hf,List.lookup_cons_self] at h1
      cases h1
      exact Nat.le_succ _
  · rcases lk x c e with ⟨_,a2⟩ | a
    · rw [a2];exact Nat.ne_of_gt (Nat.lt_succ_of_lt (f3 b hb).2)
    · exact (f3 b hb).1.2.2.2.2.1 x c (capK x c a)
  rcases (f3 b hb).1.2.2.2.1 with z | z
  · exact I3.ok.noex b o e z
  · exact absurd (Nat.lt_of_lt_of_le (Heap.lt_size e) (Nat.le_trans I3.ok.bsz z)) (Nat.lt_irrefl _)
 have I4:Inv (compX1 xo X N' scope cl s3.heap.objs.size s3 H3 fp) [] (capt ks σ) H3 { s3 with heap:=h₁ }:=by
  refine ⟨ok',rfl,I3.bare,Un.kept kp,⟨_,hns₁,fun i x v e1 e2 e3'=>?_⟩,fun x c e=>?_,Cfresh,fun x c e=>?_,fun p hp=>absurd (show p∈([]:List (Addr×Obj)) from hp) (by simp),I3.hok.kept kp,?_⟩
  · have e2':(capt ks σ)[i]?=some (some v):=e2
    unfold capt at e2'
    rw [List.getElem?_map] at e2'
    cases hk:ks[i]? with
    | none=>rw [hk] at e2';cases e2'
    | some o =>
      rw [hk] at e2'
      cases o with
      | none=>cases e2'
      | some k =>
        have ev:σ.getD k none=some v:=Option.some.inj e2'
        obtain ⟨c1,c2,c3⟩:=hcap.get e1 hk
        obtain ⟨m,hn,hl⟩:=I3.loc
        have es:σ[k]?=some (some v):=by
         rw [List.getD_eq_getElem?_getD] at ev
         cases q:σ[k]? with
         | none=>rw [q] at ev;cases ev
         | some z=>rw [q] at ev;exact congrArg some ev
        obtain ⟨u,r,l⟩:=hl k x v c1 es (.inr (.inl c2))
        refine ⟨u,r,.inr ⟨c3,?_⟩⟩
        rcases l with ⟨l1,_⟩ | ⟨_,c,l2,l3⟩
        · have l1':X.env.scope.names.lookup x=some .local:=l1
          rw [c2] at l1';cases l1'
        · have hxo:x≠xo:=fun z=>hno i k hk (by have e1:N'[i]?=some x:=e1;rw [e1,z])
          obtain ⟨c',hc'⟩:=(hhas x c3).resolve_left hxo
          have:X.env.cells.lookup x=some c':=capK x c' hc'
          rw [l2] at this
          cases this
          refine ⟨c,lk2 x c hxo hc',?_⟩
          obtain ⟨o,ho,hd⟩:=l3
          exact ⟨o,kp c o ho,hd⟩
  · rcases lk x c e with ⟨_,a2⟩ | a
    · rw [a2];exact ⟨_,hce₁⟩
    · obtain ⟨v,o,ho,hd⟩:=I3.cell x c (capK x c a)
      exact ⟨v,o,kp c o ho,hd⟩
  · rcases lk x c e with ⟨_,a2⟩ | a
    · rw [a2];exact I3.hok.fresh (Nat.le_succ _)
    · exact I3.freeC x c (capK x c a)
  · show (capt ks σ).length=N'.length
    unfold capt
    rw [List.length_map,hcap.len]
 have Cne:∀ p∈X.pn ++ pins,p.1≠s3.heap.objs.size:=fun p hp=>Nat.ne_of_lt (Heap.lt_size (I3.pin p hp).1)
 have back:∀ {σ':St} {H':Hp} {s':Shared},Inv (compX1 xo X N' scope cl s3.heap.objs.size s3 H3 fp) [] σ' H' s'→∀ h'':Heap,Heap.SameBut s3.heap.objs.size s'.heap h''→Inv X pins σ H' { s' with heap:=h'' }:=fun {σ' H' s'} I' h'' sb=>by
  have J1:Inv X pins σ H' s':=I3.call' (ch:=fp) I'.os I'.base I'.hok I'.bare fun b hb=>⟨(f3 b hb).1.2.2.2.1,(f3 b hb).1.2.1,(f3 b hb).1.2.2.2.2.1,(f3 b hb).1.2.2.2.2.2⟩
  refine J1.turned (t':=s'.toks) (it:=s3.heap.objs.size) (fun b o hb e=>(sb.2 b hb).trans e) I'.free (Nat.ne_of_gt I3.lt) (.inr I3.sz) (fun x c e=>?_) Cne
  obtain ⟨v,q⟩:=I3.cell x c e
  exact Nat.ne_of_lt q.lt
 have fpok:∀ {H':Hp},(∀ b∈fp,H' b=none)→∀ b∈fp,FpOk (compX1 xo X N' scope cl s3.heap.objs.size s3 H3 fp) [] H' b:=fun hn b hb =>
  ⟨hn b hb,Nat.ne_of_lt (f3 b hb).2,stkne b hb,.inl hb,fun x c e=>by
      rcases lk x c e with ⟨_,a2⟩ | a
      · rw [a2];exact Nat.ne_of_gt (Nat.lt_succ_of_lt (f3 b hb).2)
      · exact (f3 b hb).1.2.2.2.2.1 x c (capK x c a),fun p hp=>absurd (show p∈([]:List (Addr×Obj)) from hp) (by simp)⟩
 have loop:codeAny (model X.prog X.w) X.A (.compLoop (.ListComp elt [⟨tg,iter,ifs,0⟩] scope pos) 0 (.ref it) (.ref D) (compEnvC scope ((xo,s3.heap.objs.size+1) :: cl) s3.heap.objs.size X.env))
  (compPost (model X.prog X.w) X.A X.xe none (EP X pins σ Q) (.ref D) s3.heap.objs.size) { s3 with heap:=h₁ }:=by
  refine compLoop_any (fun n s'=>∃ i ys σ' H',Inv (compX1 xo X N' scope cl s3.heap.objs.size s3 H3 fp) [] σ' H' s'∧tn i s'.heap∧(∀ b∈fp,H' b=none)∧W i n ys σ' H') ?_ m0 ⟨0,[],_,_,I4,st3,fun b hb=>(f3 b hb).1.1,w0⟩
  rintro n s5 ⟨i,ys,σ5,H5,I5,st5,fr5,w5⟩
  obtain ⟨hD5,tq⟩:=turn i n ys σ5 H5 w5
  rcases tq with ⟨stop,q⟩ | ⟨go,step⟩
  · refine thn (T.done (compX1 xo X N' scope cl s3.heap.objs.size s3 H3 fp) rfl rfl rfl hcalm i [] s5 σ5 H5 _ I5 (fpok fr5) st5 stop) fun r s6 ⟨hr,I6⟩=>?_
    subst hr
    obtain ⟨m,hn,_⟩:=I6.loc
    exact ⟨m,hn,fun h'' sb=>⟨.ref D,H5,back I6 h'' sb,rfl,q⟩⟩
  · refine thn (T.item (compX1 xo X N' scope cl s3.heap.objs.size s3 H3 fp) rfl rfl rfl hcalm i [] s5 σ5 H5 _ I5 (fpok fr5) st5 go) fun r s6 ⟨u,hr,h6⟩=>?_
    subst hr
    refine thn h6 fun _ s7 ⟨x,H7,I7,r7,y7,st7,fr7⟩=>?_
    have I7':=I7.pinned (fpok fr7) (T.obj _ _ st7)
    refine thn (hg _ _ _ _ _ s7 σ5 H7 x u _ I7' r7 (step x H7 y7)) fun _ s8 ⟨σ8,H8,I8,q8⟩=>?_
    refine thn (ht _ _ _ _ _ s8 σ8 H8 _ I8 q8) fun ok s9 ⟨H9,I9,q9⟩=>?_
    have again:∀ {σ':St} {H':Hp} {s':Shared} {ys':List V},Inv (compX1 xo X N' scope cl s3.heap.objs.size s3 H3 fp) ([] ++ pinsAt fp s7.heap) σ' H' s'→(∃ m',m'<n∧W (i+1) m' ys' σ' H') →
     ∃ m',m'<n∧∃ i ys σ' H',Inv (compX1 xo X N' scope cl s3.heap.objs.size s3 H3 fp) [] σ' H' s'∧tn i s'.heap∧(∀ b∈fp,H' b=none)∧W i m' ys σ' H':=fun {σ' H' s' ys'} I' hw=>by
     obtain ⟨m',hm,w'⟩:=hw
     refine ⟨m',hm,i+1,ys',σ',H',I'.unpinned,T.keep _ _ _ st7 fun b hb o e=>(I'.pin (b,o) (List.mem_append_right _ (List.mem_append_right _ (mem_pinsAt hb e)))).1,fun b hb=>?_,w'⟩
     obtain ⟨o,e,d⟩:=T.obj _ _ st7 b hb
     exact (I'.pin (b,o) (List.mem_append_right _ (List.mem_append_right _ (mem_pinsAt hb e)))).2.1
    cases ok with
    | false =>
      rw [if_neg Bool.false_ne_true] at q9 ⊢
      exact again I9 q9
    | true =>
      rw [if_pos rfl] at q9 ⊢
      refine thn (he _ _ _ _ _ s9 σ8 H9 _ I9 q9) fun y s10 ⟨yv,H10,I10,r10,q10,z10,w10⟩=>?_
      refine thn (mt_append _ s10 σ8 H10 (.ref D) [yv] (.ref D) [y] (fun v H'=>v=.non∧H'=upd H10 D (.lst (ys ++ [yv]))) I10 rfl (.cons r10 .nil) ⟨D,ys,yv,rfl,rfl,q10,z10,rfl,rfl⟩) fun _ s11 ⟨_,H11,I11,_,_,e11⟩=>?_
      subst e11
      exact again I11 w10
 have es:({ s3 with heap:=h₁ }:Shared)={ s2 with heap:=h₁ }:=by rw [← hs3]
 rw [es] at loop
 exact codeAny_compStart_list loop (T.self _ 0 _ _ _ st3 loop)
theorem pe_compC1 (xo:Str) {tg iter elt:Expr} {ifs:List Expr} {scope:Scope} {pos:Pos} (N':List Str) (ks:List (Option Nat)) {wi:TI} {g:TG} {tt:TT} {te:TE}
 (hcalm:X.calm=true) (hi:PI X tg iter wi) (hfree:∀ y∈scope.names,y.2=.free→X.env.scope.names.lookup y.1=some .cell)
 (hcf:∀ (n:Addr) (l:List (Str×Addr)),cellsFrom n scope.names l=(xo,n) :: l) (hpc:∀ h:Heap,pushCells h scope.names=h.push { cls:=.type "cell",data:=.cell none }) (hno:∀ (i k:Nat),ks[i]?=some (some k)→N'[i]?≠some xo) (hcell:∀ y∈scope.names,y.2=.cell→y.1=xo) (hkind:scope.kind=.function) (hnames:∀ y∈scope.names,y.2=.local→scope.names.lookup y.1=some .local)
 (hcap:Cap X (relabel scope X.env) N' ks)
 (hg:∀ cl C s H fp,PG (compX1 xo X N' scope cl C s H fp) tg g) (ht:∀ cl C s H fp,PTs (compX1 xo X N' scope cl C s H fp) ifs tt) (he:∀ cl C s H fp,PE (compX1 xo X N' scope cl C s H fp) elt te)
 (hs:∀ x,foldedSetIterable iter X.env x=pure x:=by intro _;rfl):PE X (.ListComp elt [⟨tg,iter,ifs,0⟩] scope pos) (tComp wi ks g tt te):=by
 intro pins s σ H Q I h
 obtain ⟨cl,e1,e2,e3⟩:=closure_ok (scope:=scope) (env:=X.env) fun y hy hf=>I.ok.has y.1 (.inl (hfree y hy hf))
 refine pe_comp1 hcalm hi e1 e2 hcf hpc hno hkind hnames (fun x hx=>?_) hcap (hg cl) (ht cl) (he cl) hs pins s σ H Q I h
 have key:∀ k,(x,k)∈(relabel scope X.env).names→k=.cell∨k=.free→x=xo∨(x,NameKind.free)∈scope.names:=fun k hm hk=>by
  unfold relabel at hm
  obtain ⟨⟨n,k'⟩,hy,e⟩:=List.mem_map.mp hm
  dsimp only at e
  split at e
  · rename_i hc
    cases e
    have:k'=.free:=by simp at hc;exact hc.1.1
    exact .inr (by rw [← this];exact hy)
  · cases e
    rcases hk with rfl | rfl
    · exact .inl (hcell _ hy rfl)
    · exact .inr hy
 rcases hx with hx | hx
 · exact (key _ (PySem.mem_of_lookup hx) (.inl rfl)).imp id (e3 x)
 · exact (key _ (PySem.mem_of_lookup hx) (.inr rfl)).imp id (e3 x)
end
end L2
namespace L2
open PySem PySem.Spec PyProof.Rows
theorem fdiv_sz {k:Nat} {L g:Int} (hL:0<L) (hg:0<g) (z:Sz k L):Sz k (L.fdiv g):=by
 have z':L.natAbs<2 ^ k:=z
 show (L.fdiv g).natAbs<2 ^ k
 rw [Int.fdiv_eq_ediv_of_nonneg _ (by omega)]
 have h1:0≤L / g:=Int.ediv_nonneg (by omega) (by omega)
 have h2:L / g≤L:=Int.ediv_le_self _ (by omega)
 omega
theorem le_sz {k:Nat} {x y:Int} (h0:0≤x) (h:x≤y) (z:Sz k y):Sz k x:=by
 have z':y.natAbs<2 ^ k:=z
 show x.natAbs<2 ^ k
 omega
theorem gcd_le {x y:Int} (hy:0<y):0<(Int.gcd x y:Int)∧(Int.gcd x y:Int)≤y :=
 ⟨Pw.gpos (by omega),Int.le_of_dvd hy (Int.gcd_dvd_right ..)⟩
theorem IsLcm.takeM {As:List (Int×Int)} {L M:Int} (h:Pw.IsLcm As L) (hM:0<M) (hd:∀ A∈As,A.2∣M) {k:Nat} (z:Sz k M):Sz k L:=le_sz (Int.le_of_lt h.pos) (h.le hM hd) z
theorem sum_sz {k:Nat}:∀ {ns:List Int},(∀ n∈ns,Sz k n)→Sz (k+ns.length) ns.sum
 | [],_=>by show (0:Int).natAbs<2 ^ (k+0);exact Nat.two_pow_pos _
 | n :: ns,h=>by
   have h1:=sum_sz (ns:=ns) fun m hm=>h m (List.mem_cons_of_mem _ hm)
   have h2:=h n List.mem_cons_self
   rw [List.sum_cons]
   exact ((h2.mono (by omega)).add h1).mono (by rw [List.length_cons];omega)
theorem getD_mapI {ns:List Int} {i:Nat} (h:i<ns.length):ns[i]?=some (ns.getD i 0):=by
 rw [List.getD_eq_getElem?_getD,List.getElem?_eq_getElem h];rfl
theorem Canons.pos {As:List (Int×Int)} (h:Pw.Canons As):∀ A∈As,0<A.2:=fun A hA=>(h A hA).1
end L2
namespace L2
open PySem PySem.Spec PyProof.Rows
theorem pi_listK {K:PySem.W.Frag} {X:Cx} {tg l:Expr} {tl:TE} (e:X.K=K) (hl:PE X l tl):PI X tg l (iList K tl):=e ▸ pi_list hl
theorem hno_cons {xo:Str} {N:List Str} {ks:List (Option Nat)} (h:xo∉N):∀ (i k:Nat),(none :: ks)[i]?=some (some k)→(xo :: N)[i]?≠some xo
 | 0,k,e=>by simp at e
 | i+1,k,_=>fun z=>h (List.mem_of_getElem? (by simpa using z))
end L2
namespace Pw
end Pw
namespace L2
open PySem PySem.Spec PyProof.Rows
section
variable {ps:List (Int×Int)} {A:Int×Int} {Bs Rs:List (Int×Int)} {S D C:Int} {n:Nat}
end
end L2
namespace L2
open PySem PySem.Spec PyProof.Rows
end L2
namespace Pw
noncomputable abbrev Vec:=Nat→Rat
noncomputable def expand (r:Vec) (D:List Nat→Rat):List Nat→Rat
 | []=>0
 | c :: cs=>r c * D cs - expand r (fun l=>D (c :: l)) cs
noncomputable def det:List Vec→List Nat→Rat
 | [],_=>1
 | r :: rs,cols=>expand r (det rs) cols
theorem expand_congrD {r:Vec} {D E:List Nat→Rat} (h:∀ l,D l=E l):∀ cs,expand r D cs=expand r E cs:=fun cs=>by
 have:D=E:=funext h
 rw [this]
theorem expand_zeroD (r:Vec):∀ cs,expand r (fun _=>0) cs=0
 | []=>rfl
 | c :: cs=>by
   show r c * 0 - expand r (fun l=>0) cs=0
   rw [expand_zeroD r cs];grind
theorem expand_linD (r:Vec) (a b:Rat):∀ (cs:List Nat) (D E:List Nat→Rat),expand r (fun l=>a * D l+b * E l) cs=a * expand r D cs+b * expand r E cs
 | [],D,E=>by show (0:Rat)=a * 0+b * 0;grind
 | c :: cs,D,E=>by
   show r c * (a * D cs+b * E cs) - expand r (fun l=>a * D (c :: l)+b * E (c :: l)) cs=a * (r c * D cs - expand r (fun l=>D (c :: l)) cs)+b * (r c * E cs - expand r (fun l=>E (c :: l)) cs)
   rw [expand_linD r a b cs];grind
theorem expand_linR (r s:Vec) (a b:Rat):∀ (cs:List Nat) (D:List Nat→Rat),expand (fun c=>a * r c+b * s c) D cs=a * expand r D cs+b * expand s D cs
 | [],D=>by show (0:Rat)=a * 0+b * 0;grind
 | c :: cs,D=>by
   show (a * r c+b * s c) * D cs - expand _ (fun l=>D (c :: l)) cs=a * (r c * D cs - expand r (fun l=>D (c :: l)) cs)+b * (s c * D cs - expand s (fun l=>D (c :: l)) cs)
   rw [expand_linR r s a b cs];grind
theorem expand_self (r:Vec):∀ (cs:List Nat) (D:List Nat→Rat),expand r (expand r D) cs=0
 | [],D=>rfl
 | c :: cs,D=>by
   show r c * expand r D cs - expand r (fun l=>r c * D l - expand r (fun l=>D (c :: l)) l) cs=0
   have e:expand r (fun l=>r c * D l - expand r (fun l=>D (c :: l)) l) cs=r c * expand r D cs+(-1) * expand r (expand r (fun l=>D (c :: l))) cs:=by
    rw [← expand_linD]
    exact expand_congrD (fun l=>by grind) cs
   rw [e,expand_self r cs];grind
theorem expand_swap (r s:Vec) (cs:List Nat) (D:List Nat→Rat):expand r (expand s D) cs=-expand s (expand r D) cs:=by
 have h:=expand_self (fun c=>1 * r c+1 * s c) cs D
 have e:expand (fun c=>1 * r c+1 * s c) (expand (fun c=>1 * r c+1 * s c) D) cs=expand (fun c=>1 * r c+1 * s c) (fun l=>1 * expand r D l+1 * expand s D l) cs:=expand_congrD (fun l=>expand_linR r s 1 1 l D) cs
 rw [e,expand_linR,expand_linD,expand_linD,expand_self,expand_self] at h
 grind
theorem expand_congrR {r s:Vec}:∀ {cs:List Nat} {D:List Nat→Rat},(∀ c∈cs,r c=s c)→expand r D cs=expand s D cs
 | [],D,_=>rfl
 | c :: cs,D,h=>by
   show r c * D cs - expand r _ cs=s c * D cs - expand s _ cs
   rw [h c List.mem_cons_self,expand_congrR fun x hx=>h x (List.mem_cons_of_mem _ hx)]
theorem expand_zeroR {r:Vec}:∀ {cs:List Nat} {D:List Nat→Rat},(∀ c∈cs,r c=0)→expand r D cs=0
 | [],D,_=>rfl
 | c :: cs,D,h=>by
   show r c * D cs - expand r _ cs=0
   rw [h c List.mem_cons_self,expand_zeroR fun x hx=>h x (List.mem_cons_of_mem _ hx)];grind
noncomputable def Nul (rs:List Vec) (u:Vec):Prop:=∀ cols,det (u :: rs) cols=0
theorem Nul.mem:∀ {rs:List Vec} {r:Vec},r∈rs→Nul rs r
 | s :: rs,r,h=>fun cols=>by
   rcases List.mem_cons.mp h with rfl | h
   · exact expand_self _ _ _
   · show expand r (expand s (det rs)) cols=0
     rw [expand_swap]
     have:expand s (expand r (det rs)) cols=expand s (fun _=>0) cols:=expand_congrD (Nul.mem h) cols
     rw [this,expand_zeroD];grind
theorem Nul.cons {rs:List Vec} {u s:Vec} (h:Nul rs u):Nul (s :: rs) u:=fun cols=>by
 show expand u (expand s (det rs)) cols=0
 rw [expand_swap]
 have:expand s (expand u (det rs)) cols=expand s (fun _=>0) cols:=expand_congrD h cols
 rw [this,expand_zeroD];grind
theorem Nul.lin {rs:List Vec} {u v:Vec} (a b:Rat) (hu:Nul rs u) (hv:Nul rs v):Nul rs (fun c=>a * u c+b * v c):=fun cols=>by
 have h1:expand u (det rs) cols=0:=hu cols
 have h2:expand v (det rs) cols=0:=hv cols
 show expand _ (det rs) cols=0
 rw [expand_linR,h1,h2];grind
section
variable (A:Nat→Vec)
noncomputable def Rk:Nat→List Vec
 | 0=>[]
 | k+1=>A k :: Rk k
noncomputable def Kk:Nat→List Nat
 | 0=>[]
 | k+1=>k :: Kk k
noncomputable def dd (k:Nat):Rat:=det (Rk A k) (Kk k)
noncomputable def BB (k:Nat) (v:Vec) (j:Nat):Rat:=det (v :: Rk A k) (j :: Kk k)
theorem dd_next (k:Nat):dd A (k+1)=BB A k (A k) k:=rfl
theorem dd_zero:dd A 0=1:=rfl
theorem mem_Kk:∀ {k c:Nat},c∈Kk k↔c<k
 | 0,c=>by simp [Kk]
 | k+1,c=>by
   show c∈k :: Kk k↔_
   rw [List.mem_cons,mem_Kk];omega
theorem mem_Rk:∀ {k i:Nat},i<k→A i∈Rk A k
 | k+1,i,h=>by
   show A i∈A k :: Rk A k
   by_cases e:i=k
   · subst e;exact List.mem_cons_self
   · exact List.mem_cons_of_mem _ (mem_Rk (by omega))
theorem BB_lin (k:Nat) (u v:Vec) (a b:Rat) (j:Nat):BB A k (fun c=>a * u c+b * v c) j=a * BB A k u j+b * BB A k v j:=expand_linR u v a b _ _
theorem BB_congr {k:Nat} {u v:Vec} {j:Nat} (hj:u j=v j) (h:∀ c,c<k→u c=v c):BB A k u j=BB A k v j:=expand_congrR fun c hc=>by
 rcases List.mem_cons.mp hc with rfl | hc
 · exact hj
 · exact h c (mem_Kk.mp hc)
theorem BB_low {k:Nat} {w:Vec} (h:∀ c,c<k→w c=0) (j:Nat):BB A k w j=w j * dd A k:=by
 show w j * det (Rk A k) (Kk k) - expand w _ (Kk k)=w j * dd A k
 rw [expand_zeroR fun c hc=>h c (mem_Kk.mp hc)]
 unfold dd;grind
theorem BB_row {k i:Nat} (h:i<k) (j:Nat):BB A k (A i) j=0:=Nul.mem (mem_Rk A h) _
theorem reduced (k:Nat) (hd:∀ l,l≤k→dd A l≠0):∀ v:Vec,∃ w:Vec,Nul (Rk A k) (fun c=>v c - w c)∧∀ c,c<k→w c=0:=by
 induction k with
 | zero =>
   intro v
   refine ⟨v,fun cols=>?_,fun c hc=>by omega⟩
   exact expand_zeroR fun c _=>by grind
 | succ k ih =>
   intro v
   have ih:=ih fun l hl=>hd l (by omega)
   obtain ⟨x,nx,zx⟩:=ih v
   obtain ⟨y,ny,zy⟩:=ih (A k)
   have hdk:=hd k (by omega)
   have hdk1:=hd (k+1) (by omega)
   have ey:dd A (k+1)=y k * dd A k:=by
    have e1:BB A k (A k) k=BB A k y k:=by
     have:=ny (k :: Kk k)
     have e2:BB A k (fun c=>1 * A k c+(-1) * y c) k=0:=by
      rw [BB_congr A (v:=fun c=>A k c - y c) (by grind) (fun c _=>by grind)]
      exact this
     rw [BB_lin] at e2
     grind
    rw [dd_next,e1,BB_low A zy]
   have hy:y k≠0:=fun z=>hdk1 (by rw [ey,z];grind)
   refine ⟨fun c=>x c - x k / y k * y c,?_,fun c hc=>?_⟩
   · have n1:Nul (Rk A (k+1)) (fun c=>v c - x c):=nx.cons
     have n2:Nul (Rk A (k+1)) (fun c=>A k c - y c):=ny.cons
     have n3:Nul (Rk A (k+1)) (A k):=Nul.mem (mem_Rk A (by omega))
     have n4:=Nul.lin 1 (-1) n3 n2
     have n5:=Nul.lin 1 (x k / y k) n1 n4
     intro cols
     have:=n5 cols
     rw [← this]
     exact expand_congrR fun c _=>by grind
   · show x c - x k / y k * y c=0
     by_cases e:c=k
     · subst e;grind
     · rw [zx c (by omega),zy c (by omega)];grind
theorem BB_red {k:Nat} {v w:Vec} (hn:Nul (Rk A k) (fun c=>v c - w c)) (hz:∀ c,c<k→w c=0) (j:Nat):BB A k v j=w j * dd A k:=by
 have e2:BB A k (fun c=>1 * v c+(-1) * w c) j=0:=by
  rw [BB_congr A (v:=fun c=>v c - w c) (by grind) (fun c _=>by grind)]
  exact hn _
 rw [BB_lin,BB_low A hz] at e2
 grind
theorem BB_step {k:Nat} (hd:∀ l,l≤k+1→dd A l≠0) (v:Vec) (j:Nat):BB A (k+1) v j * dd A k=dd A (k+1) * BB A k v j - BB A k v k * BB A k (A k) j:=by
 obtain ⟨x,nx,zx⟩:=reduced A k (fun l hl=>hd l (by omega)) v
 obtain ⟨y,ny,zy⟩:=reduced A k (fun l hl=>hd l (by omega)) (A k)
 have hdk:=hd k (by omega)
 have hdk1:=hd (k+1) (by omega)
 have ey:dd A (k+1)=y k * dd A k:=by rw [dd_next];exact BB_red A ny zy k
 have hy:y k≠0:=fun z=>hdk1 (by rw [ey,z];grind)
 have n1:Nul (Rk A (k+1)) (fun c=>v c - x c):=nx.cons
 have n2:Nul (Rk A (k+1)) (fun c=>A k c - y c):=ny.cons
 have n3:Nul (Rk A (k+1)) (A k):=Nul.mem (mem_Rk A (by omega))
 have n4:=Nul.lin 1 (-1) n3 n2
 have n5:=Nul.lin 1 (x k / y k) n1 n4
 have n6:Nul (Rk A (k+1)) (fun c=>v c - (x c - x k / y k * y c)):=fun cols=>by
  have:=n5 cols
  rw [← this]
  exact expand_congrR fun c _=>by grind
 have z6:∀ c,c<k+1→x c - x k / y k * y c=0:=fun c hc=>by
  by_cases e:c=k
  · subst e;grind
  · rw [zx c (by omega),zy c (by omega)];grind
 rw [BB_red A n6 z6 j,BB_red A nx zx j,BB_red A nx zx k,BB_red A ny zy j,ey]
 grind
end
noncomputable def IsInt (q:Rat):Prop:=∃ n:Int,q=(n:Rat)
theorem IsInt.mul {p q:Rat} (a:IsInt p) (b:IsInt q):IsInt (p * q):=by
 obtain ⟨x,rfl⟩:=a
 obtain ⟨y,rfl⟩:=b
 exact ⟨x * y,by rw [Rat.intCast_mul]⟩
theorem IsInt.sub {p q:Rat} (a:IsInt p) (b:IsInt q):IsInt (p - q):=by
 obtain ⟨x,rfl⟩:=a
 obtain ⟨y,rfl⟩:=b
 exact ⟨x - y,by rw [Rat.intCast_sub]⟩
theorem expand_int {r:Vec}:∀ {cs:List Nat} {D:List Nat→Rat},(∀ c∈cs,IsInt (r c))→(∀ l,IsInt (D l))→IsInt (expand r D cs)
 | [],D,_,_=>⟨0,rfl⟩
 | c :: cs,D,h,hD=>((h c List.mem_cons_self).mul (hD cs)).sub (expand_int (fun x hx=>h x (List.mem_cons_of_mem _ hx)) fun l=>hD (c :: l))
theorem det_int:∀ {rs:List Vec},(∀ r∈rs,∀ c,IsInt (r c))→∀ cols,IsInt (det rs cols)
 | [],_,_=>⟨1,rfl⟩
 | r :: rs,h,cols=>expand_int (fun c _=>h r List.mem_cons_self c) (det_int fun x hx=>h x (List.mem_cons_of_mem _ hx))
theorem expand_bd {r:Vec} {U V:Rat} (hU:0≤U) (hV:0≤V) (hr:∀ c,-U≤r c∧r c≤U):∀ {cs:List Nat} {D:List Nat→Rat},(∀ l,l.length+1=cs.length→-V≤D l∧D l≤V)→-(((cs.length:Nat):Rat) * (U * V))≤expand r D cs∧expand r D cs≤((cs.length:Nat):Rat) * (U * V)
 | [],D,_=>by
   show -(((0:Nat):Rat) * (U * V))≤0∧(0:Rat)≤((0:Nat):Rat) * (U * V)
   simp
 | c :: cs,D,hD=>by
   obtain ⟨i1,i2⟩:=expand_bd hU hV hr (cs:=cs) (D:=fun l=>D (c :: l)) fun l hl=>hD (c :: l) (by simp only [List.length_cons];omega)
   obtain ⟨r1,r2⟩:=hr c
   obtain ⟨d1,d2⟩:=hD cs (by simp only [List.length_cons])
   have key:-(U * V)≤r c * D cs∧r c * D cs≤U * V:=by
    have p1:=mul_nn (a:=U - r c) (b:=V - D cs) (by grind) (by grind)
    have p2:=mul_nn (a:=U+r c) (b:=V+D cs) (by grind) (by grind)
    have p3:=mul_nn (a:=U - r c) (b:=V+D cs) (by grind) (by grind)
    have p4:=mul_nn (a:=U+r c) (b:=V - D cs) (by grind) (by grind)
    constructor <;> grind
   have e:(((c :: cs).length:Nat):Rat)=((cs.length:Nat):Rat)+1:=by rw [List.length_cons];push_cast;rfl
   show -_≤r c * D cs - expand r _ cs∧r c * D cs - expand r _ cs≤_
   rw [e]
   grind
theorem pow_succ' (Y:Nat) (m:Nat):((Y ^ (m+1):Nat):Rat)=((Y ^ m:Nat):Rat) * (Y:Rat):=by rw [Nat.pow_succ];push_cast;rfl
theorem natnn (m:Nat):(0:Rat)≤((m:Nat):Rat):=by
 have:=cnn (d:=(m:Int)) (by omega)
 exact this
theorem natle {a b:Nat} (h:a≤b):((a:Nat):Rat)≤((b:Nat):Rat):=by
 have:((a:Int):Rat)≤((b:Int):Rat):=Rat.intCast_le_intCast.mpr (by omega)
 exact this
theorem det_bd {U Y:Nat} (hY:13 * U≤Y):∀ {rs:List Vec},(∀ r∈rs,∀ c,-((U:Nat):Rat)≤r c∧r c≤((U:Nat):Rat))→∀ cols:List Nat,cols.length≤13→-((Y ^ rs.length:Nat):Rat)≤det rs cols∧det rs cols≤((Y ^ rs.length:Nat):Rat)
 | [],_,cols,_=>by
   show -(((Y ^ 0:Nat)):Rat)≤1∧(1:Rat)≤((Y ^ 0:Nat):Rat)
   rw [Nat.pow_zero]
   exact ⟨by decide,by decide⟩
 | r :: rs,h,cols,hc=>by
   have ih:=det_bd hY (rs:=rs) fun x hx=>h x (List.mem_cons_of_mem _ hx)
   have hV:=natnn (Y ^ rs.length)
   have hU:=natnn U
   obtain ⟨b1,b2⟩:=expand_bd (r:=r) hU hV (h r List.mem_cons_self) (cs:=cols) (D:=det rs) fun l hl=>ih l (by omega)
   have k1:((cols.length:Nat):Rat) * (((U:Nat):Rat) * ((Y ^ rs.length:Nat):Rat))≤((Y ^ (rs.length+1):Nat):Rat):=by
    rw [pow_succ']
    have e1:((cols.length:Nat):Rat) * ((U:Nat):Rat)≤((Y:Nat):Rat):=by
     have:((cols.length * U:Nat):Rat)≤((Y:Nat):Rat):=natle (Nat.le_trans (Nat.mul_le_mul_right U hc) hY)
     have e2:((cols.length * U:Nat):Rat)=((cols.length:Nat):Rat) * ((U:Nat):Rat):=by push_cast;rfl
     rw [← e2];exact this
    have e3:=mul_le_r e1 hV
    grind
   show -(((Y ^ (rs.length+1):Nat)):Rat)≤expand r (det rs) cols∧expand r (det rs) cols≤((Y ^ (rs.length+1):Nat):Rat)
   grind
end Pw
namespace Pw
noncomputable def eV (i:Nat):Vec:=fun c=>if c=i then -1 else 0
noncomputable def vv (A:Nat→Vec) (k i:Nat):Vec:=if i<k then eV i else A i
noncomputable def stepF (f:Nat→Nat→Int) (k:Nat) (d:Int) (i j:Nat):Int:=if i=k then f k j else (f k k * f i j - f i k * f k j).fdiv d
structure Stg (A:Nat→Vec) (n k:Nat) (f:Nat→Nat→Int) (d:Int):Prop where
 d:(d:Rat)=dd A k
 f:∀ i j,i<n→j≤n→(f i j:Rat)=if j<k then (if i=j then dd A k else 0) else BB A k (vv A k i) j
theorem eV_low {k:Nat}:∀ c,c<k→eV k c=0:=fun c hc=>by unfold eV;rw [if_neg (by omega)]
theorem fdiv_of {m d:Int} (hd:d≠0):(m * d).fdiv d=m:=Int.mul_fdiv_cancel _ hd
theorem vv_int {A:Nat→Vec} (hA:∀ i c,IsInt (A i c)) (k i:Nat):∀ c,IsInt (vv A k i c):=fun c=>by
 unfold vv
 split
 · unfold eV
   split
   · exact ⟨-1,rfl⟩
   · exact ⟨0,rfl⟩
 · exact hA i c
theorem Rk_all {A:Nat→Vec} {p:Vec→Prop} (h:∀ i,p (A i)):∀ k,∀ r∈Rk A k,p r
 | 0,r,hr=>by simp [Rk] at hr
 | k+1,r,hr=>by
   rcases List.mem_cons.mp hr with rfl | hr
   · exact h k
   · exact Rk_all h k r hr
theorem BB_int {A:Nat→Vec} (hA:∀ i c,IsInt (A i c)) {k:Nat} {v:Vec} (hv:∀ c,IsInt (v c)) (j:Nat):IsInt (BB A k v j) :=
 det_int (fun r hr=>by
  rcases List.mem_cons.mp hr with rfl | hr
  · exact hv
  · exact Rk_all (p:=fun r=>∀ c,IsInt (r c)) hA k r hr) _
theorem Stg.exact {A:Nat→Vec} {n k:Nat} {f:Nat→Nat→Int} {d:Int} (h:Stg A n k f d) (hA:∀ i c,IsInt (A i c)) (hk:k<n) (hd:∀ l,l≤k+1→dd A l≠0) {i j:Nat} (hi:i<n) (hj:j≤n) (hik:i≠k) :
 ∃ m:Int,f k k * f i j - f i k * f k j=m * d∧(m:Rat)=if j<k+1 then (if i=j then dd A (k+1) else 0) else BB A (k+1) (vv A (k+1) i) j:=by
 have hkk:=h.f k k hk (by omega)
 have hij:=h.f i j hi hj
 have hik':=h.f i k hi (by omega)
 have hkj:=h.f k j hk hj
 have hvk:vv A k k=A k:=by unfold vv;rw [if_neg (by omega)]
 have hvi:vv A (k+1) i=vv A k i:=by
  unfold vv
  by_cases e:i<k
  · rw [if_pos e,if_pos (by omega)]
  · rw [if_neg e,if_neg (by omega)]
 rw [if_neg (by omega),hvk] at hkk
 rw [if_neg (by omega)] at hik'
 have ekk:(f k k:Rat)=dd A (k+1):=by rw [dd_next];exact hkk
 rw [hvk] at hkj
 have hdk:=hd k (by omega)
 have fin:∀ m:Int,(((f k k * f i j - f i k * f k j:Int)):Rat)=(m:Rat) * (d:Rat)→f k k * f i j - f i k * f k j=m * d:=fun m e=>by
  have:(((f k k * f i j - f i k * f k j:Int)):Rat)=((m * d:Int):Rat):=by rw [e,Rat.intCast_mul]
  exact_mod_cast this
 by_cases c1:j<k
 · rw [if_pos c1,if_neg (by omega)] at hkj
   rw [if_pos c1] at hij
   rw [if_pos (by omega:j<k+1)]
   by_cases e:i=j
   · rw [if_pos e] at hij ⊢
     refine ⟨f k k,fin _ ?_,ekk⟩
     rw [Rat.intCast_sub,Rat.intCast_mul,Rat.intCast_mul,hkj,hij,h.d];grind
   · rw [if_neg e] at hij ⊢
     refine ⟨0,fin _ ?_,by simp⟩
     rw [Rat.intCast_sub,Rat.intCast_mul,Rat.intCast_mul,hkj,hij,Rat.intCast_zero];grind
 · by_cases c2:j=k
   · subst c2
     rw [if_pos (by omega:j<j+1),if_neg hik]
     exact ⟨0,by rw [Int.mul_comm (f i j)];omega,by simp⟩
   · rw [if_neg c1] at hij hkj
     rw [if_neg (by omega:¬ j<k+1),hvi]
     obtain ⟨m,hm⟩:=BB_int hA (k:=k+1) (vv_int hA k i) j
     refine ⟨m,fin m ?_,hm.symm⟩
     rw [Rat.intCast_sub,Rat.intCast_mul,Rat.intCast_mul,ekk,hij,hik',hkj,h.d,← hm]
     exact (BB_step A hd (vv A k i) j).symm
theorem Stg.next {A:Nat→Vec} {n k:Nat} {f:Nat→Nat→Int} {d:Int} (h:Stg A n k f d) (hA:∀ i c,IsInt (A i c)) (hk:k<n) (hd:∀ l,l≤k+1→dd A l≠0):Stg A n (k+1) (stepF f k d) (f k k):=by
 have hkk:=h.f k k hk (by omega)
 have hvk:vv A k k=A k:=by unfold vv;rw [if_neg (by omega)]
 rw [if_neg (by omega),hvk] at hkk
 have hdk:=hd k (by omega)
 have hd0:d≠0:=fun z=>hdk (by rw [← h.d,z];rfl)
 refine ⟨by rw [dd_next];exact hkk,fun i j hi hj=>?_⟩
 unfold stepF
 by_cases e:i=k
 · subst e
   rw [if_pos rfl]
   have hij:=h.f i j hi hj
   rw [hvk] at hij
   by_cases c1:j<i
   · rw [if_pos c1,if_neg (by omega)] at hij
     rw [if_pos (by omega),if_neg (by omega),hij]
   · rw [if_neg c1] at hij
     by_cases c2:j=i
     · subst c2
       rw [if_pos (by omega),if_pos rfl,hij,dd_next]
     · rw [if_neg (by omega),hij]
       have hv1:vv A (i+1) i=eV i:=by unfold vv;rw [if_pos (by omega)]
       rw [hv1]
       have:=BB_step A hd (eV i) j
       rw [BB_low A eV_low,BB_low A eV_low] at this
       have e1:eV i j=0:=by unfold eV;rw [if_neg c2]
       have e2:eV i i=-1:=by unfold eV;rw [if_pos rfl]
       rw [e1,e2] at this
       generalize BB A (i+1) (eV i) j=x at *
       generalize BB A i (A i) j=y at *
       generalize dd A (i+1)=z at *
       have h3:(x - y) * dd A i=0:=by grind
       grind
 · rw [if_neg e]
   obtain ⟨m,e1,e2⟩:=h.exact hA hk hd hi hj e
   rw [e1,fdiv_of hd0]
   exact e2
structure Sgn (n k:Nat) (f:Nat→Nat→Int):Prop where
 off:∀ i j,i<n→k≤j→j<n→i≠j→f i j≤0
 col:∀ j,k≤j→j<n→0<qs n (fun i=>if k≤i then (f i j:Rat) else 0)
 rhs:∀ i,i<n→0≤f i n
theorem qs_split {g:Nat→Rat}:∀ {n k:Nat},k<n→qs n (fun i=>if k≤i then g i else 0)=g k+qs n (fun i=>if k+1≤i then g i else 0)
 | n+1,k,h=>by
   show qs n _+(if k≤n then g n else 0)=g k+(qs n _+(if k+1≤n then g n else 0))
   by_cases e:k=n
   · subst e
     rw [if_pos (by omega),if_neg (by omega),qs_congr (g:=fun _=>0) fun i hi=>by rw [if_neg (by omega)],qs_congr (f:=fun i=>if k+1≤i then g i else 0) (g:=fun _=>0) fun i hi=>by rw [if_neg (by omega)]]
     grind
   · rw [if_pos (by omega),if_pos (by omega),qs_split (n:=n) (by omega)];grind
theorem Sgn.pivot {n k:Nat} {f:Nat→Nat→Int} (h:Sgn n k f) (hk:k<n):0<f k k:=by
 have h1:=h.col k (by omega) hk
 rw [qs_split hk] at h1
 have h2:qs n (fun i=>if k+1≤i then (f i k:Rat) else 0)≤qs n (fun _=>0):=qs_le fun i hi=>by
  split
  · have:=h.off i k hi (by omega) hk (by omega)
    have:(f i k:Rat)≤((0:Int):Rat):=Rat.intCast_le_intCast.mpr this
    simpa using this
  · grind
 rw [qs_zero] at h2
 have h3:(0:Rat)<(f k k:Rat):=by grind
 have:((0:Int):Rat)<(f k k:Rat):=by simpa using h3
 exact Rat.intCast_lt_intCast.mp this
theorem neg_of_mul {x d:Int} (hd:0<d) (h:x * d≤0):x≤0:=by
 refine Int.not_lt.mp fun z=>?_
 have:=Int.mul_pos z hd
 omega
theorem Sgn.next {n k:Nat} {f:Nat→Nat→Int} {d:Int} (h:Sgn n k f) (hk:k<n) (hd:0<d) (ex:∀ i j,i<n→j≤n→i≠k→f k k * f i j - f i k * f k j=stepF f k d i j * d):Sgn n (k+1) (stepF f k d):=by
 have hp:=h.pivot hk
 refine ⟨fun i j hi hkj hj hij=>?_,fun j hkj hj=>?_,fun i hi=>?_⟩
 · by_cases e:i=k
   · subst e
     unfold stepF
     rw [if_pos rfl]
     exact h.off i j hi (by omega) hj hij
   · refine neg_of_mul hd ?_
     rw [← ex i j hi (by omega) e]
     have a1:=h.off i j hi (by omega) hj hij
     have a2:=h.off i k hi (by omega) hk e
     have a3:=h.off k j hk (by omega) hj (by omega)
     have b1:f k k * f i j≤0:=Int.mul_nonpos_of_nonneg_of_nonpos (Int.le_of_lt hp) a1
     have b2:0≤f i k * f k j:=Int.mul_nonneg_of_nonpos_of_nonpos a2 a3
     omega
 · have hdq:=cpos hd
   have e:qs n (fun i=>if k+1≤i then (stepF f k d i j:Rat) else 0) * (d:Rat)=(f k k:Rat) * qs n (fun i=>if k≤i then (f i j:Rat) else 0) - (f k j:Rat) * qs n (fun i=>if k≤i then (f i k:Rat) else 0):=by
    rw [qs_split (g:=fun i=>(f i j:Rat)) hk,qs_split (g:=fun i=>(f i k:Rat)) hk,Rat.mul_comm,← qs_mul,Rat.mul_add,Rat.mul_add,← qs_mul,← qs_mul]
    have e2:qs n (fun i=>(d:Rat) * (if k+1≤i then (stepF f k d i j:Rat) else 0))=qs n (fun i=>(f k k:Rat) * (if k+1≤i then (f i j:Rat) else 0)+(-1) * ((f k j:Rat) * (if k+1≤i then (f i k:Rat) else 0))):=qs_congr fun i hi=>by
     split
     · have:=ex i j hi (by omega) (by omega)
       have:((f k k * f i j - f i k * f k j:Int):Rat)=((stepF f k d i j * d:Int):Rat):=by rw [this]
       rw [Rat.intCast_sub,Rat.intCast_mul,Rat.intCast_mul,Rat.intCast_mul] at this
       grind
     · grind
    rw [e2,qs_add,qs_mul (-1)]
    grind
   have a3:=h.off k j hk (by omega) hj (by omega)
   have a3':(f k j:Rat)≤0:=by
    have:(f k j:Rat)≤((0:Int):Rat):=Rat.intCast_le_intCast.mpr a3
    simpa using this
   have s1:=h.col j (by omega) hj
   have s2:=h.col k (by omega) hk
   have p1:=Rat.mul_pos (cpos hp) s1
   have p2:=mul_nn (a:=-(f k j:Rat)) (by grind) (Rat.le_of_lt s2)
   have:0<qs n (fun i=>if k+1≤i then (stepF f k d i j:Rat) else 0) * (d:Rat):=by rw [e];grind
   refine Rat.not_le.mp fun z=>?_
   have:=mul_le_r z (Rat.le_of_lt hdq)
   grind
 · by_cases e:i=k
   · subst e
     unfold stepF
     rw [if_pos rfl]
     exact h.rhs i hi
   · have a2:=h.off i k hi (by omega) hk e
     have a1:=h.rhs i hi
     have a3:=h.rhs k hk
     have b1:0≤f k k * f i n:=Int.mul_nonneg (Int.le_of_lt hp) a1
     have b2:f i k * f k n≤0:=Int.mul_nonpos_of_nonpos_of_nonneg a2 a3
     have:=ex i n hi (Nat.le_refl _) e
     refine Int.not_lt.mp fun z=>?_
     have:=Int.mul_neg_of_neg_of_pos z hd
     omega
noncomputable def fF (f0:Nat→Nat→Int):Nat→(Nat→Nat→Int)×Int
 | 0=>(f0,1)
 | k+1=>(stepF (fF f0 k).1 k (fF f0 k).2,(fF f0 k).1 k k)
noncomputable def aV (f0:Nat→Nat→Int) (i:Nat):Vec:=fun c=>(f0 i c:Rat)
theorem aV_int (f0:Nat→Nat→Int):∀ i c,IsInt (aV f0 i c):=fun i c=>⟨f0 i c,rfl⟩
theorem fF_ok {f0:Nat→Nat→Int} {n:Nat} (s0:Sgn n 0 f0):∀ k,k≤n→Stg (aV f0) n k (fF f0 k).1 (fF f0 k).2∧Sgn n k (fF f0 k).1∧0<(fF f0 k).2∧∀ l,l≤k→0<dd (aV f0) l
 | 0,_=>by
   refine ⟨⟨rfl,fun i j hi hj=>?_⟩,s0,by show (0:Int)<1;decide,fun l hl=>?_⟩
   · rw [if_neg (by omega)]
     have e:vv (aV f0) 0 i=aV f0 i:=by unfold vv;rw [if_neg (by omega)]
     rw [e,BB_low _ (fun c hc=>by omega),dd_zero]
     show (f0 i j:Rat)=(f0 i j:Rat) * 1
     grind
   · rw [show l=0 by omega,dd_zero];decide
 | k+1,hk=>by
   obtain ⟨st,sg,dp,dl⟩:=fF_ok s0 k (by omega)
   have pv:=sg.pivot (by omega)
   have hkk:((fF f0 k).1 k k:Rat)=dd (aV f0) (k+1):=by
    have:=st.f k k (by omega) (by omega)
    rw [if_neg (by omega)] at this
    have e:vv (aV f0) k k=aV f0 k:=by unfold vv;rw [if_neg (by omega)]
    rw [e] at this
    rw [dd_next];exact this
   have dl':∀ l,l≤k+1→0<dd (aV f0) l:=fun l hl=>by
    by_cases e:l=k+1
    · subst e;rw [← hkk];exact cpos pv
    · exact dl l (by omega)
   have hne:∀ l,l≤k+1→dd (aV f0) l≠0:=fun l hl z=>by
    have:=dl' l hl
    rw [z] at this
    exact absurd this (by decide)
   refine ⟨st.next (aV_int f0) (by omega) hne,sg.next (by omega) dp fun i j hi hj hik=>?_,pv,dl'⟩
   obtain ⟨m,e1,_⟩:=st.exact (aV_int f0) (by omega) hne hi hj hik
   rw [e1]
   unfold stepF
   rw [if_neg hik,e1,fdiv_of (by omega)]
theorem fF_solves {f0:Nat→Nat→Int} {n:Nat} (s0:Sgn n 0 f0) {i:Nat} (hi:i<n):qs n (fun j=>(f0 i j:Rat) * ((fF f0 n).1 j n:Rat))=((fF f0 n).2:Rat) * (f0 i n:Rat):=by
 obtain ⟨st,sg,dp,dl⟩:=fF_ok s0 n (Nat.le_refl _)
 have hx:∀ j,j<n→((fF f0 n).1 j n:Rat)=BB (aV f0) n (eV j) n:=fun j hj=>by
  have:=st.f j n hj (Nat.le_refl _)
  rw [if_neg (by omega)] at this
  have e:vv (aV f0) n j=eV j:=by unfold vv;rw [if_pos hj]
  rw [e] at this
  exact this
 have h0:=BB_row (aV f0) hi n
 have part:∀ m,m≤n→BB (aV f0) n (fun c=>if c<m then aV f0 i c else 0) n=(-1) * qs m (fun j=>(f0 i j:Rat) * BB (aV f0) n (eV j) n):=by
  intro m
  induction m with
  | zero =>
    intro _
    rw [BB_low _ (fun c hc=>by simp)]
    simp [qs]
  | succ m ih =>
    intro hm
    have e:BB (aV f0) n (fun c=>if c<m+1 then aV f0 i c else 0) n=BB (aV f0) n (fun c=>1 * (if c<m then aV f0 i c else 0)+(-(f0 i m:Rat)) * eV m c) n:=by
     have pt:∀ c:Nat,(if c<m+1 then aV f0 i c else 0)=1 * (if c<m then aV f0 i c else 0)+(-(f0 i m:Rat)) * eV m c:=fun c=>by
      unfold eV
      by_cases c1:c<m
      · rw [if_pos (by omega),if_pos c1,if_neg (by omega)];grind
      · by_cases c2:c=m
        · subst c2
          rw [if_pos (by omega),if_neg (by omega),if_pos rfl]
          show (f0 i c:Rat)=_
          grind
        · rw [if_neg (by omega),if_neg c1,if_neg c2];grind
     exact BB_congr _ (pt n) fun c _=>pt c
    rw [e,BB_lin,ih (by omega)]
    show _=(-1) * (qs m _+_)
    grind
 have split:BB (aV f0) n (aV f0 i) n=BB (aV f0) n (fun c=>1 * (if c<n then aV f0 i c else 0)+(-(f0 i n:Rat)) * eV n c) n:=by
  have pt:∀ c:Nat,c≤n→aV f0 i c=1 * (if c<n then aV f0 i c else 0)+(-(f0 i n:Rat)) * eV n c:=fun c hc=>by
   unfold eV
   by_cases c1:c<n
   · rw [if_pos c1,if_neg (by omega)];grind
   · have c2:c=n:=by omega
     subst c2
     rw [if_neg (by omega),if_pos rfl]
     show (f0 i c:Rat)=_
     grind
  exact BB_congr _ (pt n (Nat.le_refl _)) fun c hc=>pt c (by omega)
 rw [split,BB_lin,part n (Nat.le_refl _),BB_low _ eV_low] at h0
 have e2:eV n n=-1:=by unfold eV;rw [if_pos rfl]
 rw [e2,← st.d] at h0
 rw [qs_congr fun j hj=>by rw [hx j hj]]
 grind
end Pw
namespace Pw
theorem le_pow {Y m k:Nat} (hY:1≤Y) (h:m≤k):Y ^ m≤Y ^ k:=Nat.pow_le_pow_right hY h
theorem Kk_len:∀ k,(Kk k).length=k
 | 0=>rfl
 | k+1=>by show (k :: Kk k).length=_;rw [List.length_cons,Kk_len k]
theorem Rk_len (A:Nat→Vec):∀ k,(Rk A k).length=k
 | 0=>rfl
 | k+1=>by show (A k :: Rk A k).length=_;rw [List.length_cons,Rk_len A k]
theorem fF_bd {f0:Nat→Nat→Int} {n U Y:Nat} (s0:Sgn n 0 f0) (hn:n≤12) (hU:1≤U) (hY:13 * U≤Y) (hb:∀ i j,(f0 i j).natAbs≤U) {k:Nat} (hk:k≤n):(∀ i j,i<n→j≤n→((fF f0 k).1 i j).natAbs≤Y ^ 13)∧(fF f0 k).2.natAbs≤Y ^ 13:=by
 obtain ⟨st,sg,dp,dl⟩:=fF_ok s0 k hk
 have hA:∀ i c,-((U:Nat):Rat)≤aV f0 i c∧aV f0 i c≤((U:Nat):Rat):=fun i c=>by
  have h:=hb i c
  have h1:((-(U:Int):Int):Rat)≤(f0 i c:Rat):=Rat.intCast_le_intCast.mpr (by omega)
  have h2:(f0 i c:Rat)≤(((U:Int)):Rat):=Rat.intCast_le_intCast.mpr (by omega)
  rw [Rat.intCast_neg] at h1
  exact ⟨h1,h2⟩
 have one:(1:Rat)≤((U:Nat):Rat):=natle hU
 have hE:∀ i c,-((U:Nat):Rat)≤eV i c∧eV i c≤((U:Nat):Rat):=fun i c=>by
  unfold eV
  split <;> grind
 have hY1:1≤Y:=by omega
 have toInt:∀ {x:Int} {m:Nat},m≤13→-((Y ^ m:Nat):Rat)≤(x:Rat)∧(x:Rat)≤((Y ^ m:Nat):Rat)→x.natAbs≤Y ^ 13:=fun {x m} hm h=>by
  have hp:=le_pow hY1 hm
  obtain ⟨h1,h2⟩:=h
  have h1':((-((Y ^ m:Nat):Int):Int):Rat)≤(x:Rat):=by rw [Rat.intCast_neg];exact h1
  have h2':(x:Rat)≤((((Y ^ m:Nat):Int)):Rat):=h2
  have a1:=Rat.intCast_le_intCast.mp h1'
  have a2:=Rat.intCast_le_intCast.mp h2'
  generalize Y ^ 13=z at *
  generalize Y ^ m=y at *
  omega
 have dB:-((Y ^ k:Nat):Rat)≤dd (aV f0) k∧dd (aV f0) k≤((Y ^ k:Nat):Rat):=by
  have:=det_bd hY (rs:=Rk (aV f0) k) (fun r hr=>Rk_all (p:=fun r=>∀ c,-((U:Nat):Rat)≤r c∧r c≤((U:Nat):Rat)) hA k r hr) (Kk k) (by rw [Kk_len];omega)
  rwa [Rk_len] at this
 refine ⟨fun i j hi hj=>?_,toInt (m:=k) (by omega) (by rw [st.d];exact dB)⟩
 have e:=st.f i j hi hj
 split at e
 · split at e
   · exact toInt (m:=k) (by omega) (by rw [e];exact dB)
   · have hz:(fF f0 k).1 i j=0:=by exact_mod_cast e
     rw [hz];simp
 · refine toInt (m:=k+1) (by omega) ?_
   rw [e]
   have:=det_bd hY (rs:=vv (aV f0) k i :: Rk (aV f0) k) (fun r hr=>by
    rcases List.mem_cons.mp hr with rfl | hr
    · unfold vv
      split
      · exact hE i
      · exact hA i
    · exact Rk_all (p:=fun r=>∀ c,-((U:Nat):Rat)≤r c∧r c≤((U:Nat):Rat)) hA k r hr) (j :: Kk k) (by rw [List.length_cons,Kk_len];omega)
   rwa [List.length_cons,Rk_len] at this
noncomputable def qabs (x:Rat):Rat:=if x<0 then -x else x
theorem qabs_nn (x:Rat):0≤qabs x:=by unfold qabs;split <;> grind
theorem qabs_add (x y:Rat):qabs (x+y)≤qabs x+qabs y:=by unfold qabs;split <;> split <;> split <;> grind
theorem qabs_zero {x:Rat} (h:qabs x≤0):x=0:=by unfold qabs at h;split at h <;> grind
theorem qabs_mul {x c:Rat} (hc:0≤c):qabs (x * c)≤qabs x * c:=by
 unfold qabs
 split <;> split
 · grind
 · rename_i h1 h2
   have:=mul_nn (a:=x) (b:=c) (by grind) hc
   grind
 · rename_i h1 h2
   have:=mul_nn (a:=-x) (b:=c) (by grind) hc
   grind
 · grind
theorem qabs_qs (f:Nat→Rat):∀ n,qabs (qs n f)≤qs n (fun i=>qabs (f i))
 | 0=>by show qabs 0≤0;unfold qabs;grind
 | n+1=>by
   have h1:=qabs_qs f n
   have h2:=qabs_add (qs n f) (f n)
   show qabs (qs n f+f n)≤qs n _+qabs (f n)
   grind
theorem contract {n:Nat} {W:Nat→Nat→Rat} {B:Nat→Rat} {a:Rat} (hW:∀ i t,i<n→t<n→a * B t≤W i t) (hs:∀ i,i<n→qs n (fun t=>W i t)=1) (hB:qs n B=1) {x y:Nat→Rat} (hxy:qs n x=qs n y) :
 qs n (fun t=>qabs (qs n (fun i=>x i * W i t) - qs n (fun i=>y i * W i t)))≤(1 - a) * qs n (fun i=>qabs (x i - y i)):=by
 have h1:∀ t,t<n→qabs (qs n (fun i=>x i * W i t) - qs n (fun i=>y i * W i t))≤qs n (fun i=>qabs (x i - y i) * (W i t - a * B t)):=fun t ht=>by
  have e:qs n (fun i=>x i * W i t) - qs n (fun i=>y i * W i t)=qs n (fun i=>(x i - y i) * (W i t - a * B t)):=by
   have e1:qs n (fun i=>(x i - y i) * (W i t - a * B t))=qs n (fun i=>(x i * W i t+(-1) * (y i * W i t))+((-(a * B t)) * x i+(a * B t) * y i)):=qs_congr fun i _=>by grind
   rw [e1,qs_add,qs_add,qs_add,qs_mul,qs_mul,qs_mul,hxy]
   grind
  rw [e]
  have h2:=qabs_qs (fun i=>(x i - y i) * (W i t - a * B t)) n
  have h3:qs n (fun i=>qabs ((x i - y i) * (W i t - a * B t)))≤qs n (fun i=>qabs (x i - y i) * (W i t - a * B t)):=qs_le fun i hi=>qabs_mul (by have:=hW i t hi ht;grind)
  grind
 have h4:=qs_le h1
 rw [qs_swap (fun t i=>qabs (x i - y i) * (W i t - a * B t))] at h4
 have e2:qs n (fun i=>qs n (fun t=>qabs (x i - y i) * (W i t - a * B t)))=qs n (fun i=>(1 - a) * qabs (x i - y i)):=qs_congr fun i hi=>by
  rw [qs_mul]
  have e3:qs n (fun t=>W i t - a * B t)=1 - a:=by
   have:qs n (fun t=>W i t - a * B t)=qs n (fun t=>W i t+(-a) * B t):=qs_congr fun t _=>by grind
   rw [this,qs_add,qs_mul,hs i hi,hB];grind
  rw [e3];grind
 rw [e2,qs_mul] at h4
 exact h4
theorem unique {n:Nat} {W:Nat→Nat→Rat} {B:Nat→Rat} {a:Rat} (ha:0<a) (hW:∀ i t,i<n→t<n→a * B t≤W i t) (hs:∀ i,i<n→qs n (fun t=>W i t)=1) (hB:qs n B=1) {x y:Nat→Rat} (hxy:qs n x=qs n y)
 (sx:∀ t,t<n→qs n (fun i=>x i * W i t)=x t) (sy:∀ t,t<n→qs n (fun i=>y i * W i t)=y t):∀ t,t<n→x t=y t:=by
 have h:=contract hW hs hB hxy
 rw [qs_congr (g:=fun t=>qabs (x t - y t)) fun t ht=>by rw [sx t ht,sy t ht]] at h
 have h0:0≤qs n (fun t=>qabs (x t - y t)):=qs_nonneg fun t _=>qabs_nn _
 have h1:qs n (fun t=>qabs (x t - y t))≤0:=by
  refine Rat.not_lt.mp fun z=>?_
  have:=Rat.mul_pos ha z
  grind
 intro t ht
 have h2:=qs_ge (f:=fun t=>qabs (x t - y t)) ht fun i _=>qabs_nn _
 have:=qabs_zero (x:=x t - y t) (Rat.le_trans h2 h1)
 grind
noncomputable def mp (ps:List (Int×Int)) (j:Nat):Int:=(max 1 (outs ps (j:Int)).length:Nat)
noncomputable def cn (ps:List (Int×Int)) (j i:Nat):Int:=((outs ps (j:Int)).count (i:Int):Nat)
noncomputable def fac (ps:List (Int×Int)) (A:Int×Int) (j i:Nat):Int:=if j=i then A.2 * mp ps j - (A.2 - A.1) * cn ps j i else -((A.2 - A.1) * cn ps j i)
noncomputable def eqF (ps:List (Int×Int)) (A:Int×Int) (ss:List Int) (n i j:Nat):Int:=if i<n then (if j<n then fac ps A j i else if j=n then ss.getD i 0 else 0) else 0
theorem cn_count (ps:List (Int×Int)) (j i:Nat):((ps.count ((j:Int),(i:Int)):Nat):Int)=cn ps j i:=by
 unfold cn outs
 congr 1
 induction ps with
 | nil=>rfl
 | cons p ps ih =>
   obtain ⟨a,b⟩:=p
   rw [List.count_cons]
   by_cases h:a=(j:Int)
   · subst h
     rw [List.filter_cons_of_pos (by simp),List.map_cons,List.count_cons,ih]
     simp
   · rw [List.filter_cons_of_neg (by simpa using h),ih]
     simp [h]
theorem cn_sum {n:Nat} {ps:List (Int×Int)} (lk:∀ p∈ps,0≤p.2∧p.2<(n:Int)) (j:Nat):qs n (fun i=>(cn ps j i:Rat))=(((outs ps (j:Int)).length:Nat):Rat):=sum_count fun x hx=>outs_mem lk hx
structure EqOk (ps:List (Int×Int)) (A:Int×Int) (ss:List Int) (n:Nat):Prop where
 lk:∀ p∈ps,0≤p.2∧p.2<(n:Int)
 a0:0<A.1
 a1:A.1≤A.2
 len:ss.length=n
 nn:∀ s∈ss,0≤s
 pos:0<ss.sum
theorem fac_cast (ps:List (Int×Int)) (A:Int×Int) (j i:Nat):(fac ps A j i:Rat)=(if i=j then (A.2:Rat) * (mp ps j:Rat) else 0)+(-((A.2:Rat) - (A.1:Rat))) * (cn ps j i:Rat):=by
 unfold fac
 by_cases e:j=i
 · subst e
   rw [if_pos rfl,if_pos rfl,Rat.intCast_sub,Rat.intCast_mul,Rat.intCast_mul,Rat.intCast_sub];grind
 · rw [if_neg e,if_neg (fun z=>e z.symm),Rat.intCast_neg,Rat.intCast_mul,Rat.intCast_sub];grind
theorem mp_ge (ps:List (Int×Int)) (j:Nat):1≤mp ps j∧(((outs ps (j:Int)).length:Nat):Int)≤mp ps j:=by unfold mp;omega
theorem EqOk.sgn {ps:List (Int×Int)} {A:Int×Int} {ss:List Int} {n:Nat} (h:EqOk ps A ss n):Sgn n 0 (eqF ps A ss n):=by
 refine ⟨fun i j hi _ hj hij=>?_,fun j _ hj=>?_,fun i hi=>?_⟩
 · unfold eqF fac
   rw [if_pos hi,if_pos hj,if_neg (fun z=>hij z.symm)]
   have:0≤(A.2 - A.1) * cn ps j i:=Int.mul_nonneg (by have:=h.a1;omega) (by unfold cn;omega)
   omega
 · rw [qs_congr (g:=fun i=>(if i=j then (A.2:Rat) * (mp ps j:Rat) else 0)+(-((A.2:Rat) - (A.1:Rat))) * (cn ps j i:Rat)) fun i hi=>?_,qs_add,qs_mul,cn_sum h.lk,qs_single hj fun i _ hi=>by rw [if_neg hi]]
   · rw [if_pos rfl]
     obtain ⟨m1,m2⟩:=mp_ge ps j
     have m2':(((outs ps (j:Int)).length:Nat):Rat)≤(mp ps j:Rat):=by
      have:((((outs ps (j:Int)).length:Nat):Int):Rat)≤(mp ps j:Rat):=Rat.intCast_le_intCast.mpr m2
      exact this
     have a1:(A.1:Rat)≤(A.2:Rat):=Rat.intCast_le_intCast.mpr h.a1
     have p1:=Rat.mul_pos (cpos h.a0) (cpos (show (0:Int)<mp ps j by omega))
     have p2:=mul_nn (a:=(A.2:Rat) - (A.1:Rat)) (b:=(mp ps j:Rat) - (((outs ps (j:Int)).length:Nat):Rat)) (by grind) (by grind)
     grind
   · rw [if_pos (Nat.zero_le _)]
     unfold eqF
     rw [if_pos hi,if_pos hj]
     exact fac_cast ps A j i
 · unfold eqF
   rw [if_pos hi,if_neg (by omega),if_pos rfl]
   exact h.nn _ (List.mem_of_getElem? (L2.getD_mapI (by have:=h.len;omega)))
end Pw
namespace Pw
section
variable (ps:List (Int×Int)) (A:Int×Int) (ss:List Int) (n:Nat)
noncomputable def xS (j:Nat):Int:=(fF (eqF ps A ss n) n).1 j n
noncomputable def dS:Int:=(fF (eqF ps A ss n) n).2
noncomputable def vS (j:Nat):Int:=mp ps j * xS ps A ss n j
noncomputable def VS:Int:=((List.range n).map (vS ps A ss n)).sum
noncomputable def shL:List (Int×Int):=(List.range n).map fun j=>mk (vS ps A ss n j) (VS ps A ss n)
end
section
variable {ps:List (Int×Int)} {A:Int×Int} {ss:List Int} {n:Nat}
theorem EqOk.x_nn (h:EqOk ps A ss n) {j:Nat} (hj:j<n):0≤xS ps A ss n j:=((fF_ok h.sgn n (Nat.le_refl _)).2.1).rhs j hj
theorem EqOk.d_pos (h:EqOk ps A ss n):0<dS ps A ss n:=(fF_ok h.sgn n (Nat.le_refl _)).2.2.1
theorem EqOk.v_nn (h:EqOk ps A ss n) {j:Nat} (hj:j<n):0≤vS ps A ss n j:=Int.mul_nonneg (by have:=(mp_ge ps j).1;omega) (h.x_nn hj)
theorem EqOk.row (h:EqOk ps A ss n) {i:Nat} (hi:i<n):(A.2:Rat) * (vS ps A ss n i:Rat)=((A.2:Rat) - (A.1:Rat)) * qs n (fun j=>(cn ps j i:Rat) * (xS ps A ss n j:Rat))+(dS ps A ss n:Rat) * (ss.getD i 0:Rat):=by
 have h1:=fF_solves h.sgn hi
 have e0:eqF ps A ss n i n=ss.getD i 0:=by unfold eqF;rw [if_pos hi,if_neg (by omega),if_pos rfl]
 rw [e0] at h1
 have e1:qs n (fun j=>(eqF ps A ss n i j:Rat) * ((fF (eqF ps A ss n) n).1 j n:Rat))=qs n (fun j=>(if j=i then (A.2:Rat) * (vS ps A ss n i:Rat) else 0)+(-((A.2:Rat) - (A.1:Rat))) * ((cn ps j i:Rat) * (xS ps A ss n j:Rat))):=qs_congr fun j hj=>by
  have e2:eqF ps A ss n i j=fac ps A j i:=by unfold eqF;rw [if_pos hi,if_pos hj]
  rw [e2,fac_cast]
  show _ * (xS ps A ss n j:Rat)=_
  by_cases e:j=i
  · subst e
    rw [if_pos rfl,if_pos rfl]
    unfold vS
    rw [Rat.intCast_mul];grind
  · rw [if_neg e,if_neg (fun z=>e z.symm)];grind
 rw [e1,qs_add,qs_mul,qs_single hi fun j _ hj=>by rw [if_neg hj],if_pos rfl] at h1
 have e3:((fF (eqF ps A ss n) n).2:Rat)=(dS ps A ss n:Rat):=rfl
 rw [e3] at h1
 grind
theorem VS_qs:(VS ps A ss n:Rat)=qs n (fun j=>(vS ps A ss n j:Rat)):=(qs_ints n).symm
noncomputable def dg (ps:List (Int×Int)) (A:Int×Int) (ss:List Int) (n j:Nat):Rat:=if outs ps (j:Int)=[] then (vS ps A ss n j:Rat) else 0
theorem len_x (j:Nat):(((outs ps (j:Int)).length:Nat):Rat) * (xS ps A ss n j:Rat)=(vS ps A ss n j:Rat)+(-1) * dg ps A ss n j:=by
 unfold dg vS
 by_cases e:outs ps (j:Int)=[]
 · rw [if_pos e,e]
   simp
   grind
 · rw [if_neg e]
   have:mp ps j=(((outs ps (j:Int)).length:Nat):Int):=by
    unfold mp
    have:=List.length_pos_iff.mpr e
    omega
   rw [this,Rat.intCast_mul]
   have e2:((((outs ps (j:Int)).length:Nat):Int):Rat)=(((outs ps (j:Int)).length:Nat):Rat):=rfl
   rw [e2];grind
theorem EqOk.all (h:EqOk ps A ss n):(A.1:Rat) * (VS ps A ss n:Rat)+((A.2:Rat) - (A.1:Rat)) * qs n (fun j=>dg ps A ss n j)=(dS ps A ss n:Rat) * (ss.sum:Rat):=by
 have h1:qs n (fun i=>(A.2:Rat) * (vS ps A ss n i:Rat))=qs n (fun i=>((A.2:Rat) - (A.1:Rat)) * qs n (fun j=>(cn ps j i:Rat) * (xS ps A ss n j:Rat))+(dS ps A ss n:Rat) * (ss.getD i 0:Rat)):=qs_congr fun i hi=>h.row hi
 rw [qs_mul,qs_add,qs_mul,qs_mul,qs_swap (fun i j=>(cn ps j i:Rat) * (xS ps A ss n j:Rat)),← VS_qs] at h1
 have h2:qs n (fun j=>qs n (fun i=>(cn ps j i:Rat) * (xS ps A ss n j:Rat)))=qs n (fun j=>(vS ps A ss n j:Rat)+(-1) * dg ps A ss n j):=qs_congr fun j hj=>by
  have:qs n (fun i=>(cn ps j i:Rat) * (xS ps A ss n j:Rat))=qs n (fun i=>(xS ps A ss n j:Rat) * (cn ps j i:Rat)):=qs_congr fun i _=>Rat.mul_comm ..
  rw [this,qs_mul,cn_sum h.lk,← len_x];grind
 have h3:qs n (fun i=>(ss.getD i 0:Rat))=(ss.sum:Rat):=by
  have:=qs_list ss
  rwa [h.len] at this
 rw [h2,h3,qs_add,qs_mul,← VS_qs] at h1
 grind
theorem dg_le (h:EqOk ps A ss n) {j:Nat} (hj:j<n):0≤dg ps A ss n j∧dg ps A ss n j≤(vS ps A ss n j:Rat):=by
 have:=cnn (h.v_nn hj)
 unfold dg
 split <;> grind
theorem EqOk.V_pos (h:EqOk ps A ss n):0<VS ps A ss n:=by
 have h1:=h.all
 have h2:=qs_le fun j hj=>(dg_le h (j:=j) hj).2
 rw [← VS_qs] at h2
 have a1:(A.1:Rat)≤(A.2:Rat):=Rat.intCast_le_intCast.mpr h.a1
 have p1:=Rat.mul_pos (cpos h.d_pos) (cpos h.pos)
 have p2:=mul_nn (a:=(A.2:Rat) - (A.1:Rat)) (b:=(VS ps A ss n:Rat) - qs n (fun j=>dg ps A ss n j)) (by grind) (by grind)
 have a2:=cpos (show 0<A.2 by have:=h.a0;have:=h.a1;omega)
 have h3:0<(A.2:Rat) * (VS ps A ss n:Rat):=by grind
 have h4:(0:Rat)<(VS ps A ss n:Rat):=by
  refine Rat.not_le.mp fun z=>?_
  have:=mul_le_r z (Rat.le_of_lt a2)
  grind
 have:((0:Int):Rat)<(VS ps A ss n:Rat):=by simpa using h4
 exact Rat.intCast_lt_intCast.mp this
end
structure ShOk (ps:List (Int×Int)) (A:Int×Int) (Bs:List (Int×Int)) (n:Nat) (Ss:List (Int×Int)):Prop where
 len:Ss.length=n
 canon:Canons Ss
 nn:∀ S∈Ss,0≤S.1
 one:qs n (fun t=>val (Ss.getD t (0,1)))=1
 stay:∀ t,t<n→behQ ps A Bs Ss n t=val (Ss.getD t (0,1))
theorem way_val {ps:List (Int×Int)} {A:Int×Int} {Bs:List (Int×Int)} {n j t:Nat} (ca:Canon A) (cb:Canons Bs) (hn:Bs.length=n) (ht:t<n):val ((waysL ps A Bs (j:Nat)).getD t (0,1))=if outs ps (j:Int)=[] then val (Bs.getD t (0,1)) else val A * val (Bs.getD t (0,1))+(1 - val A) * ((cn ps j t:Rat) / (((outs ps (j:Int)).length:Nat):Rat)):=by
 unfold waysL
 split
 · rfl
 · rename_i h
   rw [getD_map_range (by omega),val_wayF ca (cb.getD t) (outs_len_ne h)]
   rfl
theorem shL_ok {ps:List (Int×Int)} {A:Int×Int} {Bs:List (Int×Int)} {ss:List Int} {n:Nat} {L:Int} (h:EqOk ps A ss n) (ca:Canon A) (cb:Canons Bs) (hn:Bs.length=n) (hL:0<L) (hB:∀ t,t<n→(ss.getD t 0:Rat)=val (Bs.getD t (0,1)) * (L:Rat)) (one:qs n (fun t=>val (Bs.getD t (0,1)))=1):ShOk ps A Bs n (shL ps A ss n):=by
 have hV:=h.V_pos
 have hVq:=cpos hV
 have hVn:=castne (d:=VS ps A ss n) (by omega)
 have vs:∀ t,t<n→val ((shL ps A ss n).getD t (0,1))=(vS ps A ss n t:Rat) / (VS ps A ss n:Rat):=fun t ht=>by
  unfold shL
  rw [getD_map_range ht,val_mk (by omega)]
 refine ⟨by unfold shL;simp,fun S hS=>?_,fun S hS=>?_,?_,fun t ht=>?_⟩
 · obtain ⟨t,_,rfl⟩:=List.mem_map.mp hS
   exact canon_mk (by omega)
 · obtain ⟨t,ht,rfl⟩:=List.mem_map.mp hS
   exact mk_nonneg hV (h.v_nn (List.mem_range.mp ht))
 · rw [qs_congr (g:=fun t=>(1 / (VS ps A ss n:Rat)) * (vS ps A ss n t:Rat)) fun t ht=>by rw [vs t ht];grind,qs_mul,← VS_qs]
   grind
 · rw [vs t ht]
   unfold behQ
   have ha2:0<A.2:=ca.1
   have haq:=castne (canon_ne ca)
   have eα:val A * (A.2:Rat)=(A.1:Rat):=by unfold val;grind
   have sumS:(ss.sum:Rat)=(L:Rat):=by
    have h3:qs n (fun i=>(ss.getD i 0:Rat))=(ss.sum:Rat):=by
     have:=qs_list ss
     rwa [h.len] at this
    rw [← h3,qs_congr (g:=fun t=>(L:Rat) * val (Bs.getD t (0,1))) fun t ht=>by rw [hB t ht];grind,qs_mul,one];grind
   have hall:=h.all
   rw [sumS] at hall
   have hrow:=h.row ht
   rw [hB t ht] at hrow
   have key:qs n (fun j=>(vS ps A ss n j:Rat) * val ((waysL ps A Bs (j:Nat)).getD t (0,1)))=(val A * val (Bs.getD t (0,1))) * (VS ps A ss n:Rat)+(1 - val A) * qs n (fun j=>(cn ps j t:Rat) * (xS ps A ss n j:Rat))+((1 - val A) * val (Bs.getD t (0,1))) * qs n (fun j=>dg ps A ss n j):=by
    have e1:qs n (fun j=>(vS ps A ss n j:Rat) * val ((waysL ps A Bs (j:Nat)).getD t (0,1)))=qs n (fun j=>((val A * val (Bs.getD t (0,1))) * (vS ps A ss n j:Rat)+(1 - val A) * ((cn ps j t:Rat) * (xS ps A ss n j:Rat)))+((1 - val A) * val (Bs.getD t (0,1))) * dg ps A ss n j):=qs_congr fun j hj=>by
     rw [way_val ca cb hn ht]
     have hlx:=len_x (ps:=ps) (A:=A) (ss:=ss) (n:=n) j
     unfold dg at hlx ⊢
     by_cases e:outs ps (j:Int)=[]
     · rw [if_pos e,if_pos e]
       have:cn ps j t=0:=by unfold cn;rw [e];rfl
       rw [this]
       simp
       grind
     · rw [if_neg e] at hlx ⊢
       rw [if_neg e]
       have hl:(((outs ps (j:Int)).length:Nat):Rat)≠0:=castne (outs_len_ne e)
       generalize (((outs ps (j:Int)).length:Nat):Rat)=l at *
       have:(vS ps A ss n j:Rat)=l * (xS ps A ss n j:Rat):=by grind
       rw [this]
       grind
    rw [e1,qs_add,qs_add,qs_mul,qs_mul,qs_mul,← VS_qs]
   have e2:qs n (fun i=>val ((shL ps A ss n).getD i (0,1)) * val ((waysL ps A Bs (i:Nat)).getD t (0,1)))=(1 / (VS ps A ss n:Rat)) * qs n (fun j=>(vS ps A ss n j:Rat) * val ((waysL ps A Bs (j:Nat)).getD t (0,1))):=by
    rw [← qs_mul]
    exact qs_congr fun j hj=>by rw [vs j hj];grind
   rw [e2,key]
   generalize qs n (fun j=>(cn ps j t:Rat) * (xS ps A ss n j:Rat))=Cq at *
   generalize qs n (fun j=>dg ps A ss n j)=Dq at *
   generalize val (Bs.getD t (0,1))=b at *
   generalize (vS ps A ss n t:Rat)=v at *
   generalize (VS ps A ss n:Rat)=V at *
   generalize (dS ps A ss n:Rat)=d at *
   generalize val A=α at *
   generalize (A.2:Rat)=a2 at *
   generalize (A.1:Rat)=a1 at *
   subst eα
   have k1:a2 * v=a2 * ((1 - α) * Cq+(α * V+(1 - α) * Dq) * b):=by grind
   have k2:v=(1 - α) * Cq+(α * V+(1 - α) * Dq) * b:=by grind
   rw [k2]
   grind
end Pw
namespace L2
open PySem PySem.Spec PyProof.Rows
section
variable {X:Cx}
noncomputable def tBMT (r:V→List V→Hp→VK→Prop) (to:TE) (t:TA):TE:=fun σ H Q=>to σ H fun x H1=>(∃ (p:Addr) (xs:List V),x=.ref p∧H1 p=some (.tup xs))∧t σ H1 fun xs H2=>r x xs H2 Q
theorem pe_bmT {o e:Expr} {es:List Expr} {to:TE} {t:TA} {name:Str} {apos cpos:Pos} {id:String} {r:V→List V→Hp→VK→Prop} (hbase:attributeBase o name X.env (eval o X.env)=eval o X.env)
 (hfew:((backTo cpos (starEach (e :: es) X.env)).all (fun x=>!x.1) && (backToKw cpos (keywordEach [] X.env)).all (fun x=>x.1.isSome) && decide ((e :: es).length+([]:List Keyword).length+(if ([]:List Keyword).isEmpty then 0 else 1)<30))=true)
 (hline:(apos.endLine == cpos.line)=true) (hs:starEach (e :: es) X.env=(false,eval e X.env) :: starEach es X.env) (hplain:(backTo cpos (starEach es X.env)).any (·.1)=false)
 (pa:PlainAttrs "tuple") (slot:Slot "tuple" name id) (hty:typeOf (.builtin id)=pure (.type "method_descriptor")) (hm:MtM X id r) (ho:PE X o to) (ha:PA X (e :: es) t):PE X (.Call (.Attribute o name apos) (e :: es) [] cpos) (tBMT r to t):=by
 intro pins s σ H Q I h
 refine wpAny_Call_method_late hbase hfew hline rfl (thn (ho pins s σ H _ I h) fun v s1 ⟨x,H1,I1,r1,ty,q1⟩=>?_)
 obtain ⟨p,xs,rfl,hp⟩:=ty
 cases r1
 obtain ⟨_,its,_,ob,e1,c1,n1,d1⟩:xs.length≤sizeLine∧∃ its:List Value,Vals xs its∧IsTupN s1.heap p its.toArray:=I1.hok p _ hp
 refine ⟨"tuple",id,pa,slot,hty,⟨ob,e1,congrArg Prod.fst c1⟩,fun a ea=>by cases ea;exact ⟨ob,e1,congrArg Prod.snd c1⟩,?_⟩
 have hA:=ha cpos pins s1 σ H1 _ I1 q1
 rw [hs] at hA ⊢
 refine Calls.callWith_builtin (by show (false || (backTo cpos (starEach es X.env)).any (·.1))=false;rw [hplain] <;> rfl) (Calls.evalArgs_plain ?_)
 exact thn hA fun us s2 ⟨vs,H2,I2,r2,q2⟩=>hm pins s2 σ H2 (.ref p) vs (.ref p) us Q I2 rfl r2 q2
noncomputable def rCntT (K:PySem.W.Frag):V→List V→Hp→VK→Prop:=fun o xs H Q=>∃ (t q:Addr) (us:List V) (ps:List (Int×Int)) (p:Int×Int),o=.ref t∧xs=[.ref q]∧H t=some (.tup us)∧Prs K H ps us∧SqT K H q [.int p.1,.int p.2]∧Q (.int ((ps.count p:Nat):Int)) H
open Classical in
theorem mt_countT {k:Nat} (hr:Room k X.A):MtM X "tuple.count" (rCntT X.K):=by
 intro pins s σ H x vs v us' Q I rx rv h
 obtain ⟨t,q,us,ps,p,rfl,rfl,ht,hp,hq,k⟩:=h
 cases rx
 obtain ⟨u,rfl,ru⟩:=rv.one
 cases ru
 obtain ⟨its,r,pl,hz⟩:=I.tuple (SqT.of ht)
 obtain ⟨⟨c,dd,dt,sl⟩,e,hc,n,hd⟩:=pl
 have hc:c=.type "tuple":=hc
 have hd:dt=.seq its.toArray n:=hd
 subst hc hd
 have hu:=hr.units
 have hu0:X.A.in1.units≤X.A.units+8:=by
  first | exact Nat.le_add_right _ _ | (simp [Around.in1]) | (unfold Around.in1;simp)
 have hu1:X.A.in1.units+20<cLine:=by omega
 refine call_meets F.slot_tuple_count ⟨_,e,rfl⟩ F.entry_tuple_count (F.args_tuple_count_2 _ _) (SeqAt.tuple_countAt t its.toArray n dd sl (.ref q) (fun y=>decide (∃ a,y=.ref a∧SqT X.K H a [.int p.1,.int p.2]))) ⟨e,fun y hy=>?_,?_⟩
 · have hy:y∈its:=by simpa using hy
   obtain ⟨i,hi,rfl⟩:=List.getElem_of_mem hy
   have hl:=r.length
   obtain ⟨a,p',e1,e2,e3⟩:=hp.get (i:=i) (v:=us[i]) (by simp)
   obtain ⟨w,ew,rw'⟩:=r.get (i:=i) (x:=us[i]) (by simp)
   rw [e2] at rw'
   cases rw'
   have ew:its[i]=.ref a:=by
    have:=ew
    rw [List.getElem?_eq_getElem hi] at this
    exact Option.some.inj this
   rw [ew]
   have key:=eqAt_D I 20 (X.A.in1) (tupD p') (tupD p) (.ref a) (.ref q) (.ref a) (.ref q) (by unfold tupD;simp only [depD,depDs];decide) hu1 (by unfold tupD;simp only [Den];exact ⟨a,_,rfl,e3,dens2 _ _ _ _⟩) (by unfold tupD;simp only [Den];exact ⟨q,_,rfl,hq,dens2 _ _ _ _⟩) rfl rfl
   have e4:eqD (tupD p') (tupD p)=decide (∃ b,Value.ref a=.ref b∧SqT X.K H b [.int p.1,.int p.2]):=by
    unfold tupD
    simp only [eqD]
    rw [eqDs2]
    by_cases hh:p'=p
    · subst hh
      rw [decide_eq_true (show (p'.1,p'.2)=(p'.1,p'.2) from rfl),decide_eq_true ⟨a,rfl,e3⟩]
    · rw [decide_eq_false (fun z=>hh z),decide_eq_false]
      rintro ⟨b,hb,hs⟩
      cases hb
      have:=I.tuple_inj e3 hs
      simp at this
      exact hh (Prod.ext this.1 this.2)
   rw [← e4]
   exact key
 · refine ⟨.int _,H,I.tok _,⟨_,rfl⟩,?_⟩
   have cnt:∀ {ps:List (Int×Int)} {us:List V} {its:List Value},Prs X.K H ps us→Vals us its→its.countP (fun y=>decide (∃ a,y=.ref a∧SqT X.K H a [.int p.1,.int p.2]))=ps.count p:=by
    intro ps
    induction ps with
    | nil =>
      intro us its hp r
      have hl:=hp.len
      have:us=[]:=List.length_eq_zero_iff.mp hl
      subst this
      cases r
      rfl
    | cons p' ps ih =>
      intro us its hp r
      obtain ⟨a,us',rfl,e3,hp'⟩:=prs_uncons hp
      cases r with
      | cons ra rr =>
        cases ra
        rw [List.countP_cons,List.count_cons,ih hp' rr]
        congr 1
        by_cases hh:p'=p
        · subst hh
          rw [if_pos (decide_eq_true ⟨a,rfl,e3⟩),if_pos (by simp)]
        · rw [if_neg,if_neg (by simpa using hh)]
          intro z
          obtain ⟨b,hb,hs⟩:=of_decide_eq_true z
          cases hb
          have:=I.tuple_inj e3 hs
          simp at this
          exact hh (Prod.ext this.1 this.2)
   show Q (.int ((List.countP _ its.toArray.toList:Nat):Int)) H
   rw [List.toList_toArray,cnt hp r]
   exact k
end
end L2
namespace L2
open PySem PySem.Spec PyProof.Rows
noncomputable def rowI (f:Nat→Int) (m:Nat):List V:=((List.range m).map f).map V.int
theorem rowI_len (f:Nat→Int) (m:Nat):(rowI f m).length=m:=by unfold rowI;simp
theorem rowI_get {f:Nat→Int} {m j:Nat} (h:j<m):(rowI f m)[j]?=some (.int (f j)):=by
 unfold rowI
 rw [List.getElem?_map,List.getElem?_map,List.getElem?_range h];rfl
theorem rowI_succ (f:Nat→Int) (m:Nat):rowI f (m+1)=rowI f m ++ [.int (f m)]:=by
 unfold rowI
 rw [List.range_succ,List.map_append,List.map_append];rfl
theorem rowI_congr {f g:Nat→Int} {m:Nat} (h:∀ j,j<m→f j=g j):rowI f m=rowI g m:=by
 unfold rowI
 congr 1
 exact List.map_congr_left fun j hj=>h j (List.mem_range.mp hj)
noncomputable def MatL (H:Hp) (n m:Nat) (f:Nat→Nat→Int) (us:List V):Prop:=us.length=n∧∀ i,i<n→∃ q,us[i]?=some (.ref q)∧H q=some (.lst (rowI (f i) m))
theorem MatL.same {H H':Hp} {n m:Nat} {f:Nat→Nat→Int} {us:List V} (h:MatL H n m f us) (s:Same H H'):MatL H' n m f us :=
 ⟨h.1,fun i hi=>by
  obtain ⟨q,a,b⟩:=h.2 i hi
  exact ⟨q,a,s _ _ b⟩⟩
theorem MatL.snoc {H:Hp} {n m:Nat} {f:Nat→Nat→Int} {us:List V} (h:MatL H n m f us) {q:Addr} (hq:H q=some (.lst (rowI (f n) m))):MatL H (n+1) m f (us ++ [.ref q]):=by
 refine ⟨by rw [List.length_append,h.1];rfl,fun i hi=>?_⟩
 by_cases e:i=n
 · subst e
   exact ⟨q,by rw [← h.1];simp,hq⟩
 · obtain ⟨q',a,b⟩:=h.2 i (by omega)
   exact ⟨q',by rw [List.getElem?_append_left (by rw [h.1];omega)];exact a,b⟩
theorem MatL.put {H:Hp} {n m:Nat} {f:Nat→Nat→Int} {us xs:List V} {D:Addr} {o:HO} (h:MatL H n m f us) (hD:∀ i,i<n→us[i]?≠some (.ref D)):MatL (upd H D o) n m f us :=
 ⟨h.1,fun i hi=>by
  obtain ⟨q,a,b⟩:=h.2 i hi
  exact ⟨q,a,by rw [upd_ne (fun z=>hD i hi (by rw [a,z]))];exact b⟩⟩
noncomputable def spParts (K:PySem.W.Frag):Sp:=fun vs H Q _=>∃ (w:Addr) (pages:Int) (j:Nat) (ps:List (Int×Int)),vs=[.ref w,.int j]∧WebAt K H w pages ps∧ps.length≤100∧∀ H',Same H H'→Q (.int (Pw.mp ps j)) H'
noncomputable def spFactor (K:PySem.W.Frag):Sp:=fun vs H Q _=>∃ (w lp:Addr) (pages:Int) (j i:Nat) (ps:List (Int×Int)) (A:Int×Int),vs=[.ref w,.ref lp,.int j,.int i]∧WebAt K H w pages ps∧ps.length≤100∧FrA K H lp A∧Sz2 150 A∧∀ H',Same H H'→Q (.int (Pw.fac ps A j i)) H'
noncomputable def spEquation (K:PySem.W.Frag):Sp:=fun vs H Q _=>∃ (w lp:Addr) (pages:Int) (i:Nat) (st:Int) (ps:List (Int×Int)) (A:Int×Int),vs=[.ref w,.ref lp,.int i,.int st]∧WebAt K H w pages ps∧1≤pages∧pages≤13∧ps.length≤100∧FrA K H lp A∧Sz2 150 A ∧
 ∀ (p:Addr) (H':Hp),Same H H'→H p=none→H' p=some (.lst (rowI (fun j=>Pw.fac ps A j i) pages.toNat ++ [.int st]))→Q (.ref p) H'
noncomputable def spCleared (K:PySem.W.Frag):Sp:=fun vs H Q _=>∃ (e c:Addr) (k m:Nat) (d:Int) (f g:Nat→Int),vs=[.ref e,.ref c,.int k,.int d]∧H e=some (.lst (rowI f m))∧H c=some (.lst (rowI g m))∧k<m∧m≤20∧d≠0∧Sz 8000 d∧(∀ j,j<m→Sz 8000 (f j)∧Sz 8000 (g j)) ∧
 ∀ (p:Addr) (H':Hp),Same H H'→H p=none→H' p=some (.lst (rowI (fun j=>(g k * f j - f k * g j).fdiv d) m))→Q (.ref p) H'
noncomputable def spSolved (K:PySem.W.Frag):Sp:=fun vs H Q _=>∃ (e:Addr) (us:List V) (n z:Nat) (f0:Nat→Nat→Int),vs=[.ref e]∧H e=some (.lst us)∧MatL H n (n+1) f0 us∧Pw.Sgn n 0 f0∧1≤n∧n≤12∧z≤150∧(∀ i j,(f0 i j).natAbs≤2 ^ z) ∧
 ∀ (t l:Addr) (H':Hp),Same H H'→H' t=some (.tup [.ref l,.int (Pw.fF f0 n).2])→H' l=some (.lst (rowI (fun i=>(Pw.fF f0 n).1 i n) n))→Q (.ref t) H'
theorem fF_sz {f0:Nat→Nat→Int} {n z:Nat} (s0:Pw.Sgn n 0 f0) (hn:n≤12) (hb:∀ i j,(f0 i j).natAbs≤2 ^ z) {k:Nat} (hk:k≤n):(∀ i j,i<n→j≤n→Sz ((z+4) * 13+1) ((Pw.fF f0 k).1 i j))∧Sz ((z+4) * 13+1) (Pw.fF f0 k).2:=by
 obtain ⟨h1,h2⟩:=Pw.fF_bd (U:=2 ^ z) (Y:=2 ^ (z+4)) s0 hn (Nat.two_pow_pos _) (by rw [Nat.pow_add];omega) hb hk
 have e:(2 ^ (z+4)) ^ 13=2 ^ ((z+4) * 13):=(Nat.pow_mul ..).symm
 rw [e] at h2
 have lt:2 ^ ((z+4) * 13)<2 ^ ((z+4) * 13+1):=Nat.pow_lt_pow_right (by decide) (by omega)
 refine ⟨fun i j hi hj=>?_,Nat.lt_of_le_of_lt h2 lt⟩
 have:=h1 i j hi hj
 rw [e] at this
 exact Nat.lt_of_le_of_lt this lt
theorem eqF_sz {ps:List (Int×Int)} {A:Int×Int} {ss:List Int} {n z:Nat} (few:ps.length≤100) (h:Pw.EqOk ps A ss n) (sa:Sz z A.2) (hs:∀ s∈ss,s≤2 ^ z):∀ i j,(Pw.eqF ps A ss n i j).natAbs≤2 ^ (z+7):=by
 intro i j
 have a0:=h.a0
 have a1:=h.a1
 have sa':A.2.natAbs<2 ^ z:=sa
 have ep:(2:Nat) ^ (z+7)=2 ^ z * 128:=by rw [Nat.pow_add]
 unfold Pw.eqF
 split
 · split
   · have hl:=Pw.outs_len ps (j:Int)
     have hc:=List.count_le_length (a:=(i:Int)) (l:=Pw.outs ps (j:Int))
     have hm:1≤Pw.mp ps j∧Pw.mp ps j≤100:=by unfold Pw.mp;omega
     have hcn:0≤Pw.cn ps j i∧Pw.cn ps j i≤100:=by unfold Pw.cn;omega
     have k1:0≤A.2 * Pw.mp ps j:=Int.mul_nonneg (by omega) (by omega)
     have k2:A.2 * Pw.mp ps j≤A.2 * 100:=Int.mul_le_mul_of_nonneg_left hm.2 (by omega)
     have k3:0≤(A.2 - A.1) * Pw.cn ps j i:=Int.mul_nonneg (by omega) hcn.1
     have k4:(A.2 - A.1) * Pw.cn ps j i≤(A.2 - A.1) * 100:=Int.mul_le_mul_of_nonneg_left hcn.2 (by omega)
     unfold Pw.fac
     split <;> omega
   · split
     · have hs':Pw.EqOk ps A ss n:=h
       by_cases hi:i<ss.length
       · have hm:ss.getD i 0∈ss:=List.mem_of_getElem? (getD_mapI hi)
         have b1:=hs _ hm
         have b2:=h.nn _ hm
         have:((2:Int) ^ z)=((2 ^ z:Nat):Int):=by push_cast;rfl
         rw [this] at b1
         omega
       · rw [List.getD_eq_getElem?_getD,List.getElem?_eq_none (by omega)]
         simp
     · simp
 · simp
end L2
namespace Pw
theorem way_ge {ps:List (Int×Int)} {A:Int×Int} {Bs:List (Int×Int)} {S:Int} {n j t:Nat} (ca:Canon A) (cb:Canons Bs) (hn:Bs.length=n) (pr:L2.Pr A Bs S) (ht:t<n):val A * val (Bs.getD t (0,1))≤val ((waysL ps A Bs (j:Nat)).getD t (0,1)):=by
 rw [way_val ca cb hn ht]
 have a0:=val_nn ca.1 (by have:=pr.a0;omega)
 have a1:=val_le1 ca.1 pr.a1
 have hB:=L2.mem_getD (Bs:=Bs) (t:=t) (by omega)
 have b0:=val_nn (cb _ hB).1 (pr.nn _ hB)
 split
 · have:=mul_nn (a:=1 - val A) (by grind) b0
   grind
 · rename_i h
   have l0:(0:Rat)<(((outs ps (j:Int)).length:Nat):Rat):=cpos (d:=(((outs ps (j:Int)).length:Nat):Int)) (by have:=List.length_pos_iff.mpr h;omega)
   have c0:=div_nn (cnn (d:=cn ps j t) (by unfold cn;omega)) l0
   have:=mul_nn (a:=1 - val A) (by grind) c0
   grind
theorem ShOk.unique {ps:List (Int×Int)} {A:Int×Int} {Bs:List (Int×Int)} {S:Int} {n:Nat} {Ss Ts:List (Int×Int)} (lk:∀ p∈ps,0≤p.2∧p.2<(n:Int)) (ca:Canon A) (cb:Canons Bs) (hn:Bs.length=n) (pr:L2.Pr A Bs S) (h:ShOk ps A Bs n Ss) (h':ShOk ps A Bs n Ts):Ss=Ts:=by
 have one:=pr.one
 rw [hn] at one
 have u:=Pw.unique (n:=n) (W:=fun i t=>val ((waysL ps A Bs i).getD t (0,1))) (B:=fun t=>val (Bs.getD t (0,1))) (a:=val A) (x:=fun t=>val (Ss.getD t (0,1))) (y:=fun t=>val (Ts.getD t (0,1)))
  (by
   have hp:=cpos ca.1
   have h1:=cpos pr.a0
   unfold val
   rw [Rat.div_def]
   exact Rat.mul_pos h1 (Rat.inv_pos.mpr hp))
  (fun i t _ ht=>way_ge ca cb hn pr ht) (fun i _=>ways_sum lk ca cb hn one) one (by rw [h.one,h'.one]) (fun t ht=>h.stay t ht) (fun t ht=>h'.stay t ht)
 refine List.ext_getElem (by rw [h.len,h'.len]) fun i h1 h2=>?_
 have:=u i (by have:=h.len;omega)
 rw [List.getD_eq_getElem?_getD,List.getElem?_eq_getElem h1,List.getD_eq_getElem?_getD,List.getElem?_eq_getElem h2] at this
 exact val_inj (h.canon _ (List.getElem_mem h1)) (h'.canon _ (List.getElem_mem h2)) this
end Pw
namespace L2
open PySem PySem.Spec PyProof.Rows
theorem le_sum:∀ {ns:List Int} {s:Int},(∀ n∈ns,0≤n)→s∈ns→s≤ns.sum
 | n :: ns,s,h,hs=>by
   have h1:=Pw.sum_nn fun m hm=>h m (List.mem_cons_of_mem _ hm)
   have h2:=h n List.mem_cons_self
   rw [List.sum_cons]
   rcases List.mem_cons.mp hs with rfl | hs
   · omega
   · have:=le_sum (fun m hm=>h m (List.mem_cons_of_mem _ hm)) hs
     omega
theorem sum_szR {Rs:List (Int×Int)} {n:Nat} {D C:Int} (h:Rw Rs n D C) (hn:n≤13) {j:Nat} (hj:j≤n):Sz2 2004 (Pw.ofQ (Pw.qs j (fun t=>Pw.val (Rs.getD t (0,1))))):=by
 have hb:=Pw.Bd.qs (n:=j) (D:=D) (C:=(C:Rat)) (f:=fun t=>Pw.val (Rs.getD t (0,1))) fun i hi=>h.bd (mem_getD (by have:=h.len;omega))
 have hC:=h.cpos
 have hC0:=Pw.cnn (d:=C) (by omega)
 have h13':((13 * C:Int):Rat)=13 * (C:Rat):=by rw [Rat.intCast_mul];rfl
 have h0:Sz 4 13:=sz_of 4 (by decide)
 have z:Sz 2004 ((13 * C) * D):=by rw [Int.mul_assoc];exact (h0.mul h.sz).mono (by decide)
 refine Pw.Bd.sz (C:=13 * C) (hb.mono ?_) h.dpos (by omega) z
 rw [h13']
 refine Pw.mul_le_r ?_ hC0
 have:((j:Int):Rat)≤((13:Int):Rat):=Rat.intCast_le_intCast.mpr (by omega)
 exact this
end L2
namespace L2
theorem Wts.sz {pages:Int} {ws:List Int} (wt:Wts pages ws) (hp:pages≤12):Sz 41 ws.sum:=by
 have hl:=wt.len
 have h1:=Pw.sum_le (B:=2 ^ 37) fun n hn=>Int.le_of_lt (wt.nn n hn).2
 have h2:(ws.length:Int) * 2 ^ 37≤12 * 2 ^ 37:=Int.mul_le_mul_of_nonneg_right (by omega) (by decide)
 have:=wt.pos
 exact sz_of 41 (by omega)
end L2
namespace Pw
section
variable {ps:List (Int×Int)} {A:Int×Int} {Bs:List (Int×Int)} {S:Int} {n:Nat} {Ss:List (Int×Int)}
end
end Pw
namespace L2
open PySem PySem.Spec PyProof.Rows
end L2
namespace L2
end L2
namespace L2
open PySem PySem.Spec PyProof.Rows
end L2
namespace Pw
section
variable {ps:List (Int×Int)} {A:Int×Int} {Bs Ds:List (Int×Int)} {n:Nat}
end
end Pw
namespace Pw
end Pw
namespace Pw
section
variable {Bs:List (Int×Int)} {A:Int×Int} {c n:Nat}
end
end Pw
namespace L2
open PySem PySem.Spec PyProof.Rows
theorem lps_even {n:Nat} (h:1≤n):lps (List.replicate n 1)=List.replicate n (1,(n:Int)):=by
 unfold lps
 rw [List.map_replicate,List.sum_replicate_int,Int.mul_one,Pw.mk_1 (by omega)]
end L2
namespace L2
open PySem PySem.Spec PyProof.Rows
theorem sh_ex {ps:List (Int×Int)} {A:Int×Int} {Bs:List (Int×Int)} {S:Int} {n z:Nat} (few:ps.length≤100) (lk:∀ p∈ps,0≤p.2∧p.2<(n:Int)) (ca:Pw.Canon A) (cb:Pw.Canons Bs) (hn:Bs.length=n) (n12:n≤12) (pr:Pr A Bs S) (sz:Sz z A.2) (sS:Sz z S) :
 ∃ (Ss:List (Int×Int)) (V':Int),Pw.ShOk ps A Bs n Ss∧0<V'∧Sz ((z+11) * 13+20) V'∧∀ R∈Ss,R.2∣V':=by
 have hss:(Pw.abv Bs S).length=n:=by unfold Pw.abv;rw [List.length_map];exact hn
 have hB:∀ t,t<n→((Pw.abv Bs S).getD t 0:Rat)=Pw.val (Bs.getD t (0,1)) * (S:Rat):=fun t ht=>by
  have hi':t<Bs.length:=by omega
  have hR:Bs[t]?=some Bs[t]:=by simp
  have e1:(Pw.abv Bs S).getD t 0=Bs[t].1 * (S.fdiv Bs[t].2):=by
   unfold Pw.abv
   rw [List.getD_eq_getElem?_getD,List.getElem?_map,hR];rfl
  have e2:Bs.getD t (0,1)=Bs[t]:=by rw [List.getD_eq_getElem?_getD,hR];rfl
  have mR:=List.getElem_mem hi'
  rw [e1,e2,Pw.abv_val (cb _ mR).1 pr.spos (pr.sdvd _ mR)]
 have one:=pr.one
 rw [hn] at one
 have snn:∀ s∈Pw.abv Bs S,0≤s:=fun s hs=>by
  obtain ⟨B,hB',rfl⟩:=List.mem_map.mp hs
  have c:=(cb B hB').1
  exact Int.mul_nonneg (pr.nn B hB') (by rw [Int.fdiv_eq_ediv_of_nonneg _ (by omega)];exact Int.ediv_nonneg (Int.le_of_lt pr.spos) (by omega))
 have ssum:(Pw.abv Bs S).sum=S:=by
  have h3:=Pw.qs_list (Pw.abv Bs S)
  rw [hss,Pw.qs_congr (g:=fun t=>(S:Rat) * Pw.val (Bs.getD t (0,1))) fun t ht=>by rw [hB t ht];grind,Pw.qs_mul,one] at h3
  have:(S:Rat)=((Pw.abv Bs S).sum:Rat):=by rw [← h3];grind
  exact_mod_cast this.symm
 have eo:Pw.EqOk ps A (Pw.abv Bs S) n:=⟨lk,pr.a0,pr.a1,hss,snn,by rw [ssum];exact pr.spos⟩
 have sle:∀ s∈Pw.abv Bs S,s≤2 ^ z:=fun s hs=>by
  have h1:s≤(Pw.abv Bs S).sum:=le_sum snn hs
  have h2:S.natAbs<2 ^ z:=sS
  have:((2:Int) ^ z)=((2 ^ z:Nat):Int):=by push_cast;rfl
  rw [this]
  omega
 have ez:=eqF_sz few eo sz sle
 obtain ⟨zf,zd⟩:=fF_sz eo.sgn (by omega) ez (k:=n) (Nat.le_refl _)
 have zv:∀ j,j<n→Sz ((z+11) * 13+8) (Pw.vS ps A (Pw.abv Bs S) n j):=fun j hj=>by
  have hol:=Pw.outs_len ps (j:Int)
  have zm:Sz 7 (Pw.mp ps j):=sz_of 7 (by unfold Pw.mp;omega)
  exact (zm.mul (zf j _ hj (Nat.le_refl _))).mono (by omega)
 refine ⟨Pw.shL ps A (Pw.abv Bs S) n,Pw.VS ps A (Pw.abv Bs S) n,Pw.shL_ok eo ca cb hn pr.spos hB one,eo.V_pos,?_,fun R hR=>?_⟩
 · refine (sum_sz (k:=(z+11) * 13+8) fun m hm=>?_).mono (by rw [List.length_map,List.length_range];omega)
   obtain ⟨t,ht,rfl⟩:=List.mem_map.mp hm
   exact zv t (List.mem_range.mp ht)
 · obtain ⟨t,_,rfl⟩:=List.mem_map.mp hR
   exact Pw.fr_dvd (Pw.Fr.made (by have:=eo.V_pos;omega))
end L2
namespace Pw
theorem qs_cut (f:Nat→Rat) (n:Nat):∀ m,qs (n+m) f=qs n f+qs m (fun i=>f (n+i))
 | 0=>by show qs n f=qs n f+0;grind
 | m+1=>by
   show qs (n+m) f+f (n+m)=qs n f+(qs m (fun i=>f (n+i))+f (n+m))
   rw [qs_cut f n m];grind
section
variable {P:Int×Int} {Bs Cs:List (Int×Int)}
section
variable {n m:Nat} {ps qs':List (Int×Int)} {A:Int×Int} {P:Int×Int} {Bs Cs Ss Ts:List (Int×Int)}
end
end
end Pw
namespace L2
open PySem PySem.Spec PyProof.Rows
end L2
namespace L2
open PySem PySem.Spec PyProof.Rows
end L2
namespace L2
open PySem PySem.Spec PyProof.Rows
end L2
namespace L2
open PySem PySem.Spec PyProof.Rows
structure ZFar (z TI TO i1 i2:Addr) (f1 f2:List Addr):Prop where
 a1:TI≠z
 a2:TO≠z
 a3:i1≠z
 a4:i2≠z
 a5:TI≠TO
 a6:TI≠i1
 a7:TI≠i2
 a8:TO≠i1
 a9:TO≠i2
 b0:i1≠i2
 b1:z∉f1
 b2:z∉f2
 b3:TO∉f1
 b4:TO∉f2
 b5:i2∉f1
 b6:i1∉f2
section
variable {prog:Program} {w:World} {A:Around} {E:Value→Shared→Prop} {s:Shared} {z TI TO i1 i2:Addr} {f1 f2:List Addr} {n1 n2 k:Nat} {P1 P2:Nat→Value→Prop} {S1 S2:Nat→Heap→Prop} {a b:Value}
theorem Draws.but {it c:Addr} {f:List Addr} {n i:Nat} {Pp:Nat→Value→Prop} {St:Nat→Heap→Prop} {h h':Heap} (D:Draws prog w A it f n Pp St) (nc:c∉f) (x:Heap.ExtBut c h h') (st:St i h):St i h' :=
 D.frame i h h' st fun b hb o e=>x b o (fun y=>nc (y ▸ hb)) e
theorem zipD_item {Q:Value→Shared→Prop} (D1:Draws prog w A i1 f1 n1 P1 S1) (D2:Draws prog w A i2 f2 n2 P2 S2) (Z:ZFar z TI TO i1 i2 f1 f2)
 (gz:IsZip s.heap z TI TO .none) (gI:IsPair s.heap TI (.ref i1) (.ref i2)) (gO:IsPair s.heap TO a b) (g1:S1 k s.heap) (g2:S2 k s.heap) (l1:k<n1) (l2:k<n2)
 (q:∀ x y hp tk,P1 k x→P2 k y→IsZip hp z TI TO (rawInt s.heap.objs.size)→IsPair hp TO x y→S1 (k+1) hp→S2 (k+1) hp→IsPair hp s.heap.objs.size x y →
  (∀ c o,c≠z→c≠TO→c≠i1→c≠i2→s.heap.get? c=some o→hp.get? c=some o)→Q (.ref s.heap.objs.size) { s with heap:=hp,toks:=tk }) :
 wpAny (model prog w) A (Builtin.«zip.__next__» ⟨[.ref z],[]⟩) (fun fin s'=>∃ v,fin=.done (.ret v)∧Q v s') E s:=by
 show wpAny _ _ (field (.ref z) 2 >>= _) _ _ _;refine wpAny_bind (wpAny_field gz rfl (x:=.bool false) rfl ?_)
 show wpAny _ _ (field (.ref z) 3 >>= _) _ _ _;refine wpAny_bind (wpAny_field gz rfl (x:=.ref TI) rfl (wpAny_bind (wpAny_seqItems gI rfl ?_)))
 show wpAny _ _ (Builtin.SmallTypes.ownedTupleIsFree (.ref z) >>= _) _ _ _;refine wpAny_bind ?_;unfold Builtin.SmallTypes.ownedTupleIsFree
 refine wpAny_bind (wpAny_field gz rfl (x:=.none) rfl (wpAny_pure ?_));simp only [if_true]
 refine wpAny_bind (wpAny_rule (wpAny_bind (wpAny_field gz rfl (x:=.ref TO) rfl (wpAny_bind (wpAny_setField_rec gz (by simp) fun p1 gz1 t1=>?_)))))
 replace gz1:IsZip p1 z TI TO .ellipsis:=gz1;refine wpAny_bind ?_;simp only [List.zipIdx_cons,List.zipIdx_nil,List.forIn_cons,List.forIn_nil]
 refine wpAny_bind (wpAny_bind (wpAny_onRaise ?_));show wpAny _ _ (Builtin.SmallTypes.nextOf (.ref i1) >>= _) _ _ _
 refine wpAny_bind (D1.item k _ _ _ l1 (Draws.but D1 Z.b1 t1.extBut g1) fun x p2 tk2 px g12 t2=>wpAny_pure ?_)
 have gO2:IsPair p2 TO a b:=t2.extBut _ _ Z.a8 (t1.extBut _ _ Z.a2 gO)
 refine wpAny_bind (wpAny_seqItems gO2 rfl (wpAny_bind (wpAny_updateSeq_pair gO2 fun p3 gO3 t3=>?_)))
 replace gO3:IsPair p3 TO x b:=gO3;refine wpAny_bind (wpAny_letGo (wpAny_pure ?_))
 refine wpAny_bind (wpAny_bind (wpAny_onRaise ?_));show wpAny _ _ (Builtin.SmallTypes.nextOf (.ref i2) >>= _) _ _ _
 refine wpAny_bind (D2.item k _ _ _ l2 (Draws.but D2 Z.b4 t3.extBut (Draws.but D2 Z.b6 t2.extBut (Draws.but D2 Z.b2 t1.extBut g2))) fun y p4 tk4 py g24 t4=>wpAny_pure ?_)
 have gO4:IsPair p4 TO x b:=t4.extBut _ _ Z.a9 gO3
 refine wpAny_bind (wpAny_seqItems gO4 rfl (wpAny_bind (wpAny_updateSeq_pair gO4 fun p5 gO5 t5=>?_)))
 replace gO5:IsPair p5 TO x y:=gO5;refine wpAny_bind (wpAny_letGo (wpAny_pure (wpAny_pure ?_)))
 refine wpAny_bind (wpAny_seqItems gO5 rfl (wpAny_bind (wpAny_newTuple ?_)))
 have sz:p5.objs.size=s.heap.objs.size:=by rw [t5.1,t4.1,t3.1,t2.1,t1.1]
 have gz5:IsZip p5 z TI TO .ellipsis:=t5.extBut _ _ Z.a2.symm (t4.extBut _ _ Z.a4.symm (t3.extBut _ _ Z.a2.symm (t2.extBut _ _ Z.a3.symm gz1)))
 have kp5:∀ c o,c≠z→c≠TO→c≠i1→c≠i2→s.heap.get? c=some o→p5.get? c=some o:=fun c o c1 c2 c3 c4 e=>t5.extBut _ _ c2 (t4.extBut _ _ c4 (t3.extBut _ _ c2 (t2.extBut _ _ c3 (t1.extBut _ _ c1 e))))
 have g15:S1 (k+1) p5:=Draws.but D1 Z.b3 t5.extBut (Draws.but D1 Z.b5 t4.extBut (Draws.but D1 Z.b3 t3.extBut g12))
 have g25:S2 (k+1) p5:=Draws.but D2 Z.b4 t5.extBut g24
 have lz:z<p5.objs.size:=Heap.lt_size gz5
 show wpAny _ _ (Builtin.SmallTypes.ownedTupleHandOut (.ref z) (.ref p5.objs.size) >>= _) _ _ _;refine wpAny_bind ?_;unfold Builtin.SmallTypes.ownedTupleHandOut
 have gz6:IsZip (p5.push { cls:=.type "tuple",data:=.seq #[x,y] }) z TI TO .ellipsis:=Heap.get?_push_of_some _ gz5
 refine wpAny_bind (wpAny_setField_rec gz6 (by simp) fun p7 gz7 t7=>?_);replace gz7:IsZip p7 z TI TO (rawInt p5.objs.size):=gz7
 refine wpAny_setField_rec gz7 (by simp) fun p8 gz8 t8=>?_;replace gz8:IsZip p8 z TI TO (rawInt p5.objs.size):=gz8
 have up:∀ c o,c≠z→p5.get? c=some o→p8.get? c=some o:=fun c o c1 e=>t8.extBut _ _ c1 (t7.extBut _ _ c1 (Heap.get?_push_of_some _ e))
 have gT8:IsPair p8 p5.objs.size x y:=t8.extBut _ _ (Nat.ne_of_gt lz) (t7.extBut _ _ (Nat.ne_of_gt lz) (Heap.get?_push_size _ rfl))
 rw [sz] at gz8 gT8
 refine wpAny_pure ⟨_,rfl,?_⟩;show Q (.ref p5.objs.size) _;rw [sz]
 exact q x y p8 tk4 px py gz8 (up _ _ Z.a2 gO5) (D1.frame _ _ _ g15 fun b hb o e=>up _ o (fun y=>Z.b1 (y ▸ hb)) e) (D2.frame _ _ _ g25 fun b hb o e=>up _ o (fun y=>Z.b2 (y ▸ hb)) e) gT8 fun c o c1 c2 c3 c4 e=>up c o c1 (kp5 c o c1 c2 c3 c4 e)
theorem zipD_end {Q:Fin→Shared→Prop} (D1:Draws prog w A i1 f1 n1 P1 S1) (D2:Draws prog w A i2 f2 n2 P2 S2) (Z:ZFar z TI TO i1 i2 f1 f2) (gz:IsZip s.heap z TI TO .none) (gI:IsPair s.heap TI (.ref i1) (.ref i2)) (gO:IsPair s.heap TO a b) (g1:S1 k s.heap) (g2:S2 k s.heap) (hk:k=n1∨(k<n1∧k=n2))
 (q:∀ hp e tk,(∀ c o,c≠z→c≠TO→c≠i1→c≠i2→s.heap.get? c=some o→hp.get? c=some o)→(∃ o,hp.get? e=some o∧o.cls=.type "StopIteration")→E (.ref e) { s with heap:=hp,toks:=tk }) :
 wpAny (model prog w) A (Builtin.«zip.__next__» ⟨[.ref z],[]⟩) Q E s:=by
 show wpAny _ _ (field (.ref z) 2 >>= _) _ _ _;refine wpAny_bind (wpAny_field gz rfl (x:=.bool false) rfl ?_)
 show wpAny _ _ (field (.ref z) 3 >>= _) _ _ _;refine wpAny_bind (wpAny_field gz rfl (x:=.ref TI) rfl (wpAny_bind (wpAny_seqItems gI rfl ?_)))
 show wpAny _ _ (Builtin.SmallTypes.ownedTupleIsFree (.ref z) >>= _) _ _ _;refine wpAny_bind ?_;unfold Builtin.SmallTypes.ownedTupleIsFree
 refine wpAny_bind (wpAny_field gz rfl (x:=.none) rfl (wpAny_pure ?_));simp only [if_true]
 refine wpAny_bind (wpAny_rule (wpAny_bind (wpAny_field gz rfl (x:=.ref TO) rfl (wpAny_bind (wpAny_setField_rec gz (by simp) fun p1 gz1 t1=>?_)))))
 replace gz1:IsZip p1 z TI TO .ellipsis:=gz1;refine wpAny_bind ?_;simp only [List.zipIdx_cons,List.zipIdx_nil,List.forIn_cons,List.forIn_nil]
 refine wpAny_bind (wpAny_bind (wpAny_onRaise ?_));show wpAny _ _ (Builtin.SmallTypes.nextOf (.ref i1) >>= _) _ _ _
 rcases hk with e | ⟨hlt,e⟩
 · subst e
   refine wpAny_bind (D1.done _ _ _ (Draws.but D1 Z.b1 t1.extBut g1) fun p2 e t2 he=>?_)
   obtain ⟨oe,hoe,hce⟩:=he
   have gz2:IsZip p2 z TI TO .ellipsis:=t2 _ _ Z.a3.symm gz1
   have ez:e≠z:=fun x=>by subst x;rw [gz2] at hoe;cases hoe;simp at hce
   exact wpAny_setField_rec gz2 (by simp) fun p3 _ t3=>q p3 e _ (fun c o c1 _ c3 _ x=>t3.extBut _ _ c1 (t2 _ _ c3 (t1.extBut _ _ c1 x))) ⟨oe,t3.extBut _ _ ez hoe,hce⟩
 · subst e
   refine wpAny_bind (D1.item k _ _ _ hlt (Draws.but D1 Z.b1 t1.extBut g1) fun x p2 tk2 px g12 t2=>wpAny_pure ?_)
   have gO2:IsPair p2 TO a b:=t2.extBut _ _ Z.a8 (t1.extBut _ _ Z.a2 gO)
   refine wpAny_bind (wpAny_seqItems gO2 rfl (wpAny_bind (wpAny_updateSeq_pair gO2 fun p3 gO3 t3=>?_)))
   refine wpAny_bind (wpAny_letGo (wpAny_pure (wpAny_bind (wpAny_bind (wpAny_onRaise ?_)))));show wpAny _ _ (Builtin.SmallTypes.nextOf (.ref i2) >>= _) _ _ _
   refine wpAny_bind (D2.done _ _ _ (Draws.but D2 Z.b4 t3.extBut (Draws.but D2 Z.b6 t2.extBut (Draws.but D2 Z.b2 t1.extBut g2))) fun p4 e t4 he=>?_)
   obtain ⟨oe,hoe,hce⟩:=he
   have gz4:IsZip p4 z TI TO .ellipsis:=t4 _ _ Z.a4.symm (t3.extBut _ _ Z.a2.symm (t2.extBut _ _ Z.a3.symm gz1))
   have ez:e≠z:=fun x=>by subst x;rw [gz4] at hoe;cases hoe;simp at hce
   exact wpAny_setField_rec gz4 (by simp) fun p5 _ t5=>q p5 e _ (fun c o c1 c2 c3 c4 x=>t5.extBut _ _ c1 (t4 _ _ c4 (t3.extBut _ _ c2 (t2.extBut _ _ c3 (t1.extBut _ _ c1 x))))) ⟨oe,t5.extBut _ _ ez hoe,hce⟩
end
section
variable {prog:Program} {w:World} {A:Around} {z TI TO i1 i2:Addr} {f1 f2:List Addr} {n1 n2:Nat} {P1 P2:Nat→Value→Prop} {S1 S2:Nat→Heap→Prop}
noncomputable def ZSt (z TI TO i1 i2:Addr) (S1 S2:Nat→Heap→Prop) (i:Nat) (h:Heap):Prop:=IsZip h z TI TO .none∧IsPair h TI (.ref i1) (.ref i2)∧(∃ a b,IsPair h TO a b)∧S1 i h∧S2 i h
noncomputable def ZMid (z TI TO i1 i2:Addr) (S1 S2:Nat→Heap→Prop) (i:Nat) (T:Addr) (h:Heap):Prop:=IsZip h z TI TO (rawInt T)∧IsPair h TI (.ref i1) (.ref i2)∧(∃ a b,IsPair h TO a b)∧S1 (i+1) h∧S2 (i+1) h∧T≠z∧T≠TO∧T≠i1∧T≠i2
theorem itemZ (D1:Draws prog w A.in1 i1 f1 n1 P1 S1) (D2:Draws prog w A.in1 i2 f2 n2 P2 S2) (Z:ZFar z TI TO i1 i2 f1 f2) :
 ItemN prog w A z [z,TO,i1,i2] (min n1 n2) (fun i vals=>∃ x y,P1 i x∧P2 i y∧vals=#[x,y]) (ZSt z TI TO i1 i2 S1 S2) (ZMid z TI TO i1 i2 S1 S2):=fun i s Q E hi st q=>by
 obtain ⟨gz,gI,⟨a,b,gO⟩,g1,g2⟩:=st
 have hT:s.TypeIs (.ref z) "zip":=⟨_,gz,rfl⟩
 have gt:∀ {c:Addr} {o:Obj},s.heap.get? c=some o→s.heap.objs.size≠c:=fun e=>Nat.ne_of_gt (Heap.lt_size e)
 unfold pyNext
 refine wpAny_bind (wpAny_attempt (wpAny_callSpecial?_slot (name:=Str.ofString "__next__") hT F.slot_zip_next (wpAny_call_entry F.slot_zip_next hT F.entry_zip_next
  (zipD_item D1 D2 Z gz gI gO g1 g2 (Nat.lt_of_lt_of_le hi (Nat.min_le_left ..)) (Nat.lt_of_lt_of_le hi (Nat.min_le_right ..)) fun x y hp tk px py a1 a2 a3 a4 a5 kp=>wpAny_pure ?_) (F.args_zip_next_1 _))))
 exact q _ _ _ hp tk ⟨_,_,px,py,rfl⟩ (Nat.le_refl _) a5 ⟨a1,kp _ _ Z.a1 Z.a5 Z.a6 Z.a7 gI,⟨_,_,a2⟩,a3,a4,gt gz,gt gO,(by obtain ⟨_,e⟩:=D1.live _ _ g1;exact gt e),(by obtain ⟨_,e⟩:=D2.live _ _ g2;exact gt e)⟩
  fun c o hc e=>kp c o (fun y=>hc (by simp [y])) (fun y=>hc (by simp [y])) (fun y=>hc (by simp [y])) (fun y=>hc (by simp [y])) e
theorem walkZ (D1:Draws prog w A.in1 i1 f1 n1 P1 S1) (D2:Draws prog w A.in1 i2 f2 n2 P2 S2) (Z:ZFar z TI TO i1 i2 f1 f2) :
 WalksT prog w A z ([z,TI,TO,i1,i2] ++ (f1 ++ f2)) [z,TO,i1,i2] (min n1 n2) (fun i vals=>∃ x y,P1 i x∧P2 i y∧vals=#[x,y]) (ZSt z TI TO i1 i2 S1 S2) (ZMid z TI TO i1 i2 S1 S2) where
 sub:=fun c hc=>by
  simp at hc ⊢
  rcases hc with rfl | rfl | rfl | rfl <;> simp
 frame:=fun i h h' st hk=>by
  obtain ⟨gz,gI,⟨a,b,gO⟩,g1,g2⟩:=st
  exact ⟨hk z (by simp) _ gz,hk TI (by simp) _ gI,⟨a,b,hk TO (by simp) _ gO⟩,D1.frame _ _ _ g1 fun b hb o e=>hk b (by simp [hb]) o e,D2.frame _ _ _ g2 fun b hb o e=>hk b (by simp [hb]) o e⟩
 item:=fun i s Q E hi st hQ=>itemZ D1 D2 Z i s Q E hi st fun T x y h' tk pt hT gT mid kp=>hQ T #[x,y] h' tk pt hT ⟨_,gT,rfl,_,rfl⟩ mid kp
 go:=fun elts k pos i T s Q E hm hQ=>by
  obtain ⟨gz,gI,⟨a,b,gO⟩,g1,g2,_⟩:=hm
  exact wpAny_letOwnedTupleGo_zip gz fun h' gz' t=>hQ h' ⟨gz',t.extBut _ _ Z.a1 gI,⟨a,b,t.extBut _ _ Z.a2 gO⟩,Draws.but D1 Z.b1 t.extBut g1,Draws.but D2 Z.b2 t.extBut g2⟩ fun c o hc e=>t.extBut _ _ (fun x=>hc (by simp [x])) e
 apart:=fun i T h hm hT=>by
  obtain ⟨_,_,_,_,_,t1,t2,t3,t4⟩:=hm
  simp at hT
  rcases hT with y | y | y | y
  · exact t1 y
  · exact t2 y
  · exact t3 y
  · exact t4 y
 done:=fun s Q E st hQ=>by
  obtain ⟨gz,gI,⟨a,b,gO⟩,g1,g2⟩:=st
  have hT:s.TypeIs (.ref z) "zip":=⟨_,gz,rfl⟩
  unfold pyNext
  refine wpAny_bind (wpAny_attempt (wpAny_callSpecial?_slot (name:=Str.ofString "__next__") hT F.slot_zip_next (wpAny_call_entry F.slot_zip_next hT F.entry_zip_next (zipD_end D1 D2 Z gz gI gO g1 g2 (by omega) fun h' e tk hk he=>?_) (F.args_zip_next_1 _))))
  obtain ⟨o,ho,hc⟩:=he
  refine wpAny_bind (wpAny_isInstance (T:="StopIteration") (b:=true) ⟨o,ho,hc⟩ isSubtype_stop (wpAny_pure ?_))
  exact hQ _ _ fun c o hc e=>hk c o (fun x=>hc (by simp [x])) (fun x=>hc (by simp [x])) (fun x=>hc (by simp [x])) (fun x=>hc (by simp [x])) e
 self:=fun i s Q E st hQ=>wpAny_pyIter_zip st.1 hQ
end
noncomputable def IterB (b:Bool) (h:Heap) (it a:Addr) (i:Nat):Prop:=if b=true then h.IsListIter it a i else h.IsTupleIter it a i
noncomputable def SeqB (b:Bool) (h:Heap) (a:Addr) (its:Array Value):Prop:=if b=true then h.IsList a its else h.IsTuple a its
theorem drawsB {prog:Program} {w:World} {A:Around} (b:Bool) (hh:A.handled=none) (it l:Addr) (hne:l≠it) (its:Array Value) :
 Draws prog w A it [it,l] its.size (fun i v=>its[i]?=some v) (fun i h=>IterB b h it l i∧SeqB b h l its):=by
 cases b
 · exact drawsT hh it l hne its
 · exact Draws.list hh it l hne its
theorem Inv.seqB {X:Cx} {pins:List (Addr×Obj)} {σ:St} {H:Hp} {s:Shared} {b:Bool} {a:Addr} {xs:List V} (I:Inv X pins σ H s) (h:Sq b X.K H a xs):∃ its:List Value,Vals xs its∧SeqB b s.heap a its.toArray:=by
 cases b
 · obtain ⟨its,r,p,_⟩:=I.tuple h;exact ⟨its,r,p⟩
 · obtain ⟨its,r,p,_⟩:=I.list h;exact ⟨its,r,p.isList⟩
theorem Inv.seqB_inj {X:Cx} {pins:List (Addr×Obj)} {σ:St} {H:Hp} {s:Shared} {b:Bool} {a:Addr} {xs ys:List V} (I:Inv X pins σ H s) (h:Sq b X.K H a xs) (h':Sq b X.K H a ys):xs=ys:=by
 cases b
 · exact I.tuple_inj h h'
 · exact I.list_inj h h'
theorem IterB.at {b:Bool} {h h':Heap} {it a:Addr} {i:Nat} (x:IterB b h it a i) (k:∀ o,h.get? it=some o→h'.get? it=some o):IterB b h' it a i:=by
 cases b
 · obtain ⟨o,e,r⟩:=x;exact ⟨o,k o e,r⟩
 · obtain ⟨o,e,r⟩:=x;exact ⟨o,k o e,r⟩
theorem IterB.obj {b:Bool} {h:Heap} {it a:Addr} {i:Nat} (x:IterB b h it a i):∃ o,h.get? it=some o∧∀ v,o.data≠.cell v:=by
 cases b
 · obtain ⟨o,e,c,d⟩:=x;exact ⟨o,e,fun v z=>by rw [d] at z;cases z⟩
 · obtain ⟨o,e,c,d⟩:=x;exact ⟨o,e,fun v z=>by rw [d] at z;cases z⟩
noncomputable def ItZS (b1 b2:Bool) (K:PySem.W.Frag) (a b:Addr):It:=ItP (fun i H=>∃ xs ys x y,Sq b1 K H a xs∧Sq b2 K H b ys∧xs[i]?=some x∧ys[i]?=some y) (fun i H u v=>(∀ xs,Sq b1 K H a xs→xs[i]?=some u)∧∀ ys,Sq b2 K H b ys→ys[i]?=some v) (fun i H=>∃ xs ys,Sq b1 K H a xs∧Sq b2 K H b ys∧min xs.length ys.length=i)
noncomputable def ZApart (z TI TO i1 i2 l1 l2:Addr):Prop:=ZFar z TI TO i1 i2 [i1,l1] [i2,l2]∧l1≠i1∧l2≠i2
section
variable {P:Program} {w:World} {K:PySem.W.Frag} {elts:List Expr} {ek:Nat} {epos:Pos} {b1 b2:Bool}
theorem turn_zipS {z TI TO i1 i2 l1 l2:Addr} (Z:ZApart z TI TO i1 i2 l1 l2):Turn P w K (.Tuple elts ek epos) (ItZS b1 b2 K l1 l2) [z,TI,TO,i1,i2] z (fun i h=>IsZip h z TI TO .none∧IsPair h TI (.ref i1) (.ref i2)∧(∃ a b,IsPair h TO a b)∧IterB b1 h i1 l1 i∧IterB b2 h i2 l2 i):=by
 obtain ⟨Z,n1,n2⟩:=Z
 refine turn_pairs (wr:=[z,TO,i1,i2]) (by simp) (fun b hb=>?_) (fun i h st b hb=>?_) (fun i h h' st k=>?_) (fun A i s Q E st q=>?_) ?_ ?_
 · simp at hb ⊢
   rcases hb with y | y | y | y <;> simp [y]
 · obtain ⟨g1,g2,⟨x,y,g3⟩,g4,g5⟩:=st
   simp at hb
   rcases hb with y | y | y | y | y
   · exact ⟨_,y ▸ g1,fun v z=>by cases z⟩
   · exact ⟨_,y ▸ g2,fun v z=>by cases z⟩
   · exact ⟨_,y ▸ g3,fun v z=>by cases z⟩
   · rw [y];exact g4.obj
   · rw [y];exact g5.obj
 · obtain ⟨g1,g2,⟨x,y,g3⟩,g4,g5⟩:=st
   exact ⟨k z (by simp) _ g1,k TI (by simp) _ g2,⟨x,y,k TO (by simp) _ g3⟩,g4.at fun o e=>k i1 (by simp) o e,g5.at fun o e=>k i2 (by simp) o e⟩
 · exact wpAny_pyIter_zip st.1 q
 · intro X hP hw' hK hc i pins s σ H I0 hf st hg
   obtain ⟨xs,ys,x,y,hq,hq',hx,hy⟩:=hg
   rw [← hK] at hq hq'
   obtain ⟨its,rv,p⟩:=I0.seqB hq
   obtain ⟨its',rv',p'⟩:=I0.seqB hq'
   obtain ⟨u,hu,ru⟩:=rv.get hx
   obtain ⟨u',hu',ru'⟩:=rv'.get hy
   have hl:=rv.length
   have hl':=rv'.length
   have hix:i<xs.length:=(List.getElem?_eq_some_iff.mp hx).1
   have hiy:i<ys.length:=(List.getElem?_eq_some_iff.mp hy).1
   obtain ⟨g1,g2,g3,g4,g5⟩:=st
   have D1:=drawsB (prog:=P) (w:=w) (A:=X.A.in1) b1 (I0.ok.hd hc) i1 l1 n1 its.toArray
   have D2:=drawsB (prog:=P) (w:=w) (A:=X.A.in1) b2 (I0.ok.hd hc) i2 l2 n2 its'.toArray
   refine ⟨_,_,_,_,_,⟨walkZ D1 D2 Z,itemZ D1 D2 Z⟩,by rw [List.size_toArray,List.size_toArray];omega,⟨g1,g2,g3,⟨g4,p⟩,⟨g5,p'⟩⟩,fun h' q=>⟨q.1,q.2.1,q.2.2.1,q.2.2.2.1.1,q.2.2.2.2.1⟩,?_⟩
   rintro vals ⟨v,v',hv,hv',rfl⟩
   have e1:its[i]?=some v:=by simpa using hv
   have e2:its'[i]?=some v':=by simpa using hv'
   rw [hu] at e1;rw [hu'] at e2;cases e1;cases e2
   exact ⟨x,y,_,_,rfl,ru,ru',fun ys hys=>by rw [← hK] at hys;rw [I0.seqB_inj hys hq];exact hx,fun ys hys=>by rw [← hK] at hys;rw [I0.seqB_inj hys hq'];exact hy⟩
 · intro X hP hw' hK hc i pins s σ H I0 hf st hg
   obtain ⟨xs,ys,hq,hq',hx⟩:=hg
   rw [← hK] at hq hq'
   obtain ⟨its,rv,p⟩:=I0.seqB hq
   obtain ⟨its',rv',p'⟩:=I0.seqB hq'
   have hl:=rv.length
   have hl':=rv'.length
   obtain ⟨g1,g2,g3,g4,g5⟩:=st
   have e1:min its.toArray.size its'.toArray.size=i:=by rw [List.size_toArray,List.size_toArray];omega
   refine ⟨_,_,_,_,_,walkZ (drawsB (prog:=P) (w:=w) (A:=X.A.in1) b1 (I0.ok.hd hc) i1 l1 n1 its.toArray) (drawsB (prog:=P) (w:=w) (A:=X.A.in1) b2 (I0.ok.hd hc) i2 l2 n2 its'.toArray) Z,?_⟩
   rw [e1]
   exact ⟨g1,g2,g3,⟨g4,p⟩,⟨g5,p'⟩⟩
end
noncomputable def itO (b:Bool) (l:Addr):Obj:=if b=true then { cls:=.type "list_iterator",data:=.fields #[.ref l,.int 0 0] } else { cls:=.type "tuple_iterator",data:=.fields #[.ref l,.int 0 0] }
noncomputable def zH (b1 b2:Bool) (h:Heap) (l1 l2:Addr):Heap:=((((h.push (itO b1 l1)).push (itO b2 l2)).push { cls:=.type "tuple",data:=.seq #[.ref h.objs.size,.ref (h.objs.size+1)] }).push { cls:=.type "tuple",data:=.seq #[.none,.none] }).push { cls:=.type "zip",data:=.fields #[.none,.bool false,.bool false,.ref (h.objs.size+2),.ref (h.objs.size+3)] }
theorem iter_seqB {prog:Program} {w:World} {A:Around} {E:Value→Shared→Prop} {s:Shared} {b:Bool} {l:Addr} {its:Array Value} {Q:Value→Shared→Prop} (hl:SeqB b s.heap l its) (q:Q (.ref s.heap.objs.size) { s with heap:=s.heap.push (itO b l) }):wpAny (model prog w) A (pyIter (.ref l)) Q E s:=by
 cases b
 · exact wpAny_pyIter_tuple hl q
 · exact wpAny_pyIter_list hl q
theorem SeqB.push {b:Bool} {h:Heap} {l:Addr} {its:Array Value} (x:SeqB b h l its) (o:Obj):SeqB b (h.push o) l its:=by
 cases b
 · obtain ⟨u,e,r⟩:=x;exact ⟨u,Heap.get?_push_of_some _ e,r⟩
 · obtain ⟨u,e,r⟩:=x;exact ⟨u,Heap.get?_push_of_some _ e,r⟩
theorem zip_newS (b1 b2:Bool) (l1 l2:Addr) (xs ys:Array Value) :
 Meets (Builtin.«zip.__new__» ⟨[.type "zip",.ref l1,.ref l2],[]⟩) (fun _ R s=>SeqB b1 s.heap l1 xs∧SeqB b2 s.heap l2 ys∧R (.ok (.ret (.ref (s.heap.objs.size+4)))) { s with heap:=zH b1 b2 s.heap l1 l2 }) :=
 .of_wp fun prog w A R s h=>by
  obtain ⟨hp,g,d,tk,os⟩:=s;obtain ⟨hl1,hl2,h⟩:=h;have hsub:=sub_zip
  have hL1:SeqB b1 (Shared.heap ⟨hp,g,d,tk,os⟩) l1 xs:=hl1
  have hL2:SeqB b2 (Shared.heap ⟨hp.push (itO b1 l1),g,d,tk,os⟩) l2 ys:=hl2.push _
  wp_walk using iter_seqB hL1,iter_seqB hL2
  refine ⟨_,rfl,?_⟩
  simp only [Heap.size_push]
  exact h
theorem call_zipS {prog:Program} {w:World} {A:Around} {E:Value→Shared→Prop} {s:Shared} {b1 b2:Bool} {l1 l2:Addr} {xs ys:Array Value} {Q:Value→Shared→Prop} (hl1:SeqB b1 s.heap l1 xs) (hl2:SeqB b2 s.heap l2 ys)
 (q:∀ hp,IsZip hp (s.heap.objs.size+4) (s.heap.objs.size+2) (s.heap.objs.size+3) .none→IsPair hp (s.heap.objs.size+2) (.ref s.heap.objs.size) (.ref (s.heap.objs.size+1))→IsPair hp (s.heap.objs.size+3) .none .none→IterB b1 hp s.heap.objs.size l1 0→IterB b2 hp (s.heap.objs.size+1) l2 0 →
  (∀ c o,s.heap.get? c=some o→hp.get? c=some o)→Q (.ref (s.heap.objs.size+4)) { s with heap:=hp }):wpAny (model prog w) A (call (.type "zip") [.ref l1,.ref l2]) Q E s:=by
 refine callType_new F.called_zip (by decide) (F.typeCall_zip_2 _ _) (F.newCall_zip_2 _ _) (fun obj=>F.args_object_init_3 obj _ _) F.entry_zip_new (zip_newS b1 b2 l1 l2 xs ys) ⟨hl1,hl2,?_⟩
 generalize hn:s.heap.objs.size=n at q
 have z1:(s.heap.push (itO b1 l1)).objs.size=n+1:=by rw [Heap.size_push,hn]
 have z2:((s.heap.push (itO b1 l1)).push (itO b2 l2)).objs.size=n+2:=by rw [Heap.size_push,z1]
 have z3:(((s.heap.push (itO b1 l1)).push (itO b2 l2)).push { cls:=.type "tuple",data:=.seq #[.ref s.heap.objs.size,.ref (s.heap.objs.size+1)] }).objs.size=n+3:=by rw [Heap.size_push,z2]
 have z4:((((s.heap.push (itO b1 l1)).push (itO b2 l2)).push { cls:=.type "tuple",data:=.seq #[.ref s.heap.objs.size,.ref (s.heap.objs.size+1)] }).push { cls:=.type "tuple",data:=.seq #[.none,.none] }).objs.size=n+4:=by rw [Heap.size_push,z3]
 have itf:∀ b l,(itO b l).isFreed=false:=fun b l=>by cases b <;> rfl
 have g5:(zH b1 b2 s.heap l1 l2).get? (n+4)=some { cls:=.type "zip",data:=.fields #[.none,.bool false,.bool false,.ref (s.heap.objs.size+2),.ref (s.heap.objs.size+3)] }:=by rw [← z4];exact Heap.get?_push_size _ rfl
 have g4:(zH b1 b2 s.heap l1 l2).get? (n+3)=some { cls:=.type "tuple",data:=.seq #[.none,.none] }:=by rw [← z3];exact Heap.get?_push_of_some _ (Heap.get?_push_size _ rfl)
 have g3:(zH b1 b2 s.heap l1 l2).get? (n+2)=some { cls:=.type "tuple",data:=.seq #[.ref s.heap.objs.size,.ref (s.heap.objs.size+1)] }:=by rw [← z2];exact Heap.get?_push_of_some _ (Heap.get?_push_of_some _ (Heap.get?_push_size _ rfl))
 have g2:(zH b1 b2 s.heap l1 l2).get? (n+1)=some (itO b2 l2):=by rw [← z1];exact Heap.get?_push_of_some _ (Heap.get?_push_of_some _ (Heap.get?_push_of_some _ (Heap.get?_push_size _ (itf _ _))))
 have g1:(zH b1 b2 s.heap l1 l2).get? n=some (itO b1 l1):=by rw [← hn];exact Heap.get?_push_of_some _ (Heap.get?_push_of_some _ (Heap.get?_push_of_some _ (Heap.get?_push_of_some _ (Heap.get?_push_size _ (itf _ _)))))
 rw [hn] at g5 g3
 have i1:IterB b1 (zH b1 b2 s.heap l1 l2) n l1 0:=by
  cases b1
  · exact ⟨_,g1,rfl,rfl⟩
  · exact ⟨_,g1,rfl,rfl⟩
 have i2:IterB b2 (zH b1 b2 s.heap l1 l2) (n+1) l2 0:=by
  cases b2
  · exact ⟨_,g2,rfl,rfl⟩
  · exact ⟨_,g2,rfl,rfl⟩
 show _∧_
 exact ⟨⟨_,g5,rfl⟩,q _ g5 g3 g4 i1 i2 fun c o x=>Heap.get?_push_of_some _ (Heap.get?_push_of_some _ (Heap.get?_push_of_some _ (Heap.get?_push_of_some _ (Heap.get?_push_of_some _ x))))⟩
section
variable {X:Cx} {elts:List Expr} {ek:Nat} {epos:Pos}
noncomputable def iZipS (K:PySem.W.Frag) (ta:TA):TI:=fun σ H R=>ta σ H fun vs H1=>∃ b1 b2 a b xs ys,vs=[.ref a,.ref b]∧Sq b1 K H1 a xs∧Sq b2 K H1 b ys∧R (ItZS b1 b2 K a b) H1
theorem zApart_new {n l1 l2:Addr} (h1:l1<n) (h2:l2<n):ZApart (n+4) (n+2) (n+3) n (n+1) l1 l2:=by
 have m:∀ c x y:Addr,c≠x→c≠y→c∉[x,y]:=fun c x y a b h=>by
  rcases List.mem_cons.mp h with h | h
  · exact a h
  · exact b (List.mem_singleton.mp h)
 have ne:∀ n i j:Nat,i≠j→n+i≠n+j:=fun n i j h e=>h (Nat.add_left_cancel e)
 have nl:∀ n l i:Nat,l<n→n+i≠l:=fun n l i h e=>by omega
 have nr:∀ n l i:Nat,l<n→l≠n+i:=fun n l i h e=>by omega
 exact ⟨⟨ne n 2 4 (by decide),ne n 3 4 (by decide),ne n 0 4 (by decide),ne n 1 4 (by decide),ne n 2 3 (by decide),ne n 2 0 (by decide),ne n 2 1 (by decide),ne n 3 0 (by decide),ne n 3 1 (by decide),ne n 0 1 (by decide),
  m _ _ _ (ne n 4 0 (by decide)) (nl n l1 4 h1),m _ _ _ (ne n 4 1 (by decide)) (nl n l2 4 h2),m _ _ _ (ne n 3 0 (by decide)) (nl n l1 3 h1),m _ _ _ (ne n 3 1 (by decide)) (nl n l2 3 h2),m _ _ _ (ne n 1 0 (by decide)) (nl n l1 1 h1),m _ _ _ (ne n 0 1 (by decide)) (nl n l2 0 h2)⟩,nr n l1 0 h1,nr n l2 1 h2⟩
theorem pi_zipSK {K:PySem.W.Frag} {a b:Expr} {ta:TA} {p pos:Pos} (hg:Gl X "zip") (hs:starEach [a,b] X.env=[(false,eval a X.env),(false,eval b X.env)]) (hs2:starEach [b] X.env=[(false,eval b X.env)]) (eK:X.K=K) (hm:X.mg "zip"=none) (ha:PA X [a,b] ta) :
 PI X (.Tuple elts ek epos) (.Call (.Name "zip" p) [a,b] [] pos) (iZipS K ta):=by
 subst eK
 intro pins s σ H R I h
 refine Call_ (ld_blt I hg hm boot_zip (PyProof.Rows.callWith_type1 (thn (ha pos pins s σ H _ I h) fun us s1 ⟨vs,H1,I1,r1,q1⟩=>?_) (by rw [hs,hs2]) (by rw [hs2];rfl)))
 obtain ⟨b1,b2,l,l',xs,ys,rfl,hl,hl',q⟩:=q1
 obtain ⟨u,v,rfl,ru,rv'⟩:=vals2 r1
 cases ru;cases rv'
 obtain ⟨its,rv,pl⟩:=I1.seqB hl
 obtain ⟨its',rv',pl'⟩:=I1.seqB hl'
 have lt:∀ {b:Bool} {l:Addr} {its:Array Value},SeqB b s1.heap l its→l<s1.heap.objs.size:=fun {b l its} x=>by
  cases b
  · obtain ⟨o,z,_⟩:=x;exact Heap.lt_size z
  · obtain ⟨o,z,_⟩:=x;exact Heap.lt_size z
 have hll:=lt pl
 have hll':=lt pl'
 refine call_zipS pl pl' fun hp g1 g2 g3 g4 g5 hk=>?_
 have I2:Inv X pins σ H1 { s1 with heap:=hp }:=I1.kept (t':=s1.toks) hk
 have nx:∀ b,s1.heap.objs.size≤b→FpOk X pins H1 b:=fun b hb=>I1.fpOk hb (I1.hok.fresh hb)
 generalize s1.heap.objs.size=n at *
 refine wpAny_pyIter_zip g1 ⟨_,[n+4,n+2,n+3,n,n+1],_,_,H1,rfl,I2,turn_zipS (zApart_new hll hll'),⟨g1,g2,⟨_,_,g3⟩,g4,g5⟩,fun b hb=>?_,q⟩
 simp at hb
 rcases hb with rfl | rfl | rfl | rfl | rfl <;> exact nx _ (by first | exact Nat.le_add_right _ _ | exact Nat.le_refl _)
end
section
variable {K:PySem.W.Frag} {b1 b2:Bool} {a b D:Addr} {xs zs:List V} {g:TG} {tt:TT} {te:TE} {σ0:St} {H0:Hp} {Q:VK}
theorem comp_zipS (hlen:zs.length=xs.length) (Pv:Nat→List V→St→Hp→Prop) (h0:Pv 0 [] σ0 H0) (hl:∀ i ys σ H,Pv i ys σ H→Sq b1 K H a xs∧Sq b2 K H b zs∧H D=some (.lst ys))
 (hs:∀ i x z ys σ H T G,xs[i]?=some x→zs[i]?=some z→i<xs.length→Pv i ys σ H→H T=none→Same H G→G T=some (.tup [x,z])→g (.ref T) σ G fun σ3 H3=>tt σ3 H3 fun b H4=>if b=true then
  te σ3 H4 fun y H5=>H5 D=some (.lst ys)∧ys.length<sizeLine∧∃ m',m'<xs.length - i∧Wt Pv xs.length (i+1) m' (ys ++ [y]) σ3 (upd H5 D (.lst (ys ++ [y]))) else ∃ m',m'<xs.length - i∧Wt Pv xs.length (i+1) m' ys σ3 H4)
 (hd:∀ ys σ H,Pv xs.length ys σ H→Q (.ref D) H):CompW (ItZS b1 b2 K a b) D g tt te Q σ0 H0:=by
 refine ⟨Wt Pv xs.length,⟨xs.length,rfl,Nat.zero_le _,h0⟩,?_⟩
 rintro i m ys σ' H' ⟨rfl,hi,p⟩
 obtain ⟨hq,hq',hD⟩:=hl i ys σ' H' p
 refine ⟨hD,?_⟩
 by_cases hlt:i<xs.length
 · refine .inr ⟨⟨xs,zs,xs[i],zs[i],hq,hq',by simp [hlt],by simp [hlt,hlen]⟩,fun x H2 y=>?_⟩
   obtain ⟨T,u,v,rfl,hT,rfl,hu,hv⟩:=y
   exact hs i u v ys σ' H' T _ (hu xs hq) (hv zs hq') hlt p hT (Same.new hT) upd_same
 · have e:i=xs.length:=by omega
   subst e
   exact .inl ⟨⟨xs,zs,hq,hq',by rw [hlen];exact Nat.min_self _⟩,hd ys σ' H' p⟩
end
end L2
namespace L2
open PySem PySem.Spec PyProof.Rows
noncomputable def DrawsAt (H:Hp) (d:Addr):Prop:=∃ ns:List Int,H d=some (.lst (ns.map V.int))∧ns.length≤240
noncomputable def spDraws (K:PySem.W.Frag):Sp:=fun vs H Q _=>∃ (a:Addr) (ns:List Int),vs=[.ref a]∧SqL K H a (ns.map V.int)∧ns.length≤63∧∀ (d:Addr) (H':Hp),Same H H'→H d=none→DrawsAt H' d→Q (.ref d) H'
noncomputable def spTake:Sp:=fun vs H Q _=>∃ (d:Addr) (m:Int),vs=[.ref d,.int m]∧0<m∧DrawsAt H d∧∀ (v:Int) (H':Hp),0≤v→v<m→DrawsAt H' d→Kp d H H'→Q (.int v) H'
theorem DrawsAt.kl {H H':Hp} {l:Addr} (h:DrawsAt H l) (k:Kp l H H'):KL H H':=by
 obtain ⟨ns,e,_⟩:=h
 exact k.kl e
theorem DrawsAt.same {H H':Hp} {l:Addr} (h:DrawsAt H l) (k:Same H H'):DrawsAt H' l:=by
 obtain ⟨ns,e,z⟩:=h
 exact ⟨ns,k _ _ e,z⟩
theorem DrawsAt.ne {H:Hp} {l p:Addr} (h:DrawsAt H l) (e:H p=none):p≠l:=by
 obtain ⟨ns,e',z⟩:=h
 rintro rfl
 rw [e] at e';cases e'
theorem DrawsAt.neT {H:Hp} {l p:Addr} {us:List V} (h:DrawsAt H l) (e:H p=some (.tup us)):p≠l:=by
 obtain ⟨ns,e',z⟩:=h
 exact ne_of e e' (by intro z;cases z)
theorem Same.kpd {H H':Hp} {l:Addr} (k:Same H H'):Kp l H H':=fun b o e _=>k b o e
theorem Kp.freeD {H H':Hp} {p l:Addr} (k:Kp p H H') (h:DrawsAt H' p) (hl:H' l=none):H l=none:=by
 cases e:H l with
 | none=>rfl
 | some o =>
   by_cases n:l=p
   · subst n;obtain ⟨ns,e',_⟩:=h;rw [hl] at e';cases e'
   · rw [k _ _ e n] at hl;cases hl
end L2
namespace Pw
end Pw
namespace L2
open PySem PySem.Spec PyProof.Rows
theorem small16 {n:Nat} (h:n≤10000):n<sizeLine:=Nat.lt_of_le_of_lt h (by decide)
theorem cut240 (ds:List Int):∃ es:List Int,cutV (ds.map V.int) none (some 240)=es.map V.int∧es.length≤240:=by
 have e:HT.sIx (ds.map V.int).length (ds.map V.int).length (some 240)=min 240 (ds.map V.int).length:=HT.sIx_nat _ _ 240
 refine ⟨ds.take (min 240 (ds.map V.int).length),?_,by rw [List.length_take];omega⟩
 unfold cutV
 rw [e,HT.sIx_none,List.drop_zero,Nat.sub_zero,List.map_take]
theorem while_in {c:TT} {tb:TS} {D:Ends} {σ:St} {H:Hp} (Pv:St→Hp→Prop) (μ:St→Hp→Nat) (h0:Pv σ H)
 (hs:∀ σ H,Pv σ H→c σ H fun b H1=>if b=true then ∃ N:St→Hp→Prop,(∀ σ' H',N σ' H'→∃ m',m'<μ σ H∧m'=μ σ' H'∧Pv σ' H')∧tb { D with nx:=N,ct:=N,bk:=D.nx } σ H1 else D.nx σ H1):tWhile c tb D σ H :=
 ⟨fun m σ H=>m=μ σ H∧Pv σ H,⟨_,rfl,h0⟩,fun m σ H ⟨e,p⟩=>by subst e;exact hs σ H p⟩
theorem wN {Pv:St→Hp→Prop} {μ:St→Hp→Nat} {n:Nat}:∀ σ' H',(Pv σ' H'∧μ σ' H'<n)→∃ m',m'<n∧m'=μ σ' H'∧Pv σ' H':=fun _ _ ⟨p,l⟩=>⟨_,l,rfl,p⟩
end L2
namespace L2
open PySem PySem.Spec PyProof.Rows
theorem wtest {K:PySem.W.Frag} {σ:St} {i j:Nat} {d:Addr} {m lim:Int} {G:Hp} {Q:Bool→Hp→Prop} (e1:σ[i]?=some (some (.ref d))) (e2:σ[j]?=some (some (.int m))) (hd:DrawsAt G d) (hl:1≤lim)
 (hT:m<lim→∀ G1,Same G G1→Q true G1) (hF:∀ G1,Same G G1→Q false G1) :
 tOr (tTest (tOp (rI0 fun i j=>.bl (decide (i<j))) (tVar j) (tC (.int 1)))) (tAnd (tTest (tOp (rNil K true) (tVar i) (tLstS tNil))) (tTest (tOp (rI0 fun i j=>.bl (decide (i<j))) (tVar j) (tC (.int lim))))) σ G Q:=by
 refine ⟨_,e2,_,_,rfl,rfl,_,rfl,?_⟩
 refine if2 (fun h=>?_) (fun h=>?_)
 · exact hT (by have:m<1:=of_decide_eq_true h;omega) G (Same.refl _)
 obtain ⟨ns,e,z⟩:=hd
 refine ⟨_,e1,(by show 0≤sizeLine;decide),fun p G1 s1 hp hp1=>?_⟩
 refine ⟨d,p,_,rfl,rfl,.inr ⟨SqL.of (s1 _ _ e),SqL.of hp1⟩,_,rfl,?_⟩
 refine if2 (fun h=>?_) (fun h=>?_)
 · refine ⟨_,e2,_,_,rfl,rfl,_,rfl,?_⟩
   by_cases h3:m<lim
   · rw [decide_eq_true h3];exact hT h3 G1 s1
   · rw [decide_eq_false h3];exact hF G1 s1
 · exact hF G1 s1
end L2
namespace Pw
end Pw
namespace L2
end L2
namespace Pw
end Pw
namespace Pw
section
variable {ps:List (Int×Int)} {A:Int×Int} {Bs:List (Int×Int)} {S:Int} {n:Nat}
end
end Pw
namespace L2
open PySem PySem.Spec PyProof.Rows
end L2
namespace L2
open PySem PySem.Spec PyProof.Rows
end L2
namespace L2
open PySem PySem.Spec PyProof.Rows
section
variable {prog:Program} {w:World} {A:Around} {E:Value→Shared→Prop} {s:Shared}
end
section
variable {X:Cx}
end
end L2
namespace Pw
section
variable (ps:List (Int×Int)) (A:Int×Int) (Bs:List (Int×Int)) (n:Nat)
end
section
variable {ps:List (Int×Int)} {A:Int×Int} {Bs:List (Int×Int)} {n:Nat}
end
end Pw
namespace L2
open PySem PySem.Spec PyProof.Rows
end L2
namespace Pw
end Pw
namespace L2
open PySem PySem.Spec PyProof.Rows
noncomputable def spMade9:Sp:=fun vs H Q _=>∃ x y:Int,vs=[.int x,.int y]∧y≠0∧Sz 8900 x∧Sz 8900 y∧∀ (p:Addr) (H':Hp),Same H H'→H' p=some (.tup [.int (Pw.mk x y).1,.int (Pw.mk x y).2])→Q (.ref p) H'
noncomputable def spF2H (K:PySem.W.Frag) (op:Int×Int→Int×Int→Int×Int):Sp:=fun vs H Q _=>∃ (p q:Addr) (A B:Int×Int),vs=[.ref p,.ref q]∧SqF K H p A∧SqF K H q B∧0<A.2∧0<B.2∧Sz2 4400 A∧Sz2 4400 B∧∀ (r:Addr) (H':Hp),Same H H'→FrA K H' r (op A B)→Q (.ref r) H'
theorem made9 {P:Program} {w:World} {K:PySem.W.Frag} {mg:Str→Option Value} {base:Heap} {k:Nat} {nm:Str} {ps:List Str} (D:Def P w K mg base k nm ps spMade9):Def P w K mg base k nm ps spMadeS :=
 D.imp fun vs H Q E ⟨x,y,e,h1,h2,h3,h4⟩=>⟨x,y,e,h1,h2.mono (by decide),h3.mono (by decide),h4⟩
theorem f2H {P:Program} {w:World} {K:PySem.W.Frag} {mg:Str→Option Value} {base:Heap} {k:Nat} {nm:Str} {ps:List Str} {op:Int×Int→Int×Int→Int×Int} (D:Def P w K mg base k nm ps (spF2H K op)):Def P w K mg base k nm ps (spF2G K op) :=
 D.imp fun vs H Q E ⟨p,q,A,B,e,h1,h2,h3,h4,h5,h6,h7⟩=>⟨p,q,A,B,e,h1,h2,h3,h4,h5.mono (by decide),h6.mono (by decide),h7⟩
noncomputable def spWebD (K:PySem.W.Frag):Sp:=fun vs H Q _=>∃ d:Addr,vs=[.ref d]∧DrawsAt H d∧∀ (w:Addr) (H':Hp) (pages:Int) (ps:List (Int×Int)),Pw.WebOk pages ps→WebAt K H' w pages ps→DrawsAt H' d→Kp d H H'→Q (.ref w) H'
noncomputable def spLeapD (K:PySem.W.Frag):Sp:=fun vs H Q _=>∃ d:Addr,vs=[.ref d]∧DrawsAt H d∧∀ (p:Addr) (H':Hp) (A:Int×Int),Pw.Canon A→0<A.1→A.1≤A.2→Sz2 41 A→DrawsAt H' d→FrA K H' p A→Kp d H H'→Q (.ref p) H'
noncomputable def spLeapsD (K:PySem.W.Frag):Sp:=fun vs H Q _=>∃ (d:Addr) (pages:Int),vs=[.ref d,.int pages]∧1≤pages∧pages≤12∧DrawsAt H d ∧
 ∀ (p:Addr) (H':Hp) (ws:List Int) (us:List V),Wts pages ws→DrawsAt H' d→H' p=some (.tup us)→FrL K H' (lps ws) us→Kp d H H'→Q (.ref p) H'
end L2
namespace Pw
section
variable {ps:List (Int×Int)} {A:Int×Int} {Bs:List (Int×Int)} {n:Nat} {S:Int}
end
end Pw
open PySem PySem.Spec PyProof.Rows
namespace L2
section
variable {prog:Program} {w:World} {A:Around} {E:Value→Shared→Prop} {s:Shared}
end
theorem Inv.plainL {X:Cx} {pins:List (Addr×Obj)} {σ:St} {H:Hp} {s:Shared} {a:Addr} {xs:List V} (I:Inv X pins σ H s) (h:H a=some (.lst xs)):∃ its:List Value,Vals xs its∧s.heap.PlainList a its.toArray:=by
 obtain ⟨_,its,n,r,e⟩:xs.length≤sizeLine∧∃ (its:List Value) (n:Nat),Vals xs its∧s.heap.get? a=some { cls:=.type "list",data:=.seq its.toArray n }:=I.hok a _ h
 exact ⟨its,r,n,e⟩
section
variable {X:Cx} {tg:Expr}
end
end L2
namespace Pw
end Pw
namespace L2
open PySem PySem.Spec PyProof.Rows
end L2
namespace Pw
end Pw
open PySem PySem.Spec PyProof PyProof.Rows
namespace L2
section
variable {X:Cx}
theorem vals_toks:∀ {ns:List Int} {its:List Value},Vals (ns.map V.int) its→∃ xs:Array (Int×Tok),its.toArray=intItems xs∧xs.toList.map (·.1)=ns
 | [],its,r=>by cases r;exact ⟨#[],by simp [intItems],rfl⟩
 | n :: ns,its,r=>by
   obtain ⟨v,vs,rfl⟩:∃ v vs,its=v :: vs:=by cases r;exact ⟨_,_,rfl⟩
   have hr:RelV (.int n) v∧Vals (ns.map V.int) vs:=by
    cases r with
    | cons rx rs=>exact ⟨rx,rs⟩
   obtain ⟨⟨t,rfl⟩,rs⟩:=hr
   obtain ⟨xs,e1,e2⟩:=vals_toks rs
   refine ⟨((n,t) :: xs.toList).toArray,?_,?_⟩
   · have e3:vs=xs.toList.map (fun p:Int×Tok=>Value.int p.1 p.2):=by
      have:=congrArg Array.toList e1
      simpa [intItems] using this
     simp [intItems,e3]
   · simp [e2]
noncomputable def rMaxL:List V→Hp→VK→Prop:=fun vs H Q=>∃ (p:Addr) (ns:List Int),vs=[.ref p]∧H p=some (.lst (ns.map V.int))∧ns≠[]∧∀ m,m∈ns→(∀ x∈ns,x≤m)→Q (.int m) H
theorem call_maxL (hc:X.calm=true):CallR X (.builtin "max") rMaxL:=by
 intro pins s σ H xs us Q I r h
 obtain ⟨p,ns,rfl,hp,hn,q⟩:=h
 obtain ⟨u,rfl,ru⟩:=vals1 r
 cases ru
 obtain ⟨its,rv,pl⟩:=I.plainL hp
 obtain ⟨ys,e1,e2⟩:=vals_toks rv
 rw [e1] at pl
 have hsz:ys.size=ns.length:=by rw [← e2,List.length_map,Array.length_toList]
 have h0:0<ys.size:=by
  rw [hsz]
  exact List.length_pos_iff.mpr hn
 refine max_intList (I.ok.hd hc) pl.isList h0 fun v h' tk hv hk=>?_
 obtain ⟨t,rfl⟩:=intItems_at hv
 refine ⟨.int (numAt ys (argBest (fun i j=>decide (numAt ys i > numAt ys j)) (ys.size - 1))),H,I.kept hk,⟨t,rfl⟩,q _ ?_ fun x hx=>?_⟩
 · have hlt:=(Array.getElem?_eq_some_iff.mp hv).1
   generalize argBest (fun i j=>decide (numAt ys i > numAt ys j)) (ys.size - 1)=k at *
   have hk2:k<ys.size:=by simpa [intItems] using hlt
   rw [← e2]
   unfold numAt
   rw [Array.getElem?_eq_getElem hk2]
   exact List.mem_map.mpr ⟨ys[k],Array.getElem_mem_toList hk2,rfl⟩
 · rw [← e2] at hx
   obtain ⟨y,hy,rfl⟩:=List.mem_map.mp hx
   obtain ⟨j,hj,ej⟩:=List.getElem_of_mem hy
   have hj2:j<ys.size:=by simpa using hj
   have e3:numAt ys j=y.1:=by
    unfold numAt
    rw [Array.getElem?_eq_getElem hj2]
    show (ys[j]).1=y.1
    rw [← ej,Array.getElem_toList]
   rw [← e3]
   exact (argBest_gt (numAt ys) (ys.size - 1)).2 j (by omega)
end
end L2
namespace Pw
noncomputable abbrev Mx:=(Int×Int)×List (Int×Int)
noncomputable def mxd:Mx:=((0,1),[])
noncomputable def mixQ (Ms:List Mx) (t:Nat):Rat:=qs Ms.length (fun i=>val (Ms.getD i mxd).1 * val ((Ms.getD i mxd).2.getD t (0,1)))
noncomputable def mixL (Ms:List Mx) (n:Nat):List (Int×Int):=(List.range n).map fun t=>ofQ (mixQ Ms t)
noncomputable def prodRow (Ms:List Mx) (t:Nat):List (Int×Int):=Ms.map fun M=>ftimes M.1 (M.2.getD t (0,1))
theorem qs_front (f:Nat→Rat) (n:Nat):qs (n+1) f=f 0+qs n (fun i=>f (i+1)):=by
 have h:=qs_cut f 1 n
 rw [Nat.add_comm 1 n] at h
 rw [h]
 have h1:qs 1 f=f 0:=by show qs 0 f+f 0=f 0;show (0:Rat)+f 0=f 0;grind
 rw [h1]
 congr 1
 exact qs_congr fun i _=>by rw [Nat.add_comm]
theorem mk_dvd2 {a b:Int} (hb:b≠0):(mk a b).2∣b:=by
 obtain ⟨⟨c1,g⟩,w⟩:=mk_spec (a:=a) (b:=b) hb
 have h:(mk a b).2∣(mk a b).1 * b:=⟨a,by rw [w,Int.mul_comm]⟩
 have g':Int.gcd (mk a b).2 (mk a b).1=1:=by rw [Int.gcd_comm];exact g
 have h2:=Int.natAbs_dvd_natAbs.mpr h
 rw [Int.natAbs_mul] at h2
 exact Int.natAbs_dvd_natAbs.mp (Nat.Coprime.dvd_of_dvd_mul_left (show Nat.Coprime _ _ from g') h2)
structure F01 (A:Int×Int):Prop where
 c:Canon A
 lo:0≤A.1
 hi:A.1≤A.2
 sz:L2.Sz2 100 A
structure MixOk (Ms:List Mx) (n:Nat) (D:Int):Prop where
 few:Ms.length≤12
 pos:0<Ms.length
 n12:n≤12
 dpos:0<D
 dsz:L2.Sz 700 D
 part:∀ M∈Ms,F01 M.1
 len:∀ M∈Ms,M.2.length=n
 row:∀ M∈Ms,∀ B∈M.2,F01 B
 dvd:∀ M∈Ms,∀ B∈M.2,M.1.2 * B.2∣D
theorem prodRow_len (Ms:List Mx) (t:Nat):(prodRow Ms t).length=Ms.length:=List.length_map ..
theorem MixOk.rw {Ms:List Mx} {n:Nat} {D:Int} (h:MixOk Ms n D) {t:Nat} (ht:t<n):L2.Rw (prodRow Ms t) Ms.length D 1:=by
 have key:∀ R∈prodRow Ms t,∃ A B:Int×Int,R=ftimes A B∧F01 A∧F01 B∧A.2 * B.2∣D:=fun R hR=>by
  obtain ⟨M,hM,rfl⟩:=List.mem_map.mp hR
  have hm:=L2.mem_getD (Bs:=M.2) (t:=t) (by rw [h.len M hM];exact ht)
  exact ⟨_,_,rfl,h.part M hM,h.row M hM _ hm,h.dvd M hM _ hm⟩
 refine ⟨prodRow_len ..,fun R hR=>?_,h.dpos,by decide,fun R hR=>?_,fun R hR=>?_,by rw [Int.one_mul];exact h.dsz.mono (by decide)⟩
 · obtain ⟨A,B,rfl,a,b,_⟩:=key R hR
   exact canon_ftimes (canon_ne a.c) (canon_ne b.c)
 · obtain ⟨A,B,rfl,a,b,d⟩:=key R hR
   exact Int.dvd_trans (mk_dvd2 (a:=A.1 * B.1) (b:=A.2 * B.2) (Int.mul_ne_zero (canon_ne a.c) (canon_ne b.c))) d
 · obtain ⟨A,B,rfl,a,b,d⟩:=key R hR
   have p2:0<A.2 * B.2:=Int.mul_pos a.c.1 b.c.1
   have lo:0≤(ftimes A B).1:=mk_nonneg p2 (Int.mul_nonneg a.lo b.lo)
   have hi:(ftimes A B).1≤(ftimes A B).2:=mk_le1 p2 (Int.mul_le_mul a.hi b.hi b.lo (Int.le_of_lt a.c.1))
   have:=(canon_ftimes (canon_ne a.c) (canon_ne b.c)).1
   omega
theorem MixOk.sum {Ms:List Mx} {n:Nat} {D:Int} (h:MixOk Ms n D) {t:Nat} (ht:t<n):qs Ms.length (fun i=>val ((prodRow Ms t).getD i (0,1)))=mixQ Ms t:=by
 refine qs_congr fun i hi=>?_
 have e1:(prodRow Ms t).getD i (0,1)=ftimes (Ms.getD i mxd).1 ((Ms.getD i mxd).2.getD t (0,1)):=by
  unfold prodRow
  rw [List.getD_eq_getElem?_getD,List.getD_eq_getElem?_getD,List.getElem?_map,List.getElem?_eq_getElem hi]
  rfl
 have hM:Ms.getD i mxd∈Ms:=by
  rw [List.getD_eq_getElem?_getD,List.getElem?_eq_getElem hi]
  exact List.getElem_mem hi
 have hm:=L2.mem_getD (Bs:=(Ms.getD i mxd).2) (t:=t) (by rw [h.len _ hM];exact ht)
 rw [e1,val_ftimes (canon_ne (h.part _ hM).c) (canon_ne (h.row _ hM _ hm).c)]
end Pw
namespace L2
open PySem PySem.Spec PyProof.Rows
noncomputable def spTotS (K:PySem.W.Frag):Sp:=fun vs H Q _=>∃ (b:Bool) (t:Addr) (us:List V) (As:List (Int×Int)) (n:Nat) (D C:Int),vs=[.ref t]∧Sq b K H t us∧FrL K H As us∧Rw As n D C∧n≤13∧∀ (r:Addr) (H':Hp),Same H H'→SqF K H' r (Pw.ofQ (Pw.qs n (fun t=>Pw.val (As.getD t (0,1)))))→(0<n→FrA K H' r (Pw.ofQ (Pw.qs n (fun t=>Pw.val (As.getD t (0,1))))))→Q (.ref r) H'
noncomputable def MixAt (K:PySem.W.Frag) (H:Hp) (L:Addr) (Ms:List Pw.Mx) (us:List V):Prop:=H L=some (.lst us)∧us.length=Ms.length∧∀ (i:Nat) (M:Pw.Mx),Ms[i]?=some M→∃ (q p l:Addr) (ws:List V),us[i]?=some (.ref q)∧H q=some (.tup [.ref p,.ref l])∧FrA K H p M.1∧H l=some (.tup ws)∧FrL K H M.2 ws
theorem MixAt.same {K:PySem.W.Frag} {H H':Hp} {L:Addr} {Ms:List Pw.Mx} {us:List V} (h:MixAt K H L Ms us) (s:Same H H'):MixAt K H' L Ms us:=⟨s _ _ h.1,h.2.1,fun i M hM=>by
 obtain ⟨q,p,l,ws,a,b,c,d,e⟩:=h.2.2 i M hM
 exact ⟨q,p,l,ws,a,s _ _ b,s _ _ c,s _ _ d,e.same s⟩⟩
noncomputable def spMixed (K:PySem.W.Frag):Sp:=fun vs H Q _=>∃ (L:Addr) (Ms:List Pw.Mx) (us:List V) (n:Nat) (D:Int),vs=[.ref L]∧MixAt K H L Ms us∧Pw.MixOk Ms n D∧∀ (t:Addr) (H':Hp) (ys:List V),Same H H'→H' t=some (.tup ys)→FrL K H' (Pw.mixL Ms n) ys→Q (.ref t) H'
end L2
namespace L2
open PySem PySem.Spec PyProof.Rows
noncomputable def MixE (K:PySem.W.Frag) (H:Hp) (Ms:List Pw.Mx) (us:List V):Prop:=us.length=Ms.length∧∀ (i:Nat) (M:Pw.Mx),Ms[i]?=some M→∃ (q p l:Addr) (ws:List V),us[i]?=some (.ref q)∧H q=some (.tup [.ref p,.ref l])∧FrA K H p M.1∧H l=some (.tup ws)∧FrL K H M.2 ws
theorem MixE.kl {K:PySem.W.Frag} {H H':Hp} {Ms:List Pw.Mx} {us:List V} (h:MixE K H Ms us) (s:KL H H'):MixE K H' Ms us:=⟨h.1,fun i M hM=>by
 obtain ⟨q,p,l,ws,a,b,c,d,e⟩:=h.2 i M hM
 exact ⟨q,p,l,ws,a,s.tup b,s.tup c,s.tup d,e.kp s⟩⟩
theorem MixE.nil {K:PySem.W.Frag} {H:Hp}:MixE K H [] []:=⟨rfl,fun i M hM=>by simp at hM⟩
theorem MixE.snoc {K:PySem.W.Frag} {H:Hp} {Ms:List Pw.Mx} {us:List V} (h:MixE K H Ms us) {M:Pw.Mx} {q p l:Addr} {ws:List V} (b:H q=some (.tup [.ref p,.ref l])) (c:FrA K H p M.1) (d:H l=some (.tup ws)) (e:FrL K H M.2 ws):MixE K H (Ms ++ [M]) (us ++ [.ref q]):=by
 refine ⟨by rw [List.length_append,List.length_append,h.1];rfl,fun i M' hM=>?_⟩
 by_cases hi:i<Ms.length
 · rw [List.getElem?_append_left hi] at hM
   obtain ⟨q,p,l,ws,a,r⟩:=h.2 i M' hM
   exact ⟨q,p,l,ws,by rw [List.getElem?_append_left (by rw [h.1];exact hi)];exact a,r⟩
 · have hl:=(List.getElem?_eq_some_iff.mp hM).1
   rw [List.length_append,List.length_singleton] at hl
   have ei:i=Ms.length:=by omega
   subst ei
   rw [List.getElem?_append_right (Nat.le_refl _),Nat.sub_self] at hM
   cases hM
   refine ⟨q,p,l,ws,?_,b,c,d,e⟩
   rw [← h.1,List.getElem?_append_right (Nat.le_refl _),Nat.sub_self];rfl
theorem MixE.at {K:PySem.W.Frag} {H:Hp} {L:Addr} {Ms:List Pw.Mx} {us:List V} (h:MixE K H Ms us) (e:H L=some (.lst us)):MixAt K H L Ms us:=⟨e,h⟩
theorem lps_f01 {pages:Int} {ws:List Int} (h:Wts pages ws) (hp:pages≤12):∀ B∈lps ws,Pw.F01 B:=fun B hB=>by
 refine ⟨lps_canon h B hB,lps_nn h B hB,?_,(lps_sz h hp B hB).mono (by decide)⟩
 obtain ⟨w,hw,rfl⟩:=List.mem_map.mp hB
 exact Pw.mk_le1 h.pos (le_sum (fun n hn=>(h.nn n hn).1) hw)
theorem lps_dvd {pages:Int} {ws:List Int} (h:Wts pages ws):∀ B∈lps ws,B.2∣ws.sum:=fun B hB=>by
 obtain ⟨w,hw,rfl⟩:=List.mem_map.mp hB
 exact Pw.mk_dvd2 (by have:=h.pos;omega)
structure Ptd (pages:Int) (ws:List Int) (Ms:List Pw.Mx) (P:Int):Prop where
 len:Ms.length≤ws.length
 part:∀ i,i<Ms.length→(Ms.getD i Pw.mxd).1=(lps ws).getD i (0,1)
 rows:∀ M∈Ms,∃ vs:List Int,Wts pages vs∧M.2=lps vs∧vs.sum∣P
 pos:0<P
 sz:Sz (41 * Ms.length+1) P
theorem Ptd.nil {pages:Int} {ws:List Int}:Ptd pages ws [] 1:=⟨Nat.zero_le _,fun i hi=>by simp at hi,fun M hM=>by simp at hM,by decide,sz_of 1 (by decide)⟩
theorem Ptd.snoc {pages:Int} {ws vs:List Int} {Ms:List Pw.Mx} {P:Int} (h:Ptd pages ws Ms P) (hl:Ms.length<ws.length) (hp:pages≤12) (wt:Wts pages vs):Ptd pages ws (Ms ++ [((lps ws).getD Ms.length (0,1),lps vs)]) (P * vs.sum):=by
 refine ⟨by rw [List.length_append,List.length_singleton];omega,fun i hi=>?_,fun M hM=>?_,Int.mul_pos h.pos wt.pos,?_⟩
 · rw [List.length_append,List.length_singleton] at hi
   by_cases e:i<Ms.length
   · rw [← h.part i e,List.getD_eq_getElem?_getD,List.getElem?_append_left e,List.getD_eq_getElem?_getD]
   · have:i=Ms.length:=by omega
     subst this
     rw [List.getD_eq_getElem?_getD,List.getElem?_append_right (Nat.le_refl _),Nat.sub_self];rfl
 · rcases List.mem_append.mp hM with hM | hM
   · obtain ⟨vs',a,b,c⟩:=h.rows M hM
     exact ⟨vs',a,b,Int.dvd_trans c (Int.dvd_mul_right ..)⟩
   · simp at hM
     subst hM
     exact ⟨vs,wt,rfl,Int.dvd_mul_left ..⟩
 · rw [List.length_append,List.length_singleton]
   exact (h.sz.mul (wt.sz hp)).mono (by omega)
theorem Ptd.ok {pages k:Int} {ws:List Int} {Ms:List Pw.Mx} {P:Int} (h:Ptd pages ws Ms P) (hk:Wts k ws) (k0:1≤k) (k12:k≤12) (p0:1≤pages) (p12:pages≤12) (hl:Ms.length=ws.length):Pw.MixOk Ms pages.toNat (ws.sum * P):=by
 have hwl:=hk.len
 have part:∀ M∈Ms,M.1∈lps ws:=fun M hM=>by
  obtain ⟨i,hi,rfl⟩:=List.getElem_of_mem hM
  have e:=h.part i hi
  rw [List.getD_eq_getElem?_getD,List.getElem?_eq_getElem hi] at e
  show Ms[i].1∈_
  have e:Ms[i].1=(lps ws).getD i (0,1):=e
  rw [e]
  exact mem_getD (by rw [lps_len];omega)
 refine ⟨by omega,by omega,by omega,Int.mul_pos hk.pos h.pos,((hk.sz k12).mul h.sz).mono (by omega),fun M hM=>lps_f01 hk k12 _ (part M hM),fun M hM=>?_,fun M hM B hB=>?_,fun M hM B hB=>?_⟩
 · obtain ⟨vs,wt,e,_⟩:=h.rows M hM
   rw [e,lps_len]
   have:=wt.len
   omega
 · obtain ⟨vs,wt,e,_⟩:=h.rows M hM
   rw [e] at hB
   exact lps_f01 wt p12 B hB
 · obtain ⟨vs,wt,e,d⟩:=h.rows M hM
   rw [e] at hB
   exact Int.mul_dvd_mul (lps_dvd hk _ (part M hM)) (Int.dvd_trans (lps_dvd wt _ hB) d)
theorem Ptd.one {pages k:Int} {ws:List Int} {Ms:List Pw.Mx} {P:Int} (h:Ptd pages ws Ms P) (hk:Wts k ws) (hl:Ms.length=ws.length):Pw.qs pages.toNat (fun t=>Pw.mixQ Ms t)=1:=by
 unfold Pw.mixQ
 rw [Pw.qs_swap (fun t i=>Pw.val (Ms.getD i Pw.mxd).1 * Pw.val ((Ms.getD i Pw.mxd).2.getD t (0,1)))]
 have e:∀ i,i<Ms.length→Pw.qs pages.toNat (fun t=>Pw.val (Ms.getD i Pw.mxd).1 * Pw.val ((Ms.getD i Pw.mxd).2.getD t (0,1)))=Pw.val ((lps ws).getD i (0,1)):=fun i hi=>by
  have hM:Ms.getD i Pw.mxd∈Ms:=by
   rw [List.getD_eq_getElem?_getD,List.getElem?_eq_getElem hi]
   exact List.getElem_mem hi
  obtain ⟨vs,wt,e,_⟩:=h.rows _ hM
  rw [Pw.qs_mul,e,h.part i hi]
  have hv:=wt.len
  rw [show pages.toNat=vs.length by omega,lps_sum wt]
  grind
 rw [Pw.qs_congr e,hl]
 exact lps_sum hk
end L2
namespace Pw
end Pw
namespace L2
open PySem PySem.Spec PyProof.Rows
end L2
namespace Pw
theorem val_mul2 {A:Int×Int} (h:0<A.2):val A * (A.2:Rat)=(A.1:Rat):=by
 unfold val
 have:=cpos h
 have:(A.2:Rat)≠0:=by grind
 grind
theorem num_nn {A:Int×Int} (h:0<A.2) (v:0≤val A):0≤A.1:=by
 have e:=val_mul2 h
 have:(0:Rat)≤val A * (A.2:Rat):=Rat.mul_nonneg v (Rat.le_of_lt (cpos h))
 rw [e] at this
 exact_mod_cast this
theorem num_le {A:Int×Int} (h:0<A.2) (v:val A≤1):A.1≤A.2:=by
 have e:=val_mul2 h
 have:val A * (A.2:Rat)≤1 * (A.2:Rat):=mul_le_r v (Rat.le_of_lt (cpos h))
 rw [e,Rat.one_mul] at this
 exact_mod_cast this
theorem MixOk.qnn {Ms:List Mx} {n:Nat} {D:Int} (h:MixOk Ms n D) {t:Nat} (ht:t<n):0≤mixQ Ms t:=by
 refine qs_nonneg fun i hi=>?_
 have hM:Ms.getD i mxd∈Ms:=by
  rw [List.getD_eq_getElem?_getD,List.getElem?_eq_getElem hi]
  exact List.getElem_mem hi
 have hm:=L2.mem_getD (Bs:=(Ms.getD i mxd).2) (t:=t) (by rw [h.len _ hM];exact ht)
 have a:=h.part _ hM
 have b:=h.row _ hM _ hm
 exact Rat.mul_nonneg (val_nn a.c.1 a.lo) (val_nn b.c.1 b.lo)
theorem MixOk.q1 {Ms:List Mx} {n:Nat} {D:Int} (h:MixOk Ms n D) (one:qs n (fun t=>mixQ Ms t)=1) {t:Nat} (ht:t<n):mixQ Ms t≤1:=by
 rw [← one]
 exact qs_ge (f:=fun t=>mixQ Ms t) ht fun i hi=>h.qnn hi
theorem MixOk.each {Ms:List Mx} {n:Nat} {D:Int} (h:MixOk Ms n D) (one:qs n (fun t=>mixQ Ms t)=1):∀ R∈mixL Ms n,Canon R∧0≤R.1∧R.1≤R.2∧R.2∣D∧L2.Sz2 2004 R:=fun R hR=>by
 obtain ⟨t,ht,rfl⟩:=List.mem_map.mp hR
 have ht:=List.mem_range.mp ht
 have c:=ofQ_canon (mixQ Ms t)
 have rw:=h.rw ht
 refine ⟨c,num_nn c.1 (by rw [val_ofQ];exact h.qnn ht),num_le c.1 (by rw [val_ofQ];exact h.q1 one ht),?_,?_⟩
 · have hb:=Bd.qs (n:=Ms.length) (D:=D) (C:=((1:Int):Rat)) (f:=fun i=>val ((prodRow Ms t).getD i (0,1))) fun i hi=>rw.bd (L2.mem_getD (by have:=rw.len;omega))
   rw [h.sum ht] at hb
   obtain ⟨z,hz⟩:=hb.int
   have:=den_dvd (by have:=h.dpos;omega) hz
   exact this
 · have:=L2.sum_szR rw (by have:=h.few;omega) (j:=Ms.length) (Nat.le_refl _)
   rw [h.sum ht] at this
   exact this
end Pw
open PySem PySem.Spec PyProof PyProof.Rows
namespace L2
section
variable {prog:Program} {w:World} {A:Around} {E:Value→Shared→Prop} {s:Shared}
end
section
variable {X:Cx}
end
end L2
open PySem PySem.Spec PyProof PyProof.Rows
namespace L2
section
variable {X:Cx}
end
end L2
namespace L2
open PySem PySem.Spec PyProof.Rows PySem.W
section
variable {prog:Program} {w:World} {A:Around} {E:Value→Shared→Prop} {s:Shared}
end
section
variable {X:Cx} {pins:List (Addr×Obj)} {σ:St} {H:Hp} {s:Shared}
end
section
variable {X:Cx}
end
end L2
open PySem PySem.Spec PyProof PyProof.Rows
namespace L2
section
variable {X:Cx} {pins:List (Addr×Obj)} {σ:St} {H:Hp} {s:Shared}
end
section
variable {X:Cx}
end
end L2
open PySem PySem.Spec PyProof PyProof.Rows
namespace L2
section
variable {X:Cx}
end
theorem Prs.take {K:PySem.W.Frag} {H:Hp}:∀ {ps:List (Int×Int)} {vs:List V} (i:Nat),Prs K H ps vs→Prs K H (ps.take i) (vs.take i)
 | [],vs,i,h=>by
   simp only [Prs,List.map_nil,Dens] at h
   subst h
   rw [List.take_nil,List.take_nil]
   exact prs_nil
 | p :: ps,vs,0,h=>by rw [List.take_zero,List.take_zero];exact prs_nil
 | p :: ps,vs,i+1,h=>by
   obtain ⟨a,r,rfl,hq,hr⟩:=prs_uncons h
   rw [List.take_succ_cons,List.take_succ_cons]
   exact prs_cons hq (Prs.take i hr)
theorem Prs.drop {K:PySem.W.Frag} {H:Hp}:∀ {ps:List (Int×Int)} {vs:List V} (i:Nat),Prs K H ps vs→Prs K H (ps.drop i) (vs.drop i)
 | [],vs,i,h=>by
   simp only [Prs,List.map_nil,Dens] at h
   subst h
   rw [List.drop_nil,List.drop_nil]
   exact prs_nil
 | p :: ps,vs,0,h=>by rw [List.drop_zero,List.drop_zero];exact h
 | p :: ps,vs,i+1,h=>by
   obtain ⟨a,r,rfl,hq,hr⟩:=prs_uncons h
   rw [List.drop_succ_cons,List.drop_succ_cons]
   exact Prs.drop i hr
end L2
namespace Pw
section
variable {ps ms:List (Int×Int)} {A:Int×Int} {Bs Ss:List (Int×Int)} {n:Nat}
end
theorem qs_const (e:Rat):∀ n:Nat,qs n (fun _=>e)=(n:Rat) * e
 | 0=>by show (0:Rat)=((0:Nat):Rat) * e;simp
 | n+1=>by
   show qs n (fun _=>e)+e=_
   rw [qs_const e n]
   have:((n+1:Nat):Rat)=(n:Rat)+1:=by push_cast;rfl
   rw [this];grind
end Pw
namespace Pw
section
variable {n:Nat} {A:Int×Int} {x y:Nat}
end
end Pw
open PySem PySem.Spec PyProof PyProof.Rows
namespace L2
section
variable {n:Nat} {A:Int×Int} {x y:Nat}
end
noncomputable def spEvenW (K:PySem.W.Frag):Sp:=fun vs H Q _=>∃ (wa:Addr) (n:Nat) (r:List V),vs=[.ref wa]∧H wa=some (.tup (.int (n:Int) :: r))∧1≤n∧n≤12 ∧
 ∀ (q:Addr) (H':Hp) (us:List V),Same H H'→H' q=some (.tup us)→FrL K H' (List.replicate n (1,(n:Int))) us→Q (.ref q) H'
end L2
open PySem PySem.Spec PyProof PyProof.Rows
namespace L2
end L2
namespace Pw
end Pw
open PySem PySem.Spec PyProof PyProof.Rows
namespace L2
section
variable {X:Cx}
end
end L2
namespace Pw
section
variable {ps ms:List (Int×Int)} {A:Int×Int} {Bs Ss:List (Int×Int)} {n:Nat}
end
end Pw
open PySem PySem.Spec PyProof PyProof.Rows
namespace L2
end L2
open PySem PySem.Spec PyProof PyProof.Rows
namespace Pw
end Pw
namespace L2
section
variable {ord:List Nat} {n:Nat} {Bs:List (Int×Int)}
end
end L2
open PySem PySem.Spec PyProof PyProof.Rows
namespace Pw
end Pw
namespace L2
section
variable {K:PySem.W.Frag} {a:Addr} {xs:List V} {g:TG}
end
end L2
open PySem PySem.Spec PyProof PyProof.Rows
namespace Pw
end Pw
namespace L2
end L2
open PySem PySem.Spec PyProof PyProof.Rows
namespace L2
section
variable {X:Cx}
end
end L2
open PySem PySem.Spec PyProof PyProof.Rows
namespace L2
section
variable {X:Cx}
end
end L2
open PySem PySem.Spec PyProof PyProof.Rows
namespace Pw
end Pw
namespace L2
open Pw
section
variable {X:Cx}
end
end L2
open PySem PySem.Spec PyProof PyProof.Rows
namespace L2
end L2
open PySem PySem.Spec PyProof PyProof.Rows
namespace Pw
end Pw
open PySem PySem.Spec PyProof PyProof.Rows
namespace Pw
variable {ps ms:List (Int×Int)} {A:Int×Int} {Bs Ss:List (Int×Int)} {n:Nat} {S:Int}
end Pw
namespace L2
open Pw
variable {K:PySem.W.Frag} {H:Hp} {w lp ls:Addr} {n x y:Nat} {A:Int×Int} {us:List V} {S:Int}
end L2
open PySem PySem.Spec PyProof PyProof.Rows
namespace L2
open Pw
variable {K:PySem.W.Frag} {H:Hp} {w lp ls:Addr} {n x0 x1:Nat} {ps:List (Int×Int)} {A:Int×Int} {us:List V} {S:Int}
end L2
open PySem PySem.Spec PyProof PyProof.Rows
namespace L2
open Pw
section
variable {X:Cx}
end
end L2
open PySem PySem.Spec PyProof PyProof.Rows
namespace Pw
end Pw
open PySem PySem.Spec PyProof PyProof.Rows
namespace Pw
end Pw
open PySem PySem.Spec PyProof PyProof.Rows
namespace Pw
section
variable {ps:List (Int×Int)} {A:Int×Int} {Bs Ss:List (Int×Int)} {n:Nat} {S:Int} {t:Nat→Nat→Int} {dn:Nat→Int}
end
end Pw
open PySem PySem.Spec PyProof PyProof.Rows
namespace Pw
end Pw
namespace L2
section
variable {X:Cx} {K:PySem.W.Frag}
end
end L2
open PySem PySem.Spec PyProof PyProof.Rows
namespace L2
end L2
open PySem PySem.Spec PyProof PyProof.Rows
namespace Pw
end Pw
namespace L2
section
variable {X:Cx}
end
end L2
namespace Pw
end Pw
open PySem PySem.Spec PyProof PyProof.Rows
namespace L2
end L2
open PySem PySem.Spec PyProof PyProof.Rows
namespace L2
end L2
open PySem PySem.Spec PyProof PyProof.Rows
namespace Pw
section
variable {ps ms:List (Int×Int)} {A:Int×Int} {Bs Ss Ts:List (Int×Int)} {n:Nat} {S:Int}
end
end Pw
open PySem PySem.Spec PyProof PyProof.Rows
namespace L2
end L2
open PySem PySem.Spec PyProof PyProof.Rows
namespace L2
noncomputable def FnAt (K:PySem.W.Frag) (n:Str) (st:Stmt):Prop:=∃ f fd,PySem.W.nsIn K mainGlobals n=some (some (.ref f))∧Fun K n n st f fd
theorem FnAt.of {K:PySem.W.Frag} {n:Str} {st:Stmt} {f:Addr} {oc:Value} {od an:Option Addr} {osl:Array (Option Value)} {kV doc pm cdv ct:Value} (a:PySem.W.nsIn K mainGlobals n=some (some (.ref f))) (l:K.lookup f=some ⟨oc,od,.func (PySem.W.fnOf n n (defArgs st) (defBody st) (defScope st) .none kV doc pm an cdv ct),osl⟩)
 (c:PySem.W.codeIn K cdv n=true) (k:PySem.W.keepIn K (.ref f)=true):FnAt K n st:=⟨_,_,a,fun_mk l c k⟩
theorem FnAt.fnd {K:PySem.W.Frag} {h:Heap} {mg:Str→Option Value} {n:Str} {st:Stmt} (ps:List Str) (x:FnAt K n st) (XK:K.In h) (G:h.Ns mainGlobals mg)
 (b:∀ (kV doc pm:Value) (an:Option Addr) (cdv ct:Value) (us:List Value),us.length=ps.length→bindArgs (PySem.W.fnOf n n (defArgs st) (defBody st) (defScope st) .none kV doc pm an cdv ct) ⟨us,[]⟩=pure (ps.zip us)):Fnd K mg n st ps:=by
 obtain ⟨f,fd,a,F⟩:=x
 exact ⟨f,fd,F,PySem.W.mg_of XK G a,F.binds b⟩
end L2
open PySem PySem.Spec PyProof PyProof.Rows
namespace Pw
section
variable {ps:List (Int×Int)} {A:Int×Int} {Bs Ss:List (Int×Int)} {n:Nat} {S:Int}
variable {L st:Int} {E:Nat→Option Int}
end
end Pw
open PySem PySem.Spec PyProof PyProof.Rows
namespace Pw
section
variable {ps:List (Int×Int)} {A:Int×Int} {Bs Ss:List (Int×Int)} {n z:Nat} {S L st:Int} {E:Nat→Option Int}
end
end Pw
namespace L2
end L2
open PySem PySem.Spec PyProof PyProof.Rows
namespace L2
section
variable {X:Cx}
end
end L2
open PySem PySem.Spec PyProof PyProof.Rows
namespace Pw
section
variable {ps:List (Int×Int)} {A:Int×Int} {Bs Ss:List (Int×Int)} {n:Nat} {S:Int}
end
end Pw
namespace L2
end L2
open PySem PySem.Spec PyProof PyProof.Rows
namespace Pw
section
variable {ps:List (Int×Int)} {A:Int×Int} {Bs Ss:List (Int×Int)} {n:Nat} {S:Int}
end
end Pw
namespace L2
end L2
open PySem PySem.Spec PyProof PyProof.Rows
namespace Pw
section
variable {ps:List (Int×Int)} {A:Int×Int} {Bs Ss:List (Int×Int)} {n:Nat} {S:Int}
end
end Pw
open PySem PySem.Spec PyProof PyProof.Rows
namespace L2
end L2
namespace Srt
open PySem PySem.W PyProof.Rows
section
variable {lt:Nat→Nat→Bool} (O:Ord lt)
end
end Srt
namespace Pw
section
variable {ps:List (Int×Int)} {A:Int×Int} {Bs:List (Int×Int)} {S:Int} {n:Nat}
end
end Pw
open PySem PySem.Spec PyProof PyProof.Rows
namespace L2
end L2
namespace Pw
open L2
end Pw
namespace L2
end L2
namespace L2
end L2
namespace L2
end L2
namespace Pw
open L2
end Pw
namespace Lng
open PySem PyProof.Rows PySem.W
section
variable {prog:Program} {w:World} {A:Around} {E:Value→Shared→Prop} {s:Shared} {a₀:Array Keyed} {κ:SortKind}
end
end Lng
namespace Lng
open PySem PyProof.Rows PySem.W
section
variable {prog:Program} {w:World} {A:Around} {E:Value→Shared→Prop} {s:Shared} {a₀:Array Keyed} {κ:SortKind}
end
end Lng
namespace L2
open PySem PySem.Spec PyProof.Rows PySem.W
section
variable {prog:Program} {w:World} {A:Around} {E:Value→Shared→Prop} {s:Shared}
end
section
variable {X:Cx}
end
end L2
namespace Pw
open L2
section
variable {ps ms:List (Int×Int)} {A:Int×Int} {Bs Ss:List (Int×Int)} {S:Int} {n:Nat}
end
end Pw
namespace L2
open PySem PySem.Spec PyProof.Rows PySem.W
section
variable {X:Cx}
end
end L2
namespace L2
open PySem PySem.Spec PyProof.Rows PySem.W
section
variable {prog:Program} {w:World} {A:Around} {E:Value→Shared→Prop} {s:Shared}
end
section
variable {prog:Program} {w:World} {A:Around} {R:Result→Shared→Prop} {I:Addr} {fp wr:List Addr} {G:Array GenState→Array GenState→Prop} {n:Nat} {P:Nat→Value→Prop} {St:Nat→Shared→Prop}
end
end L2
namespace L2
open PySem PySem.Spec PyProof.Rows PySem.W
section
variable {prog:Program} {w:World} {A:Around} {E:Value→Shared→Prop} {s:Shared}
noncomputable abbrev freshSet (led:Bool):Obj:={ cls:=.type "set",dict:=none,data:=.set #[] 0 (.fresh 0 0 led) }
end
end L2
namespace L2
open PySem PySem.Spec PyProof.Rows PySem.W
section
variable {X:Cx}
theorem boot_set:bootBuiltins "set"=some (.type "set"):=by decide +kernel
end
end L2
open PySem PySem.Spec PyProof PyProof.Rows
namespace Pw
section
variable {ps ms:List (Int×Int)} {A:Int×Int} {Bs Ss:List (Int×Int)} {n:Nat} {S:Int}
end
end Pw
open PySem PySem.Spec PyProof PyProof.Rows
namespace L2
section
variable {X:Cx}
end
end L2
namespace Pw
open L2
section
variable {ps:List (Int×Int)} {A:Int×Int} {Bs Ss:List (Int×Int)} {n:Nat} {S L:Int}
end
end Pw
namespace L2
open PySem PySem.Spec PyProof.Rows PySem.W
section
variable {prog:Program} {w:World} {A:Around} {E:Value→Shared→Prop} {s:Shared}
end
section
variable {X:Cx} {pins:List (Addr×Obj)} {σ:St} {H:Hp} {s:Shared}
end
end L2
namespace L2
open PySem PySem.Spec PyProof PyProof.Rows PySem.W
section
variable {prog:Program} {w:World} {A:Around} {E:Value→Shared→Prop} {s:Shared}
variable {h₀:Heap} {L:Addr} {m:Str→Option Value} {news:List (Addr×Obj)}
end
end L2
namespace L2
open PySem PySem.Spec PyProof PyProof.Rows PySem.W
section
variable {prog:Program} {w:World} {A:Around} {h₀:Heap} {L kS D:Addr} {m:Str→Option Value} {news:List (Addr×Obj)} {f:Addr} {e1:Nat} {s:Shared} {vs:List Value} {n:Nat} {key:Nat→Int} {Fin:List Value→Nat→Shared→Prop}
end
section
variable {X:Cx} {pins:List (Addr×Obj)} {σ:St} {H:Hp} {s:Shared}
end
end L2
namespace L2
open PySem PySem.Spec PyProof PyProof.Rows PySem.W
section
variable {X:Cx} {pins:List (Addr×Obj)} {σ:St} {H:Hp} {s:Shared}
end
end L2
namespace L2
open PySem PySem.Spec PyProof PyProof.Rows PySem.W
end L2
namespace Pw
variable {Ss:List (Int×Int)} {n:Nat} {f l:List Nat}
end Pw
namespace L2
open PySem PySem.Spec PyProof PyProof.Rows PySem.W
section
variable {X:Cx}
end
end L2
namespace L2
open PySem PySem.Spec PyProof PyProof.Rows PySem.W
end L2
namespace Pw
end Pw
namespace Pw
variable {ps ms:List (Int×Int)} {A:Int×Int} {Bs Ss:List (Int×Int)} {n:Nat}
end Pw
namespace L2
end L2
namespace L2
open PySem PySem.Spec PyProof PyProof.Rows PySem.W
end L2
namespace Pw
variable {ord:List Nat} {n:Nat} {A:Int×Int} {Bs Cs Ds Ts:List (Int×Int)}
end Pw
namespace L2
end L2
namespace L2
open PySem PySem.Spec PyProof PyProof.Rows PySem.W
section
variable {X:Cx} {CX:CXT} {k:Nat} {C:Addr} {m:Str} {ps:List Str} {sp:Sp} {E:XK} {o e:Expr} {es:List Expr} {ta:TE} {t:TA} {p pos apos:Pos} {x:Str}
end
end L2
namespace L2
open PySem PySem.Spec PyProof PyProof.Rows PySem.W
end L2
namespace L2
open PySem PySem.Spec PyProof PyProof.Rows PySem.W
section
variable {X:Cx}
end
end L2
namespace L2
open PySem PySem.Spec PyProof PyProof.Rows PySem.W
section
variable {K:PySem.W.Frag} {C:Addr} {G G':Hp} {d p pd lp R wa f0:Addr} {W0:Wb} {A:Int×Int} {Ss:List (Int×Int)} {W W':Wb} {Ws Ws' Rs Rs':List Wb}
end
end L2
namespace L2
open PySem PySem.Spec PyProof PyProof.Rows PySem.W
end L2
namespace Pw
end Pw
namespace L2
open PySem PySem.Spec PyProof PyProof.Rows PySem.W
section
variable {K:PySem.W.Frag} {C:Addr} {pos:Pos} {G G':Hp} {d tb p1 pd1 p2 pd2 lp wa L:Addr} {W1 W1' W2 W2' W0:Wb} {Ws1 Ws1' Ws2 Ws2':List Wb} {A:Int×Int} {qs:List (Int×Int)}
end
end L2
namespace L2
open PySem PySem.Spec PyProof PyProof.Rows PySem.W
end L2
namespace L2
open PySem PySem.Spec PyProof PyProof.Rows PySem.W
section
variable {P:Program} {w:World} {C:Addr} {K:PySem.W.Frag} {mg:Str→Option Value} {base:Heap} {N:List Str} {qual:Str} {scope:Scope} {f:Addr} {cd:Value} {A:Around} {outer:List Env} {s:Shared} {H:Hp} {E:XK}
end
end L2
namespace L2
open PySem PySem.Spec PyProof PyProof.Rows PySem.W
section
variable {P:Program} {w:World} {C:Addr} {K:PySem.W.Frag} {mg:Str→Option Value} {base:Heap} {N:List Str} {qual:Str} {scope:Scope} {f:Addr} {cd:Value} {A:Around} {outer:List Env} {s:Shared} {H:Hp} {E:XK}
end
section
variable {X:Cx} {C a:Addr} {pins:List (Addr×Obj)} {Rx:Hp→Prop} {σ:St} {H:Hp} {s:Shared}
end
end L2
namespace L2
open PySem PySem.Spec PyProof PyProof.Rows PySem.W
end L2
namespace L2
open PySem PySem.Spec PyProof PyProof.Rows PySem.W
section
variable {K:PySem.W.Frag} {C:Addr} {G G':Hp} {d LL RR LP:Addr} {p pd lp R:Nat→Addr} {W:Nat→Wb} {Ws Rs:Nat→List Wb} {A:Nat→Int×Int}
end
end L2
namespace L2
open PySem PySem.Spec PyProof PyProof.Rows PySem.W
end L2
namespace L2
open PySem PySem.Spec PyProof PyProof.Rows PySem.W
end L2
namespace L2
open PySem PySem.Spec PyProof PyProof.Rows PySem.W
end L2
namespace L2
open PySem PySem.Spec PyProof PyProof.Rows PySem.W
section
open PySem.SeqAt
open PySem.AutoSeq1 (wpAny_loadPart')
open PySem.MeetsSeq PySem.MeetsSeq2 PySem.MeetsSeq3
end
section
variable {X:Cx}
end
end L2
namespace L2
open PySem PySem.Spec PyProof PyProof.Rows PySem.W
end L2
namespace L2
open PySem PySem.Spec PyProof PyProof.Rows PySem.W
section
variable {K:PySem.W.Frag} {C:Addr} {pos:Pos} {G G':Hp} {d tb p pd lp:Addr} {W W':Wb} {Ws Ws':List Wb} {A:Int×Int}
end
end L2
namespace Pw
end Pw
namespace L2
open PySem PySem.Spec PyProof PyProof.Rows PySem.W
section
variable {X:Cx}
end
end L2
namespace L2
open PySem PySem.Spec PyProof PyProof.Rows PySem.W
section
variable {K:PySem.W.Frag} {C:Addr} {pos:Pos} {G G':Hp} {d tb p pd lp R:Addr} {W W':Wb} {Ws Ws':List Wb} {A:Int×Int}
end
end L2
namespace L2
open PySem PySem.Spec PyProof PyProof.Rows PySem.W
section
variable {X:Cx} {pins:List (Addr×Obj)} {σ:St} {H:Hp} {s:Shared}
end
section
variable {X:Cx} {C D a:Addr} {oe:Obj} {pins:List (Addr×Obj)} {Rx:Hp→Prop} {σ:St} {H:Hp} {s:Shared}
end
end L2
namespace L2
open PySem PySem.Spec PySem.Calls PyProof PyProof.Rows PySem.W
section
variable {prog:Program} {w:World} {A:Around} {E:Value→Shared→Prop} {s:Shared} {K:Frag} {x D:Addr}
end
end L2
namespace L2
open PySem PySem.Spec PyProof PyProof.Rows PySem.W
section
variable {K:PySem.W.Frag} {C:Addr} {pos:Pos} {G G':Hp} {d tb p pd lp wa:Addr} {W W':Wb} {Ws Ws':List Wb} {W0:Wb} {A:Int×Int}
end
theorem kit_self {K:PySem.W.Frag} {t:Value}:PySem.W.kitOne K t t=some true:=by unfold PySem.W.kitOne;rw [if_pos (beq_self_eq_true _)]
end L2
namespace L2
open PySem PySem.Spec PyProof.Rows PySem.W
noncomputable def txE (e:Int×Value):Str:=match e.2 with
 | .str x _=>x
 | _=>⟨#[]⟩
noncomputable def SetT (w:World) (led:Bool) (h:Heap) (a:Addr) (xs:List Str):Prop:=∃ es ep t,h.get? a=some { cls:=.type "set",dict:=none,data:=.set es ep t,slots:=#[] }∧(∀ e∈es.toList,∃ x tk,e=(hashStr w x,Value.str x tk))∧(es.toList.map txE).Perm xs∧xs.Nodup∧es.size<scanBound∧t.fits es.size=true∧t.led=led∧(xs=[]∨t.plain=false)
theorem orStand_led (t:SetTable) (n:Nat):(t.orStandIn n).led=t.led:=by unfold SetTable.orStandIn;split <;> rfl
theorem layNew_led (t:SetTable) (es:Array (Int×Value)) (h:Int) (x:Value):(layNew t es h x).2.1.led=t.led:=by
 unfold layNew
 split
 · rw [orStand_led];rfl
 · rfl
theorem relaid_led {t t':SetTable} {hs:Array Int} {n:Nat} {o:Array Nat} (e:t.relaid hs n=some (t',o)):t'.led=t.led∧t'.plain=t.plain:=by
 unfold SetTable.relaid SetTable.laid at e
 obtain ⟨ow,_,e2⟩:=Option.bind_eq_some_iff.mp e
 cases e2
 exact ⟨rfl,rfl⟩
theorem relayAll_led (t:SetTable) (es:Array (Int×Value)) (n:Nat):(relayAll t es n).2.1.led=t.led∧(t.plain=false→(relayAll t es n).2.1.plain=false):=by
 unfold relayAll
 split
 · rename_i t' o e
   have:=relaid_led e
   dsimp only
   split
   · exact ⟨this.1,fun q=>this.2.trans q⟩
   · exact ⟨rfl,fun _=>rfl⟩
 · exact ⟨rfl,fun _=>rfl⟩
section
variable {prog:Program} {w:World} {A:Around} {E:Value→Shared→Prop} {s:Shared}
theorem SetT.elems {led:Bool} {es:Array (Int×Value)} (h:∀ e∈es.toList,∃ x tk,e=(hashStr w x,Value.str x tk)):ElemsOf (strKind prog w) es.toList:=fun e he=>by
 obtain ⟨x,tk,rfl⟩:=h e he
 exact ⟨⟨x,strKind_is prog w x tk,rfl⟩,rfl⟩
theorem set_put {a:Addr} {es es':Array (Int×Value)} {ep:Nat} {t t':SetTable} {h:Heap} (e:h.get? a=some { cls:=.type "set",dict:=none,data:=.set es ep t,slots:=#[] }) :
 (h.update a (Obj.putSet es' t')).get? a=some { cls:=.type "set",dict:=none,data:=.set es' (ep+1) t',slots:=#[] }:=by
 have:=Heap.get?_update_self (Obj.putSet es' t') e (by rw [putSet_of es' t' rfl];rfl)
 rw [putSet_of es' t' rfl] at this
 exact this
set_option maxHeartbeats 1600000 in
theorem add_text {a:Addr} {led:Bool} {xs:List Str} {x:Str} {tk:Tok} {Q:Bool→Shared→Prop} (hS:SetT w led s.heap a xs) (hroom:xs.length+1<scanBound)
 (h:∀ h' b,Heap.SameBut a s.heap h'→SetT w led h' a (if x∈xs then xs else xs ++ [x])→Q b { s with heap:=h' }):wpAny (model prog w) A (setAddHashed a (.str x tk) (hashStr w x)) Q E s:=by
 obtain ⟨es,ep,t,ho,hel,hp,nd,hb,hf,hl,hpl⟩:=id hS
 have hK:ElemsOf (strKind prog w) es.toList:=SetT.elems (led:=led) hel
 have hkey:=strKind_is prog w x tk
 have hsz:es.size=xs.length:=by rw [← hp.length_eq,List.length_map,Array.length_toList]
 have mem:x∈xs↔∃ e∈es.toList,(strKind prog w).is x e.2=true:=by
  rw [← hp.mem_iff,List.mem_map]
  constructor
  · rintro ⟨e,he,q⟩
    obtain ⟨y,u,rfl⟩:=hel e he
    refine ⟨_,he,?_⟩
    cases (show y=x from q)
    exact strKind_is prog w x u
  · rintro ⟨e,he,q⟩
    obtain ⟨y,u,rfl⟩:=hel e he
    exact ⟨_,he,(strKind prog w).inj _ _ _ (strKind_is prog w y u) q⟩
 unfold setAddHashed setAddHashedIn
 refine wpAny_holding (wpAny_bind (wpAny_setState_of ho rfl hf ?_))
 dsimp only
 rw [if_pos (byScan_of rfl hb hK)]
 unfold setAddByScan
 refine wpAny_bind (wpAny_bind (wpAny_rule (wpAny_bind (wpAny_setScan_of (k:=x) hkey ho rfl hf hK ?_))))
 cases hr:List.findIdx? (fun e=>(strKind prog w).is x e.2) es.toList with
 | some j =>
   obtain ⟨hj,hpj,_⟩:=List.findIdx?_eq_some_iff_getElem.mp hr
   have hin:x∈xs:=mem.mpr ⟨_,List.getElem_mem hj,hpj⟩
   rw [if_pos hin] at h
   exact wpAny_pure (wpAny_pure (h s.heap false (Heap.SameBut.refl a s.heap) hS))
 | none =>
   have hin:x∉xs:=fun z=>by
    obtain ⟨e,he,q⟩:=mem.mp z
    have:=List.findIdx?_eq_none_iff.mp hr e he
    rw [q] at this
    cases this
   rw [if_neg hin] at h
   dsimp only
   have hgw:∀ (b:Bool) {s₁:Shared} {Q':Unit→Shared→Prop},Q' () s₁→wpAny (model prog w) A (match b with | true=>rule "set.scan.the-table-gave-way" | false=>pure ()) Q' E s₁:=by
    intro b s₁ Q' hq
    cases b
    · exact wpAny_pure hq
    · exact wpAny_rule hq
   have q1:=layNew_perm t es (hashStr w x) (.str x tk)
   have q2:=layNew_fits t es (hashStr w x) (.str x tk)
   have q3:=layNew_led t es (hashStr w x) (.str x tk)
   show wpAny _ _ ((fun (L:Array (Int×Value)×SetTable×Bool×Bool)=>_) (layNew t es (hashStr w x) (.str x tk))) _ _ _
   generalize layNew t es (hashStr w x) (.str x tk)=L at q1 q2 q3 ⊢
   obtain ⟨es1,t1,wd,gave⟩:=L
   dsimp only at q1 q2 q3 ⊢
   rw [Array.toList_push] at q1
   have hel1:∀ e∈es1.toList,∃ y u,e=(hashStr w y,Value.str y u):=fun e he=>by
    rcases List.mem_append.mp (q1.mem_iff.mp he) with z | z
    · exact hel e z
    · exact ⟨x,tk,List.mem_singleton.mp z⟩
   have hp1:(es1.toList.map txE).Perm (xs ++ [x]):=(q1.map txE).trans (by rw [List.map_append];exact List.Perm.append_right _ hp)
   have nd1:(xs ++ [x]).Nodup:=List.nodup_append.mpr ⟨nd,by simp,fun y hy z hz e=>by rw [List.mem_singleton.mp hz] at e;exact hin (e ▸ hy)⟩
   have sz1:es1.size=xs.length+1:=by rw [← Array.length_toList,q1.length_eq,List.length_append,Array.length_toList,hsz];rfl
   have hb1:es1.size<scanBound:=by omega
   refine wpAny_bind (hgw gave ?_)
   have tail:∀ t2:SetTable,t2.fits es1.size=true→t2.led=led→t2.plain=false→∀ (g:Bool→Sem Unit),(∀ (b:Bool) {s₁:Shared} {Q':Unit→Shared→Prop},Q' () s₁→wpAny (model prog w) A (g b) Q' E s₁)→wpAny (model prog w) A (do
    storeSet a es1 t2
    if (!wd && t2.tooFull)=true then do
        g (relayAll t2 es1 (SetTable.grown es1.size)).2.2
        storeSet a (relayAll t2 es1 (SetTable.grown es1.size)).1 (relayAll t2 es1 (SetTable.grown es1.size)).2.1
        pure (some true)
     else pure (some true)) (fun r s'=>wpAny (model prog w) A (match r with | some added=>pure added | none=>setAddHashedIn a (.str x tk) (hashStr w x) 99999) Q E s') E s:=by
    intro t2 f2 l2 p2 g hg
    have hb1':=fits_of_scanBound hb1
    refine wpAny_bind (wpAny_storeSet_of ho rfl ?_ hb1')
    have o1:=set_put (es':=es1) (t':=t2) ho
    have sb1:=Heap.SameBut.update s.heap a (Obj.putSet es1 t2)
    split
    · have r1:=relayAll_perm t2 es1 (SetTable.grown es1.size)
      have r2:=relayAll_fits t2 es1 (SetTable.grown es1.size)
      have r3:=relayAll_led t2 es1 (SetTable.grown es1.size)
      generalize relayAll t2 es1 (SetTable.grown es1.size)=R at r1 r2 r3 ⊢
      obtain ⟨es2,t3,g2⟩:=R
      dsimp only at r1 r2 r3 ⊢
      have sz2:es2.size=es1.size:=by rw [← Array.length_toList,r1.length_eq,Array.length_toList]
      refine wpAny_bind (hg g2 (wpAny_bind (wpAny_storeSet_of o1 rfl ?_ (by rw [sz2];exact hb1'))))
      exact wpAny_pure (wpAny_pure (h _ true (sb1.trans (Heap.SameBut.update _ a _)) ⟨es2,_,t3,set_put o1,fun e he=>hel1 e (r1.mem_iff.mp he),(r1.map txE).trans hp1,nd1,by omega,r2,r3.1.trans l2,.inr (r3.2 p2)⟩))
    · exact wpAny_pure (wpAny_pure (h _ true sb1 ⟨es1,_,t2,o1,hel1,hp1,nd1,hb1,f2,l2,.inr p2⟩))
   cases hpl1:t1.plain with
   | true =>
     refine wpAny_bind (wpAny_of_eq (hashByValue_scannable 8 rfl) ?_)
     exact tail { t1 with plain:=false } (SetTable.fits_plain_off q2) (q3.trans hl) rfl _ hgw
   | false =>
     refine wpAny_bind (wpAny_pure ?_)
     exact tail t1 q2 (q3.trans hl) hpl1 _ hgw
end
end L2
namespace L2
open PySem PySem.Spec PyProof.Rows PySem.W
theorem SetT.keep {w:World} {led:Bool} {h h':Heap} {a:Addr} {xs:List Str} (x:SetT w led h a xs) (k:∀ o,h.get? a=some o→h'.get? a=some o):SetT w led h' a xs:=by
 obtain ⟨es,ep,t,e,r⟩:=x
 exact ⟨es,ep,t,k _ e,r⟩
noncomputable def MetX (val:Nat→Str) (i:Nat) (xs:List Str):Prop:=xs.length≤i∧∀ y,y∈xs↔∃ j,j<i∧val j=y
theorem MetX.next {val:Nat→Str} {i:Nat} {xs:List Str} (h:MetX val i xs):MetX val (i+1) (if val i∈xs then xs else xs ++ [val i]):=by
 obtain ⟨a,b⟩:=h
 by_cases hx:val i∈xs
 · rw [if_pos hx]
   refine ⟨by omega,fun y=>⟨fun z=>?_,fun ⟨j,hj,e⟩=>?_⟩⟩
   · obtain ⟨j,hj,e⟩:=(b y).mp z
     exact ⟨j,by omega,e⟩
   · by_cases q:j=i
     · rw [← e,q];exact hx
     · exact (b y).mpr ⟨j,by omega,e⟩
 · rw [if_neg hx]
   refine ⟨by rw [List.length_append,List.length_singleton];omega,fun y=>⟨fun z=>?_,fun ⟨j,hj,e⟩=>?_⟩⟩
   · rcases List.mem_append.mp z with z | z
     · obtain ⟨j,hj,e⟩:=(b y).mp z
       exact ⟨j,by omega,e⟩
     · exact ⟨i,by omega,(List.mem_singleton.mp z).symm⟩
   · by_cases q:j=i
     · rw [← e,q];exact List.mem_append_right _ (List.mem_singleton.mpr rfl)
     · exact List.mem_append_left _ ((b y).mpr ⟨j,by omega,e⟩)
section
variable {prog:Program} {w:World} {A:Around} {R:Result→Shared→Prop} {I:Addr} {fp wr:List Addr} {G:Array GenState→Array GenState→Prop} {n:Nat} {P:Nat→Value→Prop} {St:Nat→Shared→Prop}
theorem txt_loop (W:WalksS prog w A.in1 I fp wr G n P St) (S:Addr) (hSf:S∉fp) (led:Bool) (val:Nat→Str) (hval:∀ i v,P i v→∃ t,v=.str (val i) t) (hb:n+1<scanBound) :
 ∀ (k i:Nat) (s:Shared) (xs:List Str),n - i=k→i≤n→St i s→SetT w led s.heap S xs→MetX val i xs →
   (∀ s' ys,Moved (S :: wr) G s s'→SetT w led s'.heap S ys→MetX val n ys→R (.ok (.ret .none)) s') →
   codeAny (model prog w) A (.builtin "set.update.loop" ⟨[.ref S,.ref I],[]⟩) R s:=by
 have hSw:S∉wr:=fun h=>hSf (W.sub _ h)
 have hsub:∀ b∈wr,b∈S :: wr:=fun b hb=>List.mem_cons_of_mem _ hb
 intro k
 induction k with
 | zero =>
   intro i s xs hk hi hst hS hM hR
   obtain rfl:i=n:=by omega
   refine codeAny_builtin PyProof.Rows.F.entry_set_update_loop ?_
   rw [Around.under_plainId PyProof.Rows.F.plain_set_update_loop _]
   show wpAny _ A.in1 (pyNext (.ref I) >>= _) _ _ s
   refine wpAny_bind (W.done s _ _ hst fun s' hm=>?_)
   show wpAny _ A.in1 (ret Value.none) _ _ s'
   exact wpAny_pure (hR s' xs (hm.mono hsub) (hS.keep fun o e=>hm.heap S o hSw e) hM)
 | succ k ih =>
   intro i s xs hk hi hst hS hM hR
   have hlt:i<n:=by omega
   refine codeAny_builtin PyProof.Rows.F.entry_set_update_loop ?_
   rw [Around.under_plainId PyProof.Rows.F.plain_set_update_loop _]
   show wpAny _ A.in1 (pyNext (.ref I) >>= _) _ _ s
   refine wpAny_bind (W.item i s _ _ hlt hst fun v s' hP hst' hm=>?_)
   obtain ⟨t,rfl⟩:=hval i v hP
   have hS':=hS.keep fun o e=>hm.heap S o hSw e
   show wpAny _ A.in1 (holding [Value.str (val i) t] (setAdd S (.str (val i) t)) >>= _) _ _ s'
   refine wpAny_bind (wpAny_holding ?_)
   unfold setAdd
   refine wpAny_holding (wpAny_bind ((strKind prog w).pyHash (k:=val i) (strKind_is prog w (val i) t) ?_))
   refine add_text (s:={ s' with toks:=s'.toks+1 }) hS' (by have:=hM.1;omega) fun h' b hsb hS2=>?_
   refine wpAny_pure ⟨plainId_quiet PyProof.Rows.F.plain_set_update_loop _,ih (i+1) _ _ (by omega) hlt (W.frame _ s' _ _ hst' (Nat.le_add_right _ _) fun b hb o e=>?_) hS2 hM.next fun s'' ys hm'' hS''=>?_⟩
   · rw [hsb.2 b (fun h:b=S=>hSf (by rw [← h];exact hb))];exact e
   · refine hR s'' ys (Moved.trans W.gtrans ((hm.mono hsub).then_heap (Nat.le_add_right _ _) fun b o hb e=>?_) hm'') hS''
     rw [hsb.2 b (fun h:b=S=>hb (by rw [h];exact List.mem_cons_self))];exact e
end
noncomputable def byTx (w:World):Bool:=w.params.followText "set-order"
section
variable {prog:Program} {w:World} {A:Around} {E:Value→Shared→Prop} {s:Shared}
theorem set_newL (a:Value) {Q₁:Value→Shared→Prop} (h:Q₁ (.ref s.heap.objs.size) { s with heap:=s.heap.push (freshSet (!byTx w)) }):codeAny (model prog w) A (.call (.builtin "set.__new__") ⟨[.type "set",a],[]⟩) (wants Q₁ E) s:=by
 refine codeAny_of_tree ?_
 show wpAny _ A.in1 (do checkBuiltinCall "set.__new__" ⟨[.type "set",a],[]⟩;(again (.builtin "set.__new__" ⟨[.type "set",a],[]⟩))) _ _ s
 refine wpAny_bind (wpAny_of_eq (PySem.F.newCall_set_1 a) (wpAny_pure ⟨plainId_quiet F.plain_set_new _,codeAny_builtin F.entry_set_new (?_)⟩))
 rw [Around.under_plainId (F.plain_set_new) _]
 unfold Builtin.«set.__new__» Builtin.Frozenset.newClass
 have hsub:=sub_set_self
 obtain ⟨hp,g,d,tk,os⟩:=s
 dsimp only
 wp_walk
 refine wpAny_askSetting (wpAny_pure ?_)
 dsimp only
 simp only [newObj]
 exact wpAny_bind (wpAny_alloc (wpAny_pure (wpAny_pure h)))
noncomputable def ltr (x:Str) (i:Nat):Str:=⟨#[x.cps.getD i 0]⟩
theorem ltr_of {x:Str} {i:Nat} {v:Value} (h:SignAt x i v):∃ t,v=.str (ltr x i) t:=by
 obtain ⟨c,u,e,rfl⟩:=h
 refine ⟨u,?_⟩
 unfold ltr
 rw [Array.getD_eq_getD_getElem?,e]
 rfl
theorem setT_fresh (led:Bool) (h:Heap):SetT w led (h.push (freshSet led)) h.objs.size [] :=
 ⟨#[],0,.fresh 0 0 led,Heap.get?_push_size _ rfl,fun e he=>by simp at he,by simp,.nil,by decide,rfl,rfl,.inl rfl⟩
set_option maxHeartbeats 3200000 in
theorem call_set_text {x:Str} {tx:Tok} {Q:Value→Shared→Prop} (hh:A.handled=none) (hx:x.cps.size≤1000)
 (h:∀ (h':Heap) (tk:Nat) (xs:List Str),SetT w (!byTx w) h' s.heap.objs.size xs→MetX (ltr x) x.cps.size xs→(∀ b o,s.heap.get? b=some o→h'.get? b=some o)→Q (.ref s.heap.objs.size) { s with heap:=h',toks:=tk }) :
 wpAny (model prog w) A (call (.type "set") [.str x tx]) Q E s:=by
 obtain ⟨c,tl,hmro⟩:=F.called_set.mro
 have hmade:=F.called_set.made
 have hsub:=F.called_set.sub
 refine wpAny_call (codeAny_of_tree ?_)
 show wpAny _ _ (callAny (.type "set") _) _ _ _
 refine wpAny_pure ⟨Code.quiet_builtin _ (by decide +kernel),codeAny_builtin F.entry_type_call ?_⟩
 rw [Around.under_plain (weight_type_call_type "set" [.str x tx] []) rfl]
 have hA1:=F.called_set.notType
 have hA2:=F.called_set.canCreate
 have hct:=F.typeCall_set_1 (.str x tx)
 repeat (any_goals (first | assumption | wp_step))
 refine codeAny_mono (set_newL (.str x tx) (E:=E) (Q₁:=fun obj s₁=>obj=.ref s.heap.objs.size∧s₁={ s with heap:=s.heap.push (freshSet (!byTx w)) }) ⟨rfl,rfl⟩) fun r s₁ hr=>?_
 cases r with
 | error e=>exact hr
 | ok fl =>
   cases fl with
   | ret obj =>
     obtain ⟨rfl,rfl⟩:=hr
     have hS:(s.heap.push (freshSet (!byTx w))).get? s.heap.objs.size=some (freshSet (!byTx w)):=Heap.get?_push_size _ rfl
     have hT:Shared.TypeIs { s with heap:=s.heap.push (freshSet (!byTx w)) } (.ref s.heap.objs.size) "set":=⟨_,hS,rfl⟩
     have hli:=F.called_set.init.lookup
     have hbi:=F.called_set.init.bind (.ref s.heap.objs.size)
     repeat (any_goals (first | assumption | wp_step))
     refine codeAny_mono (codeAny_call_builtin (R:=wants (fun r s₂=>r=.none∧∃ h' tk xs,s₂={ s with heap:=h',toks:=tk }∧SetT w (!byTx w) h' s.heap.objs.size xs∧MetX (ltr x) x.cps.size xs ∧
      (∀ b o,s.heap.get? b=some o→h'.get? b=some o)) E) F.called_set.init.plain F.entry_set_init (check_set_init_1 hT ?_)) fun r₂ s₂ hr₂=>?_
     · have hsls:isSubtype (.type "str") (.type "set")=pure false:=by rw [isSubtype_type];kernel_rfl
       have hslf:isSubtype (.type "str") (.type "frozenset")=pure false:=by rw [isSubtype_type];kernel_rfl
       have hne:(Value.type "str" == Value.type "dict")=false:=by decide
       unfold Builtin.«set.__init__» noKeywords Builtin.Frozenset.updateFrom
       generalize hPI:pyIter=PI
       wp_walk
       subst hPI
       refine wpAny_pyIter_str fun o Stt Wk st0=>?_
       refine wpAny_bind (wpAny_runValue ?_)
       have hszp:(s.heap.push (freshSet (!byTx w))).objs.size=s.heap.objs.size+1:=Heap.size_push ..
       have hh3:A.in1.in1.in1.handled=none:=by simp [hh]
       refine txt_loop ((Wk _ hh3).toS) s.heap.objs.size (by rw [hszp];simp) (!byTx w) (ltr x) (fun i v hv=>ltr_of hv) (by have:scanBound=4096:=rfl;omega) (x.cps.size - 0) 0 _ [] (by omega) (Nat.zero_le _) st0 ((setT_fresh _ _).keep fun o e=>Heap.get?_push_of_some _ e) ⟨Nat.le_refl _,fun y=>⟨fun z=>by simp at z,fun ⟨j,hj,_⟩=>by omega⟩⟩ fun s' ys hm hS' hM=>?_
       obtain ⟨h',g',d',tk',os'⟩:=s'
       have eg:g'=s.gens:=hm.gens
       have ed:d'=s.drawn:=hm.drawn
       have eo:os'=s.os:=hm.os
       subst eg;subst ed;subst eo
       show wpAny _ _ _ _ _ _
       refine wpAny_pure ?_
       show wpAny _ _ (ret Value.none) _ _ _
       refine wpAny_pure ⟨rfl,h',tk',ys,rfl,hS',hM,fun b o e=>?_⟩
       have hb:=Heap.lt_size e
       exact hm.heap b o (by rw [hszp];simp only [List.mem_cons,List.mem_singleton,List.not_mem_nil,or_false,not_or];exact ⟨Nat.ne_of_lt hb,Nat.ne_of_lt (Nat.lt_succ_of_lt hb)⟩) (Heap.get?_push_of_some _ (Heap.get?_push_of_some _ e))
     · cases r₂ with
       | error e=>exact hr₂
       | ok fl₂ =>
         cases fl₂ with
         | ret r =>
           obtain ⟨rfl,h',tk,ys,rfl,hS',hM,hk'⟩:=hr₂
           repeat (any_goals (first | assumption | wp_step))
           exact h _ _ _ hS' hM hk'
         | _=>exact hr₂.elim
   | _=>exact hr.elim
end
end L2
namespace L2
open PySem PySem.Spec PyProof.Rows PySem.W
theorem idx_perm {α:Type}:∀ {l:List α} {i:Nat} (h:i<l.length),(l[i] :: l.eraseIdx i).Perm l
 | x :: l,0,h=>List.Perm.refl _
 | x :: l,i+1,h=>by
   have h':i<l.length:=by simpa using h
   exact (List.Perm.swap x l[i] _).trans (List.Perm.cons x (idx_perm h'))
theorem go_perm {α:Type} (next:Nat→Nat):∀ (fuel k:Nat) (left:List α) (out:Array α),left.length=fuel→(pickOrder.go next fuel k left out).toList.Perm (out.toList ++ left)
 | 0,k,left,out,h=>by
   rw [List.length_eq_zero_iff.mp h]
   show out.toList.Perm _
   rw [List.append_nil]
 | fuel+1,k,left,out,h=>by
   unfold pickOrder.go
   have hl:next k % left.length<left.length:=Nat.mod_lt _ (by omega)
   rw [List.getElem?_eq_getElem hl]
   dsimp only
   refine (go_perm next fuel (k+1) _ _ (by rw [List.length_eraseIdx_of_lt hl];omega)).trans ?_
   rw [Array.toList_push,List.append_assoc]
   exact List.Perm.append_left _ (idx_perm hl)
theorem pick_perm {α:Type} (next:Nat→Nat) (xs:Array α):(pickOrder next xs).toList.Perm xs.toList:=by
 have:=go_perm next xs.size 0 xs.toList #[] (Array.length_toList)
 simpa [pickOrder] using this
section
variable {prog:Program} {w:World} {A:Around} {E:Value→Shared→Prop} {s:Shared}
theorem choose_ok {M:Model} {src:Source} {n:Nat} {Q:Nat→Shared→Prop} (hn:n≠0) (h:∀ i d,i<n→Q i { s with drawn:=d }):wpAny M A (choose src n) Q E s:=fun Γ p hΓ=>by
 unfold choose
 rw [Sem.wp_choose]
 exact ⟨hn,wpAny_pure (h _ _ (Nat.mod_lt _ (by omega))) Γ p hΓ⟩
theorem draw_ok {M:Model} {α:Type}:∀ {n:Nat} {xs:List α} {s:Shared} {Q:List α→Shared→Prop},xs.length=n→(∀ ys d,ys.Perm xs→Q ys { s with drawn:=d })→wpAny M A (drawOrder n xs) Q E s
 | 0,xs,s,Q,hl,h=>by
   rw [List.length_eq_zero_iff.mp hl] at h ⊢
   exact wpAny_pure (h [] s.drawn .nil)
 | n+1,[],s,Q,hl,h=>by simp at hl
 | n+1,x :: xs,s,Q,hl,h=>by
   unfold drawOrder
   refine wpAny_bind (choose_ok (by simp) fun i d hi=>?_)
   rw [List.getElem?_eq_getElem hi]
   dsimp only
   refine wpAny_bind (draw_ok (by rw [List.length_eraseIdx_of_lt hi];omega) fun ys d' hp=>wpAny_pure (h _ d' ?_))
   exact (List.Perm.cons _ hp).trans (idx_perm hi)
theorem raise_stop {M:Model} {α:Type} {Q:α→Shared→Prop} (hh:A.handled=none) (h:∀ h' e o,(∀ b o,s.heap.get? b=some o→h'.get? b=some o)→h'.get? e=some o→o.cls=.type "StopIteration"→E (.ref e) { s with heap:=h' }) :
 wpAny M A (newExc (.type "StopIteration") [] >>= fun e=>(raiseNew e:Sem α)) Q E s:=by
 refine wpAny_bind ?_
 simp only [newExc,newTuple]
 refine wpAny_bind (wpAny_newObj_type ?_ (by size_fits))
 refine wpAny_bind (m:=firstArgMember _ _) (wpAny_of_eq (a:=Value.none) (by first | rfl | (simp only [firstArgMember];rfl)) ?_)
 refine wpAny_newObj_type ?_ (by size_fits)
 simp only [raiseNew]
 refine wpAny_bind (wpAny_handled ?_)
 rw [hh]
 exact wpAny_bind (wpAny_pure (wpAny_throw (h _ _ _ (fun b o e=>Heap.get?_push_of_some _ (Heap.get?_push_of_some _ e)) (Heap.get?_push_size _ rfl) rfl)))
end
noncomputable abbrev SetIt (h:Heap) (I:Addr) (first:Value) (i:Int) (S:Addr) (n ep:Nat):Prop:=h.get? I=some { cls:=.type "set_iterator",dict:=none,data:=.fields #[first,rawInt i,.ref S,rawInt n,rawInt ep],slots:=#[] }
noncomputable abbrev SetO (h:Heap) (S:Addr) (es:Array (Int×Value)) (ep:Nat) (t:SetTable):Prop:=h.get? S=some { cls:=.type "set",dict:=none,data:=.set es ep t,slots:=#[] }
namespace SF
theorem slot_next:Slot "set_iterator" "__next__" "set_iterator.__next__" :=
 .of (owner:="set_iterator") (n:="__next__") (by rw [typeLookup_type,builtinLookup_eq_fast];kernel_rfl) (by decide +kernel) (by decide +kernel) (by decide +kernel) (by first | exact .inl (by decide +kernel) | exact .inr (by decide +kernel)) (by rw [isSubtype_type];kernel_rfl)
theorem slot_iter:Slot "set_iterator" "__iter__" "set_iterator.__iter__" :=
 .of (owner:="set_iterator") (n:="__iter__") (by rw [typeLookup_type,builtinLookup_eq_fast];kernel_rfl) (by decide +kernel) (by decide +kernel) (by decide +kernel) (by first | exact .inl (by decide +kernel) | exact .inr (by decide +kernel)) (by rw [isSubtype_type];kernel_rfl)
theorem entry_next:entryFor table "set_iterator.__next__"=some Builtin.«set_iterator.__next__»:=entryFor_of_tree (by kernel_rfl)
theorem entry_iter:entryFor table "set_iterator.__iter__"=some Builtin.«dict_keyiterator.__iter__»:=entryFor_alias (id':="dict_keyiterator.__iter__") (by kernel_rfl) rfl (by decide +kernel) (by kernel_rfl)
theorem entry_siter:entryFor table "set.__iter__"=some Builtin.«frozenset.__iter__»:=entryFor_alias (id':="frozenset.__iter__") (by kernel_rfl) rfl (by decide +kernel) (by kernel_rfl)
theorem args_next (a:Value):argsOk "set_iterator.__next__" ⟨[a],[]⟩:=by unfold argsOk;kernel_rfl
theorem args_iter (a:Value):argsOk "set_iterator.__iter__" ⟨[a],[]⟩:=by unfold argsOk;kernel_rfl
theorem args_siter (a:Value):argsOk "set.__iter__" ⟨[a],[]⟩:=by unfold argsOk;kernel_rfl
end SF
section
variable {prog:Program} {w:World} {A:Around} {E:Value→Shared→Prop} {s:Shared} {I S tp:Addr} {i n ep:Nat} {es:Array (Int×Value)} {t:SetTable} {first:Value}
theorem SetIt.typeIs {j:Int} (h:SetIt s.heap I first j S n ep):s.TypeIs (.ref I) "set_iterator":=⟨_,h,rfl⟩
theorem next_open {Q:Fin→Shared→Prop} (hI:SetIt s.heap I first (i:Int) S es.size ep) (hS:SetO s.heap S es ep t) (hf:t.fits es.size=true)
 (h:wpAny (model prog w) A (match first with
  | .int slot _=>do
    match ←setNext S slot.toNat ((i:Int)).toNat ((ep:Int)).toNat with
    | some (x,next) =>
      setField (.ref I) 0 (rawInt next)
      setField (.ref I) 1 (rawInt ((i:Int)+1))
      ret x
    | none=>setField (.ref I) 2 .none;raiseNew (← newExc (.type "StopIteration") [])
  | _=>do
    let some places ←seqItems? first | unsupported "internal:set_iterator"
    match places[((i:Int)).toNat]? with
    | some (.int place _) =>
      let x ←setNextDrawn S place.toNat ((ep:Int)).toNat
      setField (.ref I) 1 (rawInt ((i:Int)+1))
      ret x
    | some _=>unsupported "internal:set_iterator"
    | none=>setField (.ref I) 0 (rawInt 0);setField (.ref I) 2 .none;raiseNew (← newExc (.type "StopIteration") [])) Q E s) :
 wpAny (model prog w) A (Builtin.«set_iterator.__next__» ⟨[.ref I],[]⟩) Q E s:=by
 unfold Builtin.«set_iterator.__next__»
 show wpAny _ _ (fieldsOf (.ref I) >>= _) _ _ _
 unfold fieldsOf
 refine wpAny_bind (wpAny_bind (wpAny_load hI (wpAny_pure ?_)))
 show wpAny _ _ (setEntries S >>= _) _ _ _
 refine wpAny_bind (wpAny_setEntries_of hS rfl hf ?_)
 dsimp only
 rw [if_neg (by simp)]
 exact h
theorem pyNext_set {j:Int} {Q:Option Value→Shared→Prop} (hI:SetIt s.heap I first j S n ep) (h:wpAny (model prog w) A.in1 (Builtin.«set_iterator.__next__» ⟨[.ref I],[]⟩) (fun fin s'=>∃ v,fin=.done (.ret v)∧Q (some v) s') (fun e s'=>∃ a o,e=.ref a∧s'.heap.get? a=some o∧o.cls=.type "StopIteration"∧Q none s') s):wpAny (model prog w) A (pyNext (.ref I)) Q E s:=by
 unfold pyNext
 refine wpAny_bind (wpAny_attempt (wpAny_callSpecial?_slot (name:=Str.ofString "__next__") hI.typeIs SF.slot_next (wpAny_call_entry SF.slot_next hI.typeIs SF.entry_next ?_ (SF.args_next _))))
 refine wpAny_mono h (fun fin s' hv=>?_) fun e s' he=>?_
 · obtain ⟨v,rfl,q⟩:=hv
   exact ⟨v,rfl,wpAny_pure q⟩
 · obtain ⟨a,o,rfl,ho,hc,q⟩:=he
   exact wpAny_bind (wpAny_isInstance (T:="StopIteration") (b:=true) ⟨o,ho,hc⟩ isSubtype_stop (wpAny_pure q))
theorem iter_self {j:Int} {Q:Value→Shared→Prop} (hI:SetIt s.heap I first j S n ep) (h:Q (.ref I) s):wpAny (model prog w) A (pyIter (.ref I)) Q E s:=by
 refine wpAny_pyIter_slot hI.typeIs SF.slot_iter (wpAny_call_entry SF.slot_iter hI.typeIs SF.entry_iter ?_ (SF.args_iter _))
 show wpAny _ _ (ret (.ref I)) _ _ s
 exact wpAny_pure ⟨_,rfl,"set_iterator",_,hI.typeIs,SF.slot_next.lookup,h⟩
end
section
variable {prog:Program} {w:World} {A:Around} {I S tp:Addr} {n ep:Nat} {es:Array (Int×Value)} {t:SetTable}
theorem walks_drawn {ord:List Nat} {od:Option Addr} {c:Nat} {osl:Array (Option Value)} (hh:A.handled=none) (hf:t.fits es.size=true) (ho:ord.Perm (List.range es.size)) (h1:I≠S) (h2:I≠tp) :
 Walks prog w A I [I,S,tp] [I] es.size (fun i v=>∃ p e,ord[i]?=some p∧es[p]?=some e∧v=e.2) (fun i h=>SetIt h I (.ref tp) (i:Int) S es.size ep∧SetO h S es ep t∧h.get? tp=some ⟨.type "tuple",od,.seq (ord.map fun (p:Nat)=>rawInt (p:Int)).toArray c,osl⟩) where
 sub:=fun b hb=>by simp at hb;simp [hb]
 frame:=fun _ _ _ st hk=>⟨hk I (by simp) _ st.1,hk S (by simp) _ st.2.1,hk tp (by simp) _ st.2.2⟩
 item:=fun i s Q E hi st hQ=>by
  obtain ⟨hI,hS,htp⟩:=st
  have hlen:ord.length=es.size:=by rw [ho.length_eq,List.length_range]
  have hio:i<ord.length:=by omega
  have hp:ord[i]<es.size:=List.mem_range.mp (ho.mem_iff.mp (List.getElem_mem hio))
  refine pyNext_set hI (next_open hI hS hf ?_)
  show wpAny _ _ (seqItems? (.ref tp) >>= _) _ _ _
  refine wpAny_bind (wpAny_seqItems htp rfl ?_)
  dsimp only
  rw [show (List.map (fun (p:Nat)=>rawInt (p:Int)) ord).toArray[((i:Nat):Int).toNat]?=some (rawInt (ord[i]:Int)) by simp [hio]]
  show wpAny _ _ (setNextDrawn S ((ord[i]:Nat):Int).toNat ((ep:Nat):Int).toNat >>= _) _ _ _
  unfold setNextDrawn
  refine wpAny_bind (wpAny_bind (wpAny_setState_of hS rfl hf ?_))
  dsimp only
  rw [if_neg (by simp)]
  rw [show es[((ord[i]:Nat):Int).toNat]?=some es[ord[i]] by simp [hp]]
  refine wpAny_pure ?_
  refine wpAny_bind (wpAny_setField_rec hI (by simp) fun h₂ he₂ hs₂=>wpAny_pure ⟨_,rfl,?_⟩)
  refine hQ _ h₂ s.toks ⟨ord[i],es[ord[i]],by simp [hio],by simp [hp],rfl⟩ ⟨he₂,hs₂.extBut _ _ h1.symm hS,hs₂.extBut _ _ h2.symm htp⟩ fun b o hb e=>hs₂.extBut b o (fun h=>hb (by simp [h])) e
 done:=fun s Q E st hQ=>by
  obtain ⟨hI,hS,htp⟩:=st
  have hlen:ord.length=es.size:=by rw [ho.length_eq,List.length_range]
  refine pyNext_set hI (next_open hI hS hf ?_)
  show wpAny _ _ (seqItems? (.ref tp) >>= _) _ _ _
  refine wpAny_bind (wpAny_seqItems htp rfl ?_)
  dsimp only
  rw [show (List.map (fun (p:Nat)=>rawInt (p:Int)) ord).toArray[((es.size:Nat):Int).toNat]?=none by simp [hlen]]
  dsimp only
  refine wpAny_bind (wpAny_setField_rec hI (by simp) fun h₂ he₂ hs₂=>?_)
  refine wpAny_bind (wpAny_setField_rec he₂ (by simp) fun h₃ he₃ hs₃=>?_)
  refine raise_stop (show A.in1.handled=none from hh) fun h' e o kp ho hc=>⟨e,o,rfl,ho,hc,hQ h' s.toks fun b o hb e=>kp b o ?_⟩
  have hbI:b≠I:=fun h=>hb (by simp [h])
  exact hs₃.extBut b o hbI (hs₂.extBut b o hbI e)
 self:=fun _ _ _ _ st hQ=>iter_self st.1 hQ
theorem walks_text (hB:byTx w=true) (hh:A.handled=none) (hf:t.fits es.size=true) (h1:I≠S) :
 Walks prog w A I [I,S] [I] es.size (fun i v=>∃ e,(pickOrder (w.params.setOrder S ep) es)[i]?=some e∧v=e.2) (fun i h=>(∃ sl:Nat,SetIt h I (rawInt sl) (i:Int) S es.size ep)∧SetO h S es ep t) where
 sub:=fun b hb=>by simp at hb;simp [hb]
 frame:=fun _ _ _ st hk=>⟨⟨_,hk I (by simp) _ st.1.choose_spec⟩,hk S (by simp) _ st.2⟩
 item:=fun i s Q E hi st hQ=>by
  obtain ⟨⟨sl,hI⟩,hS⟩:=st
  have hsz:(pickOrder (w.params.setOrder S ep) es).size=es.size:=by rw [← Array.length_toList,(pick_perm _ es).length_eq,Array.length_toList]
  have hio:i<(pickOrder (w.params.setOrder S ep) es).size:=by omega
  refine pyNext_set hI (next_open hI hS hf ?_)
  show wpAny _ _ (setNext S ((sl:Nat):Int).toNat ((i:Nat):Int).toNat ((ep:Nat):Int).toNat >>= _) _ _ _
  unfold setNext setsByText
  refine wpAny_bind (wpAny_bind (wpAny_setState_of hS rfl hf ?_))
  dsimp only
  refine wpAny_bind (wpAny_bind (wpAny_askSetting (wpAny_pure ?_)))
  rw [if_pos (show ({ program:=(model prog w).prog,params:=(model prog w).w.params }:Setting).params.followText "set-order"=true from hB),if_neg (by simp)]
  unfold setWalk setsByText
  refine wpAny_bind (wpAny_bind (wpAny_setState_of hS rfl hf ?_))
  dsimp only
  refine wpAny_bind (wpAny_bind (wpAny_askSetting (wpAny_pure ?_)))
  rw [if_pos (show ({ program:=(model prog w).prog,params:=(model prog w).w.params }:Setting).params.followText "set-order"=true from hB)]
  refine wpAny_bind (wpAny_askSetting (wpAny_pure (wpAny_pure ?_)))
  dsimp only
  rw [show (pickOrder ((model prog w).w.params.setOrder S ep) es)[((i:Nat):Int).toNat]?=some ((pickOrder (w.params.setOrder S ep) es)[i]) by rw [Int.toNat_natCast];exact Array.getElem?_eq_getElem hio]
  refine wpAny_bind (wpAny_setField_rec hI (by simp) fun h₂ he₂ hs₂=>?_)
  refine wpAny_bind (wpAny_setField_rec he₂ (by simp) fun h₃ he₃ hs₃=>wpAny_pure ⟨_,rfl,?_⟩)
  refine hQ _ h₃ s.toks ⟨_,Array.getElem?_eq_getElem hio,rfl⟩ ⟨⟨_,he₃⟩,hs₃.extBut _ _ h1.symm (hs₂.extBut _ _ h1.symm hS)⟩ fun b o hb e=>?_
  have hbI:b≠I:=fun h=>hb (by simp [h])
  exact hs₃.extBut b o hbI (hs₂.extBut b o hbI e)
 done:=fun s Q E st hQ=>by
  obtain ⟨⟨sl,hI⟩,hS⟩:=st
  have hsz:(pickOrder (w.params.setOrder S ep) es).size=es.size:=by rw [← Array.length_toList,(pick_perm _ es).length_eq,Array.length_toList]
  refine pyNext_set hI (next_open hI hS hf ?_)
  show wpAny _ _ (setNext S ((sl:Nat):Int).toNat ((es.size:Nat):Int).toNat ((ep:Nat):Int).toNat >>= _) _ _ _
  unfold setNext setsByText
  refine wpAny_bind (wpAny_bind (wpAny_setState_of hS rfl hf ?_))
  dsimp only
  refine wpAny_bind (wpAny_bind (wpAny_askSetting (wpAny_pure ?_)))
  rw [if_pos (show ({ program:=(model prog w).prog,params:=(model prog w).w.params }:Setting).params.followText "set-order"=true from hB),if_neg (by simp)]
  unfold setWalk setsByText
  refine wpAny_bind (wpAny_bind (wpAny_setState_of hS rfl hf ?_))
  dsimp only
  refine wpAny_bind (wpAny_bind (wpAny_askSetting (wpAny_pure ?_)))
  rw [if_pos (show ({ program:=(model prog w).prog,params:=(model prog w).w.params }:Setting).params.followText "set-order"=true from hB)]
  refine wpAny_bind (wpAny_askSetting (wpAny_pure (wpAny_pure ?_)))
  dsimp only
  rw [show (pickOrder ((model prog w).w.params.setOrder S ep) es)[((es.size:Nat):Int).toNat]?=none by rw [Int.toNat_natCast];exact Array.getElem?_eq_none (Nat.le_of_eq hsz)]
  refine wpAny_bind (wpAny_setField_rec hI (by simp) fun h₂ he₂ hs₂=>?_)
  refine raise_stop (show A.in1.handled=none from hh) fun h' e o kp ho hc=>⟨e,o,rfl,ho,hc,hQ h' s.toks fun b o hb e=>kp b o (hs₂.extBut b o (fun h=>hb (by simp [h])) e)⟩
 self:=fun _ _ _ _ st hQ=>iter_self st.1.choose_spec hQ
end
end L2
namespace L2
open PySem PySem.Spec PyProof.Rows PySem.W
section
variable {prog:Program} {w:World} {A:Around} {I S:Addr} {ep:Nat} {e:Int×Value} {t:SetTable} {j:Nat}
theorem below0:SetTable.below #[j] 0=0:=by simp [SetTable.below,SetTable.below.go]
theorem below1:SetTable.below #[j] (j+1)=1:=by simp [SetTable.below,SetTable.below.go]
theorem walks_one (hB:byTx w=false) (hh:A.handled=none) (hf:t.fits (#[e]:Array (Int×Value)).size=true) (hl:t.led=true) (hj:t.place=#[j]) (h1:I≠S) :
 Walks prog w A I [I,S] [I] 1 (fun _ v=>v=e.2) (fun i h=>SetIt h I (rawInt ((if i=0 then 0 else j+1:Nat):Int)) (i:Int) S (#[e]:Array (Int×Value)).size ep∧SetO h S #[e] ep t) where
 sub:=fun b hb=>by simp at hb;simp [hb]
 frame:=fun _ _ _ st hk=>⟨hk I (by simp) _ st.1,hk S (by simp) _ st.2⟩
 item:=fun i s Q E hi st hQ=>by
  obtain rfl:i=0:=by omega
  obtain ⟨hI,hS⟩:=st
  refine pyNext_set hI (next_open hI hS hf ?_)
  show wpAny _ _ (setNext S 0 0 ((ep:Nat):Int).toNat >>= _) _ _ _
  unfold setNext setsByText
  refine wpAny_bind (wpAny_bind (wpAny_setState_of hS rfl hf ?_))
  dsimp only
  refine wpAny_bind (wpAny_bind (wpAny_askSetting (wpAny_pure ?_)))
  rw [if_neg (show ¬ ({ program:=(model prog w).prog,params:=(model prog w).w.params }:Setting).params.followText "set-order"=true from fun z=>absurd (hB.symm.trans (show byTx w=true from z)) (by decide))]
  rw [if_neg (fun z=>by
   have z':(!t.plain && decide ((#[e]:Array (Int×Value)).size > 1))=true:=z
   simp at z')]
  refine wpAny_bind ?_
  show wpAny _ _ (if (!t.led && !(#[e]:Array (Int×Value)).isEmpty)=true then unsupported "set:maker-not-led" else pure ()) _ _ _
  rw [if_neg (by rw [hl];simp)]
  refine wpAny_pure (wpAny_pure ?_)
  rw [hj,below0]
  refine wpAny_bind (wpAny_setField_rec hI (by simp) fun h₂ he₂ hs₂=>?_)
  refine wpAny_bind (wpAny_setField_rec he₂ (by simp) fun h₃ he₃ hs₃=>wpAny_pure ⟨_,rfl,?_⟩)
  refine hQ _ h₃ s.toks rfl ⟨he₃,hs₃.extBut _ _ h1.symm (hs₂.extBut _ _ h1.symm hS)⟩ fun b o hb e=>?_
  have hbI:b≠I:=fun h=>hb (by simp [h])
  exact hs₃.extBut b o hbI (hs₂.extBut b o hbI e)
 done:=fun s Q E st hQ=>by
  obtain ⟨hI,hS⟩:=st
  refine pyNext_set hI (next_open hI hS hf ?_)
  show wpAny _ _ (setNext S ((j+1:Nat):Int).toNat 1 ((ep:Nat):Int).toNat >>= _) _ _ _
  unfold setNext setsByText
  refine wpAny_bind (wpAny_bind (wpAny_setState_of hS rfl hf ?_))
  dsimp only
  refine wpAny_bind (wpAny_bind (wpAny_askSetting (wpAny_pure ?_)))
  rw [if_neg (show ¬ ({ program:=(model prog w).prog,params:=(model prog w).w.params }:Setting).params.followText "set-order"=true from fun z=>absurd (hB.symm.trans (show byTx w=true from z)) (by decide))]
  rw [if_neg (fun z=>by
   have z':(!t.plain && decide ((#[e]:Array (Int×Value)).size > 1))=true:=z
   simp at z')]
  refine wpAny_bind ?_
  show wpAny _ _ (if (!t.led && !(#[e]:Array (Int×Value)).isEmpty)=true then unsupported "set:maker-not-led" else pure ()) _ _ _
  rw [if_neg (by rw [hl];simp)]
  refine wpAny_pure (wpAny_pure ?_)
  rw [hj,Int.toNat_natCast,below1]
  refine wpAny_bind (wpAny_setField_rec hI (by simp) fun h₂ he₂ hs₂=>?_)
  refine raise_stop (show A.in1.handled=none from hh) fun h' e o kp ho hc=>⟨e,o,rfl,ho,hc,hQ h' s.toks fun b o hb e=>kp b o (hs₂.extBut b o (fun h=>hb (by simp [h])) e)⟩
 self:=fun _ _ _ _ st hQ=>iter_self st.1 hQ
end
noncomputable def TxV (vs:List Value) (ys:List Str):Prop:=vs.length=ys.length∧∀ (j:Nat) (v:Value),vs[j]?=some v→∃ y t,ys[j]?=some y∧v=.str y t
section
variable {prog:Program} {w:World} {A:Around} {E:Value→Shared→Prop} {s:Shared} {S:Addr} {xs:List Str}
structure SetWk (prog:Program) (w:World) (S:Addr) (h0 h:Heap) (I:Addr) (xs:List Str) (fp:List Addr) (n:Nat) (P:Nat→Value→Prop) (St:Nat→Heap→Prop):Prop where
 wk:∀ A':Around,A'.handled=none→Walks prog w A' I fp [I] n P St
 len:n=xs.length
 st:St 0 h
 lt:∀ b∈fp,b<h.objs.size
 keep:∀ b o,h0.get? b=some o→h.get? b=some o
 new:h0.get? I=none
 sep:∀ b∈fp,b=S∨h0.get? b=none
 get:∀ acc:Array Value,ItemsOf P acc n→∃ ys,ys.Perm xs∧TxV acc.toList ys
theorem txV_of {acc:Array Value} {es:List (Int×Value)} (hl:acc.size=es.length) (he:∀ e∈es,∃ x tk,e=(hashStr w x,Value.str x tk)) (h:∀ (i:Nat) (v:Value),acc[i]?=some v→∃ e:Int×Value,es[i]?=some e∧v=e.2):TxV acc.toList (es.map txE):=by
 refine ⟨by rw [Array.length_toList,List.length_map,hl],fun j v hv=>?_⟩
 obtain ⟨e,e1,rfl⟩:=h j v (by rw [← Array.getElem?_toList];exact hv)
 obtain ⟨x,tk,rfl⟩:=he e (List.mem_of_getElem? e1)
 exact ⟨x,tk,by rw [List.getElem?_map,e1];rfl,rfl⟩
set_option maxHeartbeats 1600000 in
theorem iter_set {Q:Value→Shared→Prop} (hS:SetT w (!byTx w) s.heap S xs) (hx:xs≠[])
 (h:∀ h' d I fp n P St,SetWk prog w S s.heap h' I xs fp n P St→Q (.ref I) { s with heap:=h',drawn:=d }):wpAny (model prog w) A (pyIter (.ref S)) Q E s:=by
 obtain ⟨es,ep,t,ho,hel,hp,nd,hb,hf,hl,hpl⟩:=hS
 have hpl:t.plain=false:=hpl.resolve_left hx
 have hsz:es.size=xs.length:=by rw [← hp.length_eq,List.length_map,Array.length_toList]
 have hT:s.TypeIs (.ref S) "set":=⟨_,ho,rfl⟩
 have hSl:S<s.heap.objs.size:=Heap.lt_size ho
 have hz:es.size≤sizeLine:=fits_of_scanBound hb
 refine wpAny_pyIter_slot hT PySem.F.slot_set_iter (wpAny_call_entry PySem.F.slot_set_iter hT SF.entry_siter ?_ (SF.args_siter _))
 unfold Builtin.«frozenset.__iter__»
 show wpAny _ _ (Builtin.Frozenset.sizeOf S >>= _) _ _ _
 unfold Builtin.Frozenset.sizeOf
 refine wpAny_bind (wpAny_bind (wpAny_setEntries_of ho rfl hf (wpAny_pure ?_)))
 unfold setDrawn setsByText
 refine wpAny_bind (wpAny_bind (wpAny_setState_of ho rfl hf ?_))
 dsimp only
 refine wpAny_bind (wpAny_bind (wpAny_askSetting (wpAny_pure (wpAny_pure ?_))))
 have fin:∀ (first:Value) (d:Drawn) (g:Heap),SetO g S es ep t→(∀ I,SetIt (g.push { cls:=.type "set_iterator",data:=.fields #[first,rawInt 0,.ref S,rawInt (es.size:Int),rawInt (ep:Int)] }) I first 0 S es.size ep→I=g.objs.size→Q (.ref I) { s with heap:=g.push { cls:=.type "set_iterator",data:=.fields #[first,rawInt 0,.ref S,rawInt (es.size:Int),rawInt (ep:Int)] },drawn:=d }) →
  wpAny (model prog w) A.in1 (setEpoch S >>= fun e=>newFields "set_iterator" [first,rawInt 0,.ref S,rawInt (es.size:Int),rawInt (e:Int)] >>= fun v=>ret v) (fun fin s'=>∃ v,fin=.done (.ret v)∧∃ T' r,s'.TypeIs v T'∧typeLookup (.type T') "__next__"=pure (some r)∧Q v s') E { s with heap:=g,drawn:=d }:=fun first d g hg k=>by
  refine wpAny_bind (wpAny_setEpoch_of (s:={ s with heap:=g,drawn:=d }) hg rfl hf ?_)
  refine wpAny_bind ?_
  unfold newFields
  refine wpAny_newObj_type ?_ (by size_fits)
  have hI:SetIt (g.push { cls:=.type "set_iterator",data:=.fields #[first,rawInt 0,.ref S,rawInt (es.size:Int),rawInt (ep:Int)] }) g.objs.size first 0 S es.size ep:=Heap.get?_push_size _ rfl
  exact wpAny_pure ⟨_,rfl,"set_iterator",_,⟨_,hI,rfl⟩,SF.slot_next.lookup,k _ hI rfl⟩
 have fpl:∀ {g:Heap} {ob:Obj} {I:Addr},I=g.objs.size→∀ b,b=I∨b<g.objs.size→b<(g.push ob).objs.size:=fun {g ob I} hI b hb=>by
  rw [Heap.size_push]
  rcases hb with rfl | hb
  · rw [hI];exact Nat.lt_succ_self _
  · exact Nat.lt_succ_of_lt hb
 have new0:∀ {I:Addr},s.heap.objs.size≤I→s.heap.get? I=none:=fun hI=>Heap.get?_none_of_le hI
 cases hB:byTx w with
 | true =>
   rw [if_neg (fun z=>by
    have z':=(Bool.and_eq_true_iff.mp z).1
    rw [show ({ program:=(model prog w).prog,params:=(model prog w).w.params }:Setting).params.followText "set-order"=true from hB] at z'
    cases z')]
   refine wpAny_bind (wpAny_pure ?_)
   refine fin (rawInt 0) s.drawn s.heap ho fun I hI hIe=>?_
   have hIS:I≠S:=by rw [hIe];exact (Nat.ne_of_lt hSl).symm
   refine h _ s.drawn I [I,S] _ _ _ ⟨fun A' hA=>walks_text (ep:=ep) hB hA hf hIS,hsz,⟨⟨0,hI⟩,Heap.get?_push_of_some _ ho⟩,fun b hb=>fpl hIe b (by simp only [List.mem_cons,List.not_mem_nil,or_false] at hb;rcases hb with z | z;exact .inl z;exact .inr (by rw [z];exact hSl)),fun b o e=>Heap.get?_push_of_some _ e,new0 (by rw [hIe];exact Nat.le_refl _),fun b hb=>(by simp only [List.mem_cons,List.not_mem_nil,or_false] at hb;rcases hb with z | z;exact .inr (new0 (by rw [z,hIe];exact Nat.le_refl _));exact .inl z),fun acc hacc=>?_⟩
   have pp:=pick_perm (w.params.setOrder S ep) es
   refine ⟨(pickOrder (w.params.setOrder S ep) es).toList.map txE,(pp.map txE).trans hp,txV_of ?_ (fun e he=>hel e (pp.mem_iff.mp he)) fun i v hv=>?_⟩
   · rw [hacc.1,pp.length_eq,Array.length_toList]
   · obtain ⟨e,he,rfl⟩:=hacc.2 i v hv
     exact ⟨e,by rw [Array.getElem?_toList];exact he,rfl⟩
 | false =>
   by_cases h1:es.size=1
   · rw [if_neg (fun z=>by
      have z':(!t.plain && decide (es.size > 1))=true:=(Bool.and_eq_true_iff.mp z).2
      rw [h1] at z'
      simp at z')]
     refine wpAny_bind (wpAny_pure ?_)
     refine fin (rawInt 0) s.drawn s.heap ho fun I hI hIe=>?_
     have hIS:I≠S:=by rw [hIe];exact (Nat.ne_of_lt hSl).symm
     obtain ⟨e,rfl⟩:=Array.size_eq_one_iff.mp h1
     have hpz:t.place.size=1:=by
      have:=hf
      simp only [SetTable.fits,Bool.and_eq_true,beq_iff_eq] at this
      exact this.1
     obtain ⟨j,hj⟩:=Array.size_eq_one_iff.mp hpz
     have hled:t.led=true:=by rw [hl,hB];rfl
     refine h _ s.drawn I [I,S] _ _ _ ⟨fun A' hA=>walks_one (ep:=ep) hB hA hf hled hj hIS,hsz,⟨hI,Heap.get?_push_of_some _ ho⟩,fun b hb=>fpl hIe b (by simp only [List.mem_cons,List.not_mem_nil,or_false] at hb;rcases hb with z | z;exact .inl z;exact .inr (by rw [z];exact hSl)),fun b o e=>Heap.get?_push_of_some _ e,new0 (by rw [hIe];exact Nat.le_refl _),fun b hb=>(by simp only [List.mem_cons,List.not_mem_nil,or_false] at hb;rcases hb with z | z;exact .inr (new0 (by rw [z,hIe];exact Nat.le_refl _));exact .inl z),fun acc hacc=>?_⟩
     refine ⟨[e].map txE,hp,txV_of (by rw [hacc.1];rfl) (fun e' he=>hel e' (by simpa using he)) fun i v hv=>?_⟩
     have hi:i<acc.size:=(Array.getElem?_eq_some_iff.mp hv).1
     obtain rfl:i=0:=by have:acc.size=1:=hacc.1;omega
     exact ⟨e,rfl,hacc.2 _ v hv⟩
   · have hgt:1<es.size:=by
      have:es.size≠0:=fun z=>hx (List.length_eq_zero_iff.mp (by omega))
      omega
     rw [if_pos (by
      rw [Bool.and_eq_true_iff]
      refine ⟨?_,?_⟩
      · rw [show ({ program:=(model prog w).prog,params:=(model prog w).w.params }:Setting).params.followText "set-order"=false from hB];rfl
      · show (!t.plain && decide (es.size > 1))=true
        rw [hpl];simp [hgt])]
     refine wpAny_bind (draw_ok (List.length_range) fun ord d hord=>?_)
     refine wpAny_bind (wpAny_newTuple ?_ (by rw [List.length_map,hord.length_eq,List.length_range];exact hz))
     have hS2:SetO (s.heap.push { cls:=.type "tuple",data:=.seq (ord.map fun (i:Nat)=>rawInt (i:Int)).toArray }) S es ep t:=Heap.get?_push_of_some _ ho
     refine fin (.ref s.heap.objs.size) d _ hS2 fun I hI hIe=>?_
     rw [Heap.size_push] at hIe
     have hIS:I≠S:=by rw [hIe];exact (Nat.ne_of_lt (Nat.lt_succ_of_lt hSl)).symm
     have hIt:I≠s.heap.objs.size:=by rw [hIe];exact (Nat.ne_of_lt (Nat.lt_succ_self _)).symm
     refine h _ d I [I,S,s.heap.objs.size] _ _ _ ⟨fun A' hA=>walks_drawn (ep:=ep) hA hf hord hIS hIt,hsz,⟨hI,Heap.get?_push_of_some _ hS2,Heap.get?_push_of_some _ (Heap.get?_push_size _ rfl)⟩,fun b hb=>?_,fun b o e=>Heap.get?_push_of_some _ (Heap.get?_push_of_some _ e),new0 (by rw [hIe];exact Nat.le_succ _),fun b hb=>(by simp only [List.mem_cons,List.not_mem_nil,or_false] at hb;rcases hb with z | z | z;exact .inr (new0 (by rw [z,hIe];exact Nat.le_succ _));exact .inl z;exact .inr (new0 (by rw [z];exact Nat.le_refl _))),fun acc hacc=>?_⟩
     · rw [Heap.size_push,Heap.size_push]
       simp only [List.mem_cons,List.not_mem_nil,or_false] at hb
       rcases hb with rfl | rfl | rfl
       · rw [hIe];exact Nat.lt_succ_self _
       · exact Nat.lt_succ_of_lt (Nat.lt_succ_of_lt hSl)
       · exact Nat.lt_succ_of_lt (Nat.lt_succ_self _)
     · have hom:∀ p∈ord,p<es.size:=fun p hp=>List.mem_range.mp (hord.mem_iff.mp hp)
       have eqm:(List.range es.size).map (fun p=>es.toList.getD p (0,.none))=es.toList:=by
        refine List.ext_getElem (by simp) fun i h1 h2=>?_
        simp at h1 h2 ⊢
        simp [h2]
       have pm:(ord.map (fun p=>es.toList.getD p (0,.none))).Perm es.toList:=by
        have:=hord.map (fun p=>es.toList.getD p (0,.none))
        rwa [eqm] at this
       refine ⟨(ord.map (fun p=>es.toList.getD p (0,.none))).map txE,(pm.map txE).trans hp,txV_of ?_ (fun e he=>hel e (pm.mem_iff.mp he)) fun i v hv=>?_⟩
       · rw [hacc.1,List.length_map,hord.length_eq,List.length_range]
       · obtain ⟨p,e,h1,h2,rfl⟩:=hacc.2 i v hv
         refine ⟨e,?_,rfl⟩
         rw [List.getElem?_map,h1]
         show some (es.toList.getD p (0,.none))=some e
         rw [List.getD_eq_getElem?_getD,Array.getElem?_toList,h2]
         rfl
end
end L2
namespace L2
open PySem PySem.Spec PyProof.Rows PySem.W
section
variable {prog:Program} {w:World} {A:Around} {E:Value→Shared→Prop} {s:Shared} {S:Addr} {xs:List Str}
theorem look_setlen:typeLookup (.type "set") "__len__"=pure (some (.builtin "set.__len__")):=by rw [typeLookup_type,builtinLookup_eq_fast];kernel_rfl
set_option maxHeartbeats 1600000 in
theorem collect_set {Q:List Value→Shared→Prop} (hh:A.handled=none) (hS:SetT w (!byTx w) s.heap S xs) (hx:xs≠[]) (hz:xs.length≤sizeLine)
 (h:∀ h' tk d vs ys,ys.Perm xs→TxV vs ys→(∀ b o,s.heap.get? b=some o→h'.get? b=some o)→Q vs { s with heap:=h',toks:=tk,drawn:=d }):wpAny (model prog w) A (collect (.ref S)) Q E s:=by
 have hSl:S<s.heap.objs.size:=by obtain ⟨_,_,_,e,_⟩:=hS;exact Heap.lt_size e
 unfold collect
 refine wpAny_bind (wpAny_runValue (codeAny_builtin F.entry_proto_collect ?_))
 rw [Around.under_plainId F.plain_proto_collect _]
 show wpAny _ A.in1 (newList [] >>= fun l=>(again (.builtin "list.__iadd__" ⟨[l,.ref S],[]⟩))) _ _ s
 refine wpAny_bind (wpAny_newObj_type ?_)
 refine wpAny_pure ⟨plainId_quiet F.plain_list_iadd _,codeAny_builtin F.entry_list_iadd ?_⟩
 rw [Around.under_plainId F.plain_list_iadd _]
 have k1:∀ b o,s.heap.get? b=some o→(s.heap.push (seqObj "list" #[] 0)).get? b=some o:=fun b o e=>Heap.get?_push_of_some _ e
 have hS1:SetT w (!byTx w) (s.heap.push (seqObj "list" #[] 0)) S xs:=hS.keep fun o e=>k1 _ _ e
 have hT1:Shared.TypeIs { s with heap:=s.heap.push (seqObj "list" #[] 0) } (.ref S) "set":=by obtain ⟨_,_,_,e,_⟩:=hS1;exact ⟨_,e,rfl⟩
 have oL:(s.heap.push (seqObj "list" #[] 0)).get? s.heap.objs.size=some (seqObj "list" #[] 0):=Heap.get?_push_size _ rfl
 show wpAny _ A.in1 (Builtin.List.listExtendWith (.ref s.heap.objs.size) (.ref S) (.ref s.heap.objs.size)) _ _ { s with heap:=s.heap.push (seqObj "list" #[] 0) }
 unfold Builtin.List.listExtendWith
 refine wpAny_bind (wpAny_typeOf hT1 ?_)
 have n1:Builtin.List.listSameRef (.ref s.heap.objs.size) (.ref S)=false:=by simp [Builtin.List.listSameRef,(Nat.ne_of_lt hSl).symm]
 rw [if_neg (by rw [n1];decide)]
 refine wpAny_bind (iter_set hS1 hx fun h' d I fp n P St W=>?_)
 have hT2:Shared.TypeIs { s with heap:=h',drawn:=d } (.ref S) "set":=by obtain ⟨_,_,_,e,_⟩:=hS1;exact ⟨_,W.keep _ _ e,rfl⟩
 have oL2:=W.keep _ _ oL
 refine wpAny_bind (wpAny_holding ?_)
 unfold Builtin.List.listLengthHint
 refine wpAny_bind (wpAny_specialOf hT2 look_setlen ?_)
 dsimp only
 rw [show splitId "set.__len__"=some ("set","__len__") by decide +kernel]
 dsimp only
 refine wpAny_bind (wpAny_isInstance (b:=true) hT2 (by rw [isSubtype_type];kernel_rfl) ?_)
 rw [if_neg (by decide)]
 rw [if_pos (by decide +kernel)]
 refine wpAny_bind (wpAny_typeOf hT2 (wpAny_pure ?_))
 rw [if_pos (by decide +kernel)]
 refine wpAny_bind (wpAny_rule (wpAny_bind ?_))
 show wpAny _ A.in1 (updateSeq s.heap.objs.size (·.push .none) >>= fun _=>(updateSeq s.heap.objs.size (·.pop))) _ _ _
 refine wpAny_bind (wpAny_updateSeq oL2 rfl ?_)
 have oL3:=Heap.get?_update_self (Obj.mapSeq (·.push Value.none)) oL2 rfl
 refine wpAny_updateSeq oL3 rfl ?_
 have oL4:=Heap.get?_update_self (Obj.mapSeq (·.pop)) oL3 rfl
 have oth:∀ b o,b≠s.heap.objs.size→h'.get? b=some o→((h'.update s.heap.objs.size (Obj.mapSeq (·.push Value.none))).update s.heap.objs.size (Obj.mapSeq (·.pop))).get? b=some o:=fun b o hb e=>(Heap.get?_update_other _ _ (Ne.symm hb)).trans ((Heap.get?_update_other _ _ (Ne.symm hb)).trans e)
 have lI:I≠s.heap.objs.size:=fun z=>by have:=W.new;rw [z,oL] at this;cases this
 have hA1:A.in1.handled=none:=by simp [hh]
 have hSf:s.heap.objs.size∉fp:=fun z=>by
  rcases W.sep _ z with q | q
  · exact absurd q.symm (Nat.ne_of_lt hSl)
  · rw [oL] at q;cases q
 refine wpAny_pure ⟨plainId_quiet F.plain_extend_loop _,codeAny_extend_loopS ((W.wk _ hA1).toS) (by rw [W.len];exact hz) _ hSf _ n 0 _ _ _ rfl (Nat.zero_le _) ((W.wk A hh).frame 0 _ _ W.st fun b hb o e=>oth b o (fun z=>hSf (z ▸ hb)) e) oL4 (ItemsOf.nil P) fun s' acc' c' hm hS' hacc=>?_⟩
 show wpAny _ A (load s.heap.objs.size >>= _) _ _ s'
 obtain ⟨h3,g3,d3,t3,o3⟩:=s'
 have eg:g3=s.gens:=hm.gens
 have ed:d3=d:=hm.drawn
 have eo:o3=s.os:=hm.os
 subst eg;subst ed;subst eo
 refine wpAny_bind (wpAny_load hS' (wpAny_pure ?_))
 obtain ⟨ys,py,ty⟩:=W.get acc' hacc
 refine h h3 t3 d3 _ ys py ty fun b o e=>hm.heap b o (fun z=>?_) (oth b o (Nat.ne_of_lt (Heap.lt_size e)) (W.keep b o (k1 b o e)))
 rcases List.mem_cons.mp z with z | z
 · exact absurd z (Nat.ne_of_lt (Heap.lt_size e))
 · have:b=I:=by simpa using z
   subst this
   have q:=W.new
   rw [k1 _ _ e] at q
   cases q
end
end L2
namespace L2
open PySem PySem.Spec PyProof.Rows PySem.W
section
variable {prog:Program} {w:World} {A:Around} {E:Value→Shared→Prop} {s:Shared}
theorem sortD_small {g:Heap} {D:Addr} {vs:List Value} {Q:Value→Shared→Prop} (keep:∀ b o,s.heap.get? b=some o→g.get? b=some o) (hDs:∀ b o,s.heap.get? b=some o→b≠D) (hoL:g.get? D=some (seqObj "list" vs.toArray 0)) (h2:vs.length<2)
 (h:∀ (h':Heap) (c:Nat),(∀ b o,s.heap.get? b=some o→h'.get? b=some o)→h'.get? D=some (seqObj "list" vs.toArray c)→Q (.ref D) { s with heap:=h' }) :
 wpAny (model prog w) A (Builtin.«list.sort» ⟨[.ref D],[]⟩) (fun fin s'=>fin=.done (.ret .none)∧Q (.ref D) s') E { s with heap:=g }:=by
 obtain ⟨e1,ho1⟩:∃ e1,(g.update D (Obj.mapSeq fun _=>(#[]:Array Value))).get? D=some (seqObj "list" #[] e1):=⟨_,get?_update_seq hoL fun _=>#[]⟩
 have few:vs.length≤sizeLine:=by rw [sizeLine_eq];omega
 rw [list_sort_plain]
 refine wpAny_bind (listItems_at hoL rfl ?_)
 refine wpAny_bind (listUpdate_at hoL rfl ?_ (by rw [List.size_toArray];omega) (Nat.zero_le _))
 refine wpAny_bind (seqEpoch_at ho1 rfl ?_)
 refine wpAny_bind (wpAny_newTuple ?_ few)
 refine wpAny_bind (wpAny_newList ?_ (Nat.zero_le _))
 refine wpAny_holding ?_
 show wpAny (model prog w) _ _ _ E { s with heap:=((g.update D (Obj.mapSeq fun _=>(#[]:Array Value))).push (seqObj "tuple" vs.toArray 0)).push (seqObj "list" #[] 0) }
 dsimp only
 have hn2:vs.toArray.size<2:=by rw [List.size_toArray];exact h2
 rw [if_pos hn2,if_pos hn2]
 refine wpAny_bind (wpAny_pure ?_)
 refine wpAny_bind (wpAny_pure ?_)
 dsimp only
 have ho6:(((g.update D (Obj.mapSeq fun _=>(#[]:Array Value))).push (seqObj "tuple" vs.toArray 0)).push (seqObj "list" #[] 0)).get? D=some (seqObj "list" #[] e1):=Heap.get?_push_of_some _ (Heap.get?_push_of_some _ ho1)
 have harr:(arrOf (SortSt.mk' general' (vs.toArray.zip vs.toArray) #[] 7 none)).map (·.2)=vs.toArray:=zip_snd vs
 rw [harr]
 refine wpAny_bind (seqEpoch_at ho6 rfl ?_)
 refine wpAny_bind (listUpdate_at ho6 rfl ?_ (Nat.zero_le _) (by show vs.toArray.size≤_;rw [List.size_toArray];omega))
 simp only [bne_self_eq_false,Bool.false_eq_true,if_false]
 obtain ⟨c2,hc2⟩:∃ c2,((((g.update D (Obj.mapSeq fun _=>(#[]:Array Value))).push (seqObj "tuple" vs.toArray 0)).push (seqObj "list" #[] 0)).update D (Obj.mapSeq fun _=>vs.toArray)).get? D=some (seqObj "list" vs.toArray c2):=⟨_,get?_update_seq ho6 fun _=>vs.toArray⟩
 refine wpAny_pure ⟨rfl,h _ c2 (fun b o q=>?_) hc2⟩
 have hb:=hDs b o q
 exact (Heap.get?_update_other _ _ (Ne.symm hb)).trans (Heap.get?_push_of_some _ (Heap.get?_push_of_some _ ((Heap.get?_update_other _ _ (Ne.symm hb)).trans (keep b o q))))
end
section
variable {X:Cx} {pins:List (Addr×Obj)} {σ:St} {H:Hp} {s:Shared}
set_option maxHeartbeats 2000000 in
theorem sortD_ok {E:Value→Shared→Prop} {g:Heap} {D:Addr} {its:List Value} {xs:List V} {Q:VK} (I:Inv X pins σ H s) (kp0:∀ b o,s.heap.get? b=some o→g.get? b=some o) (hDs0:∀ b o,s.heap.get? b=some o→b≠D) (hoL:g.get? D=some (seqObj "list" its.toArray 0)) (rv:Vals xs its) (h64:xs.length<64) (lt:Nat→Nat→Bool) (O:Srt.Ord lt)
 (hkind:∀ (vs:List Value) (s':Shared),Vals xs vs→2≤vs.length→(∀ b o,b≠X.env.locals→s.heap.get? b=some o→s'.heap.get? b=some o)→∃ κ:SortKind,(∀ (R:SortKind→Shared→Prop),R κ s'→wpAny (model X.prog X.w) X.A.in1.in1 (keyKind' vs.toArray) R (fun _ _=>False) s') ∧
  ∀ (i j:Nat) (C:Bool→Shared→Prop) (s2:Shared),i<vs.length→j<vs.length→(∀ b o,b≠X.env.locals→s.heap.get? b=some o→s2.heap.get? b=some o)→C (lt i j) s2→kas_ask X.prog X.w X.A.in1.in1 κ vs i j C s2)
 (q:∀ (p:List Nat),p.Perm (List.range xs.length)→(∀ k,1≤k→k<xs.length→lt (p.getD k 0) (p.getD (k - 1) 0)=false)→H D=none→Q (.ref D) (upd H D (.lst (p.map fun i=>xs.getD i .non)))) :
 wpAny (model X.prog X.w) X.A.in1.in1 (Builtin.«list.sort» ⟨[.ref D],[]⟩) (fun fin s'=>fin=.done (.ret .none)∧EP X pins σ Q (.ref D) s') E { s with heap:=g }:=by
 have hlen:=rv.length
 by_cases h2:its.length<2
 · refine sortD_small kp0 hDs0 hoL h2 fun h' c kp ho=>?_
   have hf:H D=none:=by
    cases z:H D with
    | none=>rfl
    | some u =>
      obtain ⟨o,e⟩:=ObjOk.there (I.hok D u z)
      exact absurd rfl (hDs0 _ _ e)
   obtain ⟨m,hn,_⟩:=id I.loc
   have F:Fr X.base X.env.locals h' m:=Fr.kept ⟨hn,I.bk,Nat.le_trans I.ok.bsz I.ok.above⟩ kp
   have I':Inv X pins σ (upd H D (.lst xs)) { s with heap:=h' }:=I.byNews (t':=s.toks) hn F (fun b o _ e=>kp b o e) hf (fun o e=>hDs0 _ _ e rfl) ho rv (by rw [sizeLine_eq];omega)
   have hq:=q (List.range xs.length) (List.Perm.refl _) (fun k k1 k2=>by omega) hf
   have ex:(List.range xs.length).map (fun i=>xs.getD i .non)=xs:=by
    exact map_small xs (by omega)
   rw [ex] at hq
   exact ⟨.ref D,_,I',rfl,hq⟩
 · obtain ⟨m,hn,_⟩:=id I.loc
   have F:Fr X.base X.env.locals s.heap m:=⟨hn,I.bk,Nat.le_trans I.ok.bsz I.ok.above⟩
   have N:News X.base X.env.locals s.heap (allNews X.base s.heap X.env.locals):=news_all
   have keepN:∀ {h':Heap} {r:List (Addr×Obj)},Fr X.base X.env.locals h' m→News X.base X.env.locals h' r→(∀ p∈allNews X.base s.heap X.env.locals,p∈r)→∀ b o,b≠X.env.locals→s.heap.get? b=some o→h'.get? b=some o:=fun {h' r} F' N' sub b o hb e=>by
    cases z:X.base.get? b with
    | some u =>
      have:=I.bk b u z
      rw [e] at this;cases this
      exact F'.keep b _ z
    | none=>exact (N' (b,o) (sub _ (mem_allNews hb z e))).1
   have h2':2≤its.length:=by omega
   have oL:∃ o,s.heap.get? X.env.locals=some o:=by obtain ⟨o,_,_,e,_⟩:=F.ns;exact ⟨o,e⟩
   obtain ⟨oL,eL⟩:=oL
   have h0:X.base.get? D=none:=by
    cases z:X.base.get? D with
    | none=>rfl
    | some u=>exact absurd rfl (hDs0 _ _ (F.keep _ _ z))
   refine kat_list_sort (s:={ s with heap:=g }) (F.kept kp0) (N.grown kp0) hoL (Ne.symm (hDs0 _ _ eL)) h0 (fun p hp=>hDs0 _ _ (N p hp).1) h2' (by omega) fun e1 h' F' N'=>?_
   have kp:=keepN F' N' (fun p hp=>List.mem_cons_of_mem _ hp)
   have nDD:=N' (D,seqObj "list" #[] e1) List.mem_cons_self
   have hDs:∀ o,s.heap.get? D≠some o:=fun o e=>hDs0 D o e rfl
   have hHD:H D=none:=by
    cases z:H D with
    | none=>rfl
    | some u =>
      obtain ⟨o,e⟩:=ObjOk.there (I.hok D u z)
      exact absurd e (hDs o)
   have hD:∀ q∈allNews X.base s.heap X.env.locals,q.1≠D:=fun q hq=>hDs0 _ _ (N q hq).1
   obtain ⟨κ,hκ,hask⟩:=hkind its { s with heap:=h' } rv h2' kp
   refine hκ _ ?_
   have hn1:0<its.length:=by omega
   refine Srt.run_wp' (n:=its.length) (P:=fun s'=>s'={ s with heap:=h' }) lt (fun i j C s2 hi hj p2 hc=>by subst p2;exact hask i j C _ hi hj kp (hc _ rfl)) (kas_sort its.length) _ (Srt.sort_asks hn1) rfl fun s2 p2=>?_
   subst p2
   obtain ⟨pm,up⟩:=Srt.sort_ok O (n:=its.length) (by omega)
   generalize Srt.run lt (kas_sort its.length)=p at *
   refine KasFin.intro F' N' (.head fun x hx=>hD x hx) fun h3 c F3 N3=>?_
   have kp3:=keepN F3 N3 (fun p hp=>List.mem_cons_of_mem _ hp)
   have hD3:=(N3 (D,listOf (List.toArray (p.toList.map fun i=>its.getD i Value.none)) c) List.mem_cons_self).1
   have rel:Vals (p.toList.map fun i=>xs.getD i .non) (p.toList.map fun i=>its.getD i Value.none):=by
    have key:∀ (l:List Nat),(∀ i∈l,i<its.length)→Vals (l.map fun i=>xs.getD i .non) (l.map fun i=>its.getD i Value.none):=by
     intro l
     induction l with
     | nil=>intro _;exact .nil
     | cons a l ih =>
       intro hl'
       have ha:=hl' a List.mem_cons_self
       have ha2:a<xs.length:=by omega
       obtain ⟨u,hu,ru⟩:=rv.get (i:=a) (x:=xs[a]) (by simp [ha2])
       have e1:xs.getD a .non=xs[a]:=by simp [ha2]
       have e2:its.getD a Value.none=u:=by rw [List.getD_eq_getElem?_getD,hu];rfl
       rw [List.map_cons,List.map_cons,e1,e2]
       exact .cons ru (ih fun i hi=>hl' i (List.mem_cons_of_mem _ hi))
    exact key _ fun i hi=>List.mem_range.mp (pm.mem_iff.mp hi)
   have hq:=q p.toList (by rw [hlen];exact pm) (fun k k1 k2=>by
    have:=up k k1 (by omega)
    rw [getD_e,getD_e];exact this) hHD
   refine ⟨rfl,.ref D,_,I.byNews (t':=s.toks) hn F3 kp3 hHD hDs hD3 rel ?_,rfl,hq⟩
   rw [List.length_map,pm.length_eq,List.length_range,← hlen]
   rw [hlen,sizeLine_eq];omega
theorem Inv.draws (I:Inv X pins σ H s) (d:Drawn):Inv X pins σ H { s with drawn:=d }:=⟨I.ok,I.os,I.bare,I.base,I.loc,I.cell,I.free,I.freeC,I.pin,I.hok,I.len⟩
end
noncomputable def chS (c:Nat):Str:=⟨#[c]⟩
noncomputable def chV (cs:List Nat):List V:=cs.map fun c=>V.str (chS c)
theorem chV_len (cs:List Nat):(chV cs).length=cs.length:=by unfold chV;rw [List.length_map]
noncomputable def ltC (cs:List Nat) (i j:Nat):Bool:=decide (cs.getD i 0<cs.getD j 0)
theorem ltC_ord (cs:List Nat):Srt.Ord (ltC cs):=⟨fun i j h=>by unfold ltC at *;simp only [decide_eq_true_eq,decide_eq_false_iff_not] at *;omega,fun i j k h1 h2=>by unfold ltC at *;simp only [decide_eq_false_iff_not] at *;omega⟩
theorem nodup_lt {l:List Nat} (h:l.Pairwise (·≤·)) (n:l.Nodup):l.Pairwise (·<·):=by
 induction l with
 | nil=>exact .nil
 | cons a l ih =>
   cases h with
   | cons h1 h2 =>
     cases n with
     | cons n1 n2=>exact .cons (fun b hb=>Nat.lt_of_le_of_ne (h1 b hb) (n1 b hb)) (ih h2 n2)
theorem chS_inj {a b:Nat} (h:chS a=chS b):a=b:=by
 unfold chS at h
 have:=congrArg (fun x:Str=>x.cps.toList) h
 simpa using this
section
variable {X:Cx}
noncomputable def tSortSet (ta:TA):TE:=fun σ H Q=>ta σ H fun vs H1=>∃ x:Str,vs=[.str x]∧1≤x.cps.size∧x.cps.size≤60∧∀ (cs:List Nat) (D:Addr) (H':Hp),cs.Pairwise (·<·)→(∀ c,c∈cs↔c∈x.cps.toList)→Same H1 H'→H1 D=none→H' D=some (.lst (chV cs))→Q (.ref D) H'
set_option maxHeartbeats 1600000 in
theorem pe_sortset {a:Expr} {ta:TA} {p p' pos pos':Pos} (hc:X.calm=true) (hgL:Gl X "sorted") (hmL:X.mg "sorted"=none) (hgE:Gl X "set") (hmE:X.mg "set"=none) (ha:PA X [a] ta)
 (hs:starEach [.Call (.Name "set" p') [a] [] pos'] X.env=[(false,eval (.Call (.Name "set" p') [a] [] pos') X.env)]:=by rfl) (hs2:starEach [a] X.env=[(false,eval a X.env)]:=by rfl) :
 PE X (.Call (.Name "sorted" p) [.Call (.Name "set" p') [a] [] pos'] [] pos) (tSortSet ta):=by
 intro pins s σ H Q I h
 refine wpAny_Call_Name_kw (ld_blt I hgL hmL boot_sorted ?_ (by decide) (by decide))
 refine PyProof.Rows.callWith_builtin1 ?_ hs rfl
 rw [hs]
 show wpAny _ _ (spliced ((false,eval (.Call (.Name "set" p') [a] [] pos') X.env) :: backTo pos [])) _ _ s
 refine Calls.spliced_cons ?_
 refine wpAny_Call_Name_kw (ld_blt I hgE hmE boot_set ?_ (by decide) (by decide))
 refine PyProof.Rows.callWith_type1 (thn (ha pos' pins s σ H _ I h) fun us s1 ⟨vs,H1,I1,r1,q1⟩=>?_) hs2 rfl
 obtain ⟨x,rfl,x1,x60,q⟩:=q1
 obtain ⟨u,rfl,ru⟩:=vals1 r1
 obtain ⟨tx,rfl⟩:=ru
 have hh:=I1.ok.hd hc
 refine call_set_text hh (by omega) fun h1 tk1 xs hS hM kp1=>Calls.spliced_nil ?_
 have I2:Inv X pins σ H1 { s1 with heap:=h1,toks:=tk1 }:=I1.kept (t':=tk1) (h':=h1) kp1
 have hxs:xs≠[]:=fun z=>by
  have:=(hM.2 (ltr x 0)).mpr ⟨0,by omega,rfl⟩
  rw [z] at this;simp at this
 have hxl:=hM.1
 refine Calls.call_function_entry kind_sorted plain_sorted entry_sorted (args_sorted1 _) ?_
 unfold Builtin.«sorted»
 refine wpAny_bind (m:=checkCount "sorted" 1 1 _) (wpAny_pure ?_)
 refine wpAny_bind (collect_set (s:={ s1 with heap:=h1,toks:=tk1 }) (show X.A.in1.handled=none by simp [hh]) hS hxs (by rw [sizeLine_eq];omega) fun h2 tk2 d2 vs ys py ty kp2=>?_)
 have I3:Inv X pins σ H1 { s1 with heap:=h2,toks:=tk2,drawn:=d2 }:=(I2.draws d2).kept (t':=tk2) (h':=h2) kp2
 have hys:∃ ds:List Nat,ys=ds.map chS:=by
  have:∀ y∈ys,∃ c,y=chS c:=fun y hy=>by
   obtain ⟨j,_,e⟩:=(hM.2 y).mp (py.mem_iff.mp hy)
   exact ⟨_,e.symm⟩
  clear py ty
  induction ys with
  | nil=>exact ⟨[],rfl⟩
  | cons y ys ih =>
    obtain ⟨ds,rfl⟩:=ih fun z hz=>this z (List.mem_cons_of_mem _ hz)
    obtain ⟨c,rfl⟩:=this y List.mem_cons_self
    exact ⟨c :: ds,rfl⟩
 obtain ⟨ds,rfl⟩:=hys
 have ndx:xs.Nodup:=by obtain ⟨_,_,_,_,_,_,nd,_⟩:=hS;exact nd
 have nd:ds.Nodup:=List.Pairwise.of_map chS (fun a b h e=>h (by rw [e])) (py.nodup_iff.mpr ndx)
 have dl:ds.length≤60:=by have:=py.length_eq;rw [List.length_map] at this;omega
 have mem:∀ c,c∈ds↔c∈x.cps.toList:=fun c=>by
  have e1:c∈ds↔chS c∈xs:=by
   rw [← py.mem_iff,List.mem_map]
   exact ⟨fun z=>⟨c,z,rfl⟩,fun ⟨b,hb,e⟩=>chS_inj e ▸ hb⟩
  rw [e1,hM.2]
  constructor
  · rintro ⟨j,hj,e⟩
    have:x.cps.getD j 0=c:=chS_inj e
    rw [← this]
    simp [Array.getD,hj]
  · intro hc'
    obtain ⟨j,hj,e⟩:=List.mem_iff_getElem.mp hc'
    have hj':j<x.cps.size:=by simpa using hj
    refine ⟨j,hj',?_⟩
    unfold ltr chS
    simp [Array.getD,hj'] at e ⊢
    exact e
 have rv:Vals (chV ds) vs:=by
  obtain ⟨tl,tg⟩:=ty
  rw [List.length_map] at tl
  clear py nd dl mem
  induction ds generalizing vs with
  | nil =>
    cases vs with
    | nil=>exact .nil
    | cons v vs=>simp at tl
  | cons c ds ih =>
    cases vs with
    | nil=>simp at tl
    | cons v vs =>
      obtain ⟨y,t,e1,rfl⟩:=tg 0 v rfl
      cases (show chS c=y from Option.some.inj e1)
      exact .cons ⟨t,rfl⟩ (ih vs (by simpa using tl) fun j u hu=>tg (j+1) u hu)
 have few:vs.length≤sizeLine:=by rw [← rv.length,chV_len,sizeLine_eq];omega
 refine wpAny_bind (wpAny_newList ?_ few)
 have hoL:(h2.push (seqObj "list" vs.toArray 0)).get? h2.objs.size=some (seqObj "list" vs.toArray 0):=Heap.get?_push_size _ rfl
 refine wpAny_bind (wpAny_holding (wpAny_call_entry slot_list_sort ⟨_,hoL,rfl⟩ entry_list_sort ?body (args_list_sort _)))
 case body =>
  refine wpAny_mono (sortD_ok (E:=fun _ _=>False) (Q:=Q) I3 (fun b o e=>Heap.get?_push_of_some _ e) (fun b o e=>Nat.ne_of_lt (Heap.lt_size e)) hoL rv (by rw [chV_len];omega) (ltC ds) (ltC_ord ds) (fun ws s' rw' w2 kp=>?_) fun pp pm up hD=>?_) (fun fin s' hf=>?_) fun _ _ e=>e.elim
  · have at':∀ {i:Nat},i<ws.length→∃ t,ws.getD i Value.none=.str (chS (ds.getD i 0)) t:=fun {i} hi=>by
     have rr:=vals_getD rw' hi
     have hi':i<ds.length:=by rw [← chV_len,rw'.length];exact hi
     have e1:(chV ds).getD i .non=.str (chS (ds.getD i 0)):=by unfold chV;simp [hi']
     rw [e1] at rr
     exact rr
    refine ⟨oneType',fun R hR=>kas_kind (T:=.type "str") w2 (fun v hv=>?_) (by decide) (by decide) hR,fun i j C s2 hi hj k hc=>?_⟩
    · obtain ⟨i,hi,rfl⟩:=List.mem_iff_getElem.mp hv
      obtain ⟨t,e⟩:=at' hi
      rw [show ws.getD i Value.none=ws[i] by simp [hi]] at e
      rw [e]
      exact Looks.of_pure rfl
    · unfold kas_ask
      obtain ⟨t,e⟩:=at' hi
      obtain ⟨t',e'⟩:=at' hj
      rw [e,e']
      refine kas_lt_str ?_
      have:decide ((chS (ds.getD i 0)).cps.toList<(chS (ds.getD j 0)).cps.toList)=ltC ds i j:=by
       unfold ltC chS
       rw [decide_eq_decide]
       simp [List.cons_lt_cons_iff]
      rw [this]
      exact hc
  · rw [chV_len] at pm up
    have e:(pp.map fun i=>(chV ds).getD i .non)=chV (pp.map fun i=>ds.getD i 0):=by
     unfold chV
     rw [List.map_map]
     refine List.map_congr_left fun i hi=>?_
     have:i<ds.length:=List.mem_range.mp (pm.mem_iff.mp hi)
     simp [this]
    rw [e]
    have pd:(pp.map fun i=>ds.getD i 0).Perm ds:=perm_getD pm
    have pw:(pp.map fun i=>ds.getD i 0).Pairwise (·≤·):=up_pairwise (R:=fun (a b:Nat)=>a≤b) (l:=ds) (d:=0) (fun a b c h1 h2=>Nat.le_trans h1 h2) pm up fun i j h=>by
     unfold ltC at h
     simp only [decide_eq_false_iff_not] at h
     show ds.getD i 0≤ds.getD j 0
     omega
    exact q _ _ _ (nodup_lt pw (pd.nodup_iff.mpr nd)) (fun c=>(pd.mem_iff).trans (mem c)) (Same.new hD) hD upd_same
  · obtain ⟨rfl,hq⟩:=hf
    exact ⟨_,rfl,wpAny_pure ⟨_,rfl,hq⟩⟩
end
end L2
namespace L2
open PySem PySem.Spec PyProof.Rows PySem.W
noncomputable def Its (x:Str):It:=⟨fun i _=>i<x.cps.size,fun i H v H'=>H'=H∧∃ c,x.cps[i]?=some c∧v=.str (chS c),fun i _=>x.cps.size≤i⟩
theorem turn_strA {P:Program} {w:World} {K:PySem.W.Frag} {tg:Expr} (x:Str) (t:Tok) (it:Addr):Turn P w K tg (Its x) [it] it (fun i h=>h.IsStrIter it "str_ascii_iterator" x t i) where
 mem:=by simp
 obj:=fun i h st b hb=>by
  have e:b=it:=by simpa using hb
  subst e
  obtain ⟨o,e,c,d⟩:=st
  exact ⟨o,e,fun v z=>by rw [d] at z;cases z⟩
 keep:=fun i h h' st k=>let ⟨o,ho,r⟩:=st;⟨o,k it (by simp) o ho,r⟩
 item:=by
  intro X hP hw hK hc i pins s σ H E I hf st hg
  subst hP hw hK
  have hg:i<x.cps.size:=hg
  obtain ⟨f0,f1,f2,f3,f4,f5⟩:=hf it (by simp)
  refine wpAny_pyNext_ascii_item st (c:=x.cps[i]) (by simp [hg]) fun h' st' sb=>?_
  have I1:Inv X pins σ H { s with heap:=h',toks:=s.toks+1 }:=I.turned (t':=s.toks+1) (fun b o hb e=>(sb.2 b hb).trans e) f0 f1 f3 f4 f5
  obtain ⟨o,e,c,d⟩:=id st'
  exact ⟨_,rfl,go_of (s:={ s with heap:=h',toks:=s.toks+1 }) e c d (by decide) ⟨.str (chS x.cps[i]),H,I1,⟨_,rfl⟩,⟨rfl,_,by simp [hg],rfl⟩,st',fun b hb=>(hf b hb).1⟩⟩
 done:=by
  intro X hP hw hK hc i pins s σ H E I hf st hg
  subst hP hw hK
  have hg:x.cps.size≤i:=hg
  obtain ⟨f0,f1,f2,f3,f4,f5⟩:=hf it (by simp)
  exact wpAny_pyNext_ascii_end (I.ok.hd hc) st (Array.getElem?_eq_none hg) fun h' eb=>⟨rfl,I.turned (t':=s.toks) (fun b o hb e=>eb b o hb e) f0 f1 f3 f4 f5⟩
 self:=fun _ _ _ _ _ st h=>wpAny_pyIter_striter_ascii st h
theorem turn_strW {P:Program} {w:World} {K:PySem.W.Frag} {tg:Expr} (x:Str) (t:Tok) (it:Addr):Turn P w K tg (Its x) [it] it (fun i h=>h.IsStrIter it "str_iterator" x t i) where
 mem:=by simp
 obj:=fun i h st b hb=>by
  have e:b=it:=by simpa using hb
  subst e
  obtain ⟨o,e,c,d⟩:=st
  exact ⟨o,e,fun v z=>by rw [d] at z;cases z⟩
 keep:=fun i h h' st k=>let ⟨o,ho,r⟩:=st;⟨o,k it (by simp) o ho,r⟩
 item:=by
  intro X hP hw hK hc i pins s σ H E I hf st hg
  subst hP hw hK
  have hg:i<x.cps.size:=hg
  obtain ⟨f0,f1,f2,f3,f4,f5⟩:=hf it (by simp)
  refine wpAny_pyNext_wide_item st (c:=x.cps[i]) (by simp [hg]) fun h' st' sb=>?_
  have I1:Inv X pins σ H { s with heap:=h',toks:=s.toks+1 }:=I.turned (t':=s.toks+1) (fun b o hb e=>(sb.2 b hb).trans e) f0 f1 f3 f4 f5
  obtain ⟨o,e,c,d⟩:=id st'
  exact ⟨_,rfl,go_of (s:={ s with heap:=h',toks:=s.toks+1 }) e c d (by decide) ⟨.str (chS x.cps[i]),H,I1,⟨_,rfl⟩,⟨rfl,_,by simp [hg],rfl⟩,st',fun b hb=>(hf b hb).1⟩⟩
 done:=by
  intro X hP hw hK hc i pins s σ H E I hf st hg
  subst hP hw hK
  have hg:x.cps.size≤i:=hg
  obtain ⟨f0,f1,f2,f3,f4,f5⟩:=hf it (by simp)
  exact wpAny_pyNext_wide_end (I.ok.hd hc) st (Array.getElem?_eq_none hg) fun h' eb=>⟨rfl,I.turned (t':=s.toks) (fun b o hb e=>eb b o hb e) f0 f1 f3 f4 f5⟩
 self:=fun _ _ _ _ _ st h=>wpAny_pyIter_striter_wide st h
section
variable {X:Cx} {tg:Expr}
noncomputable def iStr (tl:TE):TI:=fun σ H R=>tl σ H fun v H1=>∃ x,v=.str x∧R (Its x) H1
theorem pi_str {l:Expr} {tl:TE} (hl:PE X l tl):PI X tg l (iStr tl):=by
 intro pins s σ H R I h
 refine thn (hl pins s σ H _ I h) fun v s1 ⟨z,H1,I1,r1,q1⟩=>?_
 obtain ⟨x,rfl,q⟩:=q1
 obtain ⟨t,rfl⟩:=r1
 have fp:∀ b∈[s1.heap.objs.size],FpOk X pins H1 b:=fun b hb=>by
  have e:b=s1.heap.objs.size:=by simpa using hb
  subst e
  exact I1.fpOk (Nat.le_refl _) (I1.hok.fresh (Nat.le_refl _))
 cases ha:x.cps.all (·<128) with
 | true=>exact wpAny_pyIter_ascii ha ⟨s1.heap.objs.size,[s1.heap.objs.size],_,_,H1,rfl,I1.kept (t':=s1.toks) fun b o e=>Heap.get?_push_of_some _ e,turn_strA x t _,⟨_,Heap.get?_push_size _ rfl,rfl,rfl⟩,fp,q⟩
 | false=>exact wpAny_pyIter_wide ha ⟨s1.heap.objs.size,[s1.heap.objs.size],_,_,H1,rfl,I1.kept (t':=s1.toks) fun b o e=>Heap.get?_push_of_some _ e,turn_strW x t _,⟨_,Heap.get?_push_size _ rfl,rfl,rfl⟩,fp,q⟩
theorem comp_str {x:Str} {D:Addr} {g:TG} {tt:TT} {te:TE} {σ0:St} {H0:Hp} {Q:VK} (Pv:Nat→List V→St→Hp→Prop) (h0:Pv 0 [] σ0 H0) (hl:∀ i ys σ H,Pv i ys σ H→H D=some (.lst ys))
 (hs:∀ i c ys σ H,x.cps[i]?=some c→i<x.cps.size→Pv i ys σ H→g (.str (chS c)) σ H fun σ3 H3=>tt σ3 H3 fun b H4=>if b=true then
  te σ3 H4 fun y H5=>H5 D=some (.lst ys)∧ys.length<sizeLine∧∃ m',m'<x.cps.size - i∧Wt Pv x.cps.size (i+1) m' (ys ++ [y]) σ3 (upd H5 D (.lst (ys ++ [y]))) else ∃ m',m'<x.cps.size - i∧Wt Pv x.cps.size (i+1) m' ys σ3 H4)
 (hd:∀ ys σ H,Pv x.cps.size ys σ H→Q (.ref D) H) :
 CompW (Its x) D g tt te Q σ0 H0:=by
 refine ⟨Wt Pv x.cps.size,⟨x.cps.size,rfl,Nat.zero_le _,h0⟩,?_⟩
 rintro i m ys σ' H' ⟨rfl,hi,p⟩
 refine ⟨hl i ys σ' H' p,?_⟩
 by_cases hlt:i<x.cps.size
 · refine .inr ⟨hlt,fun v H2 y=>?_⟩
   obtain ⟨e,c,hc,e2⟩:=y
   subst e e2
   exact hs i c ys σ' _ hc hlt p
 · have e:i=x.cps.size:=by omega
   subst e
   exact .inl ⟨Nat.le_refl _,hd ys σ' H' p⟩
end
open Builtin Builtin.Str in
theorem sub_one (x:Str) (c i:Nat) (h:i<x.cps.size):subAt x (chS c) i=decide (x.cps[i]=c):=by
 unfold subAt chS
 have e:x.cps.extract i (i+(⟨#[c]⟩:Str).length)=#[x.cps[i]]:=by
  apply Array.toList_inj.mp
  show (x.cps.extract i (i+1)).toList=[x.cps[i]]
  rw [Array.toList_extract]
  simp [List.extract,List.drop_eq_getElem_cons (show i<x.cps.toList.length by simpa using h)]
 rw [e]
 by_cases hq:x.cps[i]=c
 · simp [hq]
 · simp [hq]
open Builtin Builtin.Str in
theorem occ_run (x:Str) (c lim:Nat):∀ (l:List Nat) (st:Array Nat×Nat),(∀ i∈l,st.2≤i)→l.Pairwise (·<·)→st.1.size+l.length≤lim→(forIn l st (StrLaws.occBody x (chS c) x.length lim):Id _).run.1.size=st.1.size+(l.filter fun i=>decide (i<x.cps.size∧x.cps[i]?=some c)).length
 | [],st,_,_,_=>by simp
 | i :: l,st,h,pw,hl=>by
   rw [List.forIn_cons]
   unfold StrLaws.occBody
   cases pw with
   | cons p1 p2 =>
     rw [List.length_cons] at hl
     have hx:x.length=x.cps.size:=rfl
     have h1:(chS c).length=1:=rfl
     by_cases hc:i<x.cps.size∧x.cps[i]?=some c
     · have hs:subAt x (chS c) i=true:=by rw [sub_one x c i hc.1];have:=hc.2;rw [Array.getElem?_eq_getElem hc.1] at this;simpa using this
       rw [if_pos ⟨⟨⟨by omega,h i List.mem_cons_self⟩,by rw [h1,hx];omega⟩,hs⟩]
       refine (occ_run x c lim l _ (fun j hj=>by have:=p1 j hj;rw [h1];show i+1≤j;omega) p2 (by rw [Array.size_push];omega)).trans ?_
       rw [Array.size_push,List.filter_cons,if_pos (by simpa using hc),List.length_cons]
       omega
     · rw [if_neg (fun z=>hc (by
        have a:=z.1.2
        rw [h1,hx] at a
        have b:=z.2
        have ai:i<x.cps.size:=by omega
        rw [sub_one x c i ai] at b
        exact ⟨ai,by rw [Array.getElem?_eq_getElem ai];simpa using b⟩))]
       refine (occ_run x c lim l _ (fun j hj=>h j (List.mem_cons_of_mem _ hj)) p2 (by omega)).trans ?_
       rw [List.filter_cons,if_neg (by simpa using hc)]
theorem filter_count (l:List Nat) (c:Nat):((List.range' 0 (l.length+1)).filter fun i=>decide (i<l.length∧l[i]?=some c)).length=l.count c:=by
 have key:∀ (l:List Nat) (k:Nat),((List.range' k l.length).filter fun i=>decide (l[i - k]?=some c)).length=l.count c:=by
  intro l
  induction l with
  | nil=>intro k;rfl
  | cons a l ih =>
    intro k
    rw [List.length_cons,List.range'_succ,List.filter_cons,List.count_cons]
    have e:((List.range' (k+1) l.length).filter fun i=>decide ((a :: l)[i - k]?=some c))=(List.range' (k+1) l.length).filter fun i=>decide (l[i - (k+1)]?=some c):=by
     refine List.filter_congr fun i hi=>?_
     have hk:=(List.mem_range'_1.mp hi).1
     rw [show i - k=(i - (k+1))+1 by omega,List.getElem?_cons_succ]
    rw [e,Nat.sub_self,List.getElem?_cons_zero]
    by_cases ha:a=c
    · rw [if_pos (by simp [ha]),List.length_cons,ih,if_pos (by simp [ha])]
    · rw [if_neg (by simp [ha]),ih,if_neg (by simp [ha])];rfl
 have:=key l 0
 rw [← this,List.range'_concat,List.filter_append]
 rw [List.length_append]
 rw [show (List.filter (fun i=>decide (i<l.length∧l[i]?=some c)) [0+1 * l.length])=[] by simp]
 rw [List.length_nil,Nat.add_zero]
 congr 1
 refine List.filter_congr fun i hi=>?_
 have:=(List.mem_range'_1.mp hi).2
 simp only [Nat.sub_zero]
 rw [decide_eq_decide]
 exact ⟨fun z=>z.2,fun z=>⟨by omega,z⟩⟩
open Builtin Builtin.Str in
theorem count_one (x:Str) (c:Nat):(occurrences x (chS c) 0 x.length (x.length+1)).length=x.cps.toList.count c:=by
 rw [StrLaws.occ_eq,Array.length_toList]
 have:=occ_run x c (x.length+1) (List.range' 0 (x.length+1 - 0)) (#[],0) (fun i _=>Nat.zero_le _) (List.pairwise_lt_range') (by rw [List.length_range'];show 0+_≤_;omega)
 rw [this]
 show 0+_=_
 rw [Nat.zero_add,Nat.sub_zero]
 rw [← filter_count x.cps.toList c,show x.cps.toList.length=x.length by simp [Str.length]]
 congr 1
 refine List.filter_congr fun i hi=>?_
 rw [Array.getElem?_toList]
 rfl
section
variable {X:Cx}
theorem mt_countS:MtR X "str.count" (fun x xs H Q=>∃ z c,x=.str z∧xs=[.str (chS c)]∧Q (.int ((z.cps.toList.count c:Nat):Int)) H):=by
 intro pins s σ H x xs v us Q I rx r h
 obtain ⟨z,c,rfl,rfl,q⟩:=h
 obtain ⟨t,rfl⟩:=rx
 obtain ⟨u,rfl,t',rfl⟩:=vals1 r
 refine call_gives PySem.F.slot_str_count (typeIs_str _ _ _) PySem.F.entry_str_count (PySem.F.args_str_count_2 _ _) (gives_str_count z (chS c) t t') ?_
 rw [count_one]
 exact ⟨.int _,H,I.tok _,⟨_,rfl⟩,q⟩
theorem foldl_ch:∀ (cs:List Nat) (a:Array Nat),(cs.map chS).foldl (fun acc p=>acc ++ (⟨#[]⟩:Str).cps ++ p.cps) a=a ++ cs.toArray
 | [],a=>by simp
 | c :: cs,a=>by
   rw [List.map_cons,List.foldl_cons,foldl_ch cs]
   apply Array.toList_inj.mp
   simp [chS]
theorem glued_ch (cs:List Nat):Builtin.Str.glued ⟨#[]⟩ (cs.map chS)=⟨cs.toArray⟩:=by
 unfold Builtin.Str.glued
 cases cs with
 | nil=>rfl
 | cons c cs =>
   show (⟨(List.drop 1 (chS c :: cs.map chS)).foldl _ (chS c).cps⟩:Str)=_
   rw [List.drop_succ_cons,List.drop_zero,foldl_ch]
   congr 1
   apply Array.toList_inj.mp
   simp [chS]
theorem foldl_len:∀ (cs:List Nat) (n:Nat),(cs.map chS).foldl (fun n (p:Str)=>n+p.length+(⟨#[]⟩:Str).length) n=n+cs.length
 | [],n=>rfl
 | c :: cs,n=>by
   rw [List.map_cons,List.foldl_cons,foldl_len cs,List.length_cons]
   show n+1+0+_=_
   omega
theorem mt_joinS:MtR X "str.join" (fun x xs H Q=>∃ (l:Addr) (cs:List Nat),x=.str ⟨#[]⟩∧xs=[.ref l]∧SqL X.K H l (chV cs)∧cs.length≤1000∧Q (.str ⟨cs.toArray⟩) H):=by
 intro pins s σ H x xs v us Q I rx r h
 obtain ⟨l,cs,rfl,rfl,hl,few,q⟩:=h
 obtain ⟨t,rfl⟩:=rx
 obtain ⟨u,rfl,ru⟩:=vals1 r
 cases ru
 obtain ⟨its,rv,pl,hz⟩:=id (I.list hl)
 have ht:∃ ps:List (Str×Tok),its=strValues ps∧ps.map (·.1)=cs.map chS:=by
  clear pl few hz hl r q
  induction cs generalizing its with
  | nil=>cases rv;exact ⟨[],rfl,rfl⟩
  | cons c cs ih =>
    cases rv with
    | cons r1 r2 =>
      obtain ⟨t1,rfl⟩:=r1
      obtain ⟨ps,rfl,e⟩:=ih _ r2
      exact ⟨(chS c,t1) :: ps,rfl,by rw [List.map_cons,List.map_cons,e]⟩
 obtain ⟨ps,rfl,e⟩:=ht
 have hok:Builtin.Str.tooLong ((ps.map (·.1)).toArray.foldl (·+·.length+(⟨#[]⟩:Str).length) 0)=false:=by
  rw [e]
  rw [List.foldl_toArray,foldl_len]
  unfold Builtin.Str.tooLong
  rw [decide_eq_false_iff_not,sizeLine_eq]
  omega
 refine call_meets PySem.F.slot_str_join (typeIs_str _ _ _) PySem.F.entry_str_join (PySem.F.args_str_join_2 _ _) (meets_str_join_list ⟨#[]⟩ t l ps hok) ⟨pl.isList,post_join ps ⟨joinFit_length hok,fun t' k=>?_⟩⟩
 rw [e]
 have eg:Txt.join ⟨#[]⟩ (cs.map chS)=⟨cs.toArray⟩:=glued_ch cs
 rw [eg]
 exact ⟨.str ⟨cs.toArray⟩,H,I.tok _,⟨_,rfl⟩,q⟩
theorem in_one (x:Str) (c:Nat):(!(Builtin.Str.occurrences x (chS c) 0 x.length 1).isEmpty)=decide (c∈x.cps.toList):=StrLaws.found_one x c
end
end L2
namespace Pw
noncomputable def kdL (ks:List Nat) (c:Nat):List (Int×Int):=ks.map fun b=>if b=c then (1,(ks.count c:Int)) else (0,1)
theorem kd_len (ks:List Nat) (c:Nat):(kdL ks c).length=ks.length:=by unfold kdL;rw [List.length_map]
theorem kd_mem {ks:List Nat} {c:Nat} {B:Int×Int} (h:B∈kdL ks c):B=(1,(ks.count c:Int))∨B=(0,1):=by
 obtain ⟨b,_,e⟩:=List.mem_map.mp h
 by_cases hb:b=c
 · rw [if_pos hb] at e;exact .inl e.symm
 · rw [if_neg hb] at e;exact .inr e.symm
theorem kd_canon {ks:List Nat} {c:Nat} (h:c∈ks):Canons (kdL ks c):=fun B hB=>by
 have hc:=List.count_pos_iff.mpr h
 rcases kd_mem hB with rfl | rfl
 · exact ⟨by show (0:Int)<_;omega,by simp [Canon]⟩
 · exact ⟨by decide,by decide⟩
theorem kd_sum {ks:List Nat} {c:Nat} (h:c∈ks):qs (kdL ks c).length (fun t=>val ((kdL ks c).getD t (0,1)))=1:=by
 have hc:=List.count_pos_iff.mpr h
 have key:∀ n,n≤ks.length→qs n (fun t=>val ((kdL ks c).getD t (0,1)))=(((ks.take n).count c:Nat):Rat) / ((ks.count c:Nat):Rat):=by
  intro n
  induction n with
  | zero=>intro _;show (0:Rat)=_;simp [Rat.div_def]
  | succ n ih =>
    intro hn
    have hlt:n<ks.length:=by omega
    show qs n _+val ((kdL ks c).getD n (0,1))=_
    rw [ih (by omega),List.take_succ,List.getElem?_eq_getElem hlt,Option.toList_some,List.count_append,List.count_singleton]
    have e:(kdL ks c).getD n (0,1)=if ks[n]=c then (1,(ks.count c:Int)) else (0,1):=by unfold kdL;simp [hlt]
    rw [e]
    have hne:((ks.count c:Nat):Rat)≠0:=by
     have:((ks.count c:Nat):Rat)≠((0:Nat):Rat):=fun z=>by have:=Rat.natCast_inj.mp z;omega
     simpa using this
    by_cases hq:ks[n]=c
    · rw [if_pos hq,if_pos (by simpa using hq)]
      show _+((1:Int):Rat) / (((ks.count c:Nat):Int):Rat)=_
      rw [show (((ks.count c:Nat):Int):Rat)=((ks.count c:Nat):Rat) from rfl,Rat.natCast_add]
      grind
    · rw [if_neg hq,if_neg (by simpa using hq)]
      show _+((0:Int):Rat) / ((1:Int):Rat)=_
      rw [Nat.add_zero]
      grind
 rw [kd_len,key _ (Nat.le_refl _),List.take_length]
 have hne:((ks.count c:Nat):Rat)≠0:=by
  have:((ks.count c:Nat):Rat)≠((0:Nat):Rat):=fun z=>by have:=Rat.natCast_inj.mp z;omega
  simpa using this
 grind
theorem nodup_len:∀ {as bs:List Nat},as.Nodup→(∀ c∈as,c∈bs)→as.length≤bs.length
 | [],bs,_,_=>Nat.zero_le _
 | a :: as,bs,h,hs=>by
   cases h with
   | cons h1 h2 =>
     have ha:=hs a List.mem_cons_self
     have:=nodup_len (as:=as) (bs:=bs.erase a) h2 fun c hc=>(List.mem_erase_of_ne (fun z=>h1 c hc z.symm)).mpr (hs c (List.mem_cons_of_mem _ hc))
     rw [List.length_erase_of_mem ha] at this
     have:=List.length_pos_of_mem ha
     rw [List.length_cons]
     omega
theorem lt_unique {as bs:List Nat} (ha:as.Pairwise (·<·)) (hb:bs.Pairwise (·<·)) (h:∀ c,c∈as↔c∈bs):as=bs:=by
 have na:as.Nodup:=ha.imp fun z=>Nat.ne_of_lt z
 have nb:bs.Nodup:=hb.imp fun z=>Nat.ne_of_lt z
 exact ((List.perm_ext_iff_of_nodup na nb).mpr h).eq_of_pairwise (fun a b _ _ x y=>absurd x (by omega)) ha hb
end Pw
namespace L2
open PySem PySem.Spec PyProof PyProof.Rows PySem.W
theorem cnt_sz {ks:List Nat} {c:Nat} (h12:ks.length≤12):Sz 41 ((ks.count c:Nat):Int):=by
 have:=List.count_le_length (a:=c) (l:=ks)
 exact sz_of (m:=41) 41 (by show ((ks.count c:Nat):Int).natAbs<2 ^ 41;omega)
theorem kd_pr {A:Int×Int} {ks:List Nat} {c:Nat} (a0:0<A.1) (a1:A.1≤A.2) (h:c∈ks) (h12:ks.length≤12):Pr A (Pw.kdL ks c) (ks.count c:Int) where
 a0:=a0
 a1:=a1
 nn:=fun B hB=>by
  rcases Pw.kd_mem hB with rfl | rfl
  · show (0:Int)≤1;decide
  · show (0:Int)≤0;decide
 one:=Pw.kd_sum h
 spos:=by have:=List.count_pos_iff.mpr h;omega
 ssz:=by
  have:=List.count_le_length (a:=c) (l:=ks)
  exact (cnt_sz h12:Sz 41 _).mono (by decide)
 sdvd:=fun B hB=>by
  rcases Pw.kd_mem hB with rfl | rfl
  · exact Int.dvd_refl _
  · exact Int.one_dvd _
theorem kd_sz {ks:List Nat} {c:Nat} (h12:ks.length≤12):∀ B∈Pw.kdL ks c,Sz2 41 B:=fun B hB=>by
 have:=List.count_le_length (a:=c) (l:=ks)
 rcases Pw.kd_mem hB with rfl | rfl
 · exact ⟨sz_of (k:=1) (m:=41) 41 (by decide),cnt_sz h12⟩
 · exact ⟨sz_of (k:=0) (m:=41) 41 (by decide),sz_of (k:=1) (m:=41) 41 (by decide)⟩
noncomputable def FrS (K:PySem.W.Frag) (H:Hp):List (Int×Int)→List V→Prop
 | [],vs=>vs=[]
 | A :: As,vs=>∃ p r,vs=.ref p :: r∧SqF K H p A∧FrS K H As r
section
variable {K:PySem.W.Frag} {H H':Hp}
theorem FrL.s:∀ {As:List (Int×Int)} {vs:List V},FrL K H As vs→FrS K H As vs
 | [],_,h=>h
 | _ :: _,_,⟨p,r,e,f,h⟩=>⟨p,r,e,SqF.of f,FrL.s h⟩
theorem FrS.same (s:Same H H'):∀ {As:List (Int×Int)} {vs:List V},FrS K H As vs→FrS K H' As vs
 | [],_,h=>h
 | _ :: _,_,⟨p,r,e,f,h⟩=>⟨p,r,e,f.same s,FrS.same s h⟩
theorem FrS.snoc {p:Addr} {A:Int×Int} (f:SqF K H p A):∀ {As:List (Int×Int)} {vs:List V},FrS K H As vs→FrS K H (As ++ [A]) (vs ++ [.ref p])
 | [],_,h=>by
   have h:_=([]:List V):=h
   subst h
   exact ⟨p,[],rfl,f,rfl⟩
 | _ :: _,_,⟨q,r,e,g,h⟩=>⟨q,r ++ [.ref p],by rw [e];rfl,g,FrS.snoc f h⟩
theorem FrS.kl (k:KL H H'):∀ {As:List (Int×Int)} {vs:List V},FrS K H As vs→FrS K H' As vs
 | [],_,h=>h
 | _ :: _,_,⟨p,r,e,f,h⟩=>⟨p,r,e,k.seqT f,FrS.kl k h⟩
theorem FrS.len:∀ {As:List (Int×Int)} {vs:List V},FrS K H As vs→vs.length=As.length
 | [],_,h=>by
   have h:_=([]:List V):=h
   subst h;rfl
 | _ :: _,_,⟨p,r,e,f,h⟩=>by rw [e];simp [FrS.len h]
theorem FrS.at {As:List (Int×Int)} {vs:List V} (h:FrS K H As vs) {j:Nat} {A:Int×Int} (e:As[j]?=some A):∃ p,vs[j]?=some (.ref p)∧SqF K H p A:=by
 induction As generalizing vs j with
 | nil=>simp at e
 | cons B As ih =>
   obtain ⟨p,r,rfl,f,h⟩:=h
   cases j with
   | zero=>simp at e;subst e;exact ⟨p,by simp,f⟩
   | succ j =>
     obtain ⟨q,a,b⟩:=ih h (j:=j) (by simpa using e)
     exact ⟨q,by simpa using a,b⟩
theorem FrS.dens:∀ {As:List (Int×Int)} {vs:List V},FrS K H As vs→Dens K H (As.map tupD) vs
 | [],_,h=>by simp only [List.map_nil,Dens];exact h
 | A :: As,_,⟨p,r,e,f,h⟩=>by
   simp only [List.map_cons,Dens]
   refine ⟨.ref p,r,e,?_,FrS.dens h⟩
   unfold tupD
   simp only [Den]
   exact ⟨p,_,rfl,f,dens2 K H A.1 A.2⟩
end
structure GvS (K:PySem.W.Frag) (H:Hp) (w lp ls:Addr) (pages:Int) (ps:List (Int×Int)) (A:Int×Int) (Bs:List (Int×Int)) (us:List V):Prop where
 web:WebAt K H w pages ps
 few:ps.length≤100
 lk:∀ p∈ps,0≤p.1∧p.1<pages∧0≤p.2∧p.2<pages
 leap:FrA K H lp A
 ca:Pw.Canon A
 sa:Sz2 100 A
 leaps:H ls=some (.tup us)
 row:FrS K H Bs us
 cb:Pw.Canons Bs
 sb:∀ B∈Bs,Sz2 600 B
 len:(Bs.length:Int)=pages
 plo:1≤pages
 phi:pages≤13
theorem GvS.same {K:PySem.W.Frag} {H H':Hp} {w lp ls:Addr} {pages:Int} {ps:List (Int×Int)} {A:Int×Int} {Bs:List (Int×Int)} {us:List V} (g:GvS K H w lp ls pages ps A Bs us) (s:Same H H'):GvS K H' w lp ls pages ps A Bs us :=
 { g with web:=g.web.same s,leap:=s _ _ g.leap,leaps:=s _ _ g.leaps,row:=g.row.same s }
noncomputable def spBelowS (K:PySem.W.Frag):Sp:=fun vs H Q _=>∃ (b:Bool) (a:Addr) (us:List V) (As:List (Int×Int)) (M:Int),vs=[.ref a]∧Sq b K H a us∧FrS K H As us∧(∀ A∈As,0<A.2)∧0<M∧Sz 8000 M∧(∀ A∈As,A.2∣M)∧∀ L,Pw.IsLcm As L→Q (.int L) H
noncomputable def spAbovesS (K:PySem.W.Frag):Sp:=fun vs H Q _=>∃ (b:Bool) (a:Addr) (us:List V) (As:List (Int×Int)) (L:Int),vs=[.ref a,.int L]∧Sq b K H a us∧FrS K H As us∧As.length≤100∧(∀ A∈As,0<A.2∧Sz2 8000 A)∧0<L∧Sz 8000 L ∧
 ∀ (p:Addr) (H':Hp),Same H H'→H p=none→H' p=some (.lst ((Pw.abv As L).map V.int))→Q (.ref p) H'
noncomputable def spVisitsS (K:PySem.W.Frag):Sp:=fun vs H Q _=>∃ (w lp ls:Addr) (pages:Int) (ps:List (Int×Int)) (A:Int×Int) (Bs:List (Int×Int)) (us:List V) (S:Int) (z:Nat),vs=[.ref w,.ref lp,.ref ls]∧GvS K H w lp ls pages ps A Bs us∧Pr A Bs S∧pages≤12∧z≤140∧Sz2 z A∧Sz z S ∧
 ∀ (p:Addr) (H':Hp) (ss:List Int) (L:Int),Pw.EqOk ps A ss pages.toNat→0<L→(∀ t,t<pages.toNat→(ss.getD t 0:Rat)=Pw.val (Bs.getD t (0,1)) * (L:Rat))→(∀ j,j<pages.toNat→Sz ((z+11) * 13+8) (Pw.vS ps A ss pages.toNat j))→Same H H'→H' p=some (.lst (rowI (Pw.vS ps A ss pages.toNat) pages.toNat))→Q (.ref p) H'
noncomputable def spSharesS (K:PySem.W.Frag):Sp:=fun vs H Q _=>∃ (w lp ls:Addr) (pages:Int) (ps:List (Int×Int)) (A:Int×Int) (Bs:List (Int×Int)) (us:List V) (S:Int) (z:Nat),vs=[.ref w,.ref lp,.ref ls]∧GvS K H w lp ls pages ps A Bs us∧Pr A Bs S∧pages≤12∧z≤140∧Sz2 z A∧Sz z S ∧
 ∀ (t:Addr) (H':Hp) (Ss:List (Int×Int)) (V':Int) (ys:List V),Pw.ShOk ps A Bs pages.toNat Ss→0<V'→Sz ((z+11) * 13+20) V'→(∀ S∈Ss,S.2∣V')→Same H H'→H' t=some (.tup ys)→FrL K H' Ss ys→Q (.ref t) H'
noncomputable def spLeapsG (K:PySem.W.Frag):Sp:=fun vs H Q _=>∃ (x:Str) (c:Nat),vs=[.str x,.str (chS c)]∧x.cps.size≤12∧c∈x.cps.toList∧∀ (p:Addr) (H':Hp) (us:List V),Same H H'→H' p=some (.tup us)→FrS K H' (Pw.kdL x.cps.toList c) us→Q (.ref p) H'
noncomputable def KdR (K:PySem.W.Frag) (H:Hp):List Nat→List (List (Int×Int))→List V→Prop
 | [],[],vs=>vs=[]
 | c :: cs,R :: Rs,vs=>∃ q r ys rest,vs=.ref q :: rest∧H q=some (.tup [.str (chS c),.ref r])∧H r=some (.tup ys)∧FrL K H R ys∧KdR K H cs Rs rest
 | _,_,_=>False
theorem KdR.kl {K:PySem.W.Frag} {H H':Hp} (k:KL H H'):∀ {cs:List Nat} {Rs:List (List (Int×Int))} {vs:List V},KdR K H cs Rs vs→KdR K H' cs Rs vs
 | [],[],_,h=>h
 | _ :: _,_ :: _,_,⟨q,r,ys,rest,e,a,b,f,h⟩=>⟨q,r,ys,rest,e,k.tup a,k.tup b,f.kp k,KdR.kl k h⟩
theorem KdR.snoc {K:PySem.W.Frag} {H:Hp} {c:Nat} {R:List (Int×Int)} {q r:Addr} {ys:List V} (a:H q=some (.tup [.str (chS c),.ref r])) (b:H r=some (.tup ys)) (f:FrL K H R ys):∀ {cs:List Nat} {Rs:List (List (Int×Int))} {vs:List V},KdR K H cs Rs vs→KdR K H (cs ++ [c]) (Rs ++ [R]) (vs ++ [.ref q])
 | [],[],_,h=>by
   have h:_=([]:List V):=h
   subst h
   exact ⟨q,r,ys,[],rfl,a,b,f,rfl⟩
 | _ :: _,_ :: _,_,⟨q',r',ys',rest,e,a',b',f',h⟩=>⟨q',r',ys',rest ++ [.ref q],by rw [e];rfl,a',b',f',KdR.snoc a b f h⟩
theorem KdR.len {K:PySem.W.Frag} {H:Hp}:∀ {cs:List Nat} {Rs:List (List (Int×Int))} {vs:List V},KdR K H cs Rs vs→vs.length=cs.length∧Rs.length=cs.length
 | [],[],_,h=>by
   have h:_=([]:List V):=h
   subst h;exact ⟨rfl,rfl⟩
 | _ :: _,_ :: _,_,⟨q,r,ys,rest,e,a,b,f,h⟩=>by
   have:=KdR.len h
   rw [e]
   simp only [List.length_cons]
   omega
theorem KdR.at {K:PySem.W.Frag} {H:Hp}:∀ {cs:List Nat} {Rs:List (List (Int×Int))} {vs:List V} {j:Nat} {c:Nat},KdR K H cs Rs vs→cs[j]?=some c→∃ q r ys R,vs[j]?=some (.ref q)∧Rs[j]?=some R∧H q=some (.tup [.str (chS c),.ref r])∧H r=some (.tup ys)∧FrL K H R ys
 | [],[],_,j,c,h,e=>by simp at e
 | c0 :: cs,R0 :: Rs,_,0,c,⟨q,r,ys,rest,e1,a,b,f,h⟩,e=>by
   simp at e
   subst e1 e
   exact ⟨q,r,ys,R0,rfl,rfl,a,b,f⟩
 | c0 :: cs,R0 :: Rs,_,j+1,c,⟨q,r,ys,rest,e1,a,b,f,h⟩,e=>by
   subst e1
   obtain ⟨q',r',ys',R',x1,x2,x3⟩:=KdR.at (j:=j) h (by simpa using e)
   exact ⟨q',r',ys',R',by simpa using x1,by simpa using x2,x3⟩
noncomputable def kdD:List Nat→List (List (Int×Int))→List Dt
 | c :: cs,R :: Rs=>.tup [.str (chS c),.tup (R.map tupD)] :: kdD cs Rs
 | _,_=>[]
theorem KdR.dens {K:PySem.W.Frag} {H:Hp}:∀ {cs:List Nat} {Rs:List (List (Int×Int))} {vs:List V},KdR K H cs Rs vs→Dens K H (kdD cs Rs) vs
 | [],[],_,h=>by simp only [kdD,Dens];exact h
 | c :: cs,R :: Rs,_,⟨q,r,ys,rest,e,a,b,f,h⟩=>by
   simp only [kdD,Dens]
   refine ⟨.ref q,rest,e,?_,KdR.dens h⟩
   simp only [Den,Dens]
   exact ⟨q,_,rfl,SqT.of a,_,_,rfl,rfl,_,_,rfl,⟨r,ys,rfl,SqT.of b,f.dens⟩,rfl⟩
theorem kdD_dep:∀ (cs:List Nat) (Rs:List (List (Int×Int))),depDs (kdD cs Rs)≤20
 | [],_=>by simp only [kdD,depDs];decide
 | _ :: _,[]=>by simp only [kdD,depDs];decide
 | c :: cs,R :: Rs=>by
   have h1:=kdD_dep cs Rs
   have h2:depDs (R.map tupD)≤2:=by
    clear h1
    induction R with
    | nil=>simp only [List.map_nil,depDs];decide
    | cons A R ih=>simp only [List.map_cons,depDs,tupD,depD] at *;omega
   simp only [kdD,depDs,depD]
   omega
noncomputable def RowsOk (ps:List (Int×Int)) (A:Int×Int) (ks:List Nat) (n:Nat) (cs:List Nat) (Rs:List (List (Int×Int))):Prop:=Rs.length=cs.length∧∀ (i c:Nat) (R:List (Int×Int)),cs[i]?=some c→Rs[i]?=some R→Pw.ShOk ps A (Pw.kdL ks c) n R∧∃ V':Int,0<V'∧Sz 696 V'∧∀ S∈R,S.2∣V'
structure Kin (K:PySem.W.Frag) (H:Hp) (w lp:Addr) (n:Nat) (ps:List (Int×Int)) (A:Int×Int) (x:Str):Prop where
 web:WebAt K H w (n:Int) ps
 few:ps.length≤60
 lk:∀ p∈ps,0≤p.1∧p.1<(n:Int)∧0≤p.2∧p.2<(n:Int)
 leap:FrA K H lp A
 ca:Pw.Canon A
 a0:0<A.1
 a1:A.1≤A.2
 sa:Sz2 41 A
 n1:1≤n
 n12:n≤12
 len:x.cps.size=n
theorem Kin.same {K:PySem.W.Frag} {H H':Hp} {w lp:Addr} {n:Nat} {ps:List (Int×Int)} {A:Int×Int} {x:Str} (g:Kin K H w lp n ps A x) (s:Same H H'):Kin K H' w lp n ps A x:={ g with web:=g.web.same s,leap:=s _ _ g.leap }
theorem Kin.gvS {K:PySem.W.Frag} {H:Hp} {w lp ls:Addr} {n:Nat} {ps:List (Int×Int)} {A:Int×Int} {x:Str} {c:Nat} {us:List V} (g:Kin K H w lp n ps A x) (hc:c∈x.cps.toList) (e:H ls=some (.tup us)) (f:FrS K H (Pw.kdL x.cps.toList c) us):GvS K H w lp ls (n:Int) ps A (Pw.kdL x.cps.toList c) us:=by
 have hl:=g.len
 have n12:=g.n12
 have n1:=g.n1
 have hl2:x.cps.toList.length=n:=by rw [Array.length_toList,hl]
 exact ⟨g.web,by have:=g.few;omega,g.lk,g.leap,g.ca,g.sa.mono (by decide),e,f,Pw.kd_canon hc,fun B hB=>(kd_sz (by omega) B hB).mono (by decide),by rw [Pw.kd_len,hl2],by omega,by omega⟩
noncomputable def spByKinds (K:PySem.W.Frag):Sp:=fun vs H Q _=>∃ (w lp:Addr) (n:Nat) (ps:List (Int×Int)) (A:Int×Int) (x:Str),vs=[.ref w,.ref lp,.str x]∧Kin K H w lp n ps A x ∧
 ∀ (D:Addr) (H':Hp) (cs:List Nat) (Rs:List (List (Int×Int))) (us:List V),cs.Pairwise (·<·)→(∀ c,c∈cs↔c∈x.cps.toList)→RowsOk ps A x.cps.toList n cs Rs→Same H H'→H D=none→H' D=some (.lst us)→KdR K H' cs Rs us→Q (.ref D) H'
noncomputable def spKinds:Sp:=fun vs H Q _=>∃ (d:Addr) (n:Nat),vs=[.ref d,.int (n:Int)]∧1≤n∧n≤12∧DrawsAt H d∧∀ (x:Str) (H':Hp),x.cps.size=n→(∀ c∈x.cps.toList,97≤c∧c≤122)→DrawsAt H' d→Kp d H H'→Q (.str x) H'
theorem abc_at:∀ j,j<26→(Str.ofString "abcdefghijklmnopqrstuvwxyz").cps.toList[j]?=some (97+j):=by decide +kernel
theorem neKd {K:PySem.W.Frag} {H:Hp} {p q:Addr} {cs:List Nat} {Rs:List (List (Int×Int))} {us vs:List V} {Q:VK} (h1:SqL K H p us) (h2:SqL K H q vs) (f1:KdR K H cs Rs us) (f2:KdR K H cs Rs vs) (k:Q (.bl false) H):rEqD K true (.ref p) (.ref q) H Q :=
 ⟨p,q,_,_,_,_,rfl,rfl,.inr ⟨h1,h2⟩,f1.dens,f2.dens,kdD_dep _ _,by rw [if_pos rfl,eqDs_refl];exact k⟩
end L2
namespace L2
open PySem PySem.Spec PyProof PyProof.Rows PySem.W
section
variable {X:Cx}
theorem op_repStr:OpR X (binaryOp .Mult) (fun x y H Q=>∃ (c:Nat) (n:Int),x=.str (chS c)∧y=.int n∧2≤n∧n≤100∧Q (.str ⟨(List.replicate n.toNat c).toArray⟩) H):=by
 intro pins s σ H x y v u Q I rx ry h
 obtain ⟨c,n,rfl,rfl,n2,n100,q⟩:=h
 obtain ⟨t,rfl⟩:=rx
 obtain ⟨t',rfl⟩:=ry
 have key:∀ k (a:Array Nat),(List.replicate k (#[c]:Array Nat)).foldl (· ++ ·) a=a ++ (List.replicate k c).toArray:=by
  intro k
  induction k with
  | zero=>intro a;simp
  | succ k ih =>
    intro a
    rw [List.replicate_succ,List.foldl_cons,ih]
    apply Array.toList_inj.mp
    simp [List.replicate_succ]
 have e:(⟨(List.replicate n.toNat (chS c).cps).foldl (· ++ ·) #[]⟩:Str)=⟨(List.replicate n.toNat c).toArray⟩:=by
  congr 1
  show (List.replicate n.toNat (#[c]:Array Nat)).foldl (· ++ ·) #[]=_
  rw [key];simp
 have h1:(n == 1 || (chS c).length == 0)=false:=by
  have:(n == 1)=false:=by simp;omega
  rw [this];rfl
 refine P.mul_str ?_ (fun _ _=>?_) (fun _ _=>?_) ?_
 · rw [decide_eq_false (by omega),decide_eq_false (by omega)];rfl
 · show ¬ ((1:Nat):Int) > _
   have:(1:Int)≤(2 ^ 63 - 1) / n:=Int.le_ediv_of_mul_le (by omega) (by omega)
   omega
 · show Builtin.Str.tooLong (1 * n.toNat)=false
   unfold Builtin.Str.tooLong
   rw [decide_eq_false_iff_not,sizeLine_eq]
   omega
 · rw [if_neg (by omega),h1,if_neg Bool.false_ne_true,e]
   refine ⟨?_,⟨.str _,H,I.tok _,⟨_,rfl⟩,q⟩⟩
   show (List.replicate n.toNat c).toArray.size≤sizeLine
   rw [List.size_toArray,List.length_replicate,sizeLine_eq]
   omega
end
end L2
namespace L2
open PySem PySem.Spec PyProof PyProof.Rows PySem.W
theorem firstMet_nodup (val:Nat→Int):∀ i,(firstMet val i).Nodup
 | 0=>List.nodup_nil
 | i+1=>by
   rw [firstMet_succ]
   have ih:=firstMet_nodup val i
   unfold step_dedup
   split
   · exact ih
   · rename_i h
     refine List.nodup_append.mpr ⟨ih,List.pairwise_singleton _ _,fun a ha b hb e=>h ?_⟩
     rw [List.mem_singleton.mp hb] at e
     rw [List.any_eq_true]
     exact ⟨a,ha,by rw [e];exact beq_self_eq_true _⟩
theorem firstMet_mem (ns:List Int) (k:Int):k∈firstMet (fun i=>ns.getD i 0) ns.length↔k∈ns:=by
 have h:=firstMet_any (fun i=>ns.getD i 0) ns.length k
 have e:(List.range ns.length).map (fun i=>ns.getD i 0)=ns:=by
  apply List.ext_getElem
  · simp
  · intro i h1 h2
    rw [List.getElem_map,List.getElem_range,List.getD_eq_getElem?_getD,List.getElem?_eq_getElem h2];rfl
 rw [e] at h
 have a:∀ l:List Int,l.any (· == k)=true↔k∈l:=fun l=>by
  rw [List.any_eq_true]
  constructor
  · rintro ⟨x,hx,ex⟩
    rw [← eq_of_beq ex];exact hx
  · intro hx
    exact ⟨k,hx,beq_self_eq_true _⟩
 rw [← a,← a,h]
section
variable {X:Cx}
noncomputable def tLenSetI (K:PySem.W.Frag) (ta:TA):TE:=fun σ H Q=>ta σ H fun vs H1=>∃ (p:Addr) (ns:List Int),vs=[.ref p]∧SqL K H1 p (ns.map V.int)∧ns.length≤1000∧∀ ds:List Int,ds.Nodup→(∀ k,k∈ds↔k∈ns)→ds.length≤ns.length→Q (.int (ds.length:Nat)) H1
set_option maxHeartbeats 1600000 in
theorem pe_lensetI {a:Expr} {ta:TA} {p p' pos pos':Pos} (hc:X.calm=true) (hgL:Gl X "len") (hmL:X.mg "len"=none) (hgE:Gl X "set") (hmE:X.mg "set"=none) (ha:PA X [a] ta)
 (hs:starEach [.Call (.Name "set" p') [a] [] pos'] X.env=[(false,eval (.Call (.Name "set" p') [a] [] pos') X.env)]:=by rfl) (hs2:starEach [a] X.env=[(false,eval a X.env)]:=by rfl) :
 PE X (.Call (.Name "len" p) [.Call (.Name "set" p') [a] [] pos'] [] pos) (tLenSetI X.K ta):=by
 intro pins s σ H Q I h
 refine wpAny_Call_Name_kw (ld_blt I hgL hmL PySem.boot_len ?_ (by decide) (by decide))
 refine PyProof.Rows.callWith_builtin1 ?_ hs rfl
 rw [hs]
 show wpAny _ _ (spliced ((false,eval (.Call (.Name "set" p') [a] [] pos') X.env) :: backTo pos [])) _ _ s
 refine Calls.spliced_cons ?_
 refine wpAny_Call_Name_kw (ld_blt I hgE hmE boot_set ?_ (by decide) (by decide))
 refine PyProof.Rows.callWith_type1 (thn (ha pos' pins s σ H _ I h) fun us s1 ⟨vs,H1,I1,r1,q1⟩=>?_) hs2 rfl
 obtain ⟨l,ns,rfl,hl,n1000,q⟩:=q1
 obtain ⟨u,rfl,ru⟩:=vals1 r1
 cases ru
 have hh:=I1.ok.hd hc
 obtain ⟨its,r,pl,hz⟩:=I1.list hl
 have hlen:=r.length
 rw [List.length_map] at hlen
 refine call_set_list hh pl.isList (by simpa using intsAre_of r) (by rw [List.size_toArray,← hlen];show ns.length+1<4096;omega) fun h1 tk1 hS kp1=>Calls.spliced_nil ?_
 have I2:Inv X pins σ H1 { s1 with heap:=h1,toks:=tk1 }:=I1.kept (t':=tk1) (h':=h1) fun b o e=>kp1 b o (Heap.lt_size e) e
 have hsz:its.toArray.size=ns.length:=by rw [List.size_toArray,← hlen]
 rw [hsz] at hS
 have hle:=firstMet_length_le (fun i=>ns.getD i 0) ns.length
 obtain ⟨o,es,ep,t,ho,hex,hd,_,_,_,hf,hn⟩:=hS
 refine call_len_set (s:={ s1 with heap:=h1,toks:=tk1 }) ho hex hd hf (by omega) ?_
 refine ⟨.int ((firstMet (fun i=>ns.getD i 0) ns.length).length:Nat),H1,I2.tok _,⟨_,by rw [hn]⟩,q _ (firstMet_nodup _ _) (fun k=>firstMet_mem ns k) hle⟩
theorem op_repStr1:OpR X (binaryOp .Mult) (fun x y H Q=>∃ (c:Nat) (n:Int),x=.str (chS c)∧y=.int n∧1≤n∧n≤100∧Q (.str ⟨(List.replicate n.toNat c).toArray⟩) H):=by
 intro pins s σ H x y v u Q I rx ry h
 obtain ⟨c,n,rfl,rfl,n1,n100,q⟩:=h
 by_cases h1:n=1
 · subst h1
   obtain ⟨t,rfl⟩:=rx
   obtain ⟨t',rfl⟩:=ry
   refine P.mul_str ?_ (fun _ _=>?_) (fun _ _=>?_) ?_
   · decide
   · show ¬ ((1:Nat):Int) > _
     decide
   · show Builtin.Str.tooLong (1 * 1)=false
     decide
   · rw [if_neg (by decide)]
     have:((1:Int) == 1 || (chS c).length == 0)=true:=rfl
     rw [this,if_pos rfl]
     exact ⟨.str _,H,I,⟨_,rfl⟩,q⟩
 · exact op_repStr pins s σ H _ _ v u Q I rx ry ⟨c,n,rfl,rfl,by omega,n100,q⟩
end
end L2
namespace Pw
theorem mixL_at {Ms:List Mx} {n t:Nat} (ht:t<n):(mixL Ms n).getD t (0,1)=ofQ (mixQ Ms t):=getD_map_range ht
theorem mixL_len (Ms:List Mx) (n:Nat):(mixL Ms n).length=n:=by unfold mixL;rw [List.length_map,List.length_range]
noncomputable def alQ (ps:List (Int×Int)) (A:Int×Int) (n:Nat) (x:Nat→Rat) (t:Nat):Rat:=qs n (fun j=>x j * ((1 - val A) * ((cn ps j t:Rat) / (((outs ps (j:Int)).length:Nat):Rat))))
theorem beh_lin {ps:List (Int×Int)} {A:Int×Int} {Bs Rs:List (Int×Int)} {n t:Nat} (all:∀ j:Nat,j<n→outs ps (j:Int)≠[]) (ca:Canon A) (cb:Canons Bs) (hn:Bs.length=n) (ht:t<n) :
 behQ ps A Bs Rs n t=val A * val (Bs.getD t (0,1)) * qs n (fun j=>val (Rs.getD j (0,1)))+alQ ps A n (fun j=>val (Rs.getD j (0,1))) t:=by
 unfold behQ alQ
 rw [← qs_mul,← qs_add]
 refine qs_congr fun j hj=>?_
 rw [way_val ca cb hn ht,if_neg (all j hj)]
 grind
theorem qs_mulr (c:Rat) (f:Nat→Rat) (n:Nat):qs n (fun i=>f i * c)=qs n f * c:=by
 have:=qs_mul c f n
 rw [show qs n f * c=c * qs n f by grind,← this]
 exact qs_congr fun i _=>by grind
structure Mixd (ps:List (Int×Int)) (A:Int×Int) (n:Nat) (Ms Ts:List Mx):Prop where
 len:Ts.length=Ms.length
 part:∀ i,i<Ms.length→(Ts.getD i mxd).1=(Ms.getD i mxd).1
 nn:∀ i,i<Ms.length→0≤val (Ms.getD i mxd).1
 sh:∀ i,i<Ms.length→ShOk ps A (Ms.getD i mxd).2 n (Ts.getD i mxd).2
 cb:∀ i,i<Ms.length→Canons (Ms.getD i mxd).2
 ln:∀ i,i<Ms.length→(Ms.getD i mxd).2.length=n
theorem ShOk.vnn {ps:List (Int×Int)} {A:Int×Int} {Bs Ss:List (Int×Int)} {n t:Nat} (h:ShOk ps A Bs n Ss) (ht:t<n):0≤val (Ss.getD t (0,1)):=by
 have hm:=L2.mem_getD (Bs:=Ss) (t:=t) (by rw [h.len];exact ht)
 have h1:=h.nn _ hm
 have h2:=(h.canon _ hm).1
 exact val_nn h2 h1
theorem Mixd.qnn {ps:List (Int×Int)} {A:Int×Int} {n:Nat} {Ms Ts:List Mx} (h:Mixd ps A n Ms Ts) {t:Nat} (ht:t<n):0≤mixQ Ts t:=by
 unfold mixQ
 rw [h.len]
 refine qs_nonneg fun i hi=>?_
 rw [h.part i hi]
 exact Rat.mul_nonneg (h.nn i hi) ((h.sh i hi).vnn ht)
theorem Mixd.sum {ps:List (Int×Int)} {A:Int×Int} {n:Nat} {Ms Ts:List Mx} (h:Mixd ps A n Ms Ts):qs n (fun t=>mixQ Ts t)=qs Ms.length (fun i=>val (Ms.getD i mxd).1):=by
 unfold mixQ
 rw [qs_swap (fun t i=>val (Ts.getD i mxd).1 * val ((Ts.getD i mxd).2.getD t (0,1))),h.len]
 refine qs_congr fun i hi=>?_
 rw [qs_mul,(h.sh i hi).one,h.part i hi]
 grind
theorem Mixd.stay {ps:List (Int×Int)} {A:Int×Int} {n:Nat} {Ms Ts:List Mx} (h:Mixd ps A n Ms Ts) (all:∀ j:Nat,j<n→outs ps (j:Int)≠[]) (ca:Canon A) {t:Nat} (ht:t<n):mixQ Ts t=val A * mixQ Ms t+alQ ps A n (fun j=>mixQ Ts j) t:=by
 have e:∀ i,i<Ms.length→val (Ts.getD i mxd).1 * val ((Ts.getD i mxd).2.getD t (0,1))=val A * (val (Ms.getD i mxd).1 * val ((Ms.getD i mxd).2.getD t (0,1)))+val (Ts.getD i mxd).1 * alQ ps A n (fun j=>val ((Ts.getD i mxd).2.getD j (0,1))) t:=fun i hi=>by
  have st:=(h.sh i hi).stay t ht
  rw [beh_lin all ca (h.cb i hi) (h.ln i hi) ht,(h.sh i hi).one] at st
  rw [← st,h.part i hi]
  grind
 have l:mixQ Ts t=qs Ms.length (fun i=>val (Ts.getD i mxd).1 * val ((Ts.getD i mxd).2.getD t (0,1))):=by unfold mixQ;rw [h.len]
 rw [l,qs_congr e,qs_add,qs_mul]
 congr 1
 unfold alQ mixQ
 have sw:∀ j,j<n→qs Ts.length (fun i=>val (Ts.getD i mxd).1 * val ((Ts.getD i mxd).2.getD j (0,1))) * ((1 - val A) * ((cn ps j t:Rat) / (((outs ps (j:Int)).length:Nat):Rat)))=qs Ms.length (fun i=>val (Ts.getD i mxd).1 * (val ((Ts.getD i mxd).2.getD j (0,1)) * ((1 - val A) * ((cn ps j t:Rat) / (((outs ps (j:Int)).length:Nat):Rat))))):=fun j _=>by
  rw [← qs_mulr,h.len]
  exact qs_congr fun i _=>by grind
 rw [qs_congr sw,qs_swap (fun j i=>val (Ts.getD i mxd).1 * (val ((Ts.getD i mxd).2.getD j (0,1)) * ((1 - val A) * ((cn ps j t:Rat) / (((outs ps (j:Int)).length:Nat):Rat)))))]
 exact qs_congr fun i _=>by rw [qs_mul]
theorem Mixd.ok {ps:List (Int×Int)} {A:Int×Int} {n:Nat} {Ms Ts:List Mx} (h:Mixd ps A n Ms Ts) (all:∀ j:Nat,j<n→outs ps (j:Int)≠[]) (ca:Canon A) (one:qs Ms.length (fun i=>val (Ms.getD i mxd).1)=1):ShOk ps A (mixL Ms n) n (mixL Ts n) where
 len:=mixL_len _ _
 canon:=fun R hR=>by
  obtain ⟨t,ht,rfl⟩:=List.mem_map.mp hR
  exact ofQ_canon _
 nn:=fun R hR=>by
  obtain ⟨t,ht,rfl⟩:=List.mem_map.mp hR
  exact num_nn (ofQ_canon _).1 (by rw [val_ofQ];exact h.qnn (List.mem_range.mp ht))
 one:=by
  rw [qs_congr (g:=fun t=>mixQ Ts t) fun t ht=>by rw [mixL_at ht,val_ofQ],h.sum,one]
 stay:=fun t ht=>by
  have cM:Canons (mixL Ms n):=fun R hR=>by
   obtain ⟨t,ht,rfl⟩:=List.mem_map.mp hR
   exact ofQ_canon _
  have ev:∀ j,j<n→val ((mixL Ts n).getD j (0,1))=mixQ Ts j:=fun j hj=>by rw [mixL_at hj,val_ofQ]
  rw [beh_lin all ca cM (mixL_len _ _) ht,qs_congr ev,h.sum,one,mixL_at ht,val_ofQ,mixL_at ht,val_ofQ,h.stay all ca ht]
  have:alQ ps A n (fun j=>val ((mixL Ts n).getD j (0,1))) t=alQ ps A n (fun j=>mixQ Ts j) t:=by
   unfold alQ
   exact qs_congr fun j hj=>by dsimp only;rw [ev j hj]
  rw [this]
  grind
theorem all_linked {ps:List (Int×Int)} {n:Nat} {ds:List Int} (nd:ds.Nodup) (hm:∀ k,k∈ds↔k∈ps.map (·.1)) (lk:∀ p∈ps,0≤p.1∧p.1<(n:Int)) (hl:ds.length=n):∀ j:Nat,j<n→outs ps (j:Int)≠[]:=by
 intro j hj e
 have hj2:(j:Int)∉ps.map (·.1):=fun h=>by
  obtain ⟨p,hp,e1⟩:=List.mem_map.mp h
  have:p∈ps.filter fun p=>decide (p.1=(j:Int)):=List.mem_filter.mpr ⟨hp,decide_eq_true e1⟩
  have h2:p.2∈outs ps (j:Int):=List.mem_map.mpr ⟨p,this,rfl⟩
  rw [e] at h2;cases h2
 have hr:∀ k∈ds,∃ i:Nat,i<n∧k=(i:Int):=fun k hk=>by
  obtain ⟨p,hp,e1⟩:=List.mem_map.mp ((hm k).mp hk)
  have:=lk p hp
  exact ⟨k.toNat,by omega,by omega⟩
 have sub:∀ k∈(j:Int) :: ds,k∈(List.range n).map fun i:Nat=>(i:Int):=fun k hk=>by
  rcases List.mem_cons.mp hk with rfl | hk
  · exact List.mem_map.mpr ⟨j,List.mem_range.mpr hj,rfl⟩
  · obtain ⟨i,hi,rfl⟩:=hr k hk
    exact List.mem_map.mpr ⟨i,List.mem_range.mpr hi,rfl⟩
 have nd2:((j:Int) :: ds).Nodup:=List.nodup_cons.mpr ⟨fun h=>hj2 ((hm _).mp h),nd⟩
 have:=List.Nodup.length_le_of_subset nd2 sub
 rw [List.length_cons,List.length_map,List.length_range] at this
 omega
end Pw
namespace Pw
open L2 (Sz Sz2)
theorem mixQ_cons (M:Mx) (Ms:List Mx) (t:Nat):mixQ (M :: Ms) t=val M.1 * val (M.2.getD t (0,1))+mixQ Ms t:=by
 unfold mixQ
 rw [List.length_cons,qs_front]
 rfl
theorem mixQ_snoc (Ms:List Mx) (M:Mx) (t:Nat):mixQ (Ms ++ [M]) t=mixQ Ms t+val M.1 * val (M.2.getD t (0,1)):=by
 induction Ms with
 | nil=>rw [List.nil_append,mixQ_cons];unfold mixQ;show _+(0:Rat)=0+_;grind
 | cons N Ms ih=>rw [List.cons_append,mixQ_cons,mixQ_cons,ih];grind
theorem mixQ_take {Ms:List Mx} {i:Nat} (h:i<Ms.length) (t:Nat):mixQ (Ms.take (i+1)) t=mixQ (Ms.take i) t+val (Ms.getD i mxd).1 * val ((Ms.getD i mxd).2.getD t (0,1)):=by
 have e:Ms.getD i mxd=Ms[i]:=by rw [List.getD_eq_getElem?_getD,List.getElem?_eq_getElem h];rfl
 rw [e,List.take_succ,List.getElem?_eq_getElem h,Option.toList_some,mixQ_snoc]
theorem sz_q {q:Rat} {D z:Int} {m:Nat} (h0:0≤q) (h1:q≤1) (hD:0<D) (e:q * (D:Rat)=(z:Rat)) (s:Sz m D):Sz2 m (ofQ q):=by
 have c:=ofQ_canon q
 have dv:(ofQ q).2∣D:=den_dvd (by omega) e
 have le:=Int.le_of_dvd hD dv
 have n0:=num_nn c.1 (by rw [val_ofQ];exact h0)
 have n1:=num_le c.1 (by rw [val_ofQ];exact h1)
 have c1:=c.1
 have s:D.natAbs<2 ^ m:=s
 exact ⟨(by show (ofQ q).1.natAbs<2 ^ m;omega),(by show (ofQ q).2.natAbs<2 ^ m;omega)⟩
noncomputable def CD (Ms:List Mx) (n:Nat) (D:Int):Prop:=0<D∧∀ t,t<n→∃ z:Int,mixQ Ms t * (D:Rat)=(z:Rat)
theorem CD.nil (n:Nat):CD [] n 1:=⟨by decide,fun t _=>⟨0,by unfold mixQ;show (0:Rat) * _=_;grind⟩⟩
theorem int_of_dvd {A:Int×Int} {D:Int} (h:0<A.2) (d:A.2∣D):∃ z:Int,val A * (D:Rat)=(z:Rat):=by
 obtain ⟨k,rfl⟩:=d
 refine ⟨A.1 * k,?_⟩
 have:=val_mul2 h
 rw [Rat.intCast_mul,Rat.intCast_mul,← this]
 grind
theorem CD.snoc {Ms:List Mx} {M:Mx} {n:Nat} {D E:Int} (h:CD Ms n D) (p2:0<M.1.2) (hE:0<E) (hM:∀ t,t<n→0<(M.2.getD t (0,1)).2∧(M.2.getD t (0,1)).2∣E):CD (Ms ++ [M]) n (D * (M.1.2 * E)):=by
 refine ⟨Int.mul_pos h.1 (Int.mul_pos p2 hE),fun t ht=>?_⟩
 obtain ⟨z,hz⟩:=h.2 t ht
 obtain ⟨y,hy⟩:=int_of_dvd p2 (Int.dvd_refl M.1.2)
 obtain ⟨x,hx⟩:=int_of_dvd (hM t ht).1 (hM t ht).2
 refine ⟨z * (M.1.2 * E)+D * (y * x),?_⟩
 rw [mixQ_snoc]
 simp only [Rat.intCast_mul,Rat.intCast_add]
 rw [← hz,← hy,← hx]
 grind
theorem CD.sz {Ms:List Mx} {n m:Nat} {D:Int} (h:CD Ms n D) (s:Sz m D) {t:Nat} (ht:t<n) (h0:0≤mixQ Ms t) (h1:mixQ Ms t≤1):Sz2 m (ofQ (mixQ Ms t)):=by
 obtain ⟨z,hz⟩:=h.2 t ht
 exact sz_q h0 h1 h.1 hz s
noncomputable def kMs (ks cs:List Nat) (m:Nat):List Mx:=cs.map fun c=>(mk ((ks.count c:Nat):Int) (m:Int),kdL ks c)
theorem kd_at {ks:List Nat} {c t:Nat} (ht:t<ks.length):(kdL ks c).getD t (0,1)=if ks.getD t 0=c then (1,(ks.count c:Int)) else (0,1):=by
 unfold kdL
 rw [List.getD_eq_getElem?_getD,List.getElem?_map,List.getElem?_eq_getElem ht,List.getD_eq_getElem?_getD,List.getElem?_eq_getElem ht]
 rfl
theorem kMs_q {ks cs:List Nat} {m t:Nat} (nd:cs.Nodup) (hc:∀ c∈cs,c∈ks) (ht:t<ks.length) (hm:0<m):mixQ (kMs ks cs m) t=if ks.getD t 0∈cs then 1 / (m:Rat) else 0:=by
 induction cs with
 | nil=>rw [if_neg List.not_mem_nil];rfl
 | cons c cs ih =>
   have ih:=ih (List.nodup_cons.mp nd).2 fun c h=>hc c (List.mem_cons_of_mem _ h)
   have hcn:=(List.nodup_cons.mp nd).1
   show mixQ ((_,_) :: kMs ks cs m) t=_
   rw [mixQ_cons,ih]
   have hcp:=List.count_pos_iff.mpr (hc c List.mem_cons_self)
   have hcr:((ks.count c:Nat):Rat)≠0:=by
    intro z
    have:(ks.count c:Nat)=0:=by exact_mod_cast z
    omega
   have hmr:((m:Nat):Rat)≠0:=by
    intro z
    have:m=0:=by exact_mod_cast z
    omega
   dsimp only
   rw [val_mk (by omega),kd_at ht]
   by_cases e:ks.getD t 0=c
   · have q1:ks.getD t 0∈c :: cs:=by rw [e];exact List.mem_cons_self
     have q2:ks.getD t 0∉cs:=by rw [e];exact hcn
     rw [if_pos e,if_pos q1,if_neg q2]
     unfold val
     dsimp only
     rw [Rat.intCast_natCast,Rat.intCast_natCast,Rat.intCast_one]
     grind
   · rw [if_neg e]
     have z:val (0,1)=0:=by unfold val;simp [Rat.div_def]
     rw [z]
     by_cases h2:ks.getD t 0∈cs
     · rw [if_pos h2,if_pos (List.mem_cons_of_mem _ h2)];grind
     · rw [if_neg h2,if_neg (fun h=>by rcases List.mem_cons.mp h with h | h;exact e h;exact h2 h)];grind
theorem kparts (ks:List Nat) {m:Nat} (hm:0<m):∀ cs:List Nat,qs (kMs ks cs m).length (fun i=>val ((kMs ks cs m).getD i mxd).1)=(((cs.map fun c=>ks.count c).sum:Nat):Rat) / (m:Rat)
 | []=>by show (0:Rat)=((0:Nat):Rat) / _;grind
 | c :: cs=>by
   have ih:=kparts ks hm cs
   show qs ((kMs ks cs m).length+1) _=_
   rw [qs_front]
   show val (mk ((ks.count c:Nat):Int) (m:Int))+qs (kMs ks cs m).length (fun i=>val ((kMs ks cs m).getD i mxd).1)=_
   rw [ih,val_mk (by omega),List.map_cons,List.sum_cons,Rat.intCast_natCast,Rat.intCast_natCast,Rat.natCast_add]
   grind
theorem mix_sum {Ms:List Mx} {n:Nat} (h:∀ i,i<Ms.length→qs n (fun t=>val ((Ms.getD i mxd).2.getD t (0,1)))=1):qs n (fun t=>mixQ Ms t)=qs Ms.length (fun i=>val (Ms.getD i mxd).1):=by
 unfold mixQ
 rw [qs_swap (fun t i=>val (Ms.getD i mxd).1 * val ((Ms.getD i mxd).2.getD t (0,1)))]
 refine qs_congr fun i hi=>?_
 rw [qs_mul,h i hi]
 grind
theorem kMs_at {ks cs:List Nat} {m i:Nat} (h:i<cs.length):(kMs ks cs m).getD i mxd=(mk ((ks.count cs[i]:Nat):Int) (m:Int),kdL ks cs[i]):=by
 unfold kMs
 rw [List.getD_eq_getElem?_getD,List.getElem?_map,List.getElem?_eq_getElem h]
 rfl
theorem kMs_len (ks cs:List Nat) (m:Nat):(kMs ks cs m).length=cs.length:=by unfold kMs;rw [List.length_map]
theorem kMs_sum {ks cs:List Nat} {m:Nat} (hc:∀ c∈cs,c∈ks):qs ks.length (fun t=>mixQ (kMs ks cs m) t)=qs (kMs ks cs m).length (fun i=>val ((kMs ks cs m).getD i mxd).1):=by
 refine mix_sum fun i hi=>?_
 rw [kMs_len] at hi
 rw [kMs_at hi]
 have:=kd_sum (hc _ (List.getElem_mem hi))
 rw [kd_len] at this
 exact this
noncomputable def kTs (ks cs:List Nat) (Rs:List (List (Int×Int))) (m:Nat):List Mx:=List.zipWith (fun c R=>(mk ((ks.count c:Nat):Int) (m:Int),R)) cs Rs
theorem k_mixd {ps:List (Int×Int)} {A:Int×Int} {n m:Nat} {ks cs:List Nat} {Rs:List (List (Int×Int))} (hl:Rs.length=cs.length) (hR:∀ (i c:Nat) (R:List (Int×Int)),cs[i]?=some c→Rs[i]?=some R→ShOk ps A (kdL ks c) n R) (hc:∀ c∈cs,c∈ks) (hn:ks.length=n) (hm:0<m):Mixd ps A n (kMs ks cs m) (kTs ks cs Rs m):=by
 have at_:∀ i (h:i<cs.length),(kTs ks cs Rs m).getD i mxd=(mk ((ks.count cs[i]:Nat):Int) (m:Int),Rs[i]'(by omega)):=fun i h=>by
  unfold kTs
  rw [List.getD_eq_getElem?_getD,List.getElem?_zipWith,List.getElem?_eq_getElem h,List.getElem?_eq_getElem (by omega)]
  rfl
 refine ⟨by unfold kTs;rw [List.length_zipWith,kMs_len];omega,fun i hi=>?_,fun i hi=>?_,fun i hi=>?_,fun i hi=>?_,fun i hi=>?_⟩ <;> rw [kMs_len] at hi
 · rw [at_ i hi,kMs_at hi]
 · rw [kMs_at hi]
   dsimp only
   rw [val_mk (by omega)]
   exact div_nn (cnn (by omega)) (cpos (by omega))
 · rw [at_ i hi,kMs_at hi]
   exact hR i _ _ (List.getElem?_eq_getElem hi) (List.getElem?_eq_getElem (by omega))
 · rw [kMs_at hi]
   exact kd_canon (hc _ (List.getElem_mem hi))
 · rw [kMs_at hi]
   show (kdL _ _).length=n
   rw [kd_len,hn]
theorem kTs_scale {ks:List Nat} {m n:Nat} (hm:0<m) (hn:0<n) (t:Nat):∀ (cs:List Nat) (Rs:List (List (Int×Int))),mixQ (kTs ks cs Rs n) t * (n:Rat)=mixQ (kTs ks cs Rs m) t * (m:Rat)
 | [],_=>by
   show mixQ [] t * _=mixQ [] t * _
   unfold mixQ
   show (0:Rat) * _=0 * _
   grind
 | _ :: _,[]=>by
   show mixQ [] t * _=mixQ [] t * _
   unfold mixQ
   show (0:Rat) * _=0 * _
   grind
 | c :: cs,R :: Rs=>by
   have ih:=kTs_scale hm hn t cs Rs (ks:=ks)
   have hmr:((m:Nat):Rat)≠0:=by
    intro z
    have:m=0:=by exact_mod_cast z
    omega
   have hnr:((n:Nat):Rat)≠0:=by
    intro z
    have:n=0:=by exact_mod_cast z
    omega
   show mixQ ((_,_) :: kTs ks cs Rs n) t * _=mixQ ((_,_) :: kTs ks cs Rs m) t * _
   rw [mixQ_cons,mixQ_cons]
   dsimp only
   rw [val_mk (by omega),val_mk (by omega),Rat.intCast_natCast,Rat.intCast_natCast,Rat.intCast_natCast]
   have e1:((ks.count c:Nat):Rat) / (n:Rat) * (n:Rat)=((ks.count c:Nat):Rat):=by grind
   have e2:((ks.count c:Nat):Rat) / (m:Rat) * (m:Rat)=((ks.count c:Nat):Rat):=by grind
   generalize ((ks.count c:Nat):Rat) / (n:Rat)=x at e1
   generalize ((ks.count c:Nat):Rat) / (m:Rat)=y at e2
   grind
end Pw
namespace Pw
open L2 (Sz Sz2 sz_of)
theorem natne {m:Nat} (h:0<m):((m:Nat):Rat)≠0:=by
 intro z
 have:m=0:=by exact_mod_cast z
 omega
theorem nodup_sub_len {cs ks:List Nat} (nd:cs.Nodup) (h:∀ c∈cs,c∈ks):cs.length≤ks.length:=List.Nodup.length_le_of_subset nd h
theorem mixL_get {Ms:List Mx} {n t:Nat} (h:t<(mixL Ms n).length):(mixL Ms n)[t]=ofQ (mixQ Ms t):=by
 simp [mixL]
theorem ksum_le {f:Nat→Nat} {b:Nat}:∀ {cs:List Nat},(∀ c∈cs,f c≤b)→(cs.map f).sum≤cs.length * b
 | [],_=>by simp
 | c :: cs,h=>by
   have ih:=ksum_le (cs:=cs) fun c hc=>h c (List.mem_cons_of_mem _ hc)
   have h1:=h c List.mem_cons_self
   rw [List.map_cons,List.sum_cons,List.length_cons,Nat.add_mul]
   omega
theorem k_pre {ps:List (Int×Int)} {A:Int×Int} {n:Nat} {ks cs:List Nat} {Rs:List (List (Int×Int))} (few:ps.length≤100) (lk:∀ p∈ps,0≤p.2∧p.2<(n:Int)) (all:∀ j:Nat,j<n→outs ps (j:Int)≠[]) (ca:Canon A) (a0:0<A.1) (a1:A.1≤A.2) (sA:Sz2 41 A) (n1:1≤n) (n12:n≤12) (hn:ks.length=n) (nd:cs.Nodup) (hc:∀ c∈cs,c∈ks)
 (hl:Rs.length=cs.length) (hR:∀ (i c:Nat) (R:List (Int×Int)),cs[i]?=some c→Rs[i]?=some R→ShOk ps A (kdL ks c) n R):∃ D:Int,CD (kTs ks cs Rs n) n D∧Sz 700 D:=by
 cases hcs:cs with
 | nil=>exact ⟨1,CD.nil n,sz_of 1 (by decide)⟩
 | cons c0 cs0 =>
   rw [← hcs]
   obtain ⟨m,em⟩:∃ m,m=(cs.map fun c=>ks.count c).sum:=⟨_,rfl⟩
   have hm:0<m:=by
    rw [em,hcs,List.map_cons,List.sum_cons]
    have:=List.count_pos_iff.mpr (hc c0 (by rw [hcs];exact List.mem_cons_self))
    omega
   have hm144:m≤144:=by
    have h1:=ksum_le (f:=fun c=>ks.count c) (b:=12) (cs:=cs) fun c _=>by
     have:=List.count_le_length (a:=c) (l:=ks)
     show ks.count c≤12
     omega
    have h2:=nodup_sub_len nd hc
    rw [← em] at h1
    omega
   have mx:=k_mixd (m:=m) hl hR hc hn hm
   have one:qs (kMs ks cs m).length (fun i=>val ((kMs ks cs m).getD i mxd).1)=1:=by
    rw [kparts ks hm cs,← em]
    have:=natne hm
    grind
   have ok:=mx.ok all ca one
   have q:∀ t,t<n→mixQ (kMs ks cs m) t=if ks.getD t 0∈cs then 1 / (m:Rat) else 0:=fun t ht=>kMs_q nd hc (by omega) hm
   have hmr:=natne hm
   have hmp:(0:Rat)<(m:Rat):=by have:=cpos (show (0:Int)<(m:Int) by omega);rwa [Rat.intCast_natCast] at this
   have cM:Canons (mixL (kMs ks cs m) n):=fun R hR=>by
    obtain ⟨t,ht,rfl⟩:=List.mem_map.mp hR
    exact ofQ_canon _
   have pr:L2.Pr A (mixL (kMs ks cs m) n) (m:Int):={
    a0:=a0
    a1:=a1
    nn:=fun B hB=>by
     obtain ⟨t,ht,rfl⟩:=List.mem_map.mp hB
     refine num_nn (ofQ_canon _).1 ?_
     rw [val_ofQ,q t (List.mem_range.mp ht)]
     split
     · exact div_nn (by decide) hmp
     · exact Rat.le_refl
    one:=by
     rw [mixL_len,qs_congr (g:=fun t=>mixQ (kMs ks cs m) t) fun t ht=>by rw [mixL_at ht,val_ofQ],← hn,kMs_sum hc,one]
    spos:=by omega
    ssz:=sz_of (k:=(m:Int)) 41 (by show ((m:Nat):Int).natAbs<2 ^ 41;omega)
    sdvd:=fun B hB=>by
     obtain ⟨t,ht,rfl⟩:=List.mem_map.mp hB
     have hq:=q t (List.mem_range.mp ht)
     refine den_dvd (D:=(m:Int)) (n:=if ks.getD t 0∈cs then 1 else 0) (by omega) ?_
     rw [hq,Rat.intCast_natCast]
     split
     · show 1 / (m:Rat) * (m:Rat)=((1:Int):Rat)
       rw [Rat.intCast_one]
       grind
     · show (0:Rat) * _=((0:Int):Rat)
       rw [Rat.intCast_zero]
       grind }
   obtain ⟨Ss,V',oS,v0,vz,vd⟩:=L2.sh_ex (z:=41) few lk ca cM (mixL_len _ _) n12 pr sA.2 (sz_of (k:=(m:Int)) 41 (by show ((m:Nat):Int).natAbs<2 ^ 41;omega))
   have e:=ShOk.unique lk ca cM (mixL_len _ _) pr oS ok
   refine ⟨(n:Int) * V',⟨Int.mul_pos (by omega) v0,fun t ht=>?_⟩,((sz_of (k:=(n:Int)) (m:=4) 4 (by show ((n:Nat):Int).natAbs<2 ^ 4;omega)).mul vz).mono (by decide)⟩
   have hm1:ofQ (mixQ (kTs ks cs Rs m) t)∈Ss:=by
    rw [e]
    exact List.mem_map.mpr ⟨t,List.mem_range.mpr ht,rfl⟩
   obtain ⟨z,hz⟩:=int_of_dvd (ofQ_canon _).1 (vd _ hm1)
   rw [val_ofQ] at hz
   refine ⟨(m:Int) * z,?_⟩
   have sc:=kTs_scale (ks:=ks) hm (show 0<n by omega) t cs Rs
   rw [Rat.intCast_mul,Rat.intCast_mul,← hz,Rat.intCast_natCast,Rat.intCast_natCast]
   grind
theorem ofQ_1 {n:Nat} (h:1≤n):ofQ (1 / (n:Rat))=(1,(n:Int)):=by
 refine val_inj (ofQ_canon _) ⟨by show (0:Int)<_;omega,by simp⟩ ?_
 rw [val_ofQ]
 unfold val
 rw [Rat.intCast_one,Rat.intCast_natCast]
theorem k_even {ks cs:List Nat} {n:Nat} (n1:1≤n) (hn:ks.length=n) (nd:cs.Nodup) (hc:∀ c,c∈cs↔c∈ks):mixL (kMs ks cs n) n=List.replicate n (1,(n:Int))∧qs (kMs ks cs n).length (fun i=>val ((kMs ks cs n).getD i mxd).1)=1:=by
 have q:∀ t,t<n→mixQ (kMs ks cs n) t=1 / (n:Rat):=fun t ht=>by
  rw [kMs_q nd (fun c h=>(hc c).mp h) (by omega) (by omega),if_pos]
  refine (hc _).mpr ?_
  rw [List.getD_eq_getElem?_getD,List.getElem?_eq_getElem (by omega)]
  exact List.getElem_mem _
 refine ⟨?_,?_⟩
 · apply List.ext_getElem
   · rw [mixL_len,List.length_replicate]
   · intro t h1 h2
     rw [mixL_get,List.getElem_replicate,q t (by rwa [mixL_len] at h1),ofQ_1 n1]
 · rw [← kMs_sum fun c h=>(hc c).mp h,hn,qs_congr q,qs_const]
   have:=natne (show 0<n by omega)
   grind
theorem kd_same (c n:Nat):kdL (List.replicate n c) c=List.replicate n (1,(n:Int)):=by
 unfold kdL
 rw [List.map_replicate,if_pos rfl,List.count_replicate_self]
theorem mix_one {Bs:List (Int×Int)} {n:Nat} (hn:Bs.length=n) (cb:Canons Bs):mixL [((1,1),Bs)] n=Bs:=by
 apply List.ext_getElem
 · rw [mixL_len,hn]
 · intro t h1 h2
   have e:Bs.getD t (0,1)=Bs[t]:=by rw [List.getD_eq_getElem?_getD,List.getElem?_eq_getElem h2];rfl
   have:mixQ [((1,1),Bs)] t=val Bs[t]:=by
    rw [mixQ_cons,e]
    unfold mixQ
    show val (1,1) * _+(0:Rat)=_
    have:val (1,1)=1:=by unfold val;show ((1:Int):Rat) / ((1:Int):Rat)=1;rw [Rat.intCast_one];grind
    rw [this]
    grind
   rw [mixL_get,this,ofQ_val (cb _ (List.getElem_mem h2))]
end Pw
namespace L2
open PySem PySem.Spec PyProof PyProof.Rows PySem.W
noncomputable def spLinked40 (K:PySem.W.Frag):Sp:=fun vs H Q _=>∃ (d w:Addr) (n:Nat) (ps:List (Int×Int)),vs=[.ref d,.ref w]∧DrawsAt H d∧WebAt K H w (n:Int) ps∧Pw.WebOk (n:Int) ps ∧
 ∀ (w':Addr) (H':Hp) (qs:List (Int×Int)),WebAt K H' w' (n:Int) qs→qs.length≤60→(∀ p∈qs,0≤p.1∧p.1<(n:Int)∧0≤p.2∧p.2<(n:Int))→DrawsAt H' d→Kp d H H'→Q (.ref w') H'
noncomputable def spAllL (K:PySem.W.Frag):Sp:=fun vs H Q _=>∃ (w:Addr) (n:Nat) (ps:List (Int×Int)),vs=[.ref w]∧WebAt K H w (n:Int) ps∧ps.length≤60∧(∀ p∈ps,0≤p.1∧p.1<(n:Int)) ∧
 ∀ (b:Bool) (H':Hp),(b=true→∀ j:Nat,j<n→Pw.outs ps (j:Int)≠[])→Same H H'→Q (.bl b) H'
structure LMix (Ts:List Pw.Mx) (n:Nat):Prop where
 few:Ts.length≤12
 pos:0<Ts.length
 n12:n≤12
 part:∀ T∈Ts,Pw.Canon T.1∧Sz2 100 T.1
 len:∀ T∈Ts,T.2.length=n
 row:∀ T∈Ts,∀ S∈T.2,Pw.Canon S∧Sz2 2000 S
 pre:∀ i,i≤Ts.length→∀ t,t<n→Sz2 4300 (Pw.ofQ (Pw.mixQ (Ts.take i) t))
noncomputable def spLMix (K:PySem.W.Frag):Sp:=fun vs H Q _=>∃ (L:Addr) (Ts:List Pw.Mx) (us:List V) (n:Nat),vs=[.ref L]∧MixAt K H L Ts us∧LMix Ts n∧∀ (t:Addr) (H':Hp) (ys:List V),Same H H'→H' t=some (.tup ys)→FrL K H' (Pw.mixL Ts n) ys→Q (.ref t) H'
noncomputable def spRight40 (K:PySem.W.Frag):Sp:=fun vs H Q _=>∃ (d w lp:Addr) (n:Nat) (ps:List (Int×Int)) (A:Int×Int),vs=[.ref d,.ref w,.ref lp]∧DrawsAt H d∧WebAt K H w (n:Int) ps∧1≤n∧n≤12∧ps.length≤60∧(∀ p∈ps,0≤p.1∧p.1<(n:Int)∧0≤p.2∧p.2<(n:Int))∧(∀ j:Nat,j<n→Pw.outs ps (j:Int)≠[]) ∧
 FrA K H lp A∧Pw.Canon A∧0<A.1∧A.1≤A.2∧Sz2 41 A∧∀ H',DrawsAt H' d→Kp d H H'→Q (.bl true) H'
end L2
namespace Pw
open L2 (Sz Sz2 sz_of)
theorem ShOk.vle1 {ps:List (Int×Int)} {A:Int×Int} {Bs Ss:List (Int×Int)} {n:Nat} (h:ShOk ps A Bs n Ss) {t:Nat} (ht:t<n):val (Ss.getD t (0,1))≤1:=by
 rw [← h.one]
 exact qs_ge (f:=fun t=>val (Ss.getD t (0,1))) ht fun i hi=>h.vnn hi
theorem ShOk.sz {ps:List (Int×Int)} {A:Int×Int} {Bs Ss:List (Int×Int)} {n m:Nat} {V':Int} (h:ShOk ps A Bs n Ss) (v0:0<V') (vz:Sz m V') (vd:∀ S∈Ss,S.2∣V'):∀ S∈Ss,Canon S∧Sz2 m S:=fun S hS=>by
 have c:=h.canon S hS
 obtain ⟨t,ht,e⟩:=List.getElem_of_mem hS
 have hl:=h.len
 have e2:Ss.getD t (0,1)=S:=by rw [List.getD_eq_getElem?_getD,List.getElem?_eq_getElem ht,e];rfl
 have l1:=h.vle1 (t:=t) (by omega)
 have l0:=h.vnn (t:=t) (by omega)
 rw [e2] at l1 l0
 have n1:=num_le c.1 l1
 have n0:=num_nn c.1 l0
 have le:=Int.le_of_dvd v0 (vd S hS)
 have vz:V'.natAbs<2 ^ m:=vz
 have c1:=c.1
 exact ⟨c,(by show S.1.natAbs<2 ^ m;omega),(by show S.2.natAbs<2 ^ m;omega)⟩
theorem Mixd.q1 {ps:List (Int×Int)} {A:Int×Int} {n:Nat} {Ms Ts:List Mx} (h:Mixd ps A n Ms Ts) (one:qs Ms.length (fun i=>val (Ms.getD i mxd).1)=1) {t:Nat} (ht:t<n):mixQ Ts t≤1:=by
 rw [← one,← h.sum]
 exact qs_ge (f:=fun t=>mixQ Ts t) ht fun i hi=>h.qnn hi
theorem Mixd.pre {ps:List (Int×Int)} {A:Int×Int} {n:Nat} {Ms Ts:List Mx} (h:Mixd ps A n Ms Ts) (one:qs Ms.length (fun i=>val (Ms.getD i mxd).1)=1) {t:Nat} (ht:t<n):∀ i,i≤Ts.length→0≤mixQ (Ts.take i) t∧mixQ (Ts.take i) t≤1:=by
 have hl:=h.len
 have term:∀ i,i<Ts.length→0≤val (Ts.getD i mxd).1 * val ((Ts.getD i mxd).2.getD t (0,1)):=fun i hi=>by
  rw [h.part i (by omega)]
  exact Rat.mul_nonneg (h.nn i (by omega)) ((h.sh i (by omega)).vnn ht)
 have up:∀ k i,i+k=Ts.length→mixQ (Ts.take i) t≤1:=by
  intro k
  induction k with
  | zero =>
    intro i hi
    rw [List.take_of_length_le (by omega)]
    exact h.q1 one ht
  | succ k ih =>
    intro i hi
    have h1:=ih (i+1) (by omega)
    rw [mixQ_take (by omega)] at h1
    have h2:=term i (by omega)
    grind
 have lo:∀ i,i≤Ts.length→0≤mixQ (Ts.take i) t:=by
  intro i
  induction i with
  | zero=>intro _;exact Rat.le_refl
  | succ i ih =>
    intro hi
    rw [mixQ_take (by omega)]
    have h1:=ih (by omega)
    have h2:=term i (by omega)
    grind
 exact fun i hi=>⟨lo i hi,up (Ts.length - i) i (by omega)⟩
end Pw
namespace L2
open PySem PySem.Spec PyProof PyProof.Rows PySem.W
theorem lmix_of {ps:List (Int×Int)} {A:Int×Int} {n b:Nat} {Ms Ts:List Pw.Mx} (h:Pw.Mixd ps A n Ms Ts) (one:Pw.qs Ms.length (fun i=>Pw.val (Ms.getD i Pw.mxd).1)=1) (pos:0<Ms.length) (few:Ms.length≤12) (n12:n≤12)
 (part:∀ i,i<Ms.length→Pw.Canon (Ms.getD i Pw.mxd).1∧Sz2 100 (Ms.getD i Pw.mxd).1) (row:∀ i,i<Ms.length→∃ V':Int,0<V'∧Sz 2000 V'∧∀ S∈(Ts.getD i Pw.mxd).2,S.2∣V') (cd:∀ i,i≤Ts.length→∃ D:Int,Pw.CD (Ts.take i) n D∧Sz 4300 D):LMix Ts n:=by
 have hl:=h.len
 have at_:∀ T∈Ts,∃ i,i<Ms.length∧T=Ts.getD i Pw.mxd:=fun T hT=>by
  obtain ⟨i,hi,rfl⟩:=List.getElem_of_mem hT
  exact ⟨i,by omega,by rw [List.getD_eq_getElem?_getD,List.getElem?_eq_getElem hi];rfl⟩
 refine ⟨by omega,by omega,n12,fun T hT=>?_,fun T hT=>?_,fun T hT=>?_,fun i hi t ht=>?_⟩
 · obtain ⟨i,hi,rfl⟩:=at_ T hT
   rw [h.part i hi]
   exact part i hi
 · obtain ⟨i,hi,rfl⟩:=at_ T hT
   exact (h.sh i hi).len
 · obtain ⟨i,hi,rfl⟩:=at_ T hT
   obtain ⟨V',v0,vz,vd⟩:=row i hi
   exact (h.sh i hi).sz v0 vz vd
 · obtain ⟨D,c,s⟩:=cd i hi
   obtain ⟨q0,q1⟩:=h.pre one ht i hi
   exact c.sz s ht q0 q1
theorem cd_of {ps:List (Int×Int)} {A:Int×Int} {n a:Nat} {Ms Ts:List Pw.Mx} (h:Pw.Mixd ps A n Ms Ts) (part:∀ i,i<Ms.length→0<(Ms.getD i Pw.mxd).1.2∧Sz a (Ms.getD i Pw.mxd).1.2) {b:Nat} (row:∀ i,i<Ms.length→∃ V':Int,0<V'∧Sz b V'∧∀ S∈(Ts.getD i Pw.mxd).2,S.2∣V'):∀ i,i≤Ts.length→∃ D:Int,Pw.CD (Ts.take i) n D∧Sz (i * (a+b)+1) D:=by
 have hl:=h.len
 intro i
 induction i with
 | zero=>intro _;exact ⟨1,Pw.CD.nil n,sz_of 1 (by decide) (by omega)⟩
 | succ i ih =>
   intro hi
   obtain ⟨D,c,s⟩:=ih (by omega)
   obtain ⟨V',v0,vz,vd⟩:=row i (by omega)
   obtain ⟨p0,pz⟩:=part i (by omega)
   have e:Ts.take (i+1)=Ts.take i ++ [Ts.getD i Pw.mxd]:=by
    rw [List.take_succ,List.getElem?_eq_getElem (by omega),List.getD_eq_getElem?_getD,List.getElem?_eq_getElem (by omega)];rfl
   have sh:=h.sh i (by omega)
   have pe:=h.part i (by omega)
   rw [← pe] at p0 pz
   have c2:=c.snoc (M:=Ts.getD i Pw.mxd) p0 v0 fun t ht=>by
    have hm:=mem_getD (Bs:=(Ts.getD i Pw.mxd).2) (t:=t) (by rw [sh.len];exact ht)
    exact ⟨(sh.canon _ hm).1,vd _ hm⟩
   rw [← e] at c2
   exact ⟨_,c2,(s.mul (pz.mul vz)).mono (by rw [Nat.add_mul];omega)⟩
structure Wl (K:PySem.W.Frag) (H:Hp) (w lp:Addr) (n:Nat) (ps:List (Int×Int)) (A:Int×Int):Prop where
 web:WebAt K H w (n:Int) ps
 n1:1≤n
 n12:n≤12
 few:ps.length≤60
 lk:∀ p∈ps,0≤p.1∧p.1<(n:Int)∧0≤p.2∧p.2<(n:Int)
 leap:FrA K H lp A
 ca:Pw.Canon A
 a0:0<A.1
 a1:A.1≤A.2
 sa:Sz2 41 A
theorem Wl.kl {K:PySem.W.Frag} {H H':Hp} {w lp:Addr} {n:Nat} {ps:List (Int×Int)} {A:Int×Int} (g:Wl K H w lp n ps A) (s:KL H H'):Wl K H' w lp n ps A:={ g with web:=g.web.kl s,leap:=s.tup g.leap }
theorem Wl.same {K:PySem.W.Frag} {H H':Hp} {w lp:Addr} {n:Nat} {ps:List (Int×Int)} {A:Int×Int} (g:Wl K H w lp n ps A) (s:Same H H'):Wl K H' w lp n ps A:=g.kl s.kl
theorem Wl.kin {K:PySem.W.Frag} {H:Hp} {w lp:Addr} {n:Nat} {ps:List (Int×Int)} {A:Int×Int} (g:Wl K H w lp n ps A) {x:Str} (hx:x.cps.size=n):Kin K H w lp n ps A x:=⟨g.web,g.few,g.lk,g.leap,g.ca,g.a0,g.a1,g.sa,g.n1,g.n12,hx⟩
theorem Wl.gvS {K:PySem.W.Frag} {H:Hp} {w lp ls:Addr} {n:Nat} {ps:List (Int×Int)} {A:Int×Int} {Bs:List (Int×Int)} {us:List V} (g:Wl K H w lp n ps A) (e:H ls=some (.tup us)) (f:FrS K H Bs us) (cb:Pw.Canons Bs) (sb:∀ B∈Bs,Sz2 600 B) (hl:Bs.length=n):GvS K H w lp ls (n:Int) ps A Bs us:=by
 have:=g.n1
 have:=g.n12
 have:=g.few
 exact ⟨g.web,by omega,g.lk,g.leap,g.ca,g.sa.mono (by decide),e,f,cb,sb,by omega,by omega,by omega⟩
theorem Wl.at0 {K:PySem.W.Frag} {H:Hp} {w lp:Addr} {n:Nat} {ps:List (Int×Int)} {A:Int×Int} (g:Wl K H w lp n ps A):∃ r,H w=some (.tup [.int (n:Int),.ref r]):=by
 obtain ⟨r,us,e,_⟩:=g.web
 exact ⟨r,e⟩
theorem wts_pr {A:Int×Int} {n:Nat} {vs:List Int} (a0:0<A.1) (a1:A.1≤A.2) (n12:n≤12) (wt:Wts (n:Int) vs):Pr A (lps vs) vs.sum :=
 ⟨a0,a1,lps_nn wt,by rw [lps_len];exact lps_sum wt,wt.pos,(wt.sz (by omega)).mono (by decide),lps_dvd wt⟩
theorem mixPr {A:Int×Int} {Ms:List Pw.Mx} {n:Nat} {D:Int} (a0:0<A.1) (a1:A.1≤A.2) (ok:Pw.MixOk Ms n D) (one:Pw.qs n (fun t=>Pw.mixQ Ms t)=1):Pr A (Pw.mixL Ms n) D :=
 ⟨a0,a1,fun B hB=>(ok.each one B hB).2.1,by rw [Pw.mixL_len,Pw.qs_congr (g:=fun t=>Pw.mixQ Ms t) fun t ht=>by rw [Pw.mixL_at ht,Pw.val_ofQ],one],ok.dpos,ok.dsz,fun B hB=>(ok.each one B hB).2.2.2.1⟩
end L2
set_option pp.maxSteps 800
namespace Lw
open PySem L2 PyProof.Rows
noncomputable def top (i:Nat):Stmt:=PySem.Challenge.pw_pagewalks_k40_whole_mixed_shares.main.body.getD i (.Pass ⟨0,0,0,0⟩)
noncomputable abbrev sCommon:Stmt:=top 5
noncomputable abbrev sMade:Stmt:=top 6
noncomputable abbrev sPlus:Stmt:=top 7
noncomputable abbrev sTimes:Stmt:=top 8
noncomputable abbrev sTotal:Stmt:=top 9
noncomputable abbrev sBelow:Stmt:=top 10
noncomputable abbrev sAboves:Stmt:=top 11
noncomputable abbrev sCleared:Stmt:=top 13
noncomputable abbrev sSolved:Stmt:=top 14
noncomputable abbrev sLeads:Stmt:=top 16
noncomputable abbrev sEven:Stmt:=top 17
noncomputable abbrev sParts:Stmt:=top 19
noncomputable abbrev sFactor:Stmt:=top 20
noncomputable abbrev sEquation:Stmt:=top 21
noncomputable abbrev sVisits:Stmt:=top 22
noncomputable abbrev sShares:Stmt:=top 23
noncomputable abbrev s_leaps_of:Stmt:=top 25
noncomputable abbrev s_mixed:Stmt:=top 26
noncomputable abbrev s_by_kinds:Stmt:=top 27
noncomputable abbrev s_law_draws:Stmt:=top 29
noncomputable abbrev s_law_take:Stmt:=top 30
noncomputable abbrev s_law_fraction:Stmt:=top 31
noncomputable abbrev s_law_sum:Stmt:=top 32
noncomputable abbrev s_law_product:Stmt:=top 34
noncomputable abbrev sWeb:Stmt:=top 38
noncomputable abbrev sLLeap:Stmt:=top 39
noncomputable abbrev sLLeaps:Stmt:=top 40
noncomputable abbrev s_law_kinds:Stmt:=top 44
noncomputable abbrev s_law_linked:Stmt:=top 45
noncomputable abbrev s_law_all_linked:Stmt:=top 46
noncomputable abbrev s_law_mix:Stmt:=top 47
noncomputable abbrev sRight:Stmt:=top 48
noncomputable abbrev sLaw:Stmt:=top 49
section
variable {P:Program} {w:World} {K:PySem.W.Frag} {mg:Str→Option Value} {base:Heap}
theorem scCommon:FnScope ["one","other","rest"] ["one","other"] (defScope sCommon):=⟨rfl,rfl,rfl,by decide +kernel,rfl,by decide +kernel,by decide +kernel⟩
theorem ok_common {f:Addr} {fd:FuncData} (F:Fun K "common" "common" sCommon f fd):FnOk P w K mg base CX0 1 f fd ["one","other"] spCommon:=by
 refine F.ok scCommon (fun vs H Q E h=>?_) (fun cdv A outer s H vs Q E hr h=>?_)
 · obtain ⟨x,y,rfl,_⟩:=h
   rfl
 · obtain ⟨x,y,rfl,hx,hy,k⟩:=h
   refine ⟨_,pss_cons (ps_while PassesOwn.never (pt_cmpR op_ne (pv 1) pe_int (nomark _))
    (pss_cons (ps_set (i:=2) scCommon.nd rfl (Or.inl rfl) (pe_op op_mod (pv 0) (pv 1)))
    (pss_cons (ps_set (i:=0) scCommon.nd rfl (Or.inl rfl) (pv 1))
    (pss_one (ps_set (i:=1) scCommon.nd rfl (Or.inl rfl) (pv 2))))))
    (pss_one (ps_ret (pv 0))),?_⟩
   refine while_by (fun σ H'=>∃ (a b:Int) (r:Option V),σ=[some (.int a),some (.int b),r]∧0≤a∧0≤b∧Int.gcd a b=Int.gcd x y∧H'=H)
    (fun σ _=>match σ with | [_,some (.int b),_]=>b.toNat | _=>0) ⟨x,y,none,rfl,hx,hy,rfl,rfl⟩ ?_ ?_
   · rintro σ H' ⟨a,b,r,rfl,ha,hb,hg,rfl⟩
     refine ⟨_,rfl,rfl,_,rfl,?_⟩
     by_cases h0:b=0
     · refine ifF (veq h0) ?_
       subst h0
       refine ⟨_,rfl,?_⟩
       have e:(a:Int)=(Int.gcd x y:Int):=by rw [← hg,Int.gcd_zero_right];omega
       show Q (.int a) _
       rw [e];exact k
     · refine ifT (vne h0) ?_
       have hb0:0<b:=by omega
       refine ⟨_,rfl,_,rfl,_,_,rfl,rfl,hb0,?_⟩
       refine ⟨_,rfl,?_⟩
       refine ⟨_,rfl,?_⟩
       refine ⟨⟨b,a % b,_,rfl,hb,Int.emod_nonneg _ (by omega),?_,rfl⟩,?_⟩
       · rw [Pw.gcd_turn ha hb0,hg]
       · show (a % b).toNat<b.toNat
         have h1:=Int.emod_nonneg a (show b≠0 by omega)
         have h2:=Int.emod_lt_of_pos a hb0
         omega
   · rintro σ H' q q' hq ⟨v,e,hs,kk,ek,z⟩
     exact ⟨v,e,hs,kk,ek,hq _ _ z⟩
theorem abs_nn (x:Int):0≤(if x<0 then -x else x):=by split <;> omega
theorem abs_gcd (x y:Int):Int.gcd (if x<0 then -x else x) (if y<0 then -y else y)=Int.gcd x y:=by
 split <;> split <;> simp [Int.neg_gcd,Int.gcd_neg]
theorem gcd_sz {n:Nat} {x y:Int} (h:Sz n y) (hy:y≠0):Sz n (Int.gcd x y:Int):=by
 show (Int.gcd x y:Int).natAbs<2 ^ n
 have:Int.gcd x y≤y.natAbs:=Nat.le_of_dvd (by omega) (Int.gcd_dvd_natAbs_right ..)
 have h':y.natAbs<2 ^ n:=h
 omega
theorem scMade:FnScope ["above","below","divisor"] ["above","below"] (defScope sMade):=⟨rfl,rfl,rfl,by decide +kernel,rfl,by decide +kernel,by decide +kernel⟩
theorem ok_made {f fC:Addr} {fd fdC:FuncData} (F:Fun K "made" "made" sMade f fd) (zabs:mg "abs"=none) (FC:Fun K "common" "common" sCommon fC fdC) (mC:mg "common"=some (.ref fC)) (bC:Binds K fdC ["one","other"] []) :
 FnOk P w K mg base CX0 2 f fd ["above","below"] spMade:=by
 have GC:FnOk P w K mg base CX0 1 fC fdC ["one","other"] spCommon:=ok_common FC
 refine F.ok scMade (fun vs H Q E h=>?_) (fun cdv A outer s H vs Q E hr h=>?_)
 · obtain ⟨x,y,rfl,_⟩:=h
   rfl
 · obtain ⟨x,y,rfl,hy,sx,sy,k⟩:=h
   refine ⟨_,pss_cons (ps_set (i:=2) scMade.nd rfl (Or.inl rfl) (pe_call GC hr rfl mC FC.kp bC .nil pass0 (pa_cons (pe_callB call_abs (by rfl) zabs boot_abs (pa_cons (pv 0) pa_nil)) (pa_cons (pe_callB call_abs (by rfl) zabs boot_abs (pa_cons (pv 1) pa_nil)) pa_nil))))
    (pss_cons (ps_if (pt_cmpR op_lt (pv 1) pe_int (nomark _)) (pss_one (ps_set (i:=2) scMade.nd rfl (Or.inl rfl) (pe_un un_neg (pv 2)))) pss_nil)
    (pss_one (ps_ret (pe_tup (pa_cons (pe_op op_fdivB (pv 0) (pv 2)) (pa_cons (pe_op op_fdivB (pv 1) (pv 2)) pa_nil)))))),?_⟩
   refine ⟨_,rfl,x,rfl,_,rfl,y,rfl,_,_,rfl,abs_nn x,abs_nn y,?_⟩
   rw [abs_gcd]
   have hg:=Pw.gpos (a:=x) hy
   have sg:=(gcd_sz (x:=x) sy hy).mono (show 8000≤9000 by decide)
   refine ⟨_,rfl,_,_,rfl,rfl,_,rfl,?_⟩
   refine if2 (fun h=>?_) (fun h=>?_)
   · have h:y<0:=of_decide_eq_true h
     refine ⟨_,rfl,_,rfl,?_⟩
     refine ⟨_,rfl,_,rfl,_,_,rfl,rfl,⟨by omega,sg.neg⟩,_,rfl,_,rfl,_,_,rfl,rfl,⟨by omega,sg.neg⟩,(by show 2≤sizeLine;decide),fun p hp=>?_⟩
     have:=k p hp
     unfold Pw.mk at this
     rw [if_pos h] at this
     exact this
   · have h:¬ y<0:=of_decide_eq_false h
     refine ⟨_,rfl,_,rfl,_,_,rfl,rfl,⟨by omega,sg⟩,_,rfl,_,rfl,_,_,rfl,rfl,⟨by omega,sg⟩,(by show 2≤sizeLine;decide),fun p hp=>?_⟩
     have:=k p hp
     unfold Pw.mk at this
     rw [if_neg h] at this
     exact this
theorem ndL:(["here","there","page"]:List Str).Nodup:=by decide +kernel
theorem scLeads:FnScope ["web","page"] ["web","page"] (defScope sLeads):=⟨rfl,rfl,rfl,by decide +kernel,rfl,by decide +kernel,by decide +kernel⟩
theorem ok_leads {f:Addr} {fd:FuncData} (F:Fun K "leads" "leads" sLeads f fd):FnOk P w K mg base CX0 1 f fd ["web","page"] (spLinks K Pw.outs):=by
 refine F.ok scLeads (fun vs H Q E h=>?_) (fun cdv A outer s H vs Q E hr h=>?_)
 · obtain ⟨x,y,z,ps,rfl,_⟩:=h
   rfl
 · obtain ⟨wa,pages,page,ps,rfl,⟨ws,us,hw,hws,hp⟩,few,k⟩:=h
   refine ⟨_,pss_one (ps_ret (pe_compC ["here","there","page"] [none,none,some 1] rfl (pi_tup (pe_ix ix_tup (pv 0) pe_int (fun _ _=>rfl))) (by show ∀ y:Str×NameKind,y∈_→y.2=NameKind.free→(defScope sLeads).names.lookup y.1=some .cell;decide +kernel) (by decide) rfl (by decide +kernel) ⟨⟨rfl,rfl,.inl rfl⟩,trivial⟩
    (fun cl C s H fp=>pg_tupK (K:=K) 2 rfl rfl (pgs_cons (pg_name (i:=0) ndL rfl (Or.inl rfl) (.inr rfl)) (pgs_cons (pg_name (i:=1) ndL rfl (Or.inl rfl) (.inr rfl)) pgs_nil)))
    (fun cl C s H fp=>pts_one (pt_cmpR op_eq (pv 0) (pv 2) (nomark _)))
    (fun cl C s H fp=>pv 1))),?_⟩
   refine ⟨_,rfl,wa,_,_,_,rfl,rfl,SqT.of hw,rfl,ws,rfl,⟨_,SqT.of hws⟩,fun D hD=>?_⟩
   have hl:=hp.len
   refine comp_tup (K:=K) (a:=ws) (D:=D) (xs:=us) (fun i ys σ H'=>Same H H'∧H' ws=some (.tup us)∧H' D=some (.lst ys)∧ys=(Pw.outs (ps.take i) page).map V.int∧∃ x y,σ=[x,y,some (.int page)]) ?_ ?_ ?_ ?_
   · exact ⟨Same.new hD,Same.new hD _ _ hws,upd_same,rfl,none,none,rfl⟩
   · rintro i ys σ H' ⟨s1,hw1,hD1,_,_⟩
     exact ⟨SqT.of hw1,hD1⟩
   · rintro i v ys σ H' hi hlt ⟨s1,hw1,hD1,rfl,x,y,rfl⟩
     obtain ⟨a,p,e1,rfl,e2⟩:=hp.get hi
     have et:ps.take (i+1)=ps.take i ++ [p]:=by rw [List.take_succ,e1];rfl
     refine ⟨a,_,rfl,s1.seqT e2,rfl,_,_,rfl,_,_,rfl,rfl,?_⟩
     refine ⟨_,rfl,_,rfl,rfl,_,rfl,?_⟩
     have hlen:((Pw.outs (ps.take i) page).map V.int).length<sizeLine:=by
      rw [List.length_map]
      have h1:=Pw.outs_len (ps.take i) page
      have h2:(ps.take i).length≤ps.length:=by rw [List.length_take];omega
      have:(sizeLine:Nat)=16777216:=sizeLine_eq
      omega
     by_cases c:p.1=page
     · refine ifT (by rw [c];simp) ?_
       refine ⟨_,rfl,hD1,hlen,Wt.next hlt ⟨fun b o e=>?_,?_,upd_same,?_,_,_,rfl⟩⟩
       · rw [upd_ne (ne_of_none e hD)];exact s1 b o e
       · rw [upd_ne (ne_of_none hws hD)];exact hw1
       · rw [et,Pw.outs_snoc,if_pos c,List.map_append];rfl
     · refine ifF (by simpa using c) ?_
       exact Wt.next hlt ⟨s1,hw1,hD1,by rw [et,Pw.outs_snoc,if_neg c,List.append_nil],_,_,rfl⟩
   · rintro ys σ H' ⟨s1,hw1,hD1,rfl,_⟩
     rw [hl,List.take_of_length_le (Nat.le_refl _)] at hD1
     exact k D H' s1 hD hD1
theorem d_made (S:Fnd K mg "made" sMade ["above","below"]) (C:Fnd K mg "common" sCommon ["one","other"]) (T:Txt mg):Def P w K mg base 2 "made" ["above","below"] spMadeS:=by
 obtain ⟨fC,fdC,FC,mC,bC⟩:=C
 exact S.def fun f fd F=>(ok_made F T.abs FC mC bC).imp fun vs H Q E ⟨x,y,e,h1,h2,h3,h4⟩=>⟨x,y,e,h1,h2,h3,fun p hp=>h4 p _ (Same.new hp) upd_same⟩
theorem sc_law_take:FnScope ["draws","many"] ["draws","many"] (defScope s_law_take):=⟨rfl,rfl,rfl,by decide +kernel,rfl,by decide +kernel,by decide +kernel⟩
theorem d_law_take (S:Fnd K mg "_law_take" s_law_take ["draws","many"]) (T:Txt mg) :Def P w K mg base 1 "_law_take" ["draws","many"] spTake:=S.def fun f fd F=>by
 have nd:=sc_law_take.nd
 refine F.ok sc_law_take (fun vs H Q E h=>?_) (fun cdv A' outer s H vs Q E hr h=>?_)
 · obtain ⟨_,_,rfl,_⟩:=h
   rfl
 · obtain ⟨d,m,rfl,hm,⟨ns,e,zl⟩,k⟩:=h
   refine ⟨_,(@pss_cons _ _ _ _ _ (@ps_if _ _ _ _ _ _ _ _ (pt_cmpR (op_eqNil hr) (pv 0) (@pe_lstS _ _ _ _ pa_nil) (nomark _))
    (@pss_one _ _ _ (@ps_ret _ _ _ _ pe_int))
    pss_nil)
    (@pss_one _ _ _ (@ps_ret _ _ _ _ (pe_op op_mod (pe_bm PySem.F.plainAttrs_list PySem.F.slot_list_pop PySem.F.type_list_pop mt_popAt (pv 0) (@pa_consX _ _ _ _ _ (by rfl) pe_int pa_nil)) (pv 1))))),?_⟩
   refine ⟨_,rfl,(by show 0≤sizeLine;decide),fun p G1 s1 hp e1=>?_⟩
   refine ⟨d,p,_,rfl,rfl,.inr ⟨SqL.of (s1 _ _ e),SqL.of e1⟩,_,rfl,?_⟩
   have hpd:p≠d:=(ne_of_none e hp).symm
   cases ns with
   | nil =>
     refine ifT rfl ?_
     exact k 0 G1 (by omega) hm ⟨[],s1 _ _ e,Nat.zero_le _⟩ (Same.kpd s1)
   | cons n ns =>
     refine ifF rfl ?_
     refine ⟨_,rfl,.inl ⟨rfl,_,SqL.of (s1 _ _ e)⟩,d,_,0,0,.int n,rfl,rfl,s1 _ _ e,by decide,by decide,(by simp [seqIndex?]),rfl,_,rfl,_,_,rfl,rfl,hm,?_⟩
     refine k _ _ (Int.emod_nonneg _ (by omega)) (Int.emod_lt_of_pos _ hm) ⟨ns,upd_same,by simp at zl;omega⟩ ?_
     exact (Same.kpd s1).trans Kp.set
theorem sc_law_fraction:FnScope ["above","below","one","other"] ["above","below"] (defScope s_law_fraction):=⟨rfl,rfl,rfl,by decide +kernel,rfl,by decide +kernel,by decide +kernel⟩
theorem d_law_fraction (S:Fnd K mg "_law_fraction" s_law_fraction ["above","below"]) (T:Txt mg) :Def P w K mg base 1 "_law_fraction" ["above","below"] spMade9:=S.def fun f fd F=>by
 have nd:=sc_law_fraction.nd
 refine F.ok sc_law_fraction (fun vs H Q E h=>?_) (fun cdv A' outer s H vs Q E hr h=>?_)
 · obtain ⟨_,_,rfl,_⟩:=h
   rfl
 · obtain ⟨x,y,rfl,hy,sx,sy,k⟩:=h
   refine ⟨_,(@pss_mid _ _ _ _ _ (@ps_if _ _ _ _ _ _ _ _ (pt_cmpR op_lt (pv 1) pe_int (nomark _))
    (@pss_cons _ _ _ _ _ (@ps_setX _ _ 0 _ _ _ _ (by rfl) (Or.inl rfl) nd rfl (Or.inl rfl) (pe_op op_sub pe_int (pv 0)))
    (@pss_one _ _ _ (@ps_setX _ _ 1 _ _ _ _ (by rfl) (Or.inl rfl) nd rfl (Or.inl rfl) (pe_op op_sub pe_int (pv 1)))))
     pss_nil)
    (@pss_cons _ _ _ _ _ (@ps_setX _ _ 2 _ _ _ _ (by rfl) (Or.inl rfl) nd rfl (Or.inl rfl) (pe_callB call_abs (by rfl) T.abs boot_abs (@pa_consX _ _ _ _ _ (by rfl) (pv 0) pa_nil)))
    (@pss_cons _ _ _ _ _ (@ps_setX _ _ 3 _ _ _ _ (by rfl) (Or.inl rfl) nd rfl (Or.inl rfl) (pv 1))
    (@pss_cons _ _ _ _ _ (ps_while PassesOwn.never (pt_cmpR op_gt (pv 3) pe_int (nomark _))
     (@pss_one _ _ _ (ps_par rfl nd (i:=2) (j:=3) rfl rfl (by decide) rfl rfl (@pa_consX _ _ _ _ _ (by rfl) (pv 3) (@pa_consX _ _ _ _ _ (by rfl) (pe_op op_mod (pv 2) (pv 3)) pa_nil)) (by rfl))))
    (@pss_one _ _ _ (@ps_ret _ _ _ _ (@pe_tupS _ _ _ _ _ (@pa_consX _ _ _ _ _ (by rfl) (pe_op op_fdivB (pv 0) (pv 2)) (@pa_consX _ _ _ _ _ (by rfl) (pe_op op_fdivB (pv 1) (pv 2)) pa_nil))))))))),?_⟩
   refine ⟨fun σ G=>G=H∧∃ x' y':Int,0<y'∧Sz 8900 x'∧Sz 8900 y'∧Pw.mk x' y'=Pw.mk x y∧σ=[some (.int x'),some (.int y'),none,none],?_,?_⟩
   · refine ⟨_,rfl,_,_,rfl,rfl,_,rfl,?_⟩
     refine if2 (fun h=>?_) (fun h=>?_)
     · have h:y<0:=of_decide_eq_true h
       refine ⟨_,rfl,_,_,rfl,rfl,?_⟩
       refine ⟨_,rfl,_,_,rfl,rfl,?_⟩
       refine ⟨rfl,0 - x,0 - y,by omega,?_,?_,?_,rfl⟩
       · rw [Int.zero_sub];exact sx.neg
       · rw [Int.zero_sub];exact sy.neg
       · have:=Pw.mk_mul (a:=x) (b:=y) (m:=-1) hy (by decide)
         rw [show 0 - x=x * -1 by omega,show 0 - y=y * -1 by omega]
         exact this
     · have h:¬ y<0:=of_decide_eq_false h
       exact ⟨rfl,x,y,by omega,sx,sy,rfl,rfl⟩
   rintro σ G ⟨rfl,x',y',hy',sx',sy',e0,rfl⟩
   rw [← e0] at k
   refine ⟨_,rfl,x',rfl,?_⟩
   refine ⟨_,rfl,?_⟩
   have hyn:y'≠0:=by omega
   refine while_by (fun σ H'=>∃ (a b:Int),σ=[some (.int x'),some (.int y'),some (.int a),some (.int b)]∧0≤a∧0≤b∧Int.gcd a b=Int.gcd x' y'∧H'=G)
    (fun σ _=>match σ with | [_,_,_,some (.int b)]=>b.toNat | _=>0) ⟨_,y',rfl,abs_nn x',by omega,?_,rfl⟩ ?_ ?_
   · have:=abs_gcd x' y'
     rw [if_neg (show ¬ y'<0 by omega)] at this
     exact this
   · rintro σ H' ⟨a,b,rfl,ha,hb,hg,rfl⟩
     refine ⟨_,rfl,_,_,rfl,rfl,_,rfl,?_⟩
     refine if2 (fun h=>?_) (fun h=>?_)
     · have hb0:0<b:=of_decide_eq_true h
       refine ⟨_,rfl,_,rfl,_,rfl,_,_,rfl,rfl,hb0,_,_,rfl,?_⟩
       refine ⟨⟨b,a % b,rfl,hb,Int.emod_nonneg _ (by omega),?_,rfl⟩,?_⟩
       · rw [Pw.gcd_turn ha hb0,hg]
       · show (a % b).toNat<b.toNat
         have h1:=Int.emod_nonneg a (show b≠0 by omega)
         have h2:=Int.emod_lt_of_pos a hb0
         omega
     · have h:¬ 0<b:=of_decide_eq_false h
       have h0:b=0:=by omega
       subst h0
       have e:(a:Int)=(Int.gcd x' y':Int):=by rw [← hg,Int.gcd_zero_right];omega
       subst e
       have hgp:=Pw.gpos (a:=x') hyn
       have sg:=(gcd_sz (x:=x') sy' hyn).mono (show 8900≤9000 by decide)
       refine ⟨_,rfl,_,rfl,_,_,rfl,rfl,⟨by omega,sg⟩,_,rfl,_,rfl,_,_,rfl,rfl,⟨by omega,sg⟩,(by show 2≤sizeLine;decide),fun p G2 s2 hp e2=>?_⟩
       refine k p G2 s2 ?_
       unfold Pw.mk
       rw [if_neg (show ¬ y'<0 by omega)]
       exact e2
   · rintro σ H' q q' hq ⟨v,e,i,j,e1,e2,kk,ek,z⟩
     exact ⟨v,e,i,j,e1,e2,kk,ek,hq _ _ z⟩
end
end Lw
set_option pp.maxSteps 800
namespace Lw
open PySem L2 PyProof.Rows
section
variable {P:Program} {w:World} {K:PySem.W.Frag} {mg:Str→Option Value} {base:Heap}
theorem d_leads (S:Fnd K mg "leads" sLeads ["web","page"]):Def P w K mg base 1 "leads" ["web","page"] (spLinks K Pw.outs):=S.def fun f fd F=>ok_leads F
theorem d_common (S:Fnd K mg "common" sCommon ["one","other"]):Def P w K mg base 1 "common" ["one","other"] spCommon:=S.def fun f fd F=>ok_common F
theorem scBelow:FnScope ["some","whole","each"] ["some"] (defScope sBelow):=⟨rfl,rfl,rfl,by decide +kernel,rfl,by decide +kernel,by decide +kernel⟩
theorem d_below (S:Fnd K mg "shared_below" sBelow ["some"]) (C:Def P w K mg base 1 "common" ["one","other"] spCommon):Def P w K mg base 2 "shared_below" ["some"] (spBelowS K):=S.def fun f fd F=>by
 have nd:=scBelow.nd
 refine F.ok scBelow (fun vs H Q E h=>?_) (fun cdv A' outer s H vs Q E hr h=>?_)
 · obtain ⟨_,_,_,_,_,rfl,_⟩:=h
   rfl
 · obtain ⟨b,a,us,As,M,rfl,hq,fl,pos,hM,zM,dv,k⟩:=h
   refine ⟨_,@pss_cons _ _ _ _ _ (@ps_setX _ _ 1 _ _ _ _ (by rfl) (Or.inl rfl) nd rfl (Or.inl rfl) pe_int)
    (@pss_cons _ _ _ _ _ (@ps_forX _ _ _ _ _ _ _ _ (fun _=>rfl) PassesOwn.never rfl (pi_seq (pv 0)) (pg_name (i:=2) nd rfl (Or.inl rfl))
     (@pss_one _ _ _ (@ps_setX _ _ 1 _ _ _ _ (by rfl) (Or.inl rfl) nd rfl (Or.inl rfl) (pe_op op_mulB (pe_op op_fdivB (pv 1) (pe_def (by rfl) (by rfl) (by rfl) (by decide) C hr (@pa_consX _ _ _ _ _ (by rfl) (pv 1) (@pa_consX _ _ _ _ _ (by rfl) (pe_ix ix_tup (pv 2) pe_int (fun _ _=>rfl)) pa_nil)))) (pe_ix ix_tup (pv 2) pe_int (fun _ _=>rfl))))))
    (@pss_one _ _ _ (@ps_ret _ _ _ _ (pv 1)))),?_⟩
   refine ⟨_,rfl,b,a,rfl,⟨us,hq⟩,?_⟩
   have hl:=fl.len
   refine for_seq (b:=b) (K:=K) (a:=a) (xs:=us) (fun i σ G=>G=H∧∃ (L:Int) (v:Option V),Pw.IsLcm (As.take i) L∧σ=[some (.ref a),some (.int L),v]) ⟨rfl,1,none,Pw.IsLcm.nil,rfl⟩ (fun i σ G _ h=>h.1 ▸ hq) ?_ ?_
   · rintro i x σ G hi ⟨rfl,L,v,hL,rfl⟩
     have hlt:i<us.length:=(List.getElem?_eq_some_iff.mp hi).1
     have hA:As[i]?=some As[i]:=by simp
     obtain ⟨p,ep,fp⟩:=fl.at hA
     rw [hi] at ep
     cases ep
     have mA:=List.mem_of_getElem? hA
     have pA:=pos _ mA
     have zL:Sz 8000 L:=IsLcm.takeM hL hM (fun A hA=>dv A (List.mem_of_mem_take hA)) zM
     have zA:Sz 8000 As[i].2:=le_sz (by omega) (Int.le_of_dvd hM (dv _ mA)) zM
     obtain ⟨g1,g2⟩:=gcd_le (x:=L) pA
     have hLp:=hL.pos
     refine ⟨_,rfl,_,rfl,_,rfl,p,_,_,_,rfl,rfl,fp,rfl,L,As[i].2,rfl,by omega,by omega,_,_,rfl,rfl,⟨by omega,(le_sz (by omega) g2 zA).mono (by decide)⟩,_,rfl,p,_,_,_,rfl,rfl,fp,rfl,_,_,rfl,rfl,⟨(fdiv_sz hLp g1 zL).mono (by decide),zA.mono (by decide)⟩,rfl,_,_,?_,rfl⟩
     rw [List.take_succ,hA]
     exact hL.snoc pA
   · rintro σ G ⟨rfl,L,v,hL,rfl⟩
     rw [hl,List.take_of_length_le (Nat.le_refl _)] at hL
     exact ⟨_,rfl,k L hL⟩
theorem ndAb:(["each","below"]:List Str).Nodup:=by decide +kernel
theorem scAboves:FnScope ["some","below"] ["some","below"] (defScope sAboves):=⟨rfl,rfl,rfl,by decide +kernel,rfl,by decide +kernel,by decide +kernel⟩
theorem d_aboves (S:Fnd K mg "aboves" sAboves ["some","below"]):Def P w K mg base 1 "aboves" ["some","below"] (spAbovesS K):=S.def fun f fd F=>by
 refine F.ok scAboves (fun vs H Q E h=>?_) (fun cdv A' outer s H vs Q E hr h=>?_)
 · obtain ⟨_,_,_,_,_,rfl,_⟩:=h
   rfl
 · obtain ⟨b,a,us,As,L,rfl,hq,fl,few,pos,hL,zL,k⟩:=h
   refine ⟨_,@pss_one _ _ _ (@ps_ret _ _ _ _ (pe_compC ["each","below"] [none,some 1] rfl (pi_seq (pv 0)) (by show ∀ y:Str×NameKind,y∈_→y.2=NameKind.free→(defScope sAboves).names.lookup y.1=some .cell;decide +kernel) (by decide) rfl (by decide +kernel) ⟨⟨rfl,rfl,.inl rfl⟩,trivial⟩
    (fun cl C s H fp=>pg_name (i:=0) ndAb rfl (Or.inl rfl) (.inr rfl)) (fun cl C s H fp=>pts_nil)
    (fun cl C s H fp=>pe_op op_mulB (pe_ix (ix_tupK (K:=K) rfl) (pv 0) pe_int (fun _ _=>rfl)) (pe_op op_fdivB (pv 1) (pe_ix (ix_tupK (K:=K) rfl) (pv 0) pe_int (fun _ _=>rfl)))))),?_⟩
   refine ⟨_,rfl,b,a,rfl,⟨us,hq⟩,fun D hD=>?_⟩
   have hl:=fl.len
   refine comp_seq (b:=b) (K:=K) (a:=a) (D:=D) (xs:=us) (fun i ys σ H'=>Same H H'∧H' D=some (.lst ys)∧ys=(Pw.abv (As.take i) L).map V.int∧∃ x,σ=[x,some (.int L)]) ?_ ?_ ?_ ?_
   · exact ⟨Same.new hD,upd_same,rfl,none,rfl⟩
   · rintro i ys σ H' ⟨s1,e1,_⟩
     exact ⟨hq.same s1,e1⟩
   · rintro i x ys σ H' hi hlt ⟨s1,e1,rfl,x',rfl⟩
     have hA:As[i]?=some As[i]:=by simp
     obtain ⟨p,ep,fp⟩:=fl.at hA
     rw [hi] at ep
     cases ep
     have mA:=List.mem_of_getElem? hA
     obtain ⟨pA,zA⟩:=pos _ mA
     have fp':=SqF.same fp s1
     dsimp only [gName]
     rw [if_pos rfl]
     refine ⟨_,rfl,p,_,_,_,rfl,rfl,fp',rfl,_,rfl,_,rfl,p,_,_,_,rfl,rfl,fp',rfl,_,_,rfl,rfl,⟨by omega,zA.2.mono (by decide)⟩,_,_,rfl,rfl,⟨zA.1.mono (by decide),(fdiv_sz hL pA zL).mono (by decide)⟩,e1,?_,Wt.next hlt ⟨fun b o e=>?_,upd_same,?_,_,rfl⟩⟩
     · unfold Pw.abv
       rw [List.length_map,List.length_map,List.length_take]
       exact small1000 (by omega)
     · rw [upd_ne (ne_of_none e hD)];exact s1 _ _ e
     · unfold Pw.abv
       rw [List.take_succ,hA,List.map_append,List.map_append]
       rfl
   · rintro ys σ H' ⟨s1,e1,rfl,_⟩
     rw [hl,List.take_of_length_le (Nat.le_refl _)] at e1
     exact k D H' s1 hD e1
theorem scParts:FnScope ["web","page"] ["web","page"] (defScope sParts):=⟨rfl,rfl,rfl,by decide +kernel,rfl,by decide +kernel,by decide +kernel⟩
theorem d_parts (S:Fnd K mg "parts" sParts ["web","page"]) (T:Txt mg) (Ld:Def P w K mg base 1 "leads" ["web","page"] (spLinks K Pw.outs)):Def P w K mg base 2 "parts" ["web","page"] (spParts K):=S.def fun f fd F=>by
 refine F.ok scParts (fun vs H Q E h=>?_) (fun cdv A' outer s H vs Q E hr h=>?_)
 · obtain ⟨_,_,_,_,rfl,_⟩:=h
   rfl
 · obtain ⟨wa,pages,j,ps,rfl,hw,few,k⟩:=h
   refine ⟨_,@pss_one _ _ _ (@ps_ret _ _ _ _ (pe_callB (call_max2 rfl) (by rfl) T.max boot_max (@pa_consX _ _ _ _ _ (by rfl) pe_int (@pa_consX _ _ _ _ _ (by rfl) (pe_callB call_len_seq (by rfl) T.len PySem.boot_len (@pa_consX _ _ _ _ _ (by rfl) (pe_def (by rfl) (by rfl) (by rfl) (by decide) Ld hr (@pa_consX _ _ _ _ _ (by rfl) (pv 0) (@pa_consX _ _ _ _ _ (by rfl) (pv 1) pa_nil))) pa_nil)) pa_nil)))),?_⟩
   refine ⟨_,rfl,_,rfl,wa,pages,j,ps,rfl,hw,few,fun l H1 s1 n1 e1=>?_⟩
   refine ⟨l,_,rfl,.inl (SqL.of e1),_,_,rfl,?_⟩
   have:=k H1 s1
   unfold Pw.mp at this
   rw [List.length_map]
   have e:(if (((Pw.outs ps (j:Int)).length:Nat):Int) > 1 then (((Pw.outs ps (j:Int)).length:Nat):Int) else 1)=((max 1 (Pw.outs ps (j:Int)).length:Nat):Int):=by split <;> omega
   rw [e]
   exact this
theorem scFactor:FnScope ["web","leap","here","there","along"] ["web","leap","here","there"] (defScope sFactor):=⟨rfl,rfl,rfl,by decide +kernel,rfl,by decide +kernel,by decide +kernel⟩
theorem d_factor (S:Fnd K mg "factor" sFactor ["web","leap","here","there"]) (T:Txt mg) (Pa:Def P w K mg base 2 "parts" ["web","page"] (spParts K)):Def P w K mg base 3 "factor" ["web","leap","here","there"] (spFactor K):=S.def fun f fd F=>by
 have nd:=scFactor.nd
 refine F.ok scFactor (fun vs H Q E h=>?_) (fun cdv A' outer s H vs Q E hr h=>?_)
 · obtain ⟨_,_,_,_,_,_,_,rfl,_⟩:=h
   rfl
 · obtain ⟨wa,lp,pages,j,i,ps,A,rfl,hw,few,hA,sa,k⟩:=h
   refine ⟨_,@pss_cons _ _ _ _ _ (@ps_setX _ _ 4 _ _ _ _ (by rfl) (Or.inl rfl) nd rfl (Or.inl rfl) (pe_op op_mulB (pe_op op_sub (pe_ix ix_tup (pv 1) pe_int (fun _ _=>rfl)) (pe_ix ix_tup (pv 1) pe_int (fun _ _=>rfl))) (pe_bmT (by rfl) (by rfl) (by rfl) (by rfl) (by rfl) PySem.F.plainAttrs_tuple PySem.F.slot_tuple_count PySem.F.type_tuple_count (mt_countT hr) (pe_ix ix_tup (pv 0) pe_int (fun _ _=>rfl)) (@pa_consX _ _ _ _ _ (by rfl) (@pe_tupS _ _ _ _ _ (@pa_consX _ _ _ _ _ (by rfl) (pv 2) (@pa_consX _ _ _ _ _ (by rfl) (pv 3) pa_nil))) pa_nil))))
    (@pss_cons _ _ _ _ _ (@ps_if _ _ _ _ _ _ _ _ (pt_cmpR op_eq (pv 2) (pv 3) (nomark _)) (@pss_one _ _ _ (@ps_ret _ _ _ _ (pe_op op_sub (pe_op op_mulB (pe_ix ix_tup (pv 1) pe_int (fun _ _=>rfl)) (pe_def (by rfl) (by rfl) (by rfl) (by decide) Pa hr (@pa_consX _ _ _ _ _ (by rfl) (pv 0) (@pa_consX _ _ _ _ _ (by rfl) (pv 2) pa_nil)))) (pv 4)))) pss_nil)
    (@pss_one _ _ _ (@ps_ret _ _ _ _ (pe_un un_neg (pv 4))))),?_⟩
   obtain ⟨ws,uw,hwa,hws,hpw⟩:=id hw
   have hol:=Pw.outs_len ps (j:Int)
   have hcc:=List.count_le_length (a:=(i:Int)) (l:=Pw.outs ps (j:Int))
   refine ⟨_,rfl,lp,_,_,_,rfl,rfl,SqT.of hA,rfl,_,rfl,lp,_,_,_,rfl,rfl,SqT.of hA,rfl,_,_,rfl,rfl,?_⟩
   refine ⟨_,rfl,wa,_,_,_,rfl,rfl,SqT.of hwa,rfl,⟨ws,uw,rfl,hws⟩,_,rfl,_,rfl,(by show 2≤sizeLine;decide),fun q H1 s1 n1 e1=>?_⟩
   refine ⟨ws,q,uw,ps,((j:Int),(i:Int)),rfl,rfl,s1 _ _ hws,hpw.kl s1.kl,SqT.of e1,?_⟩
   rw [Pw.cn_count]
   have zc:Sz 10 (Pw.cn ps j i):=sz_of 10 (by unfold Pw.cn;omega)
   refine ⟨_,_,rfl,rfl,⟨(sa.2.sub sa.1).mono (by decide),zc.mono (by decide)⟩,?_⟩
   refine ⟨_,rfl,_,rfl,rfl,_,rfl,?_⟩
   unfold Pw.fac at k
   by_cases e:j=i
   · refine ifT (by subst e;simp) ?_
     rw [if_pos e] at k
     refine ⟨_,rfl,lp,_,_,_,rfl,rfl,SqT.of (s1 _ _ hA),rfl,_,rfl,_,rfl,wa,pages,j,ps,rfl,hw.same s1,few,fun H2 s2=>?_⟩
     have zm:Sz 10 (Pw.mp ps j):=sz_of 10 (by unfold Pw.mp;omega)
     exact ⟨_,_,rfl,rfl,⟨sa.2.mono (by decide),zm.mono (by decide)⟩,_,rfl,_,_,rfl,rfl,k H2 (s1.trans s2)⟩
   · refine ifF (by simp;omega) ?_
     rw [if_neg e] at k
     exact ⟨_,rfl,_,rfl,k H1 s1⟩
theorem ndEq:(["here","web","leap","page"]:List Str).Nodup:=by decide +kernel
theorem scEquation:FnScope ["web","leap","page","start"] ["web","leap","page","start"] (defScope sEquation):=⟨rfl,rfl,rfl,by decide +kernel,rfl,by decide +kernel,by decide +kernel⟩
theorem d_equation (S:Fnd K mg "equation" sEquation ["web","leap","page","start"]) (T:Txt mg) (Fa:Def P w K mg base 3 "factor" ["web","leap","here","there"] (spFactor K)):Def P w K mg base 4 "equation" ["web","leap","page","start"] (spEquation K):=S.def fun f fd F=>by
 refine F.ok scEquation (fun vs H Q E h=>?_) (fun cdv A' outer s H vs Q E hr h=>?_)
 · obtain ⟨_,_,_,_,_,_,_,rfl,_⟩:=h
   rfl
 · obtain ⟨wa,lp,pages,i,st,ps,A,rfl,hw,plo,phi,few,hA,sa,k⟩:=h
   refine ⟨_,@pss_one _ _ _ (@ps_ret _ _ _ _ (pe_op op_catS (pe_compC ["here","web","leap","page"] [none,some 0,some 1,some 2] rfl (pi_range1 rfl T.range (@pa_consX _ _ _ _ _ (by rfl) (pe_ix ix_tup (pv 0) pe_int (fun _ _=>rfl)) pa_nil))
    (by show ∀ y:Str×NameKind,y∈_→y.2=NameKind.free→(defScope sEquation).names.lookup y.1=some .cell;decide +kernel) (by decide) rfl (by decide +kernel) ⟨⟨rfl,rfl,.inl rfl⟩,⟨rfl,rfl,.inl rfl⟩,⟨rfl,rfl,.inl rfl⟩,trivial⟩
    (fun cl C s H fp=>pg_name (i:=0) ndEq rfl (Or.inl rfl) (.inr rfl)) (fun cl C s H fp=>pts_nil)
    (fun cl C s H fp=>pe_def (by rfl) (by rfl) (by rfl) (by decide) Fa hr (@pa_consX _ _ _ _ _ (by rfl) (pv 1) (@pa_consX _ _ _ _ _ (by rfl) (pv 2) (@pa_consX _ _ _ _ _ (by rfl) (pv 0) (@pa_consX _ _ _ _ _ (by rfl) (pv 3) pa_nil)))))) (@pe_lstS _ _ _ _ (@pa_consX _ _ _ _ _ (by rfl) (pv 3) pa_nil)))),?_⟩
   obtain ⟨ws,uw,hwa,hws,hpw⟩:=id hw
   refine ⟨_,rfl,wa,_,_,_,rfl,rfl,SqT.of hwa,rfl,pages,rfl,by omega,by omega,fun D hD=>?_⟩
   refine comp_rng (lo:=0) (n:=pages.toNat) (D:=D) (fun j ys σ H'=>Same H H'∧H' D=some (.lst ys)∧ys=rowI (fun j=>Pw.fac ps A j i) j∧∃ x,σ=[x,some (.ref wa),some (.ref lp),some (.int i)]) ?_ ?_ ?_ ?_
   · exact ⟨Same.new hD,upd_same,rfl,none,rfl⟩
   · rintro j ys σ H' ⟨_,e,_⟩
     exact e
   · rintro j ys σ H' hj ⟨s1,e1,rfl,x,rfl⟩
     rw [Int.zero_add]
     dsimp only [gName]
     rw [if_pos rfl]
     refine ⟨_,rfl,_,rfl,_,rfl,_,rfl,wa,lp,pages,j,i,ps,A,rfl,hw.same s1,few,s1 _ _ hA,sa,fun H2 s2=>?_⟩
     refine ⟨s2 _ _ e1,by rw [rowI_len];exact small1000 (by omega),Wt.next hj ⟨fun b o e=>?_,upd_same,(rowI_succ _ _).symm,_,rfl⟩⟩
     rw [upd_ne (ne_of_none e hD)];exact s2 _ _ (s1 _ _ e)
   rintro ys σ H1 ⟨s1,e1,rfl,_⟩
   refine ⟨_,rfl,(by show 1≤sizeLine;decide),fun l H2 s2 n2 e2=>?_⟩
   refine ⟨D,l,_,_,rfl,rfl,s2 _ _ e1,e2,by rw [rowI_len];exact Nat.le_of_lt (small1000 (by show pages.toNat+1≤1000;omega)),fun p H3 s3 n3 e3=>?_⟩
   have n:H p=none:=(s1.trans s2).free n3
   exact k p H3 (s1.trans (s2.trans s3)) n e3
theorem ndCl:(["one","two","chosen","place","equation","before"]:List Str).Nodup:=by decide +kernel
theorem scCleared:FnScope ["equation","chosen","place","before"] ["equation","chosen","place","before"] (defScope sCleared):=⟨rfl,rfl,rfl,by decide +kernel,rfl,by decide +kernel,by decide +kernel⟩
theorem d_cleared (S:Fnd K mg "cleared" sCleared ["equation","chosen","place","before"]) (T:Txt mg):Def P w K mg base 1 "cleared" ["equation","chosen","place","before"] (spCleared K):=S.def fun f fd F=>by
 refine F.ok scCleared (fun vs H Q E h=>?_) (fun cdv A' outer s H vs Q E hr h=>?_)
 · obtain ⟨_,_,_,_,_,_,_,rfl,_⟩:=h
   rfl
 · obtain ⟨e,c,kk,m,d,f1,g1,rfl,he,hc,hk,hm,hd,zd,zz,k⟩:=h
   refine ⟨_,@pss_one _ _ _ (@ps_ret _ _ _ _ (pe_compC ["one","two","chosen","place","equation","before"] [none,none,some 1,some 2,some 0,some 3] rfl (pi_zipK (by rfl) (by rfl) (by rfl) rfl T.zip (@pa_consX _ _ _ _ _ (by rfl) (pv 0) (@pa_consX _ _ _ _ _ (by rfl) (pv 1) pa_nil)))
    (by show ∀ y:Str×NameKind,y∈_→y.2=NameKind.free→(defScope sCleared).names.lookup y.1=some .cell;decide +kernel) (by decide) rfl (by decide +kernel) ⟨⟨rfl,rfl,.inl rfl⟩,⟨rfl,rfl,.inl rfl⟩,⟨rfl,rfl,.inl rfl⟩,⟨rfl,rfl,.inl rfl⟩,trivial⟩
    (fun cl C s H fp=>pg_tupK (K:=K) 2 rfl rfl (pgs_cons (pg_name (i:=0) ndCl rfl (Or.inl rfl) (.inr rfl)) (pgs_cons (pg_name (i:=1) ndCl rfl (Or.inl rfl) (.inr rfl)) pgs_nil)))
    (fun cl C s H fp=>pts_nil)
    (fun cl C s H fp=>pe_op op_fdivB (pe_op op_sub (pe_op op_mulB (pe_ix (ix_listK (K:=K) rfl) (pv 2) (pv 3) (fun _ _=>rfl)) (pv 0)) (pe_op op_mulB (pe_ix (ix_listK (K:=K) rfl) (pv 4) (pv 3) (fun _ _=>rfl)) (pv 1))) (pv 5)))),?_⟩
   refine ⟨_,rfl,_,rfl,e,c,_,_,rfl,SqL.of he,SqL.of hc,fun D hD=>?_⟩
   refine comp_zip (K:=K) (a:=e) (b:=c) (D:=D) (xs:=rowI f1 m) (zs:=rowI g1 m) (by rw [rowI_len,rowI_len]) (fun i ys σ H'=>Same H H'∧H' D=some (.lst ys)∧ys=rowI (fun j=>(g1 kk * f1 j - f1 kk * g1 j).fdiv d) i∧∃ x y,σ=[x,y,some (.ref c),some (.int kk),some (.ref e),some (.int d)]) ?_ ?_ ?_ ?_
   · exact ⟨Same.new hD,upd_same,rfl,none,none,rfl⟩
   · rintro i ys σ H' ⟨s2,e2,_⟩
     exact ⟨SqL.of (s2 _ _ he),SqL.of (s2 _ _ hc),e2⟩
   · rintro i x z ys σ H' TT G hi hz hlt ⟨s2,e2,rfl,x',y',rfl⟩ hTT sG eT
     rw [rowI_len] at hlt
     rw [rowI_get hlt] at hi hz
     cases hi
     cases hz
     obtain ⟨z1,z2⟩:=zz i hlt
     obtain ⟨z3,z4⟩:=zz kk hk
     refine ⟨TT,_,rfl,SqT.of eT,rfl,_,_,rfl,_,_,rfl,rfl,?_⟩
     dsimp only [gName]
     rw [if_pos rfl]
     refine ⟨_,rfl,_,rfl,c,_,(kk:Nat),.int (g1 kk),rfl,rfl,SqL.of (sG _ _ (s2 _ _ hc)),atI_nat (rowI_get hk),_,rfl,_,_,rfl,rfl,⟨z4.mono (by decide),z1.mono (by decide)⟩,?_⟩
     refine ⟨_,rfl,_,rfl,e,_,(kk:Nat),.int (f1 kk),rfl,rfl,SqL.of (sG _ _ (s2 _ _ he)),atI_nat (rowI_get hk),_,rfl,_,_,rfl,rfl,⟨z3.mono (by decide),z2.mono (by decide)⟩,_,_,rfl,rfl,_,rfl,_,_,rfl,rfl,⟨hd,zd.mono (by decide)⟩,?_⟩
     refine ⟨sG _ _ e2,by rw [rowI_len];exact small1000 (by omega),Wt.next (by rw [rowI_len];exact hlt) ⟨fun b o eb=>?_,upd_same,(rowI_succ _ _).symm,_,_,rfl⟩⟩
     rw [upd_ne (ne_of_none eb hD)];exact sG _ _ (s2 _ _ eb)
   · rintro ys σ H' ⟨s2,e2,rfl,_⟩
     rw [rowI_len] at e2
     exact k D H' s2 hD e2
theorem ndSo:(["turn","each","place","chosen","before"]:List Str).Nodup:=by decide +kernel
theorem scSolved:FnScope ["equations","before","place","chosen"] ["equations"] (defScope sSolved):=⟨rfl,rfl,rfl,by decide +kernel,rfl,by decide +kernel,by decide +kernel⟩
theorem d_solved (S:Fnd K mg "solved" sSolved ["equations"]) (T:Txt mg) (Cl:Def P w K mg base 1 "cleared" ["equation","chosen","place","before"] (spCleared K)):Def P w K mg base 2 "solved" ["equations"] (spSolved K):=S.def fun f fd F=>by
 have nd:=scSolved.nd
 refine F.ok scSolved (fun vs H Q E h=>?_) (fun cdv A' outer s H vs Q E hr h=>?_)
 · obtain ⟨_,_,_,_,_,rfl,_⟩:=h
   rfl
 · obtain ⟨e0,us0,n,z,f0,rfl,he0,mt0,sg,n1,n12,hz,hb,k⟩:=h
   refine ⟨_,@pss_cons _ _ _ _ _ (@ps_setX _ _ 1 _ _ _ _ (by rfl) (Or.inl rfl) nd rfl (Or.inr rfl) pe_int)
    (@pss_cons _ _ _ _ _ (@ps_forX _ _ _ _ _ _ _ _ (fun _=>rfl) PassesOwn.never rfl (pi_range1 rfl T.range (@pa_consX _ _ _ _ _ (by rfl) (pe_callB call_len_seq (by rfl) T.len PySem.boot_len (@pa_consX _ _ _ _ _ (by rfl) (pv 0) pa_nil)) pa_nil)) (pg_name (i:=2) nd rfl (Or.inr rfl))
     (@pss_cons _ _ _ _ _ (@ps_setX _ _ 3 _ _ _ _ (by rfl) (Or.inl rfl) nd rfl (Or.inr rfl) (pe_ix ix_list (pv 0) (pv 2) (fun _ _=>rfl)))
     (@pss_cons _ _ _ _ _ (ps_setC 0 ["turn","each","place","chosen","before"] [none,none,some 2,some 3,some 1] (by rfl) nd rfl rfl rfl (pi_enLK (by rfl) (by rfl) rfl T.enu (@pa_consX _ _ _ _ _ (by rfl) (pv 0) pa_nil))
      (by show ∀ y:Str×NameKind,y∈_→y.2=NameKind.free→(defScope sSolved).names.lookup y.1=some .cell;decide +kernel) (by decide) rfl (by decide +kernel) ⟨⟨rfl,rfl,.inl rfl⟩,⟨rfl,rfl,.inl rfl⟩,⟨rfl,rfl,.inl rfl⟩,trivial⟩
      (fun cl C s H fp=>pg_tupK (K:=K) 2 rfl rfl (pgs_cons (pg_name (i:=0) ndSo rfl (Or.inl rfl) (.inr rfl)) (pgs_cons (pg_name (i:=1) ndSo rfl (Or.inl rfl) (.inr rfl)) pgs_nil)))
      (fun cl C s H fp=>pts_nil)
      (fun cl C s H fp=>pe_ifExp (pt_cmpR op_eq (pv 0) (pv 2) (nomark _)) (pv 3) (pe_def (by rfl) (by rfl) (by rfl) (by decide) Cl hr (@pa_consX _ _ _ _ _ (by rfl) (pv 1) (@pa_consX _ _ _ _ _ (by rfl) (pv 3) (@pa_consX _ _ _ _ _ (by rfl) (pv 2) (@pa_consX _ _ _ _ _ (by rfl) (pv 4) pa_nil)))))))
     (@pss_one _ _ _ (@ps_setX _ _ 1 _ _ _ _ (by rfl) (Or.inl rfl) nd rfl (Or.inr rfl) (pe_ix ix_list (pv 3) (pv 2) (fun _ _=>rfl)))))))
    (@pss_one _ _ _ (@ps_ret _ _ _ _ (@pe_tupS _ _ _ _ _ (@pa_consX _ _ _ _ _ (by rfl) (pe_compC ["each"] [none] rfl (@pi_list _ _ _ _ (pv 0)) (by show ∀ y:Str×NameKind,y∈_→y.2=NameKind.free→(defScope sSolved).names.lookup y.1=some .cell;decide +kernel) (by decide) rfl (by decide +kernel) trivial
     (fun cl C s H fp=>pg_name (i:=0) (show (["each"]:List Str).Nodup by decide +kernel) rfl (Or.inl rfl) (.inr rfl)) (fun cl C s H fp=>pts_nil)
     (fun cl C s H fp=>pe_ix (ix_listK (K:=K) rfl) (pv 0) pe_neg1 (fun _ _=>rfl))) (@pa_consX _ _ _ _ _ (by rfl) (pv 1) pa_nil)))))),?_⟩
   have hlu:=mt0.1
   refine ⟨_,rfl,e0,us0,rfl,.inl (SqL.of he0),(us0.length:Int),rfl,by omega,by omega,?_⟩
   rw [hlu]
   refine for_range (lo:=0) (n:=(n:Int).toNat) (fun j σ G=>Same H G∧∃ (eq:Addr) (us:List V) (v2 v3:Option V),G eq=some (.lst us)∧MatL G n (n+1) (Pw.fF f0 j).1 us∧σ=[some (.ref eq),some (.int (Pw.fF f0 j).2),v2,v3]) ?_ ?_ ?_
   · exact ⟨Same.refl _,e0,us0,none,none,he0,mt0,rfl⟩
   · rintro j σ G hj ⟨sG,eq,us,v2,v3,eE,mt,rfl⟩
     rw [Int.zero_add]
     have hjn:j<n:=by omega
     obtain ⟨st,sgn,dp,dl⟩:=Pw.fF_ok sg j (by omega)
     obtain ⟨zf,zd⟩:=fF_sz sg n12 hb (k:=j) (by omega)
     obtain ⟨q,eq1,hq⟩:=mt.2 j hjn
     have hlm:=mt.1
     refine ⟨_,rfl,_,rfl,eq,us,(j:Nat),.ref q,rfl,rfl,SqL.of eE,atI_nat eq1,?_⟩
     refine ⟨_,rfl,eq,us,rfl,SqL.of eE,fun D hD=>?_⟩
     refine comp_enL (K:=K) (a:=eq) (D:=D) (xs:=us) (fun i ys σ H'=>Same G H'∧H' D=some (.lst ys)∧(∀ i:Nat,ys[i]?≠some (V.ref D))∧MatL H' i (n+1) (Pw.stepF (Pw.fF f0 j).1 j (Pw.fF f0 j).2) ys∧∃ x y,σ=[x,y,some (.int j),some (.ref q),some (.int (Pw.fF f0 j).2)]) ?_ ?_ ?_ ?_
     · exact ⟨Same.new hD,upd_same,fun i=>by simp,⟨rfl,fun i hi=>by omega⟩,none,none,rfl⟩
     · rintro i ys σ H' ⟨s1,e1,_⟩
       exact ⟨SqL.of (s1 _ _ eE),e1⟩
     · rintro i x ys σ H' TT G1 hi hlt ⟨s1,e1,nD,mt1,x',y',rfl⟩ hTT s2 eT
       obtain ⟨q2,eq2,hq2⟩:=mt.2 i (by omega)
       rw [hi] at eq2
       cases eq2
       have s12:=s1.trans s2
       refine ⟨TT,_,rfl,SqT.of eT,rfl,_,_,rfl,_,_,rfl,rfl,?_⟩
       dsimp only [gName]
       rw [if_pos rfl]
       have e1':=s2 _ _ e1
       have fin:∀ (r:Addr) (G2:Hp),Same G1 G2→r≠D→G2 r=some (.lst (rowI (Pw.stepF (Pw.fF f0 j).1 j (Pw.fF f0 j).2 i) (n+1)))→G2 D=some (.lst ys)∧ys.length<sizeLine∧∃ m',m'<us.length - i∧Wt (fun i ys σ H'=>Same G H'∧H' D=some (.lst ys)∧(∀ i:Nat,ys[i]?≠some (V.ref D))∧MatL H' i (n+1) (Pw.stepF (Pw.fF f0 j).1 j (Pw.fF f0 j).2) ys∧∃ x y,σ=[x,y,some (.int j),some (.ref q),some (.int (Pw.fF f0 j).2)]) us.length (i+1) m' (ys ++ [.ref r]) [some (.int i),some (.ref q2),some (.int j),some (.ref q),some (.int (Pw.fF f0 j).2)] (upd G2 D (.lst (ys ++ [.ref r]))):=fun r G2 s3 hrD hr2=>by
        have nD':∀ i:Nat,(ys ++ [V.ref r])[i]?≠some (V.ref D):=fun i' z=>by
         by_cases hi':i'<ys.length
         · rw [List.getElem?_append_left hi'] at z
           exact nD i' z
         · rw [List.getElem?_append_right (by omega)] at z
           cases hz':i' - ys.length with
           | zero=>rw [hz'] at z;simp at z;exact hrD z
           | succ m=>rw [hz'] at z;simp at z
        refine ⟨s3 _ _ e1',by rw [mt1.1];exact small1000 (by omega),Wt.next hlt ⟨fun b o eb=>?_,upd_same,nD',?_,_,_,rfl⟩⟩
        · rw [upd_ne (ne_of_none eb hD)];exact s3 _ _ (s12 _ _ eb)
        · exact MatL.put (xs:=[]) ((mt1.same (s2.trans s3)).snoc hr2) fun i' _=>nD' i'
       refine ⟨_,rfl,_,rfl,rfl,_,rfl,?_⟩
       by_cases hij:i=j
       · refine ifT (by subst hij;simp) ?_
         refine ⟨_,rfl,fin q G1 (Same.refl _) (ne_of_none hq hD) ?_⟩
         · have e:rowI (Pw.stepF (Pw.fF f0 j).1 j (Pw.fF f0 j).2 i) (n+1)=rowI ((Pw.fF f0 j).1 j) (n+1):=rowI_congr fun t ht=>by unfold Pw.stepF;rw [if_pos hij]
           rw [e]
           exact s12 _ _ hq
       · refine ifF (by simp;omega) ?_
         refine ⟨_,rfl,_,rfl,_,rfl,_,rfl,q2,q,j,n+1,_,(Pw.fF f0 j).1 i,(Pw.fF f0 j).1 j,rfl,s12 _ _ hq2,s12 _ _ hq,by omega,by omega,by omega,zd.mono (by omega),fun t ht=>⟨(zf i t (by omega) (by omega)).mono (by omega),(zf j t (by omega) (by omega)).mono (by omega)⟩,fun r G2 s3 n3 e3=>?_⟩
         refine fin r G2 s3 (fun z=>?_) ?_
         · rw [z,e1'] at n3
           cases n3
         · have e:rowI (Pw.stepF (Pw.fF f0 j).1 j (Pw.fF f0 j).2 i) (n+1)=rowI (fun t=>((Pw.fF f0 j).1 j j * (Pw.fF f0 j).1 i t - (Pw.fF f0 j).1 i j * (Pw.fF f0 j).1 j t).fdiv (Pw.fF f0 j).2) (n+1):=rowI_congr fun t ht=>by unfold Pw.stepF;rw [if_neg hij]
           rw [e]
           exact e3
     rintro ys σ G1 ⟨s1,e1,_,mt1,_⟩
     rw [hlm] at mt1
     refine ⟨_,rfl,_,rfl,q,_,(j:Nat),.int ((Pw.fF f0 j).1 j j),rfl,rfl,SqL.of (s1 _ _ hq),atI_nat (rowI_get (by omega)),?_⟩
     exact ⟨sG.trans s1,D,ys,_,_,e1,mt1,rfl⟩
   · rintro σ G ⟨sG,eq,us,v2,v3,eE,mt,rfl⟩
     have hnn:(n:Int).toNat=n:=by omega
     rw [hnn] at mt
     rw [hnn]
     refine ⟨_,rfl,eq,rfl,⟨_,SqL.of eE⟩,fun D hD=>?_⟩
     have hlm:=mt.1
     refine comp_lst (K:=K) (a:=eq) (D:=D) (xs:=us) (fun i ys σ H'=>Same G H'∧H' D=some (.lst ys)∧ys=rowI (fun i=>(Pw.fF f0 n).1 i n) i∧∃ x,σ=[x]) ?_ ?_ ?_ ?_
     · exact ⟨Same.new hD,upd_same,rfl,none,rfl⟩
     · rintro i ys σ H' ⟨s1,e1,_⟩
       exact ⟨SqL.of (s1 _ _ eE),e1⟩
     · rintro i x ys σ H' hi hlt ⟨s1,e1,rfl,x',rfl⟩
       obtain ⟨q2,eq2,hq2⟩:=mt.2 i (by omega)
       rw [hi] at eq2
       cases eq2
       dsimp only [gName]
       rw [if_pos rfl]
       have hat:atI (rowI ((Pw.fF f0 n).1 i) (n+1)) (-1)=some (.int ((Pw.fF f0 n).1 i n)):=by rw [rowI_succ];exact atI_last _ _
       refine ⟨_,rfl,q2,_,(-1:Int),_,rfl,rfl,SqL.of (s1 _ _ hq2),hat,e1,by rw [rowI_len];exact small1000 (by omega),Wt.next hlt ⟨fun b o eb=>?_,upd_same,(rowI_succ _ _).symm,_,rfl⟩⟩
       rw [upd_ne (ne_of_none eb hD)];exact s1 _ _ eb
     rintro ys σ G1 ⟨s1,e1,rfl,_⟩
     rw [hlm] at e1
     refine ⟨_,rfl,(by show 2≤sizeLine;decide),fun t G2 s2 n2 e2=>?_⟩
     exact k t D G2 (sG.trans (s1.trans s2)) e2 (s2 _ _ e1)
theorem ndV1:(["page","start","web","leap"]:List Str).Nodup:=by decide +kernel
theorem ndV2:(["page","number","web"]:List Str).Nodup:=by decide +kernel
theorem scVisits:FnScope ["web","leap","leaps","starts","found"] ["web","leap","leaps"] (defScope sVisits):=⟨rfl,rfl,rfl,by decide +kernel,rfl,by decide +kernel,by decide +kernel⟩
theorem d_visits (S:Fnd K mg "visits" sVisits ["web","leap","leaps"]) (T:Txt mg) (Ab:Def P w K mg base 1 "aboves" ["some","below"] (spAbovesS K)) (Be:Def P w K mg base 2 "shared_below" ["some"] (spBelowS K)) (So:Def P w K mg base 2 "solved" ["equations"] (spSolved K)) (Eq:Def P w K mg base 4 "equation" ["web","leap","page","start"] (spEquation K)) (Pa:Def P w K mg base 2 "parts" ["web","page"] (spParts K)):Def P w K mg base 5 "visits" ["web","leap","leaps"] (spVisitsS K):=S.def fun f fd F=>by
 have nd:=scVisits.nd
 refine F.ok scVisits (fun vs H Q E h=>?_) (fun cdv A' outer s H vs Q E hr h=>?_)
 · obtain ⟨_,_,_,_,_,_,_,_,_,_,rfl,_⟩:=h
   rfl
 · obtain ⟨wa,lp,ls,pages,ps,A,Bs,us,SS,z,rfl,g,pr,p12,hz,sz,sS,k⟩:=h
   have hr1:=hr.mono (show 1≤4 by decide)
   have hr2:=hr.mono (show 2≤4 by decide)
   refine ⟨_,@pss_cons _ _ _ _ _ (@ps_setX _ _ 3 _ _ _ _ (by rfl) (Or.inl rfl) nd rfl (Or.inl rfl) (pe_def (by rfl) (by rfl) (by rfl) (by decide) Ab hr1 (@pa_consX _ _ _ _ _ (by rfl) (pv 2) (@pa_consX _ _ _ _ _ (by rfl) (pe_def (by rfl) (by rfl) (by rfl) (by decide) Be hr2 (@pa_consX _ _ _ _ _ (by rfl) (pv 2) pa_nil)) pa_nil))))
    (@pss_cons _ _ _ _ _ (@ps_setX _ _ 4 _ _ _ _ (by rfl) (Or.inl rfl) nd rfl (Or.inl rfl) (pe_def (by rfl) (by rfl) (by rfl) (by decide) So hr2 (@pa_consX _ _ _ _ _ (by rfl) (pe_compC ["page","start","web","leap"] [none,none,some 0,some 1] rfl (pi_enLK (by rfl) (by rfl) rfl T.enu (@pa_consX _ _ _ _ _ (by rfl) (pv 3) pa_nil))
     (by show ∀ y:Str×NameKind,y∈_→y.2=NameKind.free→(defScope sVisits).names.lookup y.1=some .cell;decide +kernel) (by decide) rfl (by decide +kernel) ⟨⟨rfl,rfl,.inl rfl⟩,⟨rfl,rfl,.inl rfl⟩,trivial⟩
     (fun cl C s H fp=>pg_tupK (K:=K) 2 rfl rfl (pgs_cons (pg_name (i:=0) ndV1 rfl (Or.inl rfl) (.inr rfl)) (pgs_cons (pg_name (i:=1) ndV1 rfl (Or.inl rfl) (.inr rfl)) pgs_nil)))
     (fun cl C s H fp=>pts_nil)
     (fun cl C s H fp=>pe_def (by rfl) (by rfl) (by rfl) (by decide) Eq hr (@pa_consX _ _ _ _ _ (by rfl) (pv 2) (@pa_consX _ _ _ _ _ (by rfl) (pv 3) (@pa_consX _ _ _ _ _ (by rfl) (pv 0) (@pa_consX _ _ _ _ _ (by rfl) (pv 1) pa_nil)))))) pa_nil)))
    (@pss_one _ _ _ (@ps_ret _ _ _ _ (pe_compC ["page","number","web"] [none,none,some 0] rfl (pi_enLK (by rfl) (by rfl) rfl T.enu (@pa_consX _ _ _ _ _ (by rfl) (pe_ix ix_tup (pv 4) pe_int (fun _ _=>rfl)) pa_nil))
     (by show ∀ y:Str×NameKind,y∈_→y.2=NameKind.free→(defScope sVisits).names.lookup y.1=some .cell;decide +kernel) (by decide) rfl (by decide +kernel) ⟨⟨rfl,rfl,.inl rfl⟩,trivial⟩
     (fun cl C s H fp=>pg_tupK (K:=K) 2 rfl rfl (pgs_cons (pg_name (i:=0) ndV2 rfl (Or.inl rfl) (.inr rfl)) (pgs_cons (pg_name (i:=1) ndV2 rfl (Or.inl rfl) (.inr rfl)) pgs_nil)))
     (fun cl C s H fp=>pts_nil)
     (fun cl C s H fp=>pe_op op_mulB (pe_def (by rfl) (by rfl) (by rfl) (by decide) Pa hr2 (@pa_consX _ _ _ _ _ (by rfl) (pv 2) (@pa_consX _ _ _ _ _ (by rfl) (pv 0) pa_nil))) (pv 1)))))),?_⟩
   have plo:=g.plo
   have hlen:=g.len
   have hlB:=g.row.len
   have few:=g.few
   have hBn:Bs.length=pages.toNat:=by omega
   refine ⟨_,rfl,_,rfl,false,ls,us,Bs,SS,rfl,SqT.of g.leaps,g.row,Canons.pos g.cb,pr.spos,pr.ssz.mono (by decide),pr.sdvd,fun L hL=>?_⟩
   have hLp:=hL.pos
   have hLS:=hL.le pr.spos pr.sdvd
   have zL:Sz 700 L:=IsLcm.takeM hL pr.spos pr.sdvd pr.ssz
   refine ⟨false,ls,us,Bs,L,rfl,SqT.of g.leaps,g.row,by omega,fun B hB=>⟨(g.cb B hB).1,(g.sb B hB).mono (by decide)⟩,hLp,zL.mono (by decide),fun sa H1 s1 n1 e1=>?_⟩
   have hss:(Pw.abv Bs L).length=pages.toNat:=by unfold Pw.abv;rw [List.length_map];exact hBn
   have hB:∀ t,t<pages.toNat→((Pw.abv Bs L).getD t 0:Rat)=Pw.val (Bs.getD t (0,1)) * (L:Rat):=fun t ht=>by
    have hi':t<Bs.length:=by omega
    have hR:Bs[t]?=some Bs[t]:=by simp
    have e1:(Pw.abv Bs L).getD t 0=Bs[t].1 * (L.fdiv Bs[t].2):=by
     unfold Pw.abv
     rw [List.getD_eq_getElem?_getD,List.getElem?_map,hR];rfl
    have e2:Bs.getD t (0,1)=Bs[t]:=by rw [List.getD_eq_getElem?_getD,hR];rfl
    have mR:=List.getElem_mem hi'
    rw [e1,e2,Pw.abv_val (g.cb _ mR).1 hLp (hL.dvd _ mR)]
   have one:=pr.one
   rw [hBn] at one
   have snn:∀ s∈Pw.abv Bs L,0≤s:=fun s hs=>by
    obtain ⟨B,hB',rfl⟩:=List.mem_map.mp hs
    have c:=(g.cb B hB').1
    exact Int.mul_nonneg (pr.nn B hB') (by rw [Int.fdiv_eq_ediv_of_nonneg _ (by omega)];exact Int.ediv_nonneg (by omega) (by omega))
   have ssum:(Pw.abv Bs L).sum=L:=by
    have h3:=Pw.qs_list (Pw.abv Bs L)
    rw [hss,Pw.qs_congr (g:=fun t=>(L:Rat) * Pw.val (Bs.getD t (0,1))) fun t ht=>by rw [hB t ht];grind,Pw.qs_mul,one] at h3
    have:(L:Rat)=((Pw.abv Bs L).sum:Rat):=by rw [← h3];grind
    exact_mod_cast this.symm
   have lk:∀ p∈ps,0≤p.2∧p.2<((pages.toNat:Nat):Int):=fun p hp=>by
    have:=g.lk p hp
    omega
   have eo:Pw.EqOk ps A (Pw.abv Bs L) pages.toNat:=⟨lk,pr.a0,pr.a1,hss,snn,by rw [ssum];exact hLp⟩
   have sle:∀ s∈Pw.abv Bs L,s≤2 ^ z:=fun s hs=>by
    have h1:s≤(Pw.abv Bs L).sum:=le_sum snn hs
    have h2:SS.natAbs<2 ^ z:=sS
    have:((2:Int) ^ z)=((2 ^ z:Nat):Int):=by push_cast;rfl
    rw [this]
    omega
   have ez:=eqF_sz few eo sz.2 sle
   have g1:=g.same s1
   refine ⟨_,rfl,sa,_,rfl,SqL.of e1,fun D hD=>?_⟩
   refine comp_enL (K:=K) (a:=sa) (D:=D) (xs:=(Pw.abv Bs L).map V.int) (fun i ys σ H'=>Same H1 H'∧H' D=some (.lst ys)∧(∀ i:Nat,ys[i]?≠some (V.ref D))∧MatL H' i (pages.toNat+1) (Pw.eqF ps A (Pw.abv Bs L) pages.toNat) ys∧∃ x y,σ=[x,y,some (.ref wa),some (.ref lp)]) ?_ ?_ ?_ ?_
   · exact ⟨Same.new hD,upd_same,fun i=>by simp,⟨rfl,fun i hi=>by omega⟩,none,none,rfl⟩
   · rintro i ys σ H' ⟨s2,e2,_⟩
     exact ⟨SqL.of (s2 _ _ e1),e2⟩
   · rintro i x ys σ H' TT G hi hlt ⟨s2,e2,nD,mt,x',y',rfl⟩ hTT sG eT
     rw [List.length_map] at hlt
     have ex:x=.int ((Pw.abv Bs L).getD i 0):=by
      rw [List.getElem?_map,getD_mapI (by omega)] at hi
      cases hi;rfl
     subst ex
     have s2G:=s2.trans sG
     refine ⟨TT,_,rfl,SqT.of eT,rfl,_,_,rfl,_,_,rfl,rfl,?_⟩
     dsimp only [gName]
     rw [if_pos rfl]
     refine ⟨_,rfl,_,rfl,_,rfl,_,rfl,wa,lp,pages,i,_,ps,A,rfl,(g1.same s2G).web,plo,by omega,few,(g1.same s2G).leap,g.sa.mono (by decide),fun r G2 s3 n3 e3=>?_⟩
     have eD:=sG _ _ e2
     have hrD:r≠D:=fun zz=>by rw [zz,eD] at n3;cases n3
     have nD':∀ i:Nat,(ys ++ [V.ref r])[i]?≠some (V.ref D):=fun i' zz=>by
      by_cases hi':i'<ys.length
      · rw [List.getElem?_append_left hi'] at zz
        exact nD i' zz
      · rw [List.getElem?_append_right (by omega)] at zz
        cases hz':i' - ys.length with
        | zero=>rw [hz'] at zz;simp at zz;exact hrD zz
        | succ m=>rw [hz'] at zz;simp at zz
     refine ⟨s3 _ _ eD,by rw [mt.1];exact small1000 (by omega),Wt.next (by rw [List.length_map];exact hlt) ⟨fun b o eb=>?_,upd_same,nD',?_,_,_,rfl⟩⟩
     · rw [upd_ne (ne_of_none eb hD)];exact s3 _ _ (s2G _ _ eb)
     · refine MatL.put (xs:=[]) ((mt.same (sG.trans s3)).snoc ?_) fun i' _=>nD' i'
       have e:rowI (Pw.eqF ps A (Pw.abv Bs L) pages.toNat i) (pages.toNat+1)=rowI (fun j=>Pw.fac ps A j i) pages.toNat ++ [.int ((Pw.abv Bs L).getD i 0)]:=by
        rw [rowI_succ]
        have a1:rowI (Pw.eqF ps A (Pw.abv Bs L) pages.toNat i) pages.toNat=rowI (fun j=>Pw.fac ps A j i) pages.toNat:=rowI_congr fun t ht=>by unfold Pw.eqF;rw [if_pos (by omega),if_pos ht]
        have a2:Pw.eqF ps A (Pw.abv Bs L) pages.toNat i pages.toNat=(Pw.abv Bs L).getD i 0:=by unfold Pw.eqF;rw [if_pos (by omega),if_neg (by omega),if_pos rfl]
        rw [a1,a2]
       rw [e]
       exact e3
   rintro ys σ H2 ⟨s2,e2,_,mt,_⟩
   rw [List.length_map,hss] at mt
   refine ⟨D,ys,pages.toNat,z+7,Pw.eqF ps A (Pw.abv Bs L) pages.toNat,rfl,e2,mt,eo.sgn,by omega,by omega,by omega,ez,fun t l H3 s3 e3 e4=>?_⟩
   obtain ⟨zf,zd⟩:=fF_sz eo.sgn (by omega) ez (k:=pages.toNat) (Nat.le_refl _)
   have s13:=s1.trans (s2.trans s3)
   have g3:=g.same s13
   refine ⟨_,rfl,t,_,_,_,rfl,rfl,SqT.of e3,rfl,l,_,rfl,SqL.of e4,fun D2 hD2=>?_⟩
   refine comp_enL (K:=K) (a:=l) (D:=D2) (xs:=rowI (fun i=>(Pw.fF (Pw.eqF ps A (Pw.abv Bs L) pages.toNat) pages.toNat).1 i pages.toNat) pages.toNat) (fun i ys σ H'=>Same H3 H'∧H' D2=some (.lst ys)∧ys=rowI (Pw.vS ps A (Pw.abv Bs L) pages.toNat) i∧∃ x y,σ=[x,y,some (.ref wa)]) ?_ ?_ ?_ ?_
   · exact ⟨Same.new hD2,upd_same,rfl,none,none,rfl⟩
   · rintro i ys σ H' ⟨s5,e5,_⟩
     exact ⟨SqL.of (s5 _ _ e4),e5⟩
   · rintro i x ys σ H' TT G hi hlt ⟨s5,e5,rfl,x',y',rfl⟩ hTT sG eT
     rw [rowI_len] at hlt
     rw [rowI_get hlt] at hi
     cases hi
     refine ⟨TT,_,rfl,SqT.of eT,rfl,_,_,rfl,_,_,rfl,rfl,?_⟩
     dsimp only [gName]
     rw [if_pos rfl]
     have hol:=Pw.outs_len ps (i:Int)
     have zm:Sz 7 (Pw.mp ps i):=sz_of 7 (by unfold Pw.mp;omega)
     refine ⟨_,rfl,_,rfl,wa,pages,i,ps,rfl,(g3.same (s5.trans sG)).web,few,fun G2 s6=>?_⟩
     refine ⟨_,rfl,_,_,rfl,rfl,⟨zm.mono (by decide),(zf i _ hlt (Nat.le_refl _)).mono (by omega)⟩,s6 _ _ (sG _ _ e5),by rw [rowI_len];exact small1000 (by omega),Wt.next (by rw [rowI_len];exact hlt) ⟨fun b o eb=>?_,upd_same,(rowI_succ _ _).symm,_,_,rfl⟩⟩
     rw [upd_ne (ne_of_none eb hD2)];exact s6 _ _ (sG _ _ (s5 _ _ eb))
   rintro ys σ H4 ⟨s5,e5,rfl,_⟩
   rw [rowI_len] at e5
   refine k D2 H4 (Pw.abv Bs L) L eo hLp hB (fun j hj=>?_) (s13.trans s5) e5
   have hol:=Pw.outs_len ps (j:Int)
   have zm:Sz 7 (Pw.mp ps j):=sz_of 7 (by unfold Pw.mp;omega)
   exact (zm.mul (zf j _ hj (Nat.le_refl _))).mono (by omega)
theorem ndSh:(["each","numbers"]:List Str).Nodup:=by decide +kernel
theorem scShares:FnScope ["web","leap","leaps","numbers"] ["web","leap","leaps"] (defScope sShares):=⟨rfl,rfl,rfl,by decide +kernel,rfl,by decide +kernel,by decide +kernel⟩
theorem d_shares (S:Fnd K mg "shares" sShares ["web","leap","leaps"]) (T:Txt mg) (Vi:Def P w K mg base 5 "visits" ["web","leap","leaps"] (spVisitsS K)) (M:Def P w K mg base 2 "made" ["above","below"] spMadeS):Def P w K mg base 6 "shares" ["web","leap","leaps"] (spSharesS K):=S.def fun f fd F=>by
 have nd:=scShares.nd
 refine F.ok scShares (fun vs H Q E h=>?_) (fun cdv A' outer s H vs Q E hr h=>?_)
 · obtain ⟨_,_,_,_,_,_,_,_,_,_,rfl,_⟩:=h
   rfl
 · obtain ⟨wa,lp,ls,pages,ps,A,Bs,us,SS,z,rfl,g,pr,p12,hz,sz,sS,k⟩:=h
   have hr2:=hr.mono (show 2≤5 by decide)
   refine ⟨_,@pss_cons _ _ _ _ _ (@ps_setX _ _ 3 _ _ _ _ (by rfl) (Or.inl rfl) nd rfl (Or.inr rfl) (pe_def (by rfl) (by rfl) (by rfl) (by decide) Vi hr (@pa_consX _ _ _ _ _ (by rfl) (pv 0) (@pa_consX _ _ _ _ _ (by rfl) (pv 1) (@pa_consX _ _ _ _ _ (by rfl) (pv 2) pa_nil)))))
    (@pss_one _ _ _ (@ps_ret _ _ _ _ (pe_callTy call_tupOf (by rfl) T.tup boot_tuple (@pa_consX _ _ _ _ _ (by rfl) (pe_compC ["each","numbers"] [none,some 3] rfl (@pi_list _ _ _ _ (pv 3))
     (by show ∀ y:Str×NameKind,y∈_→y.2=NameKind.free→(defScope sShares).names.lookup y.1=some .cell;decide +kernel) (by decide) rfl (by decide +kernel) ⟨⟨rfl,rfl,.inl rfl⟩,trivial⟩
     (fun cl C s H fp=>pg_name (i:=0) ndSh rfl (Or.inl rfl) (.inr rfl)) (fun cl C s H fp=>pts_nil)
     (fun cl C s H fp=>pe_def (by rfl) (by rfl) (by rfl) (by decide) M hr2 (@pa_consX _ _ _ _ _ (by rfl) (pv 0) (@pa_consX _ _ _ _ _ (by rfl) (pe_callB (call_sumK (K:=K) rfl rfl) (by rfl) T.sum boot_sum (@pa_consX _ _ _ _ _ (by rfl) (pv 1) pa_nil)) pa_nil)))) pa_nil)))),?_⟩
   have plo:=g.plo
   have hlen:=g.len
   refine ⟨_,rfl,_,rfl,_,rfl,wa,lp,ls,pages,ps,A,Bs,us,SS,z,rfl,g,pr,p12,hz,sz,sS,fun nu H1 ss L eo hLp hB zv s1 e1=>?_⟩
   have hV:=eo.V_pos
   have zV:Sz ((z+11) * 13+20) (Pw.VS ps A ss pages.toNat):=by
    refine (sum_sz (k:=(z+11) * 13+8) fun n hn=>?_).mono (by rw [List.length_map,List.length_range];omega)
    obtain ⟨t,ht,rfl⟩:=List.mem_map.mp hn
    exact zv t (List.mem_range.mp ht)
   refine ⟨_,rfl,nu,rfl,⟨_,SqL.of e1⟩,fun D hD=>?_⟩
   refine comp_lst (K:=K) (a:=nu) (D:=D) (xs:=rowI (Pw.vS ps A ss pages.toNat) pages.toNat) (fun i ys σ H'=>Same H1 H'∧H' D=some (.lst ys)∧FrL K H' ((List.range i).map fun j=>Pw.mk (Pw.vS ps A ss pages.toNat j) (Pw.VS ps A ss pages.toNat)) ys∧∃ x,σ=[x,some (.ref nu)]) ?_ ?_ ?_ ?_
   · exact ⟨Same.new hD,upd_same,rfl,none,rfl⟩
   · rintro i ys σ H' ⟨s2,e2,_⟩
     exact ⟨SqL.of (s2 _ _ e1),e2⟩
   · rintro i x ys σ H' hi hlt ⟨s2,e2,fl,x',rfl⟩
     rw [rowI_len] at hlt
     rw [rowI_get hlt] at hi
     cases hi
     dsimp only [gName]
     rw [if_pos rfl]
     refine ⟨_,rfl,_,rfl,nu,(List.range pages.toNat).map (Pw.vS ps A ss pages.toNat),rfl,SqL.of (s2 _ _ e1),_,_,rfl,(by show Pw.VS ps A ss pages.toNat≠0;omega),(zv i hlt).mono (by omega),zV.mono (by omega),fun r G2 s3 f3=>?_⟩
     have e3:=s3 _ _ e2
     refine ⟨e3,by rw [fl.len,List.length_map,List.length_range];exact small1000 (by omega),Wt.next (by rw [rowI_len];exact hlt) ⟨fun b o eb=>?_,upd_same,?_,_,rfl⟩⟩
     · rw [upd_ne (ne_of_none eb hD)];exact s3 _ _ (s2 _ _ eb)
     · rw [List.range_succ,List.map_append]
       exact ((fl.same s3).snoc (A:=Pw.mk (Pw.vS ps A ss pages.toNat i) (Pw.VS ps A ss pages.toNat)) f3).kp (KL.set e3)
   rintro ys σ H2 ⟨s2,e2,fl,_⟩
   rw [rowI_len] at fl
   refine ⟨D,ys,rfl,SqL.of e2,fun t H3 s3 n3 e3=>?_⟩
   have hBn:Bs.length=pages.toNat:=by omega
   have one:=pr.one
   rw [hBn] at one
   refine k t H3 (Pw.shL ps A ss pages.toNat) (Pw.VS ps A ss pages.toNat) ys (Pw.shL_ok eo g.ca g.cb hBn hLp hB one) hV zV (fun S hS=>?_) (s1.trans (s2.trans s3)) e3 (fl.same s3)
   obtain ⟨t,_,rfl⟩:=List.mem_map.mp hS
   exact Pw.fr_dvd (Pw.Fr.made (by omega))
end
end Lw
set_option pp.maxSteps 800
namespace Lw
open PySem L2 PyProof.Rows
section
variable {P:Program} {w:World} {K:PySem.W.Frag} {mg:Str→Option Value} {base:Heap}
theorem sc_law_draws:FnScope ["script","draws","k","rest","stir","many"] ["script"] (defScope s_law_draws):=⟨rfl,rfl,rfl,by decide +kernel,rfl,by decide +kernel,by decide +kernel⟩
theorem d_law_draws (S:Fnd K mg "_law_draws" s_law_draws ["script"]) (T:Txt mg) (zmin:mg "min"=none):Def P w K mg base 1 "_law_draws" ["script"] (spDraws K):=S.def fun f fd F=>by
 have nd:=sc_law_draws.nd
 refine F.ok sc_law_draws (fun vs H Q E h=>?_) (fun cdv A' outer s H vs Q E hr h=>?_)
 · obtain ⟨_,_,rfl,_⟩:=h
   rfl
 · obtain ⟨a,ns,rfl,hS,hlen,k⟩:=h
   refine ⟨_,(@pss_cons _ _ _ _ _ (@ps_setX _ _ 1 _ _ _ _ (by rfl) (Or.inl rfl) nd rfl (Or.inl rfl) (@pe_lstS _ _ _ _ pa_nil))
    (@pss_cons _ _ _ _ _ (@ps_forX _ _ _ _ _ _ _ _ (fun _=>rfl) PassesOwn.never rfl (pi_range1 rfl T.range (@pa_consX _ _ _ _ _ (by rfl) (pe_callB (call_min2 rfl) (by rfl) zmin boot_min (@pa_consX _ _ _ _ _ (by rfl) (pe_callB call_len_seq (by rfl) T.len PySem.boot_len (@pa_consX _ _ _ _ _ (by rfl) (pv 0) pa_nil)) (@pa_consX _ _ _ _ _ (by rfl) pe_int pa_nil))) pa_nil)) (pg_name (i:=2) nd rfl (Or.inl rfl))
     (@pss_cons _ _ _ _ _ (@ps_setX _ _ 3 _ _ _ _ (by rfl) (Or.inl rfl) nd rfl (Or.inl rfl) (pe_callB call_abs (by rfl) T.abs boot_abs (@pa_consX _ _ _ _ _ (by rfl) (pe_ix ix_list (pv 0) (pv 2) (fun _ _=>rfl)) pa_nil)))
    (@pss_one _ _ _ (@ps_if _ _ _ _ _ _ _ _ (pt_cmpR op_lt (pv 3) (pe_op op_pow pe_int pe_int) (nomark _))
     (@pss_cons _ _ _ _ _ (@ps_setX _ _ 4 _ _ _ _ (by rfl) (Or.inl rfl) nd rfl (Or.inl rfl) (pe_op op_mod (pe_op op_mul (pe_op op_mod (pe_op op_add (pe_op op_add (pv 3) (pe_op op_mul pe_int (pv 2))) pe_int) pe_int) pe_int) pe_int))
    (@pss_cons _ _ _ _ _ (@ps_setX _ _ 4 _ _ _ _ (by rfl) (Or.inl rfl) nd rfl (Or.inl rfl) (pe_op op_mod (pe_op op_mul (pv 4) (pv 4)) pe_int))
    (@pss_cons _ _ _ _ _ (ps_expr (pe_bm PySem.F.plainAttrs_list PySem.F.slot_list_append PySem.F.type_list_append mt_append (pv 1) (@pa_consX _ _ _ _ _ (by rfl) (pe_op op_mod (pe_op op_fdiv (pv 4) pe_int) pe_int) pa_nil)))
    (@pss_cons _ _ _ _ _ (ps_expr (pe_bm PySem.F.plainAttrs_list PySem.F.slot_list_append PySem.F.type_list_append mt_append (pv 1) (@pa_consX _ _ _ _ _ (by rfl) (pe_op op_mod (pe_op op_fdiv (pv 4) pe_int) pe_int) pa_nil)))
    (@pss_cons _ _ _ _ _ (@ps_setX _ _ 4 _ _ _ _ (by rfl) (Or.inl rfl) nd rfl (Or.inl rfl) (pe_op op_mod (pe_op op_add (pv 4) (pe_op op_mul pe_int (pe_op op_add (pv 2) pe_int))) pe_int))
    (@pss_one _ _ _ (ps_expr (pe_bm PySem.F.plainAttrs_list PySem.F.slot_list_append PySem.F.type_list_append mt_append (pv 1) (@pa_consX _ _ _ _ _ (by rfl) (pe_op op_mod (pe_op op_fdiv (pe_op op_mod (pe_op op_mul (pv 4) (pv 4)) pe_int) pe_int) pe_int) pa_nil)))))))))
     (@pss_cons _ _ _ _ _ (@ps_setX _ _ 5 _ _ _ _ (by rfl) (Or.inl rfl) nd rfl (Or.inl rfl) pe_int)
    (@pss_one _ _ _ (ps_while PassesOwn.never (PW.pt (pw_and (pt_cmpR op_ge (pv 3) pe_int (nomark _)) (pw_and1 (pt_cmpR op_lt (pv 5) pe_int (nomark _)))))
     (@pss_cons _ _ _ _ _ (ps_expr (pe_bm PySem.F.plainAttrs_list PySem.F.slot_list_append PySem.F.type_list_append mt_append (pv 1) (@pa_consX _ _ _ _ _ (by rfl) (pe_op op_mod (pv 3) pe_int) pa_nil)))
    (@pss_cons _ _ _ _ _ (@ps_setX _ _ 3 _ _ _ _ (by rfl) (Or.inl rfl) nd rfl (Or.inl rfl) (pe_op op_fdiv (pv 3) pe_int))
    (@pss_one _ _ _ (@ps_setX _ _ 5 _ _ _ _ (by rfl) (Or.inl rfl) nd rfl (Or.inl rfl) (pe_op op_add (pv 5) pe_int))))))))))))
    (@pss_one _ _ _ (@ps_ret _ _ _ _ (pe_slice sl_list (pv 1) po_none (po_some pe_int)))))),?_⟩
   refine ⟨(by show 0≤sizeLine;decide),fun d H1 s1 hd e1=>?_⟩
   refine ⟨_,rfl,a,_,rfl,.inl (s1.seq hS),_,_,rfl,?_⟩
   have hml:(if (80:Int)<((ns.map V.int).length:Nat) then (80:Int) else ((ns.map V.int).length:Nat))=(ns.length:Nat):=by
    rw [List.length_map,if_neg (by omega)]
   rw [hml]
   refine ⟨_,rfl,by omega,by omega,?_⟩
   refine for_range (lo:=0) (n:=((ns.length:Nat):Int).toNat) (fun i σ G=>Same H G∧∃ (ds:List Int) (v2 v3 v4 v5:Option V),G d=some (.lst (ds.map V.int))∧ds.length≤60 * i∧σ=[some (.ref a),some (.ref d),v2,v3,v4,v5]) ?_ ?_ ?_
   · exact ⟨s1,[],none,none,none,none,e1,Nat.zero_le _,rfl⟩
   · rintro i σ G hi ⟨sG,ds,v2,v3,v4,v5,eG,zl,rfl⟩
     have hil:i<ns.length:=by omega
     have ei:(ns.map V.int)[i]?=some (.int ns[i]):=by simp [hil]
     have up:∀ {G':Hp} {o:HO},Same H G'→Same H (upd G' d o):=fun {G' o} s b u e=>by rw [upd_ne (ne_of_none e hd)];exact s b u e
     have ap:∀ (ds:List Int) (n:Int),ds.map V.int ++ [V.int n]=(ds ++ [n]).map V.int:=fun ds n=>by rw [List.map_append];rfl
     rw [Int.zero_add]
     refine ⟨_,rfl,_,rfl,a,_,_,_,rfl,rfl,sG.seq hS,atI_nat ei,_,rfl,?_⟩
     generalize hrr:(if ns[i]<0 then -ns[i] else ns[i])=r
     have hr0:0≤r:=by rw [← hrr];exact abs_nn _
     refine ⟨_,rfl,_,_,rfl,rfl,⟨by decide,by decide,by decide⟩,_,_,rfl,rfl,_,rfl,?_⟩
     refine if2 (fun h=>?_) (fun h=>?_)
     · refine ⟨_,rfl,_,rfl,_,_,rfl,rfl,.inl ⟨by decide,by decide⟩,_,_,rfl,rfl,_,_,rfl,rfl,_,_,rfl,rfl,(by show (0:Int)<2147483647;decide),_,_,rfl,rfl,.inr ⟨by decide,by decide⟩,_,_,rfl,rfl,(by show (0:Int)<2147483647;decide),?_⟩
       refine ⟨_,rfl,_,rfl,_,_,rfl,rfl,.inl ⟨by omega,by omega⟩,_,_,rfl,rfl,(by show (0:Int)<2147483629;decide),?_⟩
       refine ⟨_,rfl,.inl ⟨rfl,_,SqL.of eG⟩,_,rfl,_,_,rfl,rfl,⟨by decide,by decide⟩,_,_,rfl,rfl,(by show (0:Int)<1000;decide),d,_,_,rfl,rfl,eG,(by rw [List.length_map];exact small16 (by omega)),?_⟩
       rw [ap]
       refine ⟨_,rfl,.inl ⟨rfl,_,SqL.of upd_same⟩,_,rfl,_,_,rfl,rfl,⟨by decide,by decide⟩,_,_,rfl,rfl,(by show (0:Int)<1000;decide),d,_,_,rfl,rfl,upd_same,(by rw [List.length_map,List.length_append];exact small16 (by simp only [List.length_cons,List.length_nil];omega)),?_⟩
       rw [ap]
       refine ⟨_,rfl,_,rfl,_,_,rfl,rfl,_,_,rfl,rfl,.inl ⟨by decide,by decide⟩,_,_,rfl,rfl,_,_,rfl,rfl,(by show (0:Int)<2147483587;decide),?_⟩
       refine ⟨_,rfl,.inl ⟨rfl,_,SqL.of upd_same⟩,_,rfl,_,rfl,_,_,rfl,rfl,.inl ⟨by omega,by omega⟩,_,_,rfl,rfl,(by show (0:Int)<2147483647;decide),_,_,rfl,rfl,⟨by decide,by decide⟩,_,_,rfl,rfl,(by show (0:Int)<1000;decide),d,_,_,rfl,rfl,upd_same,(by rw [List.length_map,List.length_append,List.length_append];exact small16 (by simp only [List.length_cons,List.length_nil];omega)),?_⟩
       rw [ap]
       refine ⟨up (up (up sG)),_,_,_,_,_,upd_same,?_,rfl⟩
       rw [List.length_append,List.length_append,List.length_append]
       simp only [List.length_cons,List.length_nil]
       omega
     · refine while_in (fun σ G'=>Same H G'∧∃ (es:List Int) (r' m:Int),G' d=some (.lst (es.map V.int))∧0≤m∧m≤60∧es.length=ds.length+m.toNat∧σ=[some (.ref a),some (.ref d),some (.int ((i:Nat):Int)),some (.int r'),v4,some (.int m)])
        (fun σ _=>match σ with | [_,_,_,_,_,some (.int m)]=>(60 - m).toNat | _=>0) ⟨sG,ds,r,0,eG,by decide,by decide,by simp,rfl⟩ ?_
       · rintro σ G' ⟨s',es,r',m,e',m0,m6,el,rfl⟩
         refine ⟨_,rfl,_,_,rfl,rfl,_,rfl,?_⟩
         refine if2 (fun h1=>?_) (fun h1=>?_)
         · refine ⟨_,rfl,_,_,rfl,rfl,_,rfl,?_⟩
           refine if2 (fun h2=>?_) (fun h2=>?_)
           · have h2:m<60:=of_decide_eq_true h2
             refine ⟨_,wN,?_⟩
             refine ⟨_,rfl,.inl ⟨rfl,_,SqL.of e'⟩,_,rfl,_,_,rfl,rfl,(by show (0:Int)<1000;decide),d,_,_,rfl,rfl,e',(by rw [List.length_map];exact small16 (by omega)),?_⟩
             rw [ap]
             refine ⟨_,rfl,_,_,rfl,rfl,⟨by decide,by decide⟩,?_⟩
             refine ⟨_,rfl,_,_,rfl,rfl,?_⟩
             refine ⟨⟨up s',_,_,_,upd_same,?_,?_,?_,rfl⟩,?_⟩
             · omega
             · omega
             · rw [List.length_append,el];simp only [List.length_cons,List.length_nil];omega
             · show (60 - (m+1)).toNat<(60 - m).toNat
               omega
           · exact ⟨s',es,_,_,_,_,e',by omega,rfl⟩
         · exact ⟨s',es,_,_,_,_,e',by omega,rfl⟩
   · rintro σ G ⟨sG,ds,v2,v3,v4,v5,eG,zl,rfl⟩
     refine ⟨_,rfl,_,rfl,d,_,rfl,SqL.of eG,fun p hp=>?_⟩
     have sp:Same H (upd G p (.lst (cutV (ds.map V.int) none (some 240)))):=sG.trans (Same.new hp)
     obtain ⟨es,e5,z5⟩:=cut240 ds
     refine k p _ sp (sG.free hp) ⟨es,?_,z5⟩
     rw [upd_same,e5]
theorem sc_law_sum:FnScope ["one","other"] ["one","other"] (defScope s_law_sum):=⟨rfl,rfl,rfl,by decide +kernel,rfl,by decide +kernel,by decide +kernel⟩
theorem d_law_sum (S:Fnd K mg "_law_sum" s_law_sum ["one","other"]) (M:Def P w K mg base 1 "_law_fraction" ["above","below"] spMade9):Def P w K mg base 2 "_law_sum" ["one","other"] (spF2H K Pw.fplus):=S.def fun f fd F=>by
 refine F.ok sc_law_sum (fun vs H Q E h=>?_) (fun cdv A' outer s H vs Q E hr h=>?_)
 · obtain ⟨p,q,A,B,rfl,_⟩:=h
   rfl
 · obtain ⟨p,q,A,B,rfl,hA,hB,na,nb,sa,sb,k⟩:=h
   refine ⟨_,@pss_one _ _ _ (@ps_ret _ _ _ _ (pe_def (by rfl) (by rfl) (by rfl) (by decide) M hr (@pa_consX _ _ _ _ _ (by rfl) (pe_op op_add (pe_op op_mulB (pe_ix ix_tup (pv 0) pe_int (fun _ _=>rfl)) (pe_ix ix_tup (pv 1) pe_int (fun _ _=>rfl))) (pe_op op_mulB (pe_ix ix_tup (pv 1) pe_int (fun _ _=>rfl)) (pe_ix ix_tup (pv 0) pe_int (fun _ _=>rfl)))) (@pa_consX _ _ _ _ _ (by rfl) (pe_op op_mulB (pe_ix ix_tup (pv 0) pe_int (fun _ _=>rfl)) (pe_ix ix_tup (pv 1) pe_int (fun _ _=>rfl))) pa_nil)))),?_⟩
   refine ⟨_,rfl,p,_,_,_,rfl,rfl,hA,rfl,_,rfl,q,_,_,_,rfl,rfl,hB,rfl,_,_,rfl,rfl,⟨sa.1.mono (by decide),sb.2.mono (by decide)⟩,_,rfl,q,_,_,_,rfl,rfl,hB,rfl,_,rfl,p,_,_,_,rfl,rfl,hA,rfl,_,_,rfl,rfl,⟨sb.1.mono (by decide),sa.2.mono (by decide)⟩,_,_,rfl,rfl,_,rfl,p,_,_,_,rfl,rfl,hA,rfl,_,rfl,q,_,_,_,rfl,rfl,hB,rfl,_,_,rfl,rfl,⟨sa.2.mono (by decide),sb.2.mono (by decide)⟩,_,_,rfl,Int.mul_ne_zero (by omega) (by omega),((sa.1.mul sb.2).add (sb.1.mul sa.2)).mono (by decide),(sa.2.mul sb.2).mono (by decide),fun r H1 s1 f1=>?_⟩
   exact k r _ s1 f1
theorem sc_law_product:FnScope ["one","other"] ["one","other"] (defScope s_law_product):=⟨rfl,rfl,rfl,by decide +kernel,rfl,by decide +kernel,by decide +kernel⟩
theorem d_law_product (S:Fnd K mg "_law_product" s_law_product ["one","other"]) (M:Def P w K mg base 1 "_law_fraction" ["above","below"] spMade9):Def P w K mg base 2 "_law_product" ["one","other"] (spF2H K Pw.ftimes):=S.def fun f fd F=>by
 refine F.ok sc_law_product (fun vs H Q E h=>?_) (fun cdv A' outer s H vs Q E hr h=>?_)
 · obtain ⟨p,q,A,B,rfl,_⟩:=h
   rfl
 · obtain ⟨p,q,A,B,rfl,hA,hB,na,nb,sa,sb,k⟩:=h
   refine ⟨_,@pss_one _ _ _ (@ps_ret _ _ _ _ (pe_def (by rfl) (by rfl) (by rfl) (by decide) M hr (@pa_consX _ _ _ _ _ (by rfl) (pe_op op_mulB (pe_ix ix_tup (pv 0) pe_int (fun _ _=>rfl)) (pe_ix ix_tup (pv 1) pe_int (fun _ _=>rfl))) (@pa_consX _ _ _ _ _ (by rfl) (pe_op op_mulB (pe_ix ix_tup (pv 0) pe_int (fun _ _=>rfl)) (pe_ix ix_tup (pv 1) pe_int (fun _ _=>rfl))) pa_nil)))),?_⟩
   refine ⟨_,rfl,p,_,_,_,rfl,rfl,hA,rfl,_,rfl,q,_,_,_,rfl,rfl,hB,rfl,_,_,rfl,rfl,⟨sa.1.mono (by decide),sb.1.mono (by decide)⟩,_,rfl,p,_,_,_,rfl,rfl,hA,rfl,_,rfl,q,_,_,_,rfl,rfl,hB,rfl,_,_,rfl,rfl,⟨sa.2.mono (by decide),sb.2.mono (by decide)⟩,_,_,rfl,Int.mul_ne_zero (by omega) (by omega),(sa.1.mul sb.1).mono (by decide),(sa.2.mul sb.2).mono (by decide),fun r H1 s1 f1=>?_⟩
   exact k r _ s1 f1
end
end Lw
set_option pp.maxSteps 800
namespace Lw
open PySem L2 PyProof.Rows
section
variable {P:Program} {w:World} {K:PySem.W.Frag} {mg:Str→Option Value} {base:Heap}
theorem scWeb:FnScope ["draws","many","links","k"] ["draws"] (defScope sWeb):=⟨rfl,rfl,rfl,by decide +kernel,rfl,by decide +kernel,by decide +kernel⟩
theorem d_law_web (S:Fnd K mg "_law_web" sWeb ["draws"]) (T:Txt mg) (Tk:Def P w K mg base 1 "_law_take" ["draws","many"] spTake):Def P w K mg base 2 "_law_web" ["draws"] (spWebD K):=S.def fun f fd F=>by
 have nd:=scWeb.nd
 refine F.ok scWeb (fun vs H Q E h=>?_) (fun cdv A' outer s H vs Q E hr h=>?_)
 · obtain ⟨_,rfl,_⟩:=h
   rfl
 · obtain ⟨d,rfl,hd,k⟩:=h
   refine ⟨_,(@pss_cons _ _ _ _ _ (@ps_setX _ _ 1 _ _ _ _ (by rfl) (Or.inl rfl) nd rfl (Or.inl rfl) (pe_op op_add pe_int (pe_def (by rfl) (by rfl) (by rfl) (by decide) Tk (hr.mono (by decide)) (@pa_consX _ _ _ _ _ (by rfl) (pv 0) (@pa_consX _ _ _ _ _ (by rfl) pe_int pa_nil)))))
    (@pss_mid _ _ _ _ _ (@ps_if _ _ _ _ _ _ _ _ (pt_cmpR op_eq (pe_def (by rfl) (by rfl) (by rfl) (by decide) Tk (hr.mono (by decide)) (@pa_consX _ _ _ _ _ (by rfl) (pv 0) (@pa_consX _ _ _ _ _ (by rfl) pe_int pa_nil))) pe_int (nomark _))
     (@pss_one _ _ _ (@ps_setX _ _ 1 _ _ _ _ (by rfl) (Or.inl rfl) nd rfl (Or.inl rfl) (pe_op op_add pe_int (pe_def (by rfl) (by rfl) (by rfl) (by decide) Tk (hr.mono (by decide)) (@pa_consX _ _ _ _ _ (by rfl) (pv 0) (@pa_consX _ _ _ _ _ (by rfl) pe_int pa_nil))))))
     pss_nil)
    (@pss_cons _ _ _ _ _ (@ps_setX _ _ 2 _ _ _ _ (by rfl) (Or.inl rfl) nd rfl (Or.inl rfl) (@pe_lstS _ _ _ _ pa_nil))
    (@pss_cons _ _ _ _ _ (@ps_forX _ _ _ _ _ _ _ _ (fun _=>rfl) PassesOwn.never rfl (pi_range1 rfl T.range (@pa_consX _ _ _ _ _ (by rfl) (pe_ix ix_list (@pe_lstS _ _ _ _ (@pa_consX _ _ _ _ _ (by rfl) (pe_def (by rfl) (by rfl) (by rfl) (by decide) Tk (hr.mono (by decide)) (@pa_consX _ _ _ _ _ (by rfl) (pv 0) (@pa_consX _ _ _ _ _ (by rfl) (pe_op op_add (pe_op op_mul pe_int (pv 1)) pe_int) pa_nil))) (@pa_consX _ _ _ _ _ (by rfl) (pe_def (by rfl) (by rfl) (by rfl) (by decide) Tk (hr.mono (by decide)) (@pa_consX _ _ _ _ _ (by rfl) (pv 0) (@pa_consX _ _ _ _ _ (by rfl) pe_int pa_nil))) pa_nil))) (pe_callTy call_int1 (by rfl) T.int boot_int (@pa_consX _ _ _ _ _ (by rfl) (pe_cmpR op_eq (pe_def (by rfl) (by rfl) (by rfl) (by decide) Tk (hr.mono (by decide)) (@pa_consX _ _ _ _ _ (by rfl) (pv 0) (@pa_consX _ _ _ _ _ (by rfl) pe_int pa_nil))) pe_int (nomark _)) pa_nil)) (fun _ _=>rfl)) pa_nil)) (pg_name (i:=3) nd rfl (Or.inl rfl))
     (@pss_one _ _ _ (ps_expr (pe_bm PySem.F.plainAttrs_list PySem.F.slot_list_append PySem.F.type_list_append mt_append (pv 2) (@pa_consX _ _ _ _ _ (by rfl) (@pe_tupS _ _ _ _ _ (@pa_consX _ _ _ _ _ (by rfl) (pe_op op_mod (pe_def (by rfl) (by rfl) (by rfl) (by decide) Tk (hr.mono (by decide)) (@pa_consX _ _ _ _ _ (by rfl) (pv 0) (@pa_consX _ _ _ _ _ (by rfl) pe_int pa_nil))) (pv 1)) (@pa_consX _ _ _ _ _ (by rfl) (pe_op op_mod (pe_def (by rfl) (by rfl) (by rfl) (by decide) Tk (hr.mono (by decide)) (@pa_consX _ _ _ _ _ (by rfl) (pv 0) (@pa_consX _ _ _ _ _ (by rfl) pe_int pa_nil))) (pv 1)) pa_nil))) pa_nil)))))
    (@pss_one _ _ _ (@ps_ret _ _ _ _ (@pe_tupS _ _ _ _ _ (@pa_consX _ _ _ _ _ (by rfl) (pv 1) (@pa_consX _ _ _ _ _ (by rfl) (pe_callTy call_tupOf (by rfl) T.tup boot_tuple (@pa_consX _ _ _ _ _ (by rfl) (pe_callB call_sortedPS (by rfl) T.srt boot_sorted (@pa_consX _ _ _ _ _ (by rfl) (pv 2) pa_nil)) pa_nil)) pa_nil))))))))),?_⟩
   refine ⟨_,rfl,d,5,rfl,by decide,hd,fun v1 H1 a1 b1 h1 k1=>⟨_,_,rfl,rfl,?_⟩⟩
   refine ⟨fun σ G=>DrawsAt G d∧Kp d H G∧∃ many:Int,1≤many∧many≤12∧σ=[some (.ref d),some (.int many),none,none],?_,?_⟩
   · refine ⟨_,rfl,d,4,rfl,by decide,h1,fun v2 H2 a2 b2 h2 k2=>⟨rfl,_,rfl,?_⟩⟩
     refine if2 (fun _=>?_) (fun _=>?_)
     · refine ⟨_,rfl,d,12,rfl,by decide,h2,fun v3 H3 a3 b3 h3 k3=>⟨_,_,rfl,rfl,?_⟩⟩
       exact ⟨h3,k1.trans (k2.trans k3),1+v3,by omega,by omega,rfl⟩
     · exact ⟨h2,k1.trans k2,1+v1,by omega,by omega,rfl⟩
   rintro σ G ⟨hG,kG,many,m1,m12,rfl⟩
   refine ⟨(by show 0≤sizeLine;decide),fun lk G1 t1 hlk eLk=>?_⟩
   have lkd:lk≠d:=hG.ne hlk
   have lkn:H lk=none:=kG.freeD hG hlk
   refine ⟨_,rfl,_,rfl,_,_,rfl,rfl,.inl ⟨by decide,by decide⟩,_,_,rfl,rfl,d,2 * many+1,rfl,by omega,hG.same t1,fun w1 G2 c1 e1 h2 k2=>?_⟩
   refine ⟨_,rfl,d,61,rfl,by decide,h2,fun w2 G3 c2 e2 h3 k3=>?_⟩
   refine ⟨(by show 2≤sizeLine;decide),fun bl G4 t4 hbl eBl=>?_⟩
   have bld:bl≠d:=h3.ne hbl
   refine ⟨_,rfl,d,8,rfl,by decide,h3.same t4,fun w3 G5 c3 e3 h5 k5=>⟨rfl,.inr ⟨_,rfl,?_⟩⟩⟩
   have eBl5:=k5 _ _ eBl bld
   have K5:Kp d G1 G5:=k2.trans (k3.trans ((Same.kpd t4).trans k5))
   have KH:Kp d H G5:=kG.trans ((Same.kpd t1).trans K5)
   obtain ⟨n,hn,n0,n60⟩:∃ n:Int,atI [V.int w1,V.int w2] (if decide (V.int w3=V.int 1)=true then (1:Int) else 0)=some (.int n)∧0≤n∧n≤60:=by
    split
    · exact ⟨w2,rfl,c2,by omega⟩
    · exact ⟨w1,rfl,c1,by omega⟩
   refine ⟨bl,_,_,_,rfl,rfl,SqL.of eBl5,hn,n,rfl,by omega,by omega,?_⟩
   refine for_range (lo:=0) (n:=n.toNat) (fun i σ G=>DrawsAt G d∧Kp d H G∧(∃ (vs:List V) (ps:List (Int×Int)),G lk=some (.lst vs)∧Prs K G ps vs∧ps.length=i∧∀ q∈ps,0≤q.1∧q.1<many∧0≤q.2∧q.2<many) ∧
    ∃ kv,σ=[some (.ref d),some (.int many),some (.ref lk),kv]) ?_ ?_ ?_
   · exact ⟨h5,KH,⟨[],[],K5 _ _ eLk lkd,prs_nil,rfl,fun q hq=>by simp at hq⟩,none,rfl⟩
   · rintro i σ G hi ⟨c1,c2,⟨vs,ps,c4,c5,c6,c7⟩,kv,rfl⟩
     refine ⟨_,rfl,.inl ⟨rfl,_,SqL.of c4⟩,?_⟩
     refine ⟨_,rfl,d,144,rfl,by decide,c1,fun x G6 x0 x1 h6 k6=>⟨_,rfl,_,_,rfl,rfl,(by show (0:Int)<many;omega),?_⟩⟩
     refine ⟨_,rfl,d,144,rfl,by decide,h6,fun y G7 y0 y1 h7 k7=>⟨_,rfl,_,_,rfl,rfl,(by show (0:Int)<many;omega),?_⟩⟩
     refine ⟨(by show 2≤sizeLine;decide),fun t HE sE nE eE=>?_⟩
     have kpE:Kp d G HE:=k6.trans (k7.trans (Same.kpd sE))
     have klE:KL G HE:=c1.kl kpE
     have lkE:HE lk=some (.lst vs):=kpE _ _ c4 lkd
     have hE:=h7.same sE
     refine ⟨lk,vs,_,rfl,rfl,lkE,?_,?_⟩
     · rw [c5.len,c6]
       exact small1000 (by omega)
     have klF:KL HE (upd HE lk (.lst (vs ++ [.ref t]))):=KL.set lkE
     refine ⟨?_,fun x o e n=>?_,⟨vs ++ [.ref t],ps ++ [(x % many,y % many)],upd_same,?_,?_,?_⟩,_,rfl⟩
     · obtain ⟨ns,e,z⟩:=hE
       exact ⟨ns,by rw [upd_ne lkd.symm];exact e,z⟩
     · rw [upd_ne (ne_of_none e lkn)]
       exact kpE _ o (c2 _ o e n) n
     · exact Prs.snoc (p:=(x % many,y % many)) (klF.seqT (SqT.of eE)) ((c5.kl klE).kl klF)
     · rw [List.length_append,List.length_singleton];omega
     · intro q hq
       rcases List.mem_append.mp hq with hq | hq
       · exact c7 q hq
       · simp at hq
         subst hq
         exact ⟨Int.emod_nonneg _ (by omega),Int.emod_lt_of_pos _ (by omega),Int.emod_nonneg _ (by omega),Int.emod_lt_of_pos _ (by omega)⟩
   · rintro σ G ⟨c1,c2,⟨vs,ps,c4,c5,c6,c7⟩,kv,rfl⟩
     refine ⟨_,rfl,_,rfl,lk,vs,ps,rfl,SqL.of c4,c5,by omega,fun us ms D2 HD pm up hp2 sD hD2 eD2=>?_⟩
     refine ⟨D2,us,rfl,SqL.of eD2,fun ws HF sF nF eF=>?_⟩
     refine ⟨(by show 2≤sizeLine;decide),fun wa HG sG nG eG=>?_⟩
     have sAll:Same G HG:=sD.trans (sF.trans sG)
     refine k wa HG many ms ⟨m1,m12,?_,up,fun q hq=>c7 q (pm.mem_iff.mp hq)⟩ ⟨ws,us,eG,sG _ _ eF,(hp2.kl sF.kl).kl sG.kl⟩ (c1.same sAll) (c2.trans (Same.kpd sAll))
     rw [pm.length_eq,c6]
     omega
theorem scLLeap:FnScope ["draws","below","above"] ["draws"] (defScope sLLeap):=⟨rfl,rfl,rfl,by decide +kernel,rfl,by decide +kernel,by decide +kernel⟩
set_option maxHeartbeats 0 in
theorem d_law_leap (S:Fnd K mg "_law_leap" sLLeap ["draws"]) (T:Txt mg) (Tk:Def P w K mg base 1 "_law_take" ["draws","many"] spTake) (Fr:Def P w K mg base 1 "_law_fraction" ["above","below"] spMadeS):Def P w K mg base 2 "_law_leap" ["draws"] (spLeapD K):=S.def fun f fd F=>by
 have nd:=scLLeap.nd
 refine F.ok scLLeap (fun vs H Q E h=>?_) (fun cdv A' outer s H vs Q E hr h=>?_)
 · obtain ⟨_,rfl,_⟩:=h
   rfl
 · obtain ⟨d,rfl,hd,k⟩:=h
   refine ⟨_,(@pss_cons _ _ _ _ _ (@ps_setX _ _ 1 _ _ _ _ (by rfl) (Or.inl rfl) nd rfl (Or.inl rfl) (pe_ix ix_list (@pe_lstS _ _ _ _ (@pa_consX _ _ _ _ _ (by rfl) pe_int (@pa_consX _ _ _ _ _ (by rfl) pe_int (@pa_consX _ _ _ _ _ (by rfl) pe_int (@pa_consX _ _ _ _ _ (by rfl) (pe_op op_sub (pe_op op_pow pe_int pe_int) pe_int) pa_nil))))) (pe_def (by rfl) (by rfl) (by rfl) (by decide) Tk (hr.mono (by decide)) (@pa_consX _ _ _ _ _ (by rfl) (pv 0) (@pa_consX _ _ _ _ _ (by rfl) pe_int pa_nil))) (fun _ _=>rfl)))
    (@pss_cons _ _ _ _ _ (@ps_setX _ _ 2 _ _ _ _ (by rfl) (Or.inl rfl) nd rfl (Or.inl rfl) (pe_op op_mul (pe_def (by rfl) (by rfl) (by rfl) (by decide) Tk (hr.mono (by decide)) (@pa_consX _ _ _ _ _ (by rfl) (pv 0) (@pa_consX _ _ _ _ _ (by rfl) pe_int pa_nil))) (pe_op op_pow pe_int pe_int)))
    (@pss_cons _ _ _ _ _ (@ps_setX _ _ 2 _ _ _ _ (by rfl) (Or.inl rfl) nd rfl (Or.inl rfl) (pe_op op_add (pv 2) (pe_op op_mul (pe_def (by rfl) (by rfl) (by rfl) (by decide) Tk (hr.mono (by decide)) (@pa_consX _ _ _ _ _ (by rfl) (pv 0) (@pa_consX _ _ _ _ _ (by rfl) pe_int pa_nil))) (pe_op op_pow pe_int pe_int))))
    (@pss_cons _ _ _ _ _ (@ps_setX _ _ 2 _ _ _ _ (by rfl) (Or.inl rfl) nd rfl (Or.inl rfl) (pe_op op_add pe_int (pe_op op_mod (pe_op op_add (pv 2) (pe_def (by rfl) (by rfl) (by rfl) (by decide) Tk (hr.mono (by decide)) (@pa_consX _ _ _ _ _ (by rfl) (pv 0) (@pa_consX _ _ _ _ _ (by rfl) pe_int pa_nil)))) (pv 1))))
    (@pss_one _ _ _ (@ps_ret _ _ _ _ (pe_ix ix_list (@pe_lstS _ _ _ _ (@pa_consX _ _ _ _ _ (by rfl) (@pe_tupS _ _ _ _ _ (@pa_consX _ _ _ _ _ (by rfl) pe_int (@pa_consX _ _ _ _ _ (by rfl) pe_int pa_nil))) (@pa_consX _ _ _ _ _ (by rfl) (@pe_tupS _ _ _ _ _ (@pa_consX _ _ _ _ _ (by rfl) pe_int (@pa_consX _ _ _ _ _ (by rfl) pe_int pa_nil))) (@pa_consX _ _ _ _ _ (by rfl) (@pe_tupS _ _ _ _ _ (@pa_consX _ _ _ _ _ (by rfl) pe_int (@pa_consX _ _ _ _ _ (by rfl) pe_int pa_nil))) (@pa_consX _ _ _ _ _ (by rfl) (pe_def (by rfl) (by rfl) (by rfl) (by decide) Fr (hr.mono (by decide)) (@pa_consX _ _ _ _ _ (by rfl) (pv 2) (@pa_consX _ _ _ _ _ (by rfl) (pv 1) pa_nil))) pa_nil))))) (pe_def (by rfl) (by rfl) (by rfl) (by decide) Tk (hr.mono (by decide)) (@pa_consX _ _ _ _ _ (by rfl) (pv 0) (@pa_consX _ _ _ _ _ (by rfl) pe_int pa_nil))) (fun _ _=>rfl)))))))),?_⟩
   refine ⟨_,_,rfl,rfl,⟨by decide,by decide,by decide⟩,_,_,rfl,rfl,(by show 4≤sizeLine;decide),fun b1 G1 t1 hb1 eb1=>?_⟩
   refine ⟨_,rfl,d,4,rfl,by decide,hd.same t1,fun x G2 x0 x1 h2 k2=>?_⟩
   have hb1d:b1≠d:=hd.ne hb1
   obtain ⟨below,e2,b2,b3⟩:∃ below:Int,atI [V.int 2,V.int 7,V.int 100,V.int (10 ^ (12:Int).toNat - 1)] x=some (.int below)∧0<below∧below<1000000000000:=by
    have:x=0∨x=1∨x=2∨x=3:=by omega
    rcases this with rfl | rfl | rfl | rfl
    · exact ⟨2,rfl,by decide,by decide⟩
    · exact ⟨7,rfl,by decide,by decide⟩
    · exact ⟨100,rfl,by decide,by decide⟩
    · exact ⟨_,rfl,by decide,by decide⟩
   refine ⟨b1,_,_,_,rfl,rfl,SqL.of (k2 _ _ eb1 hb1d),e2,?_⟩
   refine ⟨_,rfl,d,1000,rfl,by decide,h2,fun y G3 y0 y1 h3 k3=>⟨_,_,rfl,rfl,⟨by decide,by decide,by decide⟩,_,_,rfl,rfl,.inl ⟨by omega,by omega⟩,?_⟩⟩
   refine ⟨_,rfl,_,rfl,d,1000,rfl,by decide,h3,fun z G4 z0 z1 h4 k4=>⟨_,_,rfl,rfl,⟨by decide,by decide,by decide⟩,_,_,rfl,rfl,.inl ⟨by omega,by omega⟩,_,_,rfl,rfl,?_⟩⟩
   refine ⟨_,rfl,_,rfl,d,1000,rfl,by decide,h4,fun u G5 u0 u1 h5 k5=>⟨_,_,rfl,rfl,_,rfl,_,_,rfl,rfl,b2,_,_,rfl,rfl,?_⟩⟩
   have p0:=Int.emod_nonneg (y * 10 ^ (9:Int).toNat+z * 10 ^ (5:Int).toNat+u) (show below≠0 by omega)
   have p1:=Int.emod_lt_of_pos (y * 10 ^ (9:Int).toNat+z * 10 ^ (5:Int).toNat+u) b2
   have za:Sz 41 (1+(y * 10 ^ (9:Int).toNat+z * 10 ^ (5:Int).toNat+u) % below):=sz_of 41 (by omega)
   have zb:Sz 41 below:=sz_of 41 (by omega)
   have ha0:0<1+(y * 10 ^ (9:Int).toNat+z * 10 ^ (5:Int).toNat+u) % below:=by omega
   have ha1:1+(y * 10 ^ (9:Int).toNat+z * 10 ^ (5:Int).toNat+u) % below≤below:=by omega
   refine ⟨(by show 2≤sizeLine;decide),fun q1 G6 t6 hq1 eq1=>⟨(by show 2≤sizeLine;decide),fun q2 G7 t7 hq2 eq2=>⟨(by show 2≤sizeLine;decide),fun q3 G8 t8 hq3 eq3=>?_⟩⟩⟩
   refine ⟨_,rfl,_,rfl,_,_,rfl,by omega,za.mono (by decide),zb.mono (by decide),fun q4 G9 t9 f4=>?_⟩
   refine ⟨(by show 4≤sizeLine;decide),fun l G10 t10 hl el=>?_⟩
   have h9:=((((h5.same t6).same t7).same t8).same t9)
   have h10:=h9.same t10
   have hld:l≠d:=h9.ne hl
   refine ⟨_,rfl,d,4,rfl,by decide,h10,fun w G11 w0 w1 h11 k11=>?_⟩
   have s6:Same G5 G10:=t6.trans (t7.trans (t8.trans (t9.trans t10)))
   have KK:Kp d H G11:=(Same.kpd t1).trans (k2.trans (k3.trans (k4.trans (k5.trans ((Same.kpd s6).trans k11)))))
   have e1':FrA K G10 q1 (1,2):=t10 _ _ (t9 _ _ (t8 _ _ (t7 _ _ eq1)))
   have e2':FrA K G10 q2 (1,1):=t10 _ _ (t9 _ _ (t8 _ _ eq2))
   have e3':FrA K G10 q3 (3,20):=t10 _ _ (t9 _ _ eq3)
   have e4':=t10 _ _ f4
   obtain ⟨q,A,hat,fA,cA,a0,a1,sA⟩:∃ (q:Addr) (A:Int×Int),atI [V.ref q1,V.ref q2,V.ref q3,V.ref q4] w=some (.ref q)∧FrA K G10 q A∧Pw.Canon A∧0<A.1∧A.1≤A.2∧Sz2 41 A:=by
    have:w=0∨w=1∨w=2∨w=3:=by omega
    rcases this with rfl | rfl | rfl | rfl
    · exact ⟨q1,(1,2),rfl,e1',⟨by decide,by decide⟩,by decide,by decide,⟨sz_of 10 (by decide),sz_of 10 (by decide)⟩⟩
    · exact ⟨q2,(1,1),rfl,e2',⟨by decide,by decide⟩,by decide,by decide,⟨sz_of 10 (by decide),sz_of 10 (by decide)⟩⟩
    · exact ⟨q3,(3,20),rfl,e3',⟨by decide,by decide⟩,by decide,by decide,⟨sz_of 10 (by decide),sz_of 10 (by decide)⟩⟩
    · exact ⟨q4,_,rfl,e4',Pw.canon_mk (by omega),Pw.mk_pos b2 ha0,Pw.mk_le1 b2 ha1,mk_sz (by omega) za zb⟩
   refine ⟨l,_,w,.ref q,rfl,rfl,SqL.of (k11 _ _ el hld),hat,?_⟩
   exact k q G11 A cA a0 a1 sA h11 (k11 _ _ fA (h10.neT fA)) KK
theorem sc_law_kinds:FnScope ["draws","many","letters","wide","first"] ["draws","many"] (defScope s_law_kinds):=⟨rfl,rfl,rfl,by decide +kernel,rfl,by decide +kernel,by decide +kernel⟩
set_option maxHeartbeats 0 in
theorem d_law_kinds (S:Fnd K mg "_law_kinds" s_law_kinds ["draws","many"]) (T:Txt mg) (Tk:Def P w K mg base 1 "_law_take" ["draws","many"] spTake):Def P w K mg base 2 "_law_kinds" ["draws","many"] spKinds:=S.def fun f fd F=>by
 have nd:=sc_law_kinds.nd
 refine F.ok sc_law_kinds (fun vs H Q E h=>?_) (fun cdv A' outer s H vs Q E hr h=>?_)
 · obtain ⟨_,_,rfl,_⟩:=h
   rfl
 · obtain ⟨d,n,rfl,n1,n12,hd,k⟩:=h
   refine ⟨_,(@pss_cons _ _ _ _ _ (@ps_setX _ _ 2 _ _ _ _ (by rfl) (Or.inl rfl) nd rfl (Or.inr rfl) pe_str)
    (@pss_cons _ _ _ _ _ (@ps_setX _ _ 3 _ _ _ _ (by rfl) (Or.inl rfl) nd rfl (Or.inr rfl) (pe_ix ix_list (@pe_lstS _ _ _ _ (@pa_consX _ _ _ _ _ (by rfl) pe_int (@pa_consX _ _ _ _ _ (by rfl) pe_int (@pa_consX _ _ _ _ _ (by rfl) pe_int (@pa_consX _ _ _ _ _ (by rfl) pe_int (@pa_consX _ _ _ _ _ (by rfl) pe_int (@pa_consX _ _ _ _ _ (by rfl) pe_int pa_nil))))))) (pe_def (by rfl) (by rfl) (by rfl) (by decide) Tk (hr.mono (by decide)) (@pa_consX _ _ _ _ _ (by rfl) (pv 0) (@pa_consX _ _ _ _ _ (by rfl) pe_int pa_nil))) (fun _ _=>rfl)))
    (@pss_cons _ _ _ _ _ (@ps_setX _ _ 4 _ _ _ _ (by rfl) (Or.inl rfl) nd rfl (Or.inr rfl) (pe_def (by rfl) (by rfl) (by rfl) (by decide) Tk (hr.mono (by decide)) (@pa_consX _ _ _ _ _ (by rfl) (pv 0) (@pa_consX _ _ _ _ _ (by rfl) (pe_op op_sub pe_int (pv 3)) pa_nil))))
    (@pss_one _ _ _ (@ps_ret _ _ _ _ (pe_bm PySem.F.plainAttrs_str PySem.F.slot_str_join PySem.F.type_str_join mt_joinS pe_str (@pa_consX _ _ _ _ _ (by rfl) (pe_compC ["page","letters","first","draws","wide"] [none,some 2,some 4,some 0,some 3] rfl (pi_range1 rfl T.range (@pa_consX _ _ _ _ _ (by rfl) (pv 1) pa_nil)) (by show ∀ y:Str×NameKind,y∈_→y.2=NameKind.free→(defScope s_law_kinds).names.lookup y.1=some .cell;decide +kernel) (by decide) rfl (by decide +kernel) ⟨⟨rfl,rfl,.inl rfl⟩,⟨rfl,rfl,.inl rfl⟩,⟨rfl,rfl,.inl rfl⟩,⟨rfl,rfl,.inl rfl⟩,trivial⟩
     (fun cl C s H fp=>(pg_name (i:=0) (show (["page","letters","first","draws","wide"]:List Str).Nodup by decide +kernel) rfl (Or.inl rfl) (.inr rfl)))
     (fun cl C s H fp=>pts_nil)
     (fun cl C s H fp=>(pe_ix ix_str (pv 1) (pe_op op_add (pv 2) (pe_def (by rfl) (by rfl) (by rfl) (by decide) Tk (hr.mono (by decide)) (@pa_consX _ _ _ _ _ (by rfl) (pv 3) (@pa_consX _ _ _ _ _ (by rfl) (pv 4) pa_nil)))) (fun _ _=>rfl)))) pa_nil))))))),?_⟩
   refine ⟨(by show 6≤sizeLine;decide),fun b1 G1 t1 hb1 eb1=>?_⟩
   have hb1d:b1≠d:=hd.ne hb1
   refine ⟨_,rfl,d,6,rfl,by decide,hd.same t1,fun xx G2 x0 x1 h2 k2=>?_⟩
   obtain ⟨mm,e2,m0,m1⟩:∃ mm:Int,atI [V.int 1,V.int 2,V.int 3,V.int 6,V.int 12,V.int 26] xx=some (.int mm)∧1≤mm∧mm≤26:=by
    have:xx=0∨xx=1∨xx=2∨xx=3∨xx=4∨xx=5:=by omega
    rcases this with rfl | rfl | rfl | rfl | rfl | rfl
    · exact ⟨1,rfl,by decide,by decide⟩
    · exact ⟨2,rfl,by decide,by decide⟩
    · exact ⟨3,rfl,by decide,by decide⟩
    · exact ⟨6,rfl,by decide,by decide⟩
    · exact ⟨12,rfl,by decide,by decide⟩
    · exact ⟨26,rfl,by decide,by decide⟩
   refine ⟨b1,_,_,_,rfl,rfl,SqL.of (k2 _ _ eb1 hb1d),e2,?_⟩
   refine ⟨_,rfl,_,rfl,_,_,rfl,rfl,d,27 - mm,rfl,by omega,h2,fun ff G3 f0 f1 h3 k3=>?_⟩
   have K3:Kp d H G3:=(Same.kpd t1).trans (k2.trans k3)
   refine ⟨rfl,_,rfl,(n:Int),rfl,by omega,by omega,fun D hD=>?_⟩
   have hDd:=h3.ne hD
   have hDH:H D=none:=K3.freeD h3 hD
   rw [Int.toNat_natCast]
   refine comp_rng (lo:=0) (n:=n) (D:=D) (fun i ys σ G=>DrawsAt G d∧Kp d H G∧G D=some (.lst ys)∧(∃ cs,ys=chV cs∧cs.length=i∧∀ c∈cs,97≤c∧c≤122)∧∃ v,σ=[v,some (.str (Str.ofString "abcdefghijklmnopqrstuvwxyz")),some (.int ff),some (.ref d),some (.int mm)]) ?_ ?_ ?_ ?_
   · exact ⟨h3.same (Same.new hD),K3.trans (Kp.new hD),upd_same,⟨[],rfl,rfl,fun c hc=>by simp at hc⟩,none,rfl⟩
   · rintro i ys σ G ⟨_,_,e,_⟩
     exact e
   · rintro i ys σ G hi ⟨g1,g2,g3,⟨cs,rfl,hl,hc⟩,v',rfl⟩
     dsimp only [gName]
     rw [if_pos rfl]
     refine ⟨_,rfl,_,rfl,_,rfl,_,rfl,d,mm,rfl,by omega,g1,fun v HL v0 v1 hL kL=>?_⟩
     have g3':HL D=_:=kL D _ g3 hDd
     obtain ⟨j,hj⟩:∃ j:Nat,ff+v=(j:Int):=⟨(ff+v).toNat,by omega⟩
     refine ⟨_,_,rfl,rfl,_,_,97+j,rfl,rfl,(by show 26≤sizeLine;decide),(by show atI _ (ff+v)=_;rw [hj];exact atI_nat (abc_at j (by omega))),g3',small1000 (by rw [chV_len];omega),Wt.next hi ⟨?_,fun b o e nb=>?_,upd_same,⟨cs ++ [97+j],?_,?_,?_⟩,_,rfl⟩⟩
     · obtain ⟨ns',e',z'⟩:=hL
       exact ⟨ns',by rw [upd_ne (Ne.symm hDd)];exact e',z'⟩
     · rw [upd_ne (ne_of_none e hDH)];exact kL b o (g2 b o e nb) nb
     · unfold chV;rw [List.map_append];rfl
     · rw [List.length_append,List.length_singleton];omega
     · intro c hc'
       rcases List.mem_append.mp hc' with hq | hq
       · exact hc c hq
       · simp at hq
         omega
   · rintro ys σ G ⟨g1,g2,g3,⟨cs,rfl,hl,hc⟩,_⟩
     exact ⟨D,cs,rfl,rfl,SqL.of g3,by omega,k _ G (by simpa using hl) (by simpa using hc) g1 g2⟩
theorem scLLeaps:FnScope ["draws","many","way","weights"] ["draws","many"] (defScope sLLeaps):=⟨rfl,rfl,rfl,by decide +kernel,rfl,by decide +kernel,by decide +kernel⟩
set_option maxHeartbeats 0 in
theorem d_law_leaps (S:Fnd K mg "_law_leaps" sLLeaps ["draws","many"]) (T:Txt mg) (Tk:Def P w K mg base 1 "_law_take" ["draws","many"] spTake) (Fr:Def P w K mg base 1 "_law_fraction" ["above","below"] spMadeS):Def P w K mg base 2 "_law_leaps" ["draws","many"] (spLeapsD K):=S.def fun f fd F=>by
 have nd:=scLLeaps.nd
 refine F.ok scLLeaps (fun vs H Q E h=>?_) (fun cdv A' outer s H vs Q E hr h=>?_)
 · obtain ⟨_,_,rfl,_⟩:=h
   rfl
 · obtain ⟨d,pages,rfl,plo,phi,hd,k⟩:=h
   refine ⟨_,(@pss_cons _ _ _ _ _ (@ps_setX _ _ 2 _ _ _ _ (by rfl) (Or.inl rfl) nd rfl (Or.inl rfl) (pe_def (by rfl) (by rfl) (by rfl) (by decide) Tk (hr.mono (by decide)) (@pa_consX _ _ _ _ _ (by rfl) (pv 0) (@pa_consX _ _ _ _ _ (by rfl) pe_int pa_nil))))
    (@pss_cons _ _ _ _ _ (@ps_setX _ _ 3 _ _ _ _ (by rfl) (Or.inl rfl) nd rfl (Or.inr rfl) (pe_op op_repS (@pe_lstS _ _ _ _ (@pa_consX _ _ _ _ _ (by rfl) pe_int pa_nil)) (pv 1)))
    (@pss_mid _ _ _ _ _ (@ps_if _ _ _ _ _ _ _ _ (pt_cmpR op_eq (pv 2) pe_int (nomark _))
     (@pss_cons _ _ _ _ _ (@ps_setX _ _ 3 _ _ _ _ (by rfl) (Or.inl rfl) nd rfl (Or.inr rfl) (pe_op op_repS (@pe_lstS _ _ _ _ (@pa_consX _ _ _ _ _ (by rfl) pe_int pa_nil)) (pv 1)))
    (@pss_one _ _ _ (ps_asg pe_int (pg_sub (pv 3) (pe_def (by rfl) (by rfl) (by rfl) (by decide) Tk (hr.mono (by decide)) (@pa_consX _ _ _ _ _ (by rfl) (pv 0) (@pa_consX _ _ _ _ _ (by rfl) (pv 1) pa_nil))) set_list))))
     pss_nil)
    (@pss_mid _ _ _ _ _ (@ps_if _ _ _ _ _ _ _ _ (pt_cmpR op_eq (pv 2) pe_int (nomark _))
     (@pss_cons _ _ _ _ _ (@ps_setX _ _ 3 _ _ _ _ (by rfl) (Or.inl rfl) nd rfl (Or.inr rfl) (pe_compC ["page","draws"] [none,some 0] rfl (pi_range1 rfl T.range (@pa_consX _ _ _ _ _ (by rfl) (pv 1) pa_nil)) (by show ∀ y:Str×NameKind,y∈_→y.2=NameKind.free→(defScope sLLeaps).names.lookup y.1=some .cell;decide +kernel) (by decide) rfl (by decide +kernel) ⟨⟨rfl,rfl,.inl rfl⟩,trivial⟩
      (fun cl C s H fp=>(pg_name (i:=0) (show (["page","draws"]:List Str).Nodup by decide +kernel) rfl (Or.inl rfl) (.inr rfl)))
      (fun cl C s H fp=>pts_nil)
      (fun cl C s H fp=>(pe_def (by rfl) (by rfl) (by rfl) (by decide) Tk (hr.mono (by decide)) (@pa_consX _ _ _ _ _ (by rfl) (pv 1) (@pa_consX _ _ _ _ _ (by rfl) pe_int pa_nil))))))
    (@pss_cons _ _ _ _ _ (ps_asg (pe_op op_add pe_int (pe_def (by rfl) (by rfl) (by rfl) (by decide) Tk (hr.mono (by decide)) (@pa_consX _ _ _ _ _ (by rfl) (pv 0) (@pa_consX _ _ _ _ _ (by rfl) pe_int pa_nil)))) (pg_sub (pv 3) (pe_def (by rfl) (by rfl) (by rfl) (by decide) Tk (hr.mono (by decide)) (@pa_consX _ _ _ _ _ (by rfl) (pv 0) (@pa_consX _ _ _ _ _ (by rfl) (pv 1) pa_nil))) set_list))
    (@pss_one _ _ _ (@ps_if _ _ _ _ _ _ _ _ (PW.pt (pw_and (pt_cmpR op_lt (pv 1) pe_int (nomark _)) (pw_and1 (pt_cmpR op_eq (pe_def (by rfl) (by rfl) (by rfl) (by decide) Tk (hr.mono (by decide)) (@pa_consX _ _ _ _ _ (by rfl) (pv 0) (@pa_consX _ _ _ _ _ (by rfl) pe_int pa_nil))) pe_int (nomark _)))))
     (@pss_one _ _ _ (@ps_setX _ _ 3 _ _ _ _ (by rfl) (Or.inl rfl) nd rfl (Or.inr rfl) (pe_compC ["k","weight"] [none,none] rfl (pi_enLK (by rfl) (by rfl) rfl T.enu (@pa_consX _ _ _ _ _ (by rfl) (pv 3) pa_nil)) (by show ∀ y:Str×NameKind,y∈_→y.2=NameKind.free→(defScope sLLeaps).names.lookup y.1=some .cell;decide +kernel) (by decide) rfl (by decide +kernel) trivial
      (fun cl C s H fp=>(pg_tupK (K:=K) 2 rfl rfl (pgs_cons (pg_name (i:=0) (show (["k","weight"]:List Str).Nodup by decide +kernel) rfl (Or.inl rfl) (.inr rfl)) (pgs_cons (pg_name (i:=1) (show (["k","weight"]:List Str).Nodup by decide +kernel) rfl (Or.inl rfl) (.inr rfl)) pgs_nil))))
      (fun cl C s H fp=>pts_nil)
      (fun cl C s H fp=>(pe_op op_add (pe_op op_mul (pv 1) (pe_op op_pow pe_int pe_int)) (pv 0))))))
     pss_nil))))
     pss_nil)
    (@pss_one _ _ _ (@ps_ret _ _ _ _ (pe_callTy call_tupOf (by rfl) T.tup boot_tuple (@pa_consX _ _ _ _ _ (by rfl) (pe_compC ["weight","weights"] [none,some 3] rfl (@pi_list _ _ _ _ (pv 3)) (by show ∀ y:Str×NameKind,y∈_→y.2=NameKind.free→(defScope sLLeaps).names.lookup y.1=some .cell;decide +kernel) (by decide) rfl (by decide +kernel) ⟨⟨rfl,rfl,.inl rfl⟩,trivial⟩
     (fun cl C s H fp=>(pg_name (i:=0) (show (["weight","weights"]:List Str).Nodup by decide +kernel) rfl (Or.inl rfl) (.inr rfl)))
     (fun cl C s H fp=>pts_nil)
     (fun cl C s H fp=>(pe_def (by rfl) (by rfl) (by rfl) (by decide) Fr (hr.mono (by decide)) (@pa_consX _ _ _ _ _ (by rfl) (pv 0) (@pa_consX _ _ _ _ _ (by rfl) (pe_callB (call_sumK (K:=K) rfl rfl) (by rfl) T.sum boot_sum (@pa_consX _ _ _ _ _ (by rfl) (pv 1) pa_nil)) pa_nil))))) pa_nil)))))))),?_⟩
   refine ⟨_,rfl,d,3,rfl,by decide,hd,fun way A1 w0 w3 hd1 kd1=>?_⟩
   refine ⟨(by show 1≤sizeLine;decide),fun l0 A2 ta2 hl0 el0=>?_⟩
   have rep1:∀ (n:Nat) (x:Int),(List.replicate n [V.int x]).flatten=(List.replicate n x).map V.int:=fun n x=>by rw [List.flatten_replicate_singleton,List.map_replicate]
   refine ⟨_,rfl,l0,pages,_,rfl,rfl,el0,by omega,by omega,(by show 1 * pages.toNat≤sizeLine;exact Nat.le_of_lt (small1000 (by omega))),fun W0 A3 ta3 hW0 eW0=>?_⟩
   rw [rep1] at eW0
   have hA3:DrawsAt A3 d:=(hd1.same ta2).same ta3
   have kA3:Kp d H A3:=kd1.trans ((Same.kpd ta2).trans (Same.kpd ta3))
   have setD:∀ {G:Hp} {D:Addr} {o:HO},DrawsAt G d→D≠d→DrawsAt (upd G D o) d:=fun {G D o} h n=>by
    obtain ⟨ns',e',z'⟩:=h
    exact ⟨ns',by rw [upd_ne (Ne.symm n)];exact e',z'⟩
   have wt0:Wts pages (List.replicate pages.toNat 1):=by
    have hs:(List.replicate pages.toNat (1:Int)).sum=pages:=by rw [List.sum_replicate_int];omega
    refine ⟨by rw [List.length_replicate];omega,fun w hw=>?_,by rw [hs];omega⟩
    rw [(List.mem_replicate.mp hw).2];decide
   refine ⟨fun σ G=>DrawsAt G d∧Kp d H G∧∃ (W:Addr) (ws:List Int),Wts pages ws∧G W=some (.lst (ws.map V.int))∧σ=[some (.ref d),some (.int pages),some (.int way),some (.ref W)],?_,?_⟩
   · refine ⟨_,rfl,rfl,_,rfl,if2 (fun _=>?_) (fun _=>?_)⟩
     · refine ⟨(by show 1≤sizeLine;decide),fun l1 A4 ta4 hl1 el1=>?_⟩
       refine ⟨_,rfl,l1,pages,_,rfl,rfl,el1,by omega,by omega,(by show 1 * pages.toNat≤sizeLine;exact Nat.le_of_lt (small1000 (by omega))),fun D A5 ta5 hD eD=>?_⟩
       rw [rep1] at eD
       have h5:=(hA3.same ta4).same ta5
       have hDd:D≠d:=(hA3.same ta4).ne hD
       have k5:Kp d H A5:=kA3.trans ((Same.kpd ta4).trans (Same.kpd ta5))
       have hDn:H D=none:=(kA3.trans (Same.kpd ta4)).freeD (hA3.same ta4) hD
       refine ⟨_,rfl,_,rfl,_,rfl,d,pages,rfl,by omega,h5,fun v' H4 a4 b4 h4 k4=>?_⟩
       obtain ⟨j,rfl⟩:∃ j:Nat,v'=j:=⟨v'.toNat,by omega⟩
       have e4:H4 D=some (.lst ((List.replicate pages.toNat (0:Int)).map V.int)):=k4 _ _ eD hDd
       refine ⟨D,_,(j:Int),j,rfl,rfl,e4,?_,setD h4 hDd,?_,D,(List.replicate pages.toNat (0:Int)).set j 1,?_,?_,rfl⟩
       · unfold ixN
         rw [if_pos (by omega),if_pos (by rw [List.length_map,List.length_replicate];omega),Int.toNat_natCast]
       · exact fun b o e n=>by rw [upd_ne (ne_of_none e hDn)];exact k4 _ _ (k5 _ _ e n) n
       · have nn:∀ n∈(List.replicate pages.toNat (0:Int)).set j 1,0≤n∧n<2 ^ 37:=fun n hn=>by
          rcases List.mem_or_eq_of_mem_set hn with hn | hn
          · rw [(List.mem_replicate.mp hn).2];decide
          · omega
         exact ⟨by rw [List.length_set,List.length_replicate];omega,nn,Pw.sum_pos (m:=1) (fun n hn=>(nn n hn).1) (List.mem_set (by rw [List.length_replicate];omega) _) (by decide)⟩
       · rw [upd_same,List.map_set]
     · exact ⟨hA3,kA3,W0,_,wt0,eW0,rfl⟩
   rintro σ B1 ⟨hB1,kB1,W1,ws1,wt1,eW1,rfl⟩
   refine ⟨fun σ G=>DrawsAt G d∧Kp d H G∧∃ (W:Addr) (ws:List Int),Wts pages ws∧G W=some (.lst (ws.map V.int))∧σ=[some (.ref d),some (.int pages),some (.int way),some (.ref W)],?_,?_⟩
   · refine ⟨_,rfl,rfl,_,rfl,if2 (fun _=>?_) (fun _=>?_)⟩
     · refine ⟨_,rfl,pages,rfl,by omega,by omega,fun D hD=>?_⟩
       have hDd:=hB1.ne hD
       have hDn:H D=none:=kB1.freeD hB1 hD
       refine comp_rng (lo:=0) (n:=pages.toNat) (D:=D) (fun i ys σ H'=>DrawsAt H' d∧Kp d H H'∧H' D=some (.lst ys)∧(∃ ns:List Int,ys=ns.map V.int∧ns.length=i∧∀ n∈ns,0≤n∧n<99)∧∃ x,σ=[x,some (.ref d)]) ?_ ?_ ?_ ?_
       · exact ⟨hB1.same (Same.new hD),kB1.trans (Kp.new hD),upd_same,⟨[],rfl,rfl,fun n hn=>by simp at hn⟩,none,rfl⟩
       · rintro i ys σ H' ⟨_,_,e,_⟩
         exact e
       · rintro i ys σ H' hi ⟨g1,g2,g3,⟨ns,rfl,g4,g5⟩,x,rfl⟩
         dsimp only [gName]
         rw [if_pos rfl]
         refine ⟨_,rfl,d,4,rfl,by decide,g1,fun v HL v0 v4 hL kL=>?_⟩
         have g3':HL D=_:=kL D _ g3 hDd
         refine ⟨g3',small1000 (by rw [List.length_map];omega),Wt.next hi ⟨setD hL hDd,fun b o e n=>?_,upd_same,⟨ns ++ [v],?_,?_,?_⟩,_,rfl⟩⟩
         · rw [upd_ne (ne_of_none e hDn)];exact kL b o (g2 b o e n) n
         · rw [List.map_append];rfl
         · rw [List.length_append,List.length_singleton];omega
         · intro n hn
           rcases List.mem_append.mp hn with hn | hn
           · exact g5 n hn
           · simp at hn
             omega
       rintro ys σ H2 ⟨g1,g2,g3,⟨ns,rfl,g4,g5⟩,_⟩
       refine ⟨_,rfl,d,99,rfl,by decide,g1,fun u H3 u0 u9 h3 k3=>⟨_,_,rfl,rfl,?_⟩⟩
       refine ⟨_,rfl,_,rfl,_,rfl,d,pages,rfl,by omega,h3,fun v' H4 a4 b4 h4 k4=>?_⟩
       obtain ⟨j,rfl⟩:∃ j:Nat,v'=j:=⟨v'.toNat,by omega⟩
       have hj:j<ns.length:=by omega
       have e4:H4 D=some (.lst (ns.map V.int)):=k4 _ _ (k3 _ _ g3 hDd) hDd
       refine ⟨D,_,(j:Int),j,rfl,rfl,e4,?_,?_⟩
       · unfold ixN
         rw [if_pos (by omega),if_pos (by rw [List.length_map];omega),Int.toNat_natCast]
       have eU:(upd H4 D (.lst ((ns.map V.int).set j (.int (1+u))))) D=some (.lst ((ns.set j (1+u)).map V.int)):=by rw [upd_same,List.map_set]
       have hU:DrawsAt (upd H4 D (.lst ((ns.map V.int).set j (.int (1+u))))) d:=setD h4 hDd
       have kU:Kp d H (upd H4 D (.lst ((ns.map V.int).set j (.int (1+u))))):=fun b o e n=>by
        rw [upd_ne (ne_of_none e hDn)]
        exact k4 _ _ (k3 _ _ (g2 _ _ e n) n) n
       have nn:∀ n∈ns.set j (1+u),0≤n∧n≤99:=fun n hn=>by
        rcases List.mem_or_eq_of_mem_set hn with hn | hn
        · have:=g5 n hn
          omega
        · omega
       have ln:(ns.set j (1+u)).length=pages.toNat:=by rw [List.length_set];omega
       have mm:1+u∈ns.set j (1+u):=List.mem_set hj _
       have wU:Wts pages (ns.set j (1+u)):=⟨by omega,fun n hn=>by have:=nn n hn;omega,Pw.sum_pos (m:=1+u) (fun n hn=>(nn n hn).1) mm (by omega)⟩
       refine ⟨_,rfl,_,_,rfl,rfl,_,rfl,if2 (fun _=>?_) (fun _=>?_)⟩
       · refine ⟨_,rfl,d,4,rfl,by decide,hU,fun q H5 q0 q4 h5 k5=>⟨rfl,_,rfl,if2 (fun _=>?_) (fun _=>?_)⟩⟩
         · have e5:=k5 _ _ eU hDd
           generalize ns.set j (1+u)=vs at nn ln mm wU e5
           refine ⟨_,rfl,D,_,rfl,SqL.of e5,fun D2 hD2=>?_⟩
           have hD2n:H D2=none:=(kU.trans k5).freeD h5 hD2
           refine comp_enL (K:=K) (a:=D) (D:=D2) (xs:=vs.map V.int) (fun i ys σ G=>Same H5 G∧G D2=some (.lst ys)∧ys=((List.range i).map fun t=>vs.getD t 0 * 10 ^ (9:Int).toNat+((t:Nat):Int)).map V.int∧∃ x y,σ=[x,y]) ?_ ?_ ?_ ?_
           · exact ⟨Same.new hD2,upd_same,rfl,none,none,rfl⟩
           · rintro i ys σ G ⟨t1,e1,_⟩
             exact ⟨SqL.of (t1 _ _ e5),e1⟩
           · rintro i x ys σ G TT G' hi hlt ⟨t1,e1,rfl,x',y',rfl⟩ hTT sG eT
             rw [List.length_map] at hlt
             have ex:x=.int (vs.getD i 0):=by
              rw [List.getElem?_map,getD_mapI (by omega)] at hi
              cases hi;rfl
             subst ex
             have hv:=nn _ (List.mem_of_getElem? (getD_mapI (show i<vs.length by omega)))
             refine ⟨TT,_,rfl,SqT.of eT,rfl,_,_,rfl,_,_,rfl,rfl,?_⟩
             dsimp only [gName]
             rw [if_pos rfl]
             refine ⟨_,rfl,_,_,rfl,rfl,⟨by decide,by decide,by decide⟩,_,_,rfl,rfl,.inl ⟨by omega,by omega⟩,_,rfl,_,_,rfl,rfl,sG _ _ e1,?_,Wt.next (by rw [List.length_map];exact hlt) ⟨fun b o e=>?_,upd_same,?_,_,_,rfl⟩⟩
             · rw [List.length_map,List.length_map,List.length_range]
               exact small1000 (by omega)
             · rw [upd_ne (ne_of_none e hD2)];exact sG _ _ (t1 _ _ e)
             · rw [List.range_succ,List.map_append,List.map_append];rfl
           · rintro ys σ G ⟨t1,e1,rfl,_⟩
             rw [List.length_map,ln] at e1
             refine ⟨h5.same t1,kU.trans (k5.trans (Same.kpd t1)),D2,_,?_,e1,rfl⟩
             have e9:(10:Int) ^ (9:Int).toNat=1000000000:=by decide
             have nn2:∀ n∈(List.range pages.toNat).map (fun t=>vs.getD t 0 * 10 ^ (9:Int).toNat+((t:Nat):Int)),0≤n∧n<2 ^ 37:=fun n hn=>by
              obtain ⟨t,ht,rfl⟩:=List.mem_map.mp hn
              have ht:=List.mem_range.mp ht
              have hv:=nn _ (List.mem_of_getElem? (getD_mapI (show t<vs.length by omega)))
              rw [e9]
              omega
             obtain ⟨i0,hi0,ei0⟩:=List.getElem_of_mem mm
             refine ⟨by rw [List.length_map,List.length_range];omega,nn2,Pw.sum_pos (m:=vs.getD i0 0 * 10 ^ (9:Int).toNat+((i0:Nat):Int)) (fun n hn=>(nn2 n hn).1) (List.mem_map.mpr ⟨i0,List.mem_range.mpr (by omega),rfl⟩) ?_⟩
             rw [List.getD_eq_getElem?_getD,List.getElem?_eq_getElem hi0]
             show 0<vs[i0] * _+_
             rw [ei0,e9]
             omega
         · exact ⟨h5,kU.trans k5,D,_,wU,k5 _ _ eU hDd,rfl⟩
       · exact ⟨hU,kU,D,_,wU,eU,rfl⟩
     · exact ⟨hB1,kB1,W1,ws1,wt1,eW1,rfl⟩
   rintro σ G ⟨hG,kG,W,ws,wt,eW,rfl⟩
   have hl:=wt.len
   refine ⟨_,rfl,W,rfl,⟨_,SqL.of eW⟩,fun D3 hD3=>?_⟩
   have hp:=wt.pos
   have zs:=wt.sz phi
   have hW3:W≠D3:=ne_of_none eW hD3
   refine comp_lst (K:=K) (a:=W) (D:=D3) (xs:=ws.map V.int) (fun i ys σ G'=>Same G G'∧G' D3=some (.lst ys)∧FrL K G' ((lps ws).take i) ys∧∃ x,σ=[x,some (.ref W)]) ?_ ?_ ?_ ?_
   · exact ⟨Same.new hD3,upd_same,rfl,none,rfl⟩
   · rintro i ys σ G' ⟨t4,e4,_⟩
     exact ⟨SqL.of (t4 _ _ eW),e4⟩
   · rintro i u ys σ G' hi hlt ⟨t4,e4,fl,x,rfl⟩
     rw [List.length_map] at hlt
     have eu:u=.int (ws.getD i 0):=by
      rw [List.getElem?_map,getD_mapI (by omega)] at hi
      cases hi;rfl
     subst eu
     have mW:ws.getD i 0∈ws:=List.mem_of_getElem? (getD_mapI (by omega))
     have hw:=wt.nn _ mW
     dsimp only [gName]
     rw [if_pos rfl]
     refine ⟨_,rfl,_,rfl,W,ws,rfl,SqL.of (t4 _ _ eW),_,_,rfl,by omega,(sz_of 41 (by omega)),zs.mono (by decide),fun r G1 t1 f1=>?_⟩
     have f1:FrA K G1 r (Pw.mk (ws.getD i 0) ws.sum):=f1
     have hI:(lps ws)[i]?=some (Pw.mk (ws.getD i 0) ws.sum):=by
      unfold lps
      rw [List.getElem?_map,getD_mapI (by omega)];rfl
     have e5:=t1 _ _ e4
     refine ⟨e5,by rw [fl.len,List.length_take];exact small1000 (by omega),Wt.next (by rw [List.length_map];exact hlt) ⟨fun b o e=>?_,upd_same,?_,_,rfl⟩⟩
     · rw [upd_ne (ne_of_none e hD3)];exact t1 _ _ (t4 _ _ e)
     · rw [List.take_succ,hI]
       exact ((fl.same t1).snoc f1).kp (KL.set e5)
   · rintro ys σ G' ⟨t4,e4,fl,_⟩
     refine ⟨D3,ys,rfl,SqL.of e4,fun t G1 t1 _ e1=>?_⟩
     rw [List.length_map,List.take_of_length_le (by rw [lps_len];exact Nat.le_refl _)] at fl
     have sA:=t4.trans t1
     exact k t G1 ws ys wt (hG.same sA) e1 (fl.same t1) (kG.trans (Same.kpd sA))
end
end Lw
set_option pp.maxSteps 800
namespace Lw
open PySem L2 PyProof.Rows
section
variable {P:Program} {w:World} {K:PySem.W.Frag} {mg:Str→Option Value} {base:Heap}
theorem sc_leaps_of:FnScope ["kinds","letter","share"] ["kinds","letter"] (defScope s_leaps_of):=⟨rfl,rfl,rfl,by decide +kernel,rfl,by decide +kernel,by decide +kernel⟩
set_option maxHeartbeats 0 in
theorem d_leaps_of (S:Fnd K mg "leaps_of" s_leaps_of ["kinds","letter"]) (T:Txt mg) {zZ:Addr} (mZ:mg "ZERO"=some (.ref zZ)) (hZ:∀ H,SqF K H zZ (0,1)) (zstr:mg "str"=none) (Md:Def P w K mg base 2 "made" ["above","below"] spMadeS):Def P w K mg base 3 "leaps_of" ["kinds","letter"] (spLeapsG K):=S.def fun f fd F=>by
 have nd:=sc_leaps_of.nd
 refine F.ok sc_leaps_of (fun vs H Q E h=>?_) (fun cdv A' outer s H vs Q E hr h=>?_)
 · obtain ⟨_,_,rfl,_⟩:=h
   rfl
 · obtain ⟨x,c,rfl,x12,hc,k⟩:=h
   refine ⟨_,(@pss_cons _ _ _ _ _ (@ps_if _ _ _ _ _ _ _ _ (PW.pt (pw_or (pt_not (pt_val (pe_callB call_isi (by rfl) T.isi boot_isinstance (@pa_consX _ _ _ _ _ (by rfl) (pv 1) (@pa_consX _ _ _ _ _ (by rfl) (pe_bltn (v:=.ty "str") (by rfl) zstr boot_str rfl) pa_nil))))) (pw_or (pt_cmpR op_ne (pe_callB call_len_str (by rfl) T.len PySem.boot_len (@pa_consX _ _ _ _ _ (by rfl) (pv 1) pa_nil)) pe_int (nomark _)) (pw_or1 (pt_cmpR op_notIn_str (pv 1) (pv 0) (by rfl))))))
    (@pss_one _ _ _ ps_never)
    pss_nil)
    (@pss_cons _ _ _ _ _ (@ps_setX _ _ 2 _ _ _ _ (by rfl) (Or.inl rfl) nd rfl (Or.inr rfl) (pe_def (by rfl) (by rfl) (by rfl) (by decide) Md (hr.mono (by decide)) (@pa_consX _ _ _ _ _ (by rfl) pe_int (@pa_consX _ _ _ _ _ (by rfl) (pe_bm PySem.F.plainAttrs_str PySem.F.slot_str_count PySem.F.type_str_count mt_countS (pv 0) (@pa_consX _ _ _ _ _ (by rfl) (pv 1) pa_nil)) pa_nil))))
    (@pss_one _ _ _ (@ps_ret _ _ _ _ (pe_callTy call_tupOf (by rfl) T.tup boot_tuple (@pa_consX _ _ _ _ _ (by rfl) (pe_compC ["each","share","letter"] [none,some 2,some 1] rfl (pi_str (pv 0)) (by show ∀ y:Str×NameKind,y∈_→y.2=NameKind.free→(defScope s_leaps_of).names.lookup y.1=some .cell;decide +kernel) (by decide) rfl (by decide +kernel) ⟨⟨rfl,rfl,.inl rfl⟩,⟨rfl,rfl,.inl rfl⟩,trivial⟩
     (fun cl C s H fp=>(pg_name (i:=0) (show (["each","share","letter"]:List Str).Nodup by decide +kernel) rfl (Or.inl rfl) (.inr rfl)))
     (fun cl C s H fp=>pts_nil)
     (fun cl C s H fp=>(pe_ifExp (pt_cmpR op_eq (pv 0) (pv 2) (nomark _)) (pv 1) (pe_glob (v:=.ref zZ) (by rfl) mZ rfl)))) pa_nil)))))),?_⟩
   have hcnt:=List.count_pos_iff.mpr hc
   have hl12:x.cps.toList.length≤12:=by rw [Array.length_toList];exact x12
   refine ⟨_,rfl,_,_,_,true,rfl,.str _,kit_self,_,rfl,ifF rfl ?_⟩
   refine ⟨_,rfl,_,rfl,(by show 1≤sizeLine;decide),rfl,_,rfl,ifF rfl ?_⟩
   refine ⟨_,rfl,_,rfl,_,_,rfl,rfl,_,rfl,ifF (by rw [in_one,decide_eq_true hc];rfl) ?_⟩
   refine ⟨_,rfl,rfl,_,rfl,x,c,rfl,rfl,1,_,rfl,by omega,sz_of (k:=1) (m:=8000) 41 (by decide),(cnt_sz hl12).mono (by decide),fun p H1 s1 e1=>?_⟩
   rw [Pw.mk_1 (show (0:Int)<((x.cps.toList.count c:Nat):Int) by omega)] at e1
   refine ⟨_,rfl,x,rfl,fun D hD=>?_⟩
   refine comp_str (x:=x) (D:=D) (fun i ys σ G=>Same H1 G∧G D=some (.lst ys)∧FrS K G ((Pw.kdL x.cps.toList c).take i) ys∧∃ v,σ=[v,some (.ref p),some (.str (chS c))]) ?_ ?_ ?_ ?_
   · exact ⟨Same.new hD,upd_same,rfl,none,rfl⟩
   · rintro i ys σ G ⟨_,e,_⟩
     exact e
   · rintro i b ys σ G hb hlt ⟨sG,eD,fG,v,rfl⟩
     have hlen:=fG.len
     rw [List.length_take] at hlen
     have hkd:(Pw.kdL x.cps.toList c)[i]?=some (if b=c then (1,((x.cps.toList.count c:Nat):Int)) else (0,1)):=by
      unfold Pw.kdL
      rw [List.getElem?_map,Array.getElem?_toList,hb];rfl
     have st:∀ (q:Addr) (B:Int×Int),SqF K G q B→(if b=c then (1,((x.cps.toList.count c:Nat):Int)) else (0,1))=B→G D=some (.lst ys)∧ys.length<sizeLine∧∃ m',m'<x.cps.size - i∧Wt (fun i ys σ G=>Same H1 G∧G D=some (.lst ys)∧FrS K G ((Pw.kdL x.cps.toList c).take i) ys∧∃ v,σ=[v,some (.ref p),some (.str (chS c))]) x.cps.size (i+1) m' (ys ++ [.ref q]) [some (.str (chS b)),some (.ref p),some (.str (chS c))] (upd G D (.lst (ys ++ [.ref q]))):=fun q B hq hB=>by
      refine ⟨eD,small1000 (by omega),Wt.next hlt ⟨fun b' o e=>?_,upd_same,?_,_,rfl⟩⟩
      · rw [upd_ne (ne_of_none e hD)];exact sG _ _ e
      · rw [List.take_succ,hkd,hB]
        exact (fG.snoc hq).kl (KL.set eD)
     dsimp only [gName]
     rw [if_pos rfl]
     refine ⟨_,rfl,_,rfl,rfl,_,rfl,?_⟩
     by_cases hbc:b=c
     · rw [decide_eq_true (show V.str (chS b)=V.str (chS c) by rw [hbc])]
       exact ifT rfl ⟨_,rfl,st p _ (SqF.of (sG _ _ e1)) (if_pos hbc)⟩
     · rw [decide_eq_false (show ¬ V.str (chS b)=V.str (chS c) from fun z=>hbc (chS_inj (V.str.inj z)))]
       refine ifF rfl ?_
       dsimp only [tC]
       exact st zZ _ (hZ G) (if_neg hbc)
   · rintro ys σ G ⟨sG,eD,fG,_⟩
     rw [List.take_of_length_le (by rw [Pw.kd_len,Array.length_toList];exact Nat.le_refl _)] at fG
     exact ⟨D,ys,rfl,SqL.of eD,fun t G3 s3 _ e3=>k t G3 ys (s1.trans (sG.trans s3)) e3 (fG.same s3)⟩
theorem sc_by_kinds:FnScope ["web","leap","kinds"] ["web","leap","kinds"] (defScope s_by_kinds):=⟨rfl,rfl,rfl,by decide +kernel,rfl,by decide +kernel,by decide +kernel⟩
set_option maxHeartbeats 0 in
theorem d_by_kinds (S:Fnd K mg "by_kinds" s_by_kinds ["web","leap","kinds"]) (T:Txt mg) (zset:mg "set"=none) (Sh:Def P w K mg base 6 "shares" ["web","leap","leaps"] (spSharesS K)) (Lo:Def P w K mg base 3 "leaps_of" ["kinds","letter"] (spLeapsG K)):Def P w K mg base 7 "by_kinds" ["web","leap","kinds"] (spByKinds K):=S.def fun f fd F=>by
 have nd:=sc_by_kinds.nd
 refine F.ok sc_by_kinds (fun vs H Q E h=>?_) (fun cdv A' outer s H vs Q E hr h=>?_)
 · obtain ⟨_,_,_,_,_,_,rfl,_⟩:=h
   rfl
 · obtain ⟨wa,lp,n,ps,A,x,rfl,g,k⟩:=h
   refine ⟨_,(@pss_one _ _ _ (@ps_ret _ _ _ _ (pe_compC ["letter","web","leap","kinds"] [none,some 0,some 1,some 2] rfl (@pi_list _ _ _ _ (pe_sortset rfl (by rfl) T.srt (by rfl) zset (@pa_consX _ _ _ _ _ (by rfl) (pv 2) pa_nil))) (by show ∀ y:Str×NameKind,y∈_→y.2=NameKind.free→(defScope s_by_kinds).names.lookup y.1=some .cell;decide +kernel) (by decide) rfl (by decide +kernel) ⟨⟨rfl,rfl,.inl rfl⟩,⟨rfl,rfl,.inl rfl⟩,⟨rfl,rfl,.inl rfl⟩,trivial⟩
    (fun cl C s H fp=>(pg_name (i:=0) (show (["letter","web","leap","kinds"]:List Str).Nodup by decide +kernel) rfl (Or.inl rfl) (.inr rfl)))
    (fun cl C s H fp=>pts_nil)
    (fun cl C s H fp=>(@pe_tupS _ _ _ _ _ (@pa_consX _ _ _ _ _ (by rfl) (pv 0) (@pa_consX _ _ _ _ _ (by rfl) (pe_def (by rfl) (by rfl) (by rfl) (by decide) Sh (hr.mono (by decide)) (@pa_consX _ _ _ _ _ (by rfl) (pv 1) (@pa_consX _ _ _ _ _ (by rfl) (pv 2) (@pa_consX _ _ _ _ _ (by rfl) (pe_def (by rfl) (by rfl) (by rfl) (by decide) Lo (hr.mono (by decide)) (@pa_consX _ _ _ _ _ (by rfl) (pv 3) (@pa_consX _ _ _ _ _ (by rfl) (pv 0) pa_nil))) pa_nil)))) pa_nil))))))),?_⟩
   have n1:=g.n1
   have n12:=g.n12
   have hlen:=g.len
   have hl2:x.cps.toList.length=n:=by rw [Array.length_toList,hlen]
   refine ⟨_,rfl,x,rfl,by omega,by omega,fun cs D0 H1 pw hm s1 m1 e1=>⟨D0,rfl,⟨_,SqL.of e1⟩,fun D hD=>?_⟩⟩
   have hcl:cs.length≤12:=by
    have nd:cs.Nodup:=pw.imp fun z=>Nat.ne_of_lt z
    have:=Pw.nodup_len (bs:=x.cps.toList) nd fun c h=>(hm c).mp h
    omega
   refine comp_lst (K:=K) (a:=D0) (D:=D) (xs:=chV cs) (fun i ys σ G=>Same H1 G∧G D=some (.lst ys)∧(∃ Rs,KdR K G (cs.take i) Rs ys∧RowsOk ps A x.cps.toList n (cs.take i) Rs)∧∃ v,σ=[v,some (.ref wa),some (.ref lp),some (.str x)]) ?_ ?_ ?_ ?_
   · exact ⟨Same.new hD,upd_same,⟨[],rfl,rfl,fun i c R h=>by simp at h⟩,none,rfl⟩
   · rintro i ys σ G ⟨sG,e,_⟩
     exact ⟨SqL.of (sG _ _ e1),e⟩
   · rintro i v ys σ G hi hlt ⟨sG,eD,⟨Rs,kd,ok⟩,v',rfl⟩
     rw [chV_len] at hlt
     obtain ⟨c,hc,rfl⟩:∃ c,cs[i]?=some c∧v=.str (chS c):=by
      unfold chV at hi
      rw [List.getElem?_map,List.getElem?_eq_getElem hlt] at hi
      exact ⟨cs[i],List.getElem?_eq_getElem hlt,(Option.some.inj hi).symm⟩
     have hcx:=(hm c).mp (List.mem_of_getElem? hc)
     have gG:=g.same (s1.trans sG)
     dsimp only [gName]
     rw [if_pos rfl]
     refine ⟨_,rfl,_,rfl,_,rfl,_,rfl,_,rfl,x,c,rfl,by omega,hcx,fun p G2 us s2 e2 f2=>?_⟩
     have g2:=gG.same s2
     refine ⟨wa,lp,p,(n:Int),ps,A,_,us,_,41,rfl,g2.gvS hcx e2 f2,kd_pr g.a0 g.a1 hcx (by omega),by omega,by decide,g.sa,cnt_sz (by omega),fun t G3 Ss V' zs okS v0 zV dv s3 e3 f3=>?_⟩
     rw [Int.toNat_natCast] at okS
     refine ⟨(by show 2≤sizeLine;decide),fun q G4 s4 m4 e4=>?_⟩
     have s24:=s2.trans (s3.trans s4)
     have eD4:=s24 _ _ eD
     obtain ⟨kl1,kl2⟩:=kd.len
     rw [List.length_take] at kl1 kl2
     have ks:KL G4 (upd G4 D (.lst (ys ++ [.ref q]))):=KL.set eD4
     refine ⟨eD4,small1000 (by omega),Wt.next (by rw [chV_len];exact hlt) ⟨fun b o e=>?_,upd_same,⟨Rs ++ [Ss],?_,?_,?_⟩,_,rfl⟩⟩
     · rw [upd_ne (ne_of_none e hD)];exact s24 _ _ (sG _ _ e)
     · rw [List.take_succ,hc]
       exact ((kd.kl s24.kl).snoc e4 (s4 _ _ e3) (f3.same s4)).kl ks
     · rw [List.length_append,List.length_singleton,List.length_take]
       omega
     · intro j b R hb hR
       rw [List.take_succ,hc,Option.toList_some] at hb
       have tl:(cs.take i).length=i:=by rw [List.length_take];omega
       rcases Nat.lt_or_ge j i with hj | hj
       · rw [List.getElem?_append_left (by omega)] at hb hR
         exact ok.2 j b R hb hR
       · have ji:j=i:=by
          have:=(List.getElem?_eq_some_iff.mp hR).1
          rw [List.length_append,List.length_singleton] at this
          omega
         subst ji
         rw [List.getElem?_append_right (by omega),tl,Nat.sub_self] at hb
         rw [List.getElem?_append_right (by omega),show j - Rs.length=0 by omega] at hR
         cases (show c=b from Option.some.inj hb)
         cases (show Ss=R from Option.some.inj hR)
         exact ⟨okS,V',v0,zV,dv⟩
   · rintro ys σ G ⟨sG,eD,⟨Rs,kd,ok⟩,_⟩
     rw [chV_len,List.take_length] at kd ok
     exact k D G cs Rs ys pw hm ok (s1.trans sG) (s1.free hD) eD kd
end
end Lw
set_option pp.maxSteps 800
namespace Lw
open PySem L2 PyProof.Rows
section
variable {P:Program} {w:World} {K:PySem.W.Frag} {mg:Str→Option Value} {base:Heap}
theorem scPlus:FnScope ["one","other"] ["one","other"] (defScope sPlus):=⟨rfl,rfl,rfl,by decide +kernel,rfl,by decide +kernel,by decide +kernel⟩
theorem d_plus (S:Fnd K mg "plus" sPlus ["one","other"]) (M:Def P w K mg base 2 "made" ["above","below"] spMadeS):Def P w K mg base 3 "plus" ["one","other"] (spF2G K Pw.fplus):=S.def fun f fd F=>by
 refine F.ok scPlus (fun vs H Q E h=>?_) (fun cdv A' outer s H vs Q E hr h=>?_)
 · obtain ⟨p,q,A,B,rfl,_⟩:=h
   rfl
 · obtain ⟨p,q,A,B,rfl,hA,hB,na,nb,sa,sb,k⟩:=h
   refine ⟨_,@pss_one _ _ _ (@ps_ret _ _ _ _ (pe_def (by rfl) (by rfl) (by rfl) (by decide) M hr (@pa_consX _ _ _ _ _ (by rfl) (pe_op op_add (pe_op op_mulB (pe_ix ix_tup (pv 0) pe_int (fun _ _=>rfl)) (pe_ix ix_tup (pv 1) pe_int (fun _ _=>rfl))) (pe_op op_mulB (pe_ix ix_tup (pv 1) pe_int (fun _ _=>rfl)) (pe_ix ix_tup (pv 0) pe_int (fun _ _=>rfl)))) (@pa_consX _ _ _ _ _ (by rfl) (pe_op op_mulB (pe_ix ix_tup (pv 0) pe_int (fun _ _=>rfl)) (pe_ix ix_tup (pv 1) pe_int (fun _ _=>rfl))) pa_nil)))),?_⟩
   refine ⟨_,rfl,p,_,_,_,rfl,rfl,hA,rfl,_,rfl,q,_,_,_,rfl,rfl,hB,rfl,_,_,rfl,rfl,⟨sa.1.mono (by decide),sb.2.mono (by decide)⟩,_,rfl,q,_,_,_,rfl,rfl,hB,rfl,_,rfl,p,_,_,_,rfl,rfl,hA,rfl,_,_,rfl,rfl,⟨sb.1.mono (by decide),sa.2.mono (by decide)⟩,_,_,rfl,rfl,_,rfl,p,_,_,_,rfl,rfl,hA,rfl,_,rfl,q,_,_,_,rfl,rfl,hB,rfl,_,_,rfl,rfl,⟨sa.2.mono (by decide),sb.2.mono (by decide)⟩,_,_,rfl,Int.mul_ne_zero (by omega) (by omega),((sa.1.mul sb.2).add (sb.1.mul sa.2)).mono (by decide),(sa.2.mul sb.2).mono (by decide),fun r H1 s1 f1=>?_⟩
   exact k r _ s1 f1
theorem scTimes:FnScope ["one","other"] ["one","other"] (defScope sTimes):=⟨rfl,rfl,rfl,by decide +kernel,rfl,by decide +kernel,by decide +kernel⟩
theorem d_times (S:Fnd K mg "times" sTimes ["one","other"]) (M:Def P w K mg base 2 "made" ["above","below"] spMadeS):Def P w K mg base 3 "times" ["one","other"] (spF2G K Pw.ftimes):=S.def fun f fd F=>by
 refine F.ok scTimes (fun vs H Q E h=>?_) (fun cdv A' outer s H vs Q E hr h=>?_)
 · obtain ⟨p,q,A,B,rfl,_⟩:=h
   rfl
 · obtain ⟨p,q,A,B,rfl,hA,hB,na,nb,sa,sb,k⟩:=h
   refine ⟨_,@pss_one _ _ _ (@ps_ret _ _ _ _ (pe_def (by rfl) (by rfl) (by rfl) (by decide) M hr (@pa_consX _ _ _ _ _ (by rfl) (pe_op op_mulB (pe_ix ix_tup (pv 0) pe_int (fun _ _=>rfl)) (pe_ix ix_tup (pv 1) pe_int (fun _ _=>rfl))) (@pa_consX _ _ _ _ _ (by rfl) (pe_op op_mulB (pe_ix ix_tup (pv 0) pe_int (fun _ _=>rfl)) (pe_ix ix_tup (pv 1) pe_int (fun _ _=>rfl))) pa_nil)))),?_⟩
   refine ⟨_,rfl,p,_,_,_,rfl,rfl,hA,rfl,_,rfl,q,_,_,_,rfl,rfl,hB,rfl,_,_,rfl,rfl,⟨sa.1.mono (by decide),sb.1.mono (by decide)⟩,_,rfl,p,_,_,_,rfl,rfl,hA,rfl,_,rfl,q,_,_,_,rfl,rfl,hB,rfl,_,_,rfl,rfl,⟨sa.2.mono (by decide),sb.2.mono (by decide)⟩,_,_,rfl,Int.mul_ne_zero (by omega) (by omega),(sa.1.mul sb.1).mono (by decide),(sa.2.mul sb.2).mono (by decide),fun r H1 s1 f1=>?_⟩
   exact k r _ s1 f1
theorem scTotal:FnScope ["some","whole","each"] ["some"] (defScope sTotal):=⟨rfl,rfl,rfl,by decide +kernel,rfl,by decide +kernel,by decide +kernel⟩
set_option maxHeartbeats 0 in
theorem d_total (S:Fnd K mg "total" sTotal ["some"]) (T:Txt mg) {zZ:Addr} (mZ:mg "ZERO"=some (.ref zZ)) (hZ:∀ H,SqF K H zZ (0,1)) (Pl:Def P w K mg base 3 "plus" ["one","other"] (spF2G K Pw.fplus)):Def P w K mg base 4 "total" ["some"] (spTotS K):=S.def fun f fd F=>by
 have nd:=scTotal.nd
 refine F.ok scTotal (fun vs H Q E h=>?_) (fun cdv A' outer s H vs Q E hr h=>?_)
 · obtain ⟨_,_,_,_,_,_,_,rfl,_⟩:=h
   rfl
 · obtain ⟨b,t,us,As,n,DD,CC,rfl,ht,fl,rw,n13,k⟩:=h
   refine ⟨_,(@pss_cons _ _ _ _ _ (@ps_setX _ _ 1 _ _ _ _ (by rfl) (Or.inl rfl) nd rfl (Or.inl rfl) (pe_glob (v:=.ref zZ) (by rfl) mZ rfl))
    (@pss_cons _ _ _ _ _ (@ps_forX _ _ _ _ _ _ _ _ (fun _=>rfl) PassesOwn.never rfl (pi_seq (pv 0)) (pg_name (i:=2) nd rfl (Or.inl rfl))
     (@pss_one _ _ _ (@ps_setX _ _ 1 _ _ _ _ (by rfl) (Or.inl rfl) nd rfl (Or.inl rfl) (pe_def (by rfl) (by rfl) (by rfl) (by decide) Pl (hr.mono (by decide)) (@pa_consX _ _ _ _ _ (by rfl) (pv 1) (@pa_consX _ _ _ _ _ (by rfl) (pv 2) pa_nil))))))
    (@pss_one _ _ _ (@ps_ret _ _ _ _ (pv 1))))),?_⟩
   have hl:=fl.len
   have hn:=rw.len
   refine ⟨_,rfl,b,t,rfl,⟨us,ht⟩,?_⟩
   refine for_seq (b:=b) (K:=K) (a:=t) (xs:=us) (fun m σ G=>Same H G∧∃ (q:Addr) (v:Option V),SqF K G q (Pw.ofQ (Pw.qs m (fun t=>Pw.val (As.getD t (0,1)))))∧(0<m→FrA K G q (Pw.ofQ (Pw.qs m (fun t=>Pw.val (As.getD t (0,1))))))∧σ=[some (.ref t),some (.ref q),v]) ⟨Same.refl _,zZ,none,hZ _,fun z=>absurd z (Nat.lt_irrefl _),rfl⟩ (fun m σ G _ h=>ht.same h.1) ?_ ?_
   · rintro m v σ G hm ⟨sG,q,v',fq,_,rfl⟩
     have hml:m<us.length:=(List.getElem?_eq_some_iff.mp hm).1
     have hmS:m<As.length:=by omega
     obtain ⟨q',eq',fq'⟩:=(fl.same sG).at (j:=m) (A:=As[m]) (by simp [hmS])
     rw [hm] at eq'
     cases eq'
     have mS:=List.getElem_mem hmS
     have cS:=rw.canon _ mS
     have cQ:=Pw.ofQ_canon (Pw.qs m (fun t=>Pw.val (As.getD t (0,1))))
     refine ⟨_,rfl,_,rfl,q,q',_,_,rfl,fq,SqF.of fq',cQ.1,cS.1,(sum_szR rw n13 (j:=m) (by omega)).mono (by decide),(rw.sz2 mS).mono (by decide),fun r G3 s4 f4=>?_⟩
     rw [Pw.fplus_ofQ (Pw.canon_ne cQ) (Pw.canon_ne cS),Pw.val_ofQ] at f4
     have e:As[m]=As.getD m (0,1):=by rw [List.getD_eq_getElem?_getD,List.getElem?_eq_getElem hmS];rfl
     rw [e] at f4
     exact ⟨sG.trans s4,r,_,SqF.of f4,fun _=>f4,rfl⟩
   · rintro σ G ⟨sG,q,v,fq,gq,rfl⟩
     rw [show us.length=n by omega] at fq gq
     exact ⟨_,rfl,k q G sG fq gq⟩
theorem sc_mixed:FnScope ["some","pages"] ["some"] (defScope s_mixed):=⟨rfl,rfl,rfl,by decide +kernel,rfl,by decide +kernel,by decide +kernel⟩
set_option maxHeartbeats 0 in
theorem d_mixed (S:Fnd K mg "mixed" s_mixed ["some"]) (T:Txt mg) (To:Def P w K mg base 4 "total" ["some"] (spTotS K)) (Ti:Def P w K mg base 3 "times" ["one","other"] (spF2G K Pw.ftimes)):Def P w K mg base 5 "mixed" ["some"] (spMixed K):=S.def fun f fd F=>by
 have nd:=sc_mixed.nd
 refine F.ok sc_mixed (fun vs H Q E h=>?_) (fun cdv A' outer s H vs Q E hr h=>?_)
 · obtain ⟨_,_,_,_,_,rfl,_⟩:=h
   rfl
 · obtain ⟨L,Ms,us,n,DD,rfl,mx,ok,k⟩:=h
   refine ⟨_,(@pss_cons _ _ _ _ _ (@ps_setX _ _ 1 _ _ _ _ (by rfl) (Or.inl rfl) nd rfl (Or.inl rfl) (pe_callB call_len_seq (by rfl) T.len PySem.boot_len (@pa_consX _ _ _ _ _ (by rfl) (pe_ix ix_tup (pe_ix ix_list (pv 0) pe_int (fun _ _=>rfl)) pe_int (fun _ _=>rfl)) pa_nil)))
    (@pss_one _ _ _ (@ps_ret _ _ _ _ (pe_callTy call_tupOf (by rfl) T.tup boot_tuple (@pa_consX _ _ _ _ _ (by rfl) (pe_compC1 "page" ["page","some"] [none,some 0] rfl (pi_range1 rfl T.range (@pa_consX _ _ _ _ _ (by rfl) (pv 1) pa_nil)) (by show ∀ y:Str×NameKind,y∈_→y.2=NameKind.free→(defScope s_mixed).names.lookup y.1=some .cell;decide +kernel) (fun _ _=>by rfl) (fun _=>by rfl) (hno_cons (by decide +kernel)) (by decide +kernel) rfl (by decide +kernel) ⟨⟨rfl,rfl,.inl rfl⟩,trivial⟩
     (fun cl C s H fp=>(pg_name (i:=0) (show (["page","some"]:List Str).Nodup by decide +kernel) rfl (Or.inr rfl) (.inl rfl)))
     (fun cl C s H fp=>pts_nil)
     (fun cl C s H fp=>(pe_def (by rfl) (by rfl) (by rfl) (by decide) To (hr.mono (by decide)) (@pa_consX _ _ _ _ _ (by rfl) (pe_compC ["part","leaps","page"] [none,none,some 0] rfl (pi_listK (K:=K) rfl (pv 1)) (by intro y hy hf;rcases List.mem_cons.mp hy with rfl | hy;(· first | (cases hf;done) | rfl);rcases List.mem_cons.mp hy with rfl | hy;(· first | (cases hf;done) | rfl);rcases List.mem_cons.mp hy with rfl | hy;(· first | (cases hf;done) | rfl);rcases List.mem_cons.mp hy with rfl | hy;(· first | (cases hf;done) | rfl);rcases List.mem_cons.mp hy with rfl | hy;(· first | (cases hf;done) | rfl);cases hy) (by decide) rfl (by decide +kernel) ⟨⟨rfl,rfl,.inl rfl⟩,trivial⟩
     (fun cl C s H fp=>(pg_tupK (K:=K) 2 rfl rfl (pgs_cons (pg_name (i:=0) (show (["part","leaps","page"]:List Str).Nodup by decide +kernel) rfl (Or.inl rfl) (.inr rfl)) (pgs_cons (pg_name (i:=1) (show (["part","leaps","page"]:List Str).Nodup by decide +kernel) rfl (Or.inl rfl) (.inr rfl)) pgs_nil))))
     (fun cl C s H fp=>pts_nil)
     (fun cl C s H fp=>(pe_def (by rfl) (by rfl) (by rfl) (by decide) Ti (hr.mono (by decide)) (@pa_consX _ _ _ _ _ (by rfl) (pv 0) (@pa_consX _ _ _ _ _ (by rfl) (pe_ix (ix_tupK (K:=K) rfl) (pv 1) (pv 2) (fun _ _=>rfl)) pa_nil))))) pa_nil)))) pa_nil))))),?_⟩
   obtain ⟨eL,hlen,hat⟩:=id mx
   have hpos:=ok.pos
   have hfew:=ok.few
   have hn12:=ok.n12
   have h0:Ms[0]?=some Ms[0]:=by simp
   obtain ⟨q,p,l,ws,hq,eq,fp,el,fl⟩:=hat 0 _ h0
   have hwl:ws.length=n:=by rw [fl.len];exact ok.len _ (List.mem_of_getElem? h0)
   refine ⟨_,rfl,L,us,0,_,rfl,rfl,SqL.of eL,atI_nat (j:=0) hq,q,_,_,_,rfl,rfl,SqT.of eq,rfl,l,_,rfl,.inr (SqT.of el),?_⟩
   refine ⟨_,rfl,_,rfl,by omega,by omega,fun D1 hD1=>?_⟩
   have hlm:((ws.length:Nat):Int).toNat=n:=by omega
   rw [hlm]
   refine comp_rng (lo:=0) (n:=n) (D:=D1) (fun i ys σ H'=>Same H H'∧H' D1=some (.lst ys)∧FrL K H' ((Pw.mixL Ms n).take i) ys∧∃ x,σ=[x,some (.ref L)]) ?_ ?_ ?_ ?_
   · exact ⟨Same.new hD1,upd_same,rfl,none,rfl⟩
   · rintro i ys σ H' ⟨_,e,_⟩
     exact e
   · rintro t ys σ H' ht ⟨s1,e1,f1,x,rfl⟩
     rw [Int.zero_add]
     dsimp only [gName]
     rw [if_pos rfl]
     refine ⟨_,rfl,L,rfl,⟨_,SqL.of (s1 _ _ eL)⟩,fun D2 hD2=>?_⟩
     have mx1:=mx.same s1
     refine comp_lst (K:=K) (a:=L) (D:=D2) (xs:=us) (fun i ys σ G=>Same H' G∧G D2=some (.lst ys)∧FrL K G ((Pw.prodRow Ms t).take i) ys∧∃ x y,σ=[x,y,some (.int (t:Nat))]) ?_ ?_ ?_ ?_
     · exact ⟨Same.new hD2,upd_same,rfl,none,none,rfl⟩
     · rintro i ys σ G ⟨s2,e2,_⟩
       exact ⟨SqL.of (s2 _ _ (s1 _ _ eL)),e2⟩
     · rintro i x zs σ G hi hlt ⟨s2,e2,f2,x',y',rfl⟩
       have hM:Ms[i]?=some Ms[i]:=by simp
       have mM:=List.mem_of_getElem? hM
       obtain ⟨qi,pi,li,wi,hqi,eqi,fpi,eli,fli⟩:=(mx1.same s2).2.2 i _ hM
       rw [hi] at hqi
       cases hqi
       have hBl:=ok.len _ mM
       obtain ⟨qb,eqb,fqb⟩:=fli.at (j:=t) (A:=Ms[i].2.getD t (0,1)) (by rw [List.getD_eq_getElem?_getD,List.getElem?_eq_getElem (by omega)];rfl)
       have mB:=mem_getD (Bs:=Ms[i].2) (t:=t) (by omega)
       have a:=ok.part _ mM
       have b:=ok.row _ mM _ mB
       refine ⟨qi,_,rfl,SqT.of eqi,rfl,_,_,rfl,_,_,rfl,rfl,?_⟩
       dsimp only [gName]
       rw [if_pos rfl]
       refine ⟨_,rfl,_,rfl,_,rfl,li,_,_,_,rfl,rfl,SqT.of eli,atI_nat eqb,pi,qb,_,_,rfl,SqF.of fpi,SqF.of fqb,a.c.1,b.c.1,a.sz.mono (by decide),b.sz.mono (by decide),fun r G3 s3 f3=>?_⟩
       have e3:=s3 _ _ e2
       have hP:(Pw.prodRow Ms t)[i]?=some (Pw.ftimes Ms[i].1 (Ms[i].2.getD t (0,1))):=by
        unfold Pw.prodRow
        rw [List.getElem?_map,hM];rfl
       refine ⟨e3,by rw [f2.len,List.length_take];exact small1000 (by rw [Pw.prodRow_len];omega),Wt.next hlt ⟨fun b o e=>?_,upd_same,?_,_,_,rfl⟩⟩
       · rw [upd_ne (ne_of_none e hD2)];exact s3 _ _ (s2 _ _ e)
       · rw [List.take_succ,hP]
         exact ((f2.same s3).snoc f3).kp (KL.set e3)
     · rintro zs σ G ⟨s2,e2,f2,_⟩
       rw [hlen,List.take_of_length_le (by rw [Pw.prodRow_len];exact Nat.le_refl _)] at f2
       refine ⟨true,D2,zs,_,Ms.length,DD,1,rfl,SqL.of e2,f2,ok.rw ht,by omega,fun r G3 s3 _ f3=>?_⟩
       rw [ok.sum ht] at f3
       have f3:=f3 hpos
       have e3:=s3 _ _ (s2 _ _ e1)
       have hP:(Pw.mixL Ms n)[t]?=some (Pw.ofQ (Pw.mixQ Ms t)):=by
        unfold Pw.mixL
        rw [List.getElem?_map,List.getElem?_range ht];rfl
       refine ⟨e3,by rw [f1.len,List.length_take];exact small1000 (by omega),Wt.next ht ⟨fun b o e=>?_,upd_same,?_,_,rfl⟩⟩
       · rw [upd_ne (ne_of_none e hD1)];exact s3 _ _ (s2 _ _ (s1 _ _ e))
       · rw [List.take_succ,hP]
         exact (((f1.same s2).same s3).snoc f3).kp (KL.set e3)
   · rintro ys σ G ⟨s2,e2,f2,_⟩
     rw [List.take_of_length_le (by unfold Pw.mixL;rw [List.length_map,List.length_range];exact Nat.le_refl _)] at f2
     exact ⟨D1,ys,rfl,SqL.of e2,fun t G3 s3 _ e3=>k t G3 ys (s2.trans s3) e3 (f2.same s3)⟩
theorem scEven:FnScope ["web"] ["web"] (defScope sEven):=⟨rfl,rfl,rfl,by decide +kernel,rfl,by decide +kernel,by decide +kernel⟩
set_option maxHeartbeats 0 in
theorem d_even (S:Fnd K mg "even" sEven ["web"]) (T:Txt mg) (M:Def P w K mg base 2 "made" ["above","below"] spMadeS):Def P w K mg base 3 "even" ["web"] (spEvenW K):=S.def fun f fd F=>by
 have nd:=scEven.nd
 refine F.ok scEven (fun vs H Q E h=>?_) (fun cdv A' outer s H vs Q E hr h=>?_)
 · obtain ⟨_,_,_,rfl,_⟩:=h
   rfl
 · obtain ⟨wa,n,r,rfl,e,n1,n12,k⟩:=h
   refine ⟨_,(@pss_one _ _ _ (@ps_ret _ _ _ _ (pe_op op_repT (@pe_tupS _ _ _ _ _ (@pa_consX _ _ _ _ _ (by rfl) (pe_def (by rfl) (by rfl) (by rfl) (by decide) M (hr.mono (by decide)) (@pa_consX _ _ _ _ _ (by rfl) pe_int (@pa_consX _ _ _ _ _ (by rfl) (pe_ix ix_tup (pv 0) pe_int (fun _ _=>rfl)) pa_nil))) pa_nil)) (pe_ix ix_tup (pv 0) pe_int (fun _ _=>rfl))))),?_⟩
   refine ⟨_,rfl,wa,_,_,_,rfl,rfl,SqT.of e,atI_nat (j:=0) rfl,1,(n:Int),rfl,by omega,sz_of 1 (by decide),sz_of (m:=8000) 4 (by omega),fun p G1 s1 e1=>⟨(by show 1≤sizeLine;decide),fun q G2 s2 m2 e2=>?_⟩⟩
   have hm:Pw.mk 1 (n:Int)=(1,(n:Int)):=Pw.mk_1 (by omega)
   rw [hm] at e1
   refine ⟨_,rfl,wa,_,_,_,rfl,rfl,SqT.of ((s1.trans s2) _ _ e),atI_nat (j:=0) rfl,q,(n:Int),_,rfl,rfl,e2,by simp,by omega,by omega,?_,fun t G3 s3 e3=>k t G3 _ (s1.trans (s2.trans s3)) e3 ?_⟩
   · rw [sizeLine_eq,Int.toNat_natCast];show 1 * n≤_;omega
   · rw [Int.toNat_natCast]
     exact FrL.rep (p:=p) (A:=(1,(n:Int))) (s3 _ _ (s2 _ _ e1)) n
end
end Lw
set_option pp.maxSteps 800
namespace Lw
open PySem L2 PyProof.Rows
section
variable {P:Program} {w:World} {K:PySem.W.Frag} {mg:Str→Option Value} {base:Heap}
theorem sc_law_linked:FnScope ["draws","web","links","page"] ["draws","web"] (defScope s_law_linked):=⟨rfl,rfl,rfl,by decide +kernel,rfl,by decide +kernel,by decide +kernel⟩
set_option maxHeartbeats 0 in
theorem d_law_linked (S:Fnd K mg "_law_linked" s_law_linked ["draws","web"]) (T:Txt mg) (Tk:Def P w K mg base 1 "_law_take" ["draws","many"] spTake):Def P w K mg base 2 "_law_linked" ["draws","web"] (spLinked40 K):=S.def fun f fd F=>by
 have nd:=sc_law_linked.nd
 refine F.ok sc_law_linked (fun vs H Q E h=>?_) (fun cdv A' outer s H vs Q E hr h=>?_)
 · obtain ⟨_,_,_,_,rfl,_⟩:=h
   rfl
 · obtain ⟨d,wa,n,ps,rfl,hd,hw,ok,k⟩:=h
   refine ⟨_,(@pss_cons _ _ _ _ _ (@ps_setX _ _ 2 _ _ _ _ (by rfl) (Or.inl rfl) nd rfl (Or.inl rfl) (pe_callTy call_listS (by rfl) T.lst boot_list (@pa_consX _ _ _ _ _ (by rfl) (pe_ix ix_tup (pv 1) pe_int (fun _ _=>rfl)) pa_nil)))
    (@pss_cons _ _ _ _ _ (@ps_forX _ _ _ _ _ _ _ _ (fun _=>rfl) PassesOwn.never rfl (pi_range1 rfl T.range (@pa_consX _ _ _ _ _ (by rfl) (pe_ix ix_tup (pv 1) pe_int (fun _ _=>rfl)) pa_nil)) (pg_name (i:=3) nd rfl (Or.inr rfl))
     (@pss_one _ _ _ (@ps_if _ _ _ _ _ _ _ _ (pt_cmpR (op_eqNil hr) (pe_compC ["start","to","page"] [none,none,some 3] rfl (@pi_list _ _ _ _ (pv 2)) (by show ∀ y:Str×NameKind,y∈_→y.2=NameKind.free→(defScope s_law_linked).names.lookup y.1=some .cell;decide +kernel) (by decide) rfl (by decide +kernel) ⟨⟨rfl,rfl,.inl rfl⟩,trivial⟩
      (fun cl C s H fp=>(pg_tupK (K:=K) 2 rfl rfl (pgs_cons (pg_name (i:=0) (show (["start","to","page"]:List Str).Nodup by decide +kernel) rfl (Or.inl rfl) (.inr rfl)) (pgs_cons (pg_name (i:=1) (show (["start","to","page"]:List Str).Nodup by decide +kernel) rfl (Or.inl rfl) (.inr rfl)) pgs_nil))))
      (fun cl C s H fp=>(pts_one (pt_cmpR op_eq (pv 0) (pv 2) (nomark _))))
      (fun cl C s H fp=>pe_int)) (@pe_lstS _ _ _ _ pa_nil) (nomark _))
     (@pss_one _ _ _ (ps_expr (pe_bm PySem.F.plainAttrs_list PySem.F.slot_list_append PySem.F.type_list_append mt_append (pv 2) (@pa_consX _ _ _ _ _ (by rfl) (@pe_tupS _ _ _ _ _ (@pa_consX _ _ _ _ _ (by rfl) (pv 3) (@pa_consX _ _ _ _ _ (by rfl) (pe_def (by rfl) (by rfl) (by rfl) (by decide) Tk (hr.mono (by decide)) (@pa_consX _ _ _ _ _ (by rfl) (pv 0) (@pa_consX _ _ _ _ _ (by rfl) (pe_ix ix_tup (pv 1) pe_int (fun _ _=>rfl)) pa_nil))) pa_nil))) pa_nil))))
     pss_nil)))
    (@pss_one _ _ _ (@ps_ret _ _ _ _ (@pe_tupS _ _ _ _ _ (@pa_consX _ _ _ _ _ (by rfl) (pe_ix ix_tup (pv 1) pe_int (fun _ _=>rfl)) (@pa_consX _ _ _ _ _ (by rfl) (pe_callTy call_tupOf (by rfl) T.tup boot_tuple (@pa_consX _ _ _ _ _ (by rfl) (pe_callB call_sortedPS (by rfl) T.srt boot_sorted (@pa_consX _ _ _ _ _ (by rfl) (pe_slice sl_list (pv 2) po_none (po_some pe_int)) pa_nil)) pa_nil)) pa_nil))))))),?_⟩
   obtain ⟨ws,us,e0,e1,pr⟩:=hw
   have plo:=ok.lo
   have phi:=ok.hi
   have hul:=pr.len
   have pfew:=ok.few
   have wad:wa≠d:=hd.neT e0
   refine ⟨_,rfl,wa,_,1,_,rfl,rfl,SqT.of e0,rfl,ws,us,rfl,.inr (SqT.of e1),fun lk G1 s1 m1 e2=>?_⟩
   have lkd:lk≠d:=hd.ne m1
   refine ⟨_,rfl,wa,_,0,_,rfl,rfl,SqT.of (s1 _ _ e0),rfl,(n:Int),rfl,by omega,by omega,?_⟩
   rw [Int.toNat_natCast]
   refine for_range (lo:=0) (n:=n) (fun i σ G=>DrawsAt G d∧Kp d H G∧(∃ (vs:List V) (qs:List (Int×Int)),G lk=some (.lst vs)∧Prs K G qs vs∧qs.length≤60+i∧∀ q∈qs,0≤q.1∧q.1<(n:Int)∧0≤q.2∧q.2<(n:Int))∧∃ v,σ=[some (.ref d),some (.ref wa),some (.ref lk),v]) ?_ ?_ ?_
   · exact ⟨hd.same s1,Same.kpd s1,⟨us,ps,e2,pr.kl s1.kl,by omega,ok.lk⟩,none,rfl⟩
   · rintro i σ G hi ⟨c1,c2,⟨vs,qs,c4,c5,c6,c7⟩,v,rfl⟩
     rw [Int.zero_add]
     have hvl:=c5.len
     dsimp only [gName]
     refine ⟨_,rfl,lk,rfl,⟨_,SqL.of c4⟩,fun D hD=>?_⟩
     refine comp_lst (K:=K) (a:=lk) (D:=D) (xs:=vs) (fun j ys σ V=>Same G V∧V D=some (.lst ys)∧ys.length≤j∧∃ x y,σ=[x,y,some (.int (i:Nat))]) ?_ ?_ ?_ ?_
     · exact ⟨Same.new hD,upd_same,Nat.le_refl _,none,none,rfl⟩
     · rintro j ys σ V ⟨sV,eD,_⟩
       exact ⟨SqL.of (sV _ _ c4),eD⟩
     · rintro j x ys σ V hj hlt ⟨sV,eD,ly,x',y',rfl⟩
       obtain ⟨q,p,hp,rfl,hq⟩:=(c5.kl sV.kl).get hj
       refine ⟨q,_,rfl,hq,rfl,_,_,rfl,_,_,rfl,rfl,?_⟩
       dsimp only [gName]
       refine ⟨_,rfl,_,rfl,rfl,_,rfl,if2 (fun _=>?_) (fun _=>Wt.next hlt ⟨sV,eD,by omega,_,_,rfl⟩)⟩
       refine ⟨eD,small1000 (by omega),Wt.next hlt ⟨fun b o e=>?_,upd_same,by rw [List.length_append,List.length_singleton];omega,_,_,rfl⟩⟩
       rw [upd_ne (ne_of_none e hD)];exact sV _ _ e
     rintro ys σ V ⟨sV,eD,ly,_⟩
     refine ⟨(by show 0≤sizeLine;decide),fun em V2 t2 m2 e2'=>?_⟩
     have sV2:=sV.trans t2
     refine ⟨D,em,_,rfl,rfl,.inr ⟨SqL.of (t2 _ _ eD),SqL.of e2'⟩,_,rfl,?_⟩
     have c1':=c1.same sV2
     have K2:Kp d H V2:=c2.trans (Same.kpd sV2)
     refine if2 (fun _=>?_) (fun _=>⟨c1',K2,⟨vs,qs,sV2 _ _ c4,c5.kl sV2.kl,by omega,c7⟩,_,rfl⟩)
     refine ⟨_,rfl,.inl ⟨rfl,_,SqL.of (sV2 _ _ c4)⟩,_,rfl,_,rfl,_,rfl,wa,_,0,_,rfl,rfl,SqT.of (K2 _ _ e0 wad),rfl,d,(n:Int),rfl,by omega,c1',fun y G6 y0 y1 h6 k6=>⟨(by show 2≤sizeLine;decide),fun t G7 s7 m7 e7=>?_⟩⟩
     have K7:Kp d V2 G7:=k6.trans (Same.kpd s7)
     have lk7:G7 lk=some (.lst vs):=K7 _ _ (sV2 _ _ c4) lkd
     have kl7:KL G G7:=sV2.kl.trans (c1'.kl K7)
     refine ⟨lk,vs,_,rfl,rfl,lk7,small1000 (by omega),?_,fun b o e nb=>?_,⟨_,qs ++ [((i:Int),y)],upd_same,Prs.snoc (p:=((i:Int),y)) ((KL.set lk7).seqT (SqT.of e7)) ((c5.kl kl7).kl (KL.set lk7)),?_,fun q hq=>?_⟩,_,rfl⟩
     · obtain ⟨ns',e',z'⟩:=h6.same s7
       exact ⟨ns',by rw [upd_ne (Ne.symm lkd)];exact e',z'⟩
     · rw [upd_ne (ne_of_none e m1)]
       exact K7 _ _ (K2 _ _ e nb) nb
     · rw [List.length_append,List.length_singleton];omega
     · rcases List.mem_append.mp hq with hq | hq
       · exact c7 q hq
       · rw [List.mem_singleton.mp hq]
         exact ⟨by show (0:Int)≤i;omega,by show (i:Int)<n;omega,y0,y1⟩
   · rintro σ G ⟨c1,c2,⟨vs,qs,c4,c5,c6,c7⟩,v,rfl⟩
     refine ⟨_,rfl,wa,_,0,_,rfl,rfl,SqT.of (c2 _ _ e0 wad),rfl,_,rfl,60,rfl,lk,vs,rfl,SqL.of c4,fun p mp=>?_⟩
     have s2:Same G (upd G p (.lst (cutV vs none (some 60)))):=Same.new mp
     have e2:(upd G p (.lst (cutV vs none (some 60)))) p=some (.lst (cutV vs none (some 60))):=upd_same
     generalize upd G p (.lst (cutV vs none (some 60)))=G2 at s2 e2
     have hc:Prs K G2 ((qs.drop (HT.sIx vs.length 0 none)).take (HT.sIx vs.length vs.length (some 60) - HT.sIx vs.length 0 none)) (cutV vs none (some 60)):=((c5.kl s2.kl).drop _).take _
     have h60:((qs.drop (HT.sIx vs.length 0 none)).take (HT.sIx vs.length vs.length (some 60) - HT.sIx vs.length 0 none)).length≤60:=by
      rw [List.length_take]
      have:HT.sIx vs.length vs.length (some 60)≤60:=by
       unfold HT.sIx
       simp
       omega
      omega
     have hlk:∀ q∈(qs.drop (HT.sIx vs.length 0 none)).take (HT.sIx vs.length vs.length (some 60) - HT.sIx vs.length 0 none),0≤q.1∧q.1<(n:Int)∧0≤q.2∧q.2<(n:Int):=fun q hq=>c7 q (List.mem_of_mem_drop (List.mem_of_mem_take hq))
     generalize (qs.drop (HT.sIx vs.length 0 none)).take (HT.sIx vs.length vs.length (some 60) - HT.sIx vs.length 0 none)=qs2 at hc h60 hlk
     refine ⟨p,_,qs2,rfl,SqL.of e2,hc,by omega,fun us2 ms D2 HD pm up hp2 sD hD2 eD2=>?_⟩
     refine ⟨D2,us2,rfl,SqL.of eD2,fun ws2 HF sF nF eF=>?_⟩
     refine ⟨(by show 2≤sizeLine;decide),fun wb HG sG nG eG=>?_⟩
     have sAll:Same G HG:=s2.trans (sD.trans (sF.trans sG))
     exact k wb HG ms ⟨ws2,us2,eG,sG _ _ eF,(hp2.kl sF.kl).kl sG.kl⟩ (by rw [pm.length_eq];exact h60) (fun q hq=>hlk q (pm.mem_iff.mp hq)) (c1.same sAll) (c2.trans (Same.kpd sAll))
theorem sc_law_all_linked:FnScope ["web"] ["web"] (defScope s_law_all_linked):=⟨rfl,rfl,rfl,by decide +kernel,rfl,by decide +kernel,by decide +kernel⟩
set_option maxHeartbeats 0 in
theorem d_law_all_linked (S:Fnd K mg "_law_all_linked" s_law_all_linked ["web"]) (T:Txt mg) (zset:mg "set"=none):Def P w K mg base 1 "_law_all_linked" ["web"] (spAllL K):=S.def fun f fd F=>by
 have nd:=sc_law_all_linked.nd
 refine F.ok sc_law_all_linked (fun vs H Q E h=>?_) (fun cdv A' outer s H vs Q E hr h=>?_)
 · obtain ⟨_,_,_,rfl,_⟩:=h
   rfl
 · obtain ⟨wa,n,ps,rfl,hw,few,lk,k⟩:=h
   refine ⟨_,(@pss_one _ _ _ (@ps_ret _ _ _ _ (pe_cmpR op_eq (pe_lensetI rfl (by rfl) T.len (by rfl) zset (@pa_consX _ _ _ _ _ (by rfl) (pe_compC ["start","to"] [none,none] rfl (pi_tup (pe_ix ix_tup (pv 0) pe_int (fun _ _=>rfl))) (by show ∀ y:Str×NameKind,y∈_→y.2=NameKind.free→(defScope s_law_all_linked).names.lookup y.1=some .cell;decide +kernel) (by decide) rfl (by decide +kernel) trivial
    (fun cl C s H fp=>(pg_tupK (K:=K) 2 rfl rfl (pgs_cons (pg_name (i:=0) (show (["start","to"]:List Str).Nodup by decide +kernel) rfl (Or.inl rfl) (.inr rfl)) (pgs_cons (pg_name (i:=1) (show (["start","to"]:List Str).Nodup by decide +kernel) rfl (Or.inl rfl) (.inr rfl)) pgs_nil))))
    (fun cl C s H fp=>pts_nil)
    (fun cl C s H fp=>(pv 0))) pa_nil)) (pe_ix ix_tup (pv 0) pe_int (fun _ _=>rfl)) (nomark _)))),?_⟩
   obtain ⟨ws,us,e0,e1,pr⟩:=hw
   have hul:=pr.len
   refine ⟨_,rfl,wa,_,1,_,rfl,rfl,SqT.of e0,rfl,ws,rfl,⟨_,SqT.of e1⟩,fun D hD=>?_⟩
   refine comp_tup (K:=K) (a:=ws) (D:=D) (xs:=us) (fun i ys σ G=>Same H G∧G D=some (.lst ys)∧ys=(ps.take i).map (fun p=>V.int p.1)∧∃ x y,σ=[x,y]) ?_ ?_ ?_ ?_
   · exact ⟨Same.new hD,upd_same,rfl,none,none,rfl⟩
   · rintro i ys σ G ⟨sG,e,_⟩
     exact ⟨SqT.of (sG _ _ e1),e⟩
   · rintro i x ys σ G hi hlt ⟨sG,eD,rfl,x',y',rfl⟩
     obtain ⟨q,p,hp,rfl,hq⟩:=(pr.kl sG.kl).get hi
     refine ⟨q,_,rfl,hq,rfl,_,_,rfl,_,_,rfl,rfl,?_⟩
     dsimp only [gName]
     rw [if_pos rfl]
     refine ⟨_,rfl,eD,small1000 (by rw [List.length_map,List.length_take];omega),Wt.next hlt ⟨fun b o e=>?_,upd_same,?_,_,_,rfl⟩⟩
     · rw [upd_ne (ne_of_none e hD)];exact sG _ _ e
     · rw [List.take_succ,hp,List.map_append];rfl
   rintro ys σ G ⟨sG,eD,rfl,_⟩
   rw [List.take_of_length_le (by omega)] at eD
   refine ⟨D,ps.map (fun p=>p.1),rfl,SqL.of (by rw [List.map_map];exact eD),by rw [List.length_map];omega,fun ds ndd hm hle=>?_⟩
   refine ⟨_,rfl,wa,_,0,_,rfl,rfl,SqT.of (sG _ _ e0),rfl,rfl,k _ G (fun h=>?_) sG⟩
   have h:=of_decide_eq_true h
   exact Pw.all_linked ndd hm lk (by have:=V.int.inj h;omega)
end
end Lw
set_option pp.maxSteps 800
namespace Lw
open PySem L2 PyProof.Rows
section
variable {P:Program} {w:World} {K:PySem.W.Frag} {mg:Str→Option Value} {base:Heap}
theorem sc_law_mix:FnScope ["some","found","part","row"] ["some"] (defScope s_law_mix):=⟨rfl,rfl,rfl,by decide +kernel,rfl,by decide +kernel,by decide +kernel⟩
set_option maxHeartbeats 0 in
theorem d_law_mix (S:Fnd K mg "_law_mix" s_law_mix ["some"]) (T:Txt mg) (Lu:Def P w K mg base 2 "_law_sum" ["one","other"] (spF2H K Pw.fplus)) (Lp:Def P w K mg base 2 "_law_product" ["one","other"] (spF2H K Pw.ftimes)):Def P w K mg base 3 "_law_mix" ["some"] (spLMix K):=S.def fun f fd F=>by
 have nd:=sc_law_mix.nd
 refine F.ok sc_law_mix (fun vs H Q E h=>?_) (fun cdv A' outer s H vs Q E hr h=>?_)
 · obtain ⟨_,_,_,_,rfl,_⟩:=h
   rfl
 · obtain ⟨L,Ts,us,n,rfl,mx,ok,k⟩:=h
   refine ⟨_,(@pss_cons _ _ _ _ _ (@ps_setX _ _ 1 _ _ _ _ (by rfl) (Or.inl rfl) nd rfl (Or.inl rfl) (pe_op op_repS (@pe_lstS _ _ _ _ (@pa_consX _ _ _ _ _ (by rfl) (@pe_tupS _ _ _ _ _ (@pa_consX _ _ _ _ _ (by rfl) pe_int (@pa_consX _ _ _ _ _ (by rfl) pe_int pa_nil))) pa_nil)) (pe_callB call_len_seq (by rfl) T.len PySem.boot_len (@pa_consX _ _ _ _ _ (by rfl) (pe_ix ix_tup (pe_ix ix_list (pv 0) pe_int (fun _ _=>rfl)) pe_int (fun _ _=>rfl)) pa_nil))))
    (@pss_cons _ _ _ _ _ (@ps_forX _ _ _ _ _ _ _ _ (fun _=>rfl) PassesOwn.never rfl (@pi_list _ _ _ _ (pv 0)) (pg_tup rfl (pgs_cons (pg_name (i:=2) nd rfl (Or.inr rfl)) (pgs_cons (pg_name (i:=3) nd rfl (Or.inl rfl)) pgs_nil)))
     (@pss_one _ _ _ (ps_setC 1 ["elder","number","part"] [none,none,some 2] (by rfl) nd rfl rfl rfl (pi_zipSK (by rfl) (by rfl) (by rfl) rfl T.zip (@pa_consX _ _ _ _ _ (by rfl) (pv 1) (@pa_consX _ _ _ _ _ (by rfl) (pv 3) pa_nil))) (by show ∀ y:Str×NameKind,y∈_→y.2=NameKind.free→(defScope s_law_mix).names.lookup y.1=some .cell;decide +kernel) (by decide) rfl (by decide +kernel) ⟨⟨rfl,rfl,.inl rfl⟩,trivial⟩
      (fun cl C s H fp=>(pg_tupK (K:=K) 2 rfl rfl (pgs_cons (pg_name (i:=0) (show (["elder","number","part"]:List Str).Nodup by decide +kernel) rfl (Or.inl rfl) (.inr rfl)) (pgs_cons (pg_name (i:=1) (show (["elder","number","part"]:List Str).Nodup by decide +kernel) rfl (Or.inl rfl) (.inr rfl)) pgs_nil))))
      (fun cl C s H fp=>pts_nil)
      (fun cl C s H fp=>(pe_def (by rfl) (by rfl) (by rfl) (by decide) Lu (hr.mono (by decide)) (@pa_consX _ _ _ _ _ (by rfl) (pv 0) (@pa_consX _ _ _ _ _ (by rfl) (pe_def (by rfl) (by rfl) (by rfl) (by decide) Lp (hr.mono (by decide)) (@pa_consX _ _ _ _ _ (by rfl) (pv 2) (@pa_consX _ _ _ _ _ (by rfl) (pv 1) pa_nil))) pa_nil)))))))
    (@pss_one _ _ _ (@ps_ret _ _ _ _ (pe_callTy call_tupOf (by rfl) T.tup boot_tuple (@pa_consX _ _ _ _ _ (by rfl) (pv 1) pa_nil)))))),?_⟩
   obtain ⟨eL,hlen,hat⟩:=id mx
   have hpos:=ok.pos
   have hfew:=ok.few
   have hn12:=ok.n12
   have h0:Ts[0]?=some Ts[0]:=by simp
   obtain ⟨q,p,l,ws,hq,eq,fp,el,fl⟩:=hat 0 _ h0
   have hwl:ws.length=n:=by rw [fl.len];exact ok.len _ (List.mem_of_getElem? h0)
   refine ⟨(by show 2≤sizeLine;decide),fun z0 G1 s1 m1 e1=>⟨(by show 1≤sizeLine;decide),fun l1 G2 s2 m2 e2=>?_⟩⟩
   have s12:=s1.trans s2
   refine ⟨_,rfl,L,us,0,_,rfl,rfl,SqL.of (s12 _ _ eL),atI_nat (j:=0) hq,q,_,_,_,rfl,rfl,SqT.of (s12 _ _ eq),rfl,l,_,rfl,.inr (SqT.of (s12 _ _ el)),?_⟩
   refine ⟨l1,_,_,rfl,rfl,e2,by omega,by omega,(by rw [List.length_singleton];exact Nat.le_of_lt (small1000 (by omega))),fun fo G3 s3 m3 e3=>?_⟩
   rw [show ((ws.length:Nat):Int).toNat=n by omega] at e3
   have s13:=s12.trans s3
   have f3:FrL K G3 (Pw.mixL (Ts.take 0) n) (List.replicate n [V.ref z0]).flatten:=by
    have e:Pw.mixL (Ts.take 0) n=List.replicate n (0,1):=by
     apply List.ext_getElem
     · rw [Pw.mixL_len,List.length_replicate]
     · intro t h1 h2
       rw [Pw.mixL_get,List.getElem_replicate]
       rfl
    rw [e]
    exact FrL.rep (s3 _ _ (s2 _ _ e1)) n
   refine ⟨_,rfl,L,rfl,⟨_,SqL.of (s13 _ _ eL)⟩,?_⟩
   refine for_list (K:=K) (a:=L) (xs:=us) (fun i σ G=>Same H G∧∃ (fo:Addr) (ys:List V) (v2 v3:Option V),G fo=some (.lst ys)∧FrL K G (Pw.mixL (Ts.take i) n) ys∧σ=[some (.ref L),some (.ref fo),v2,v3]) ⟨s13,fo,_,none,none,e3,f3,rfl⟩ (fun i σ G _ h=>SqL.of (h.1 _ _ eL)) ?_ ?_
   · rintro i x σ G hi ⟨sG,fo,ys,v2,v3,eF,fF,rfl⟩
     have hil:i<us.length:=(List.getElem?_eq_some_iff.mp hi).1
     have hM:Ts[i]?=some Ts[i]:=by simp
     have mM:=List.mem_of_getElem? hM
     obtain ⟨qi,pi,li,wi,hqi,eqi,fpi,eli,fli⟩:=(mx.same sG).2.2 i _ hM
     rw [hi] at hqi
     cases hqi
     have hBl:=ok.len _ mM
     have hyl:ys.length=n:=by rw [fF.len,Pw.mixL_len]
     have hwi:wi.length=n:=by rw [fli.len,hBl]
     obtain ⟨cP,sP⟩:=ok.part _ mM
     refine ⟨qi,_,rfl,SqT.of eqi,rfl,_,_,rfl,_,_,rfl,rfl,?_⟩
     refine ⟨_,rfl,_,rfl,true,false,fo,li,ys,wi,rfl,SqL.of eF,SqT.of eli,fun D hD=>?_⟩
     refine comp_zipS (K:=K) (b1:=true) (b2:=false) (a:=fo) (b:=li) (D:=D) (xs:=ys) (zs:=wi) (by omega) (fun t zs σ V=>Same G V∧V D=some (.lst zs)∧FrL K V ((Pw.mixL (Ts.take (i+1)) n).take t) zs∧∃ x y,σ=[x,y,some (.ref pi)]) ?_ ?_ ?_ ?_
     · exact ⟨Same.new hD,upd_same,rfl,none,none,rfl⟩
     · rintro t zs σ V ⟨sV,eD,_⟩
       exact ⟨SqL.of (sV _ _ eF),SqT.of (sV _ _ eli),eD⟩
     · rintro t xa xb zs σ V TT V' hxa hxb hlt ⟨sV,eD,fz,x',y',rfl⟩ hTT sT eT
       have htn:t<n:=by omega
       have hA:(Pw.mixL (Ts.take i) n)[t]?=some (Pw.ofQ (Pw.mixQ (Ts.take i) t)):=by
        rw [List.getElem?_eq_getElem (by rw [Pw.mixL_len];exact htn),Pw.mixL_get]
       have hB:Ts[i].2[t]?=some (Ts[i].2.getD t (0,1)):=by rw [List.getD_eq_getElem?_getD,List.getElem?_eq_getElem (by omega)];rfl
       obtain ⟨qa,ea,fa⟩:=fF.at hA
       obtain ⟨qb,eb,fb⟩:=fli.at hB
       rw [hxa] at ea
       rw [hxb] at eb
       cases ea
       cases eb
       obtain ⟨cB,sB⟩:=ok.row _ mM _ (List.mem_of_getElem? hB)
       have cA:=Pw.ofQ_canon (Pw.mixQ (Ts.take i) t)
       have sA:=ok.pre i (by omega) t htn
       have sVT:=sV.trans sT
       refine ⟨TT,_,rfl,SqT.of eT,rfl,_,_,rfl,_,_,rfl,rfl,?_⟩
       dsimp only [gName]
       rw [if_pos rfl]
       refine ⟨_,rfl,_,rfl,_,rfl,pi,qb,_,_,rfl,SqF.of (sVT _ _ fpi),SqF.of (sVT _ _ fb),cP.1,cB.1,sP.mono (by decide),sB.mono (by decide),fun r1 V1 u1 g1=>?_⟩
       have cC:=Pw.canon_ftimes (Pw.canon_ne cP) (Pw.canon_ne cB)
       have sC:=ftimes_sz sP sB (Pw.canon_ne cP) (Pw.canon_ne cB)
       refine ⟨qa,r1,_,_,rfl,SqF.of (u1 _ _ (sVT _ _ fa)),SqF.of g1,cA.1,cC.1,sA.mono (by decide),sC.mono (by decide),fun r2 V2 u2 g2=>?_⟩
       have uu:=sT.trans (u1.trans u2)
       have eD2:=uu _ _ eD
       have eTs:Ts.getD i Pw.mxd=Ts[i]:=by rw [List.getD_eq_getElem?_getD,hM];rfl
       rw [Pw.fplus_ofQ (Pw.canon_ne cA) (Pw.canon_ne cC),Pw.val_ofQ,Pw.val_ftimes (Pw.canon_ne cP) (Pw.canon_ne cB),← eTs,← Pw.mixQ_take (by omega)] at g2
       refine ⟨eD2,by rw [fz.len,List.length_take];exact small1000 (by omega),Wt.next hlt ⟨fun b o e=>?_,upd_same,?_,_,_,rfl⟩⟩
       · rw [upd_ne (ne_of_none e hD)];exact uu _ _ (sV _ _ e)
       · rw [List.take_succ,List.getElem?_eq_getElem (by rw [Pw.mixL_len];exact htn),Pw.mixL_get]
         exact ((fz.same uu).snoc g2).kp (KL.set eD2)
     · rintro zs σ V ⟨sV,eD,fz,_⟩
       rw [List.take_of_length_le (by rw [Pw.mixL_len];omega)] at fz
       exact ⟨sG.trans sV,D,zs,_,_,eD,fz,rfl⟩
   · rintro σ G ⟨sG,fo,ys,v2,v3,eF,fF,rfl⟩
     rw [List.take_of_length_le (by omega)] at fF
     exact ⟨_,rfl,fo,ys,rfl,SqL.of eF,fun t G4 s4 m4 e4=>k t G4 ys (sG.trans s4) e4 (fF.same s4)⟩
end
end Lw
set_option pp.maxSteps 800
namespace Lw
open PySem L2 PyProof.Rows
section
variable {P:Program} {w:World} {K:PySem.W.Frag} {mg:Str→Option Value} {base:Heap}
theorem scRight:FnScope ["draws","web","leap","weights","parts_v","some","rows","kinds","told","due","both","again"] ["draws","web","leap"] (defScope sRight):=⟨rfl,rfl,rfl,by decide +kernel,rfl,by decide +kernel,by decide +kernel⟩
set_option maxHeartbeats 0 in
theorem d_law_right (S:Fnd K mg "_law_right" sRight ["draws","web","leap"]) (T:Txt mg) (Tk:Def P w K mg base 1 "_law_take" ["draws","many"] spTake) (Fr:Def P w K mg base 1 "_law_fraction" ["above","below"] spMade9) (Ls:Def P w K mg base 2 "_law_leaps" ["draws","many"] (spLeapsD K)) (Sh:Def P w K mg base 6 "shares" ["web","leap","leaps"] (spSharesS K)) (Mi:Def P w K mg base 5 "mixed" ["some"] (spMixed K)) (Mx:Def P w K mg base 3 "_law_mix" ["some"] (spLMix K)) (Ki:Def P w K mg base 2 "_law_kinds" ["draws","many"] spKinds) (Bk:Def P w K mg base 7 "by_kinds" ["web","leap","kinds"] (spByKinds K)) (Ev:Def P w K mg base 3 "even" ["web"] (spEvenW K)) (Lo:Def P w K mg base 3 "leaps_of" ["kinds","letter"] (spLeapsG K)):Def P w K mg base 9 "_law_right" ["draws","web","leap"] (spRight40 K):=S.def fun f fd F=>by
 have nd:=scRight.nd
 refine F.ok scRight (fun vs H Q E h=>?_) (fun cdv A' outer s H vs Q E hr h=>?_)
 · obtain ⟨_,_,_,_,_,_,rfl,_⟩:=h
   rfl
 · obtain ⟨d,wa,lp,n,ps,A,rfl,hd,hw,n1,n12,few,lk,all,fA,ca,a0,a1,sa,k⟩:=h
   refine ⟨_,(@pss_cons _ _ _ _ _ (@ps_setX _ _ 3 _ _ _ _ (by rfl) (Or.inl rfl) nd rfl (Or.inr rfl) (pe_compC ["k","draws"] [none,some 0] rfl (pi_range1 rfl T.range (@pa_consX _ _ _ _ _ (by rfl) (pe_op op_add pe_int (pe_def (by rfl) (by rfl) (by rfl) (by decide) Tk (hr.mono (by decide)) (@pa_consX _ _ _ _ _ (by rfl) (pv 0) (@pa_consX _ _ _ _ _ (by rfl) pe_int pa_nil)))) pa_nil)) (by show ∀ y:Str×NameKind,y∈_→y.2=NameKind.free→(defScope sRight).names.lookup y.1=some .cell;decide +kernel) (by decide) rfl (by decide +kernel) ⟨⟨rfl,rfl,.inl rfl⟩,trivial⟩
    (fun cl C s H fp=>(pg_name (i:=0) (show (["k","draws"]:List Str).Nodup by decide +kernel) rfl (Or.inl rfl) (.inr rfl)))
    (fun cl C s H fp=>pts_nil)
    (fun cl C s H fp=>(pe_op op_add pe_int (pe_def (by rfl) (by rfl) (by rfl) (by decide) Tk (hr.mono (by decide)) (@pa_consX _ _ _ _ _ (by rfl) (pv 1) (@pa_consX _ _ _ _ _ (by rfl) pe_int pa_nil)))))))
    (@pss_cons _ _ _ _ _ (ps_setC 4 ["weight","weights"] [none,some 3] (by rfl) nd rfl rfl rfl (@pi_list _ _ _ _ (pv 3)) (by show ∀ y:Str×NameKind,y∈_→y.2=NameKind.free→(defScope sRight).names.lookup y.1=some .cell;decide +kernel) (by decide) rfl (by decide +kernel) ⟨⟨rfl,rfl,.inl rfl⟩,trivial⟩
     (fun cl C s H fp=>(pg_name (i:=0) (show (["weight","weights"]:List Str).Nodup by decide +kernel) rfl (Or.inl rfl) (.inr rfl)))
     (fun cl C s H fp=>pts_nil)
     (fun cl C s H fp=>(pe_def (by rfl) (by rfl) (by rfl) (by decide) Fr (hr.mono (by decide)) (@pa_consX _ _ _ _ _ (by rfl) (pv 0) (@pa_consX _ _ _ _ _ (by rfl) (pe_callB (call_sumK (K:=K) rfl rfl) (by rfl) T.sum boot_sum (@pa_consX _ _ _ _ _ (by rfl) (pv 1) pa_nil)) pa_nil)))))
    (@pss_cons _ _ _ _ _ (ps_setC 5 ["part","draws","web"] [none,some 0,some 1] (by rfl) nd rfl rfl rfl (@pi_list _ _ _ _ (pv 4)) (by show ∀ y:Str×NameKind,y∈_→y.2=NameKind.free→(defScope sRight).names.lookup y.1=some .cell;decide +kernel) (by decide) rfl (by decide +kernel) ⟨⟨rfl,rfl,.inl rfl⟩,⟨rfl,rfl,.inl rfl⟩,trivial⟩
     (fun cl C s H fp=>(pg_name (i:=0) (show (["part","draws","web"]:List Str).Nodup by decide +kernel) rfl (Or.inl rfl) (.inr rfl)))
     (fun cl C s H fp=>pts_nil)
     (fun cl C s H fp=>(@pe_tupS _ _ _ _ _ (@pa_consX _ _ _ _ _ (by rfl) (pv 0) (@pa_consX _ _ _ _ _ (by rfl) (pe_def (by rfl) (by rfl) (by rfl) (by decide) Ls (hr.mono (by decide)) (@pa_consX _ _ _ _ _ (by rfl) (pv 1) (@pa_consX _ _ _ _ _ (by rfl) (pe_ix (ix_tupK (K:=K) rfl) (pv 2) pe_int (fun _ _=>rfl)) pa_nil))) pa_nil)))))
    (@pss_cons _ _ _ _ _ (ps_setC 6 ["part","leaps","web","leap"] [none,none,some 1,some 2] (by rfl) nd rfl rfl rfl (@pi_list _ _ _ _ (pv 5)) (by show ∀ y:Str×NameKind,y∈_→y.2=NameKind.free→(defScope sRight).names.lookup y.1=some .cell;decide +kernel) (by decide) rfl (by decide +kernel) ⟨⟨rfl,rfl,.inl rfl⟩,⟨rfl,rfl,.inl rfl⟩,trivial⟩
     (fun cl C s H fp=>(pg_tupK (K:=K) 2 rfl rfl (pgs_cons (pg_name (i:=0) (show (["part","leaps","web","leap"]:List Str).Nodup by decide +kernel) rfl (Or.inl rfl) (.inr rfl)) (pgs_cons (pg_name (i:=1) (show (["part","leaps","web","leap"]:List Str).Nodup by decide +kernel) rfl (Or.inl rfl) (.inr rfl)) pgs_nil))))
     (fun cl C s H fp=>pts_nil)
     (fun cl C s H fp=>(@pe_tupS _ _ _ _ _ (@pa_consX _ _ _ _ _ (by rfl) (pv 0) (@pa_consX _ _ _ _ _ (by rfl) (pe_def (by rfl) (by rfl) (by rfl) (by decide) Sh (hr.mono (by decide)) (@pa_consX _ _ _ _ _ (by rfl) (pv 2) (@pa_consX _ _ _ _ _ (by rfl) (pv 3) (@pa_consX _ _ _ _ _ (by rfl) (pv 1) pa_nil)))) pa_nil)))))
    (@pss_cons _ _ _ _ _ (@ps_if _ _ _ _ _ _ _ _ (pt_cmpR (op_neD hr) (pe_def (by rfl) (by rfl) (by rfl) (by decide) Sh (hr.mono (by decide)) (@pa_consX _ _ _ _ _ (by rfl) (pv 1) (@pa_consX _ _ _ _ _ (by rfl) (pv 2) (@pa_consX _ _ _ _ _ (by rfl) (pe_def (by rfl) (by rfl) (by rfl) (by decide) Mi (hr.mono (by decide)) (@pa_consX _ _ _ _ _ (by rfl) (pe_callTy call_listS (by rfl) T.lst boot_list (@pa_consX _ _ _ _ _ (by rfl) (pv 5) pa_nil)) pa_nil)) pa_nil)))) (pe_def (by rfl) (by rfl) (by rfl) (by decide) Mx (hr.mono (by decide)) (@pa_consX _ _ _ _ _ (by rfl) (pv 6) pa_nil)) (nomark _))
     (@pss_one _ _ _ (@ps_ret _ _ _ _ pe_bl))
     pss_nil)
    (@pss_cons _ _ _ _ _ (@ps_setX _ _ 7 _ _ _ _ (by rfl) (Or.inl rfl) nd rfl (Or.inr rfl) (pe_def (by rfl) (by rfl) (by rfl) (by decide) Ki (hr.mono (by decide)) (@pa_consX _ _ _ _ _ (by rfl) (pv 0) (@pa_consX _ _ _ _ _ (by rfl) (pe_ix ix_tup (pv 1) pe_int (fun _ _=>rfl)) pa_nil))))
    (@pss_cons _ _ _ _ _ (@ps_setX _ _ 8 _ _ _ _ (by rfl) (Or.inl rfl) nd rfl (Or.inl rfl) (pe_def (by rfl) (by rfl) (by rfl) (by decide) Bk (hr.mono (by decide)) (@pa_consX _ _ _ _ _ (by rfl) (pv 1) (@pa_consX _ _ _ _ _ (by rfl) (pv 2) (@pa_consX _ _ _ _ _ (by rfl) (pv 7) pa_nil)))))
    (@pss_cons _ _ _ _ _ (@ps_setX _ _ 9 _ _ _ _ (by rfl) (Or.inl rfl) nd rfl (Or.inl rfl) (pe_def (by rfl) (by rfl) (by rfl) (by decide) Sh (hr.mono (by decide)) (@pa_consX _ _ _ _ _ (by rfl) (pv 1) (@pa_consX _ _ _ _ _ (by rfl) (pv 2) (@pa_consX _ _ _ _ _ (by rfl) (pe_def (by rfl) (by rfl) (by rfl) (by decide) Ev (hr.mono (by decide)) (@pa_consX _ _ _ _ _ (by rfl) (pv 1) pa_nil)) pa_nil)))))
    (@pss_cons _ _ _ _ _ (@ps_if _ _ _ _ _ _ _ _ (pt_cmpR (op_neD hr) (pe_def (by rfl) (by rfl) (by rfl) (by decide) Mx (hr.mono (by decide)) (@pa_consX _ _ _ _ _ (by rfl) (pe_compC ["letter","row","web","kinds"] [none,none,some 1,some 7] rfl (@pi_list _ _ _ _ (pv 8)) (by show ∀ y:Str×NameKind,y∈_→y.2=NameKind.free→(defScope sRight).names.lookup y.1=some .cell;decide +kernel) (by decide) rfl (by decide +kernel) ⟨⟨rfl,rfl,.inl rfl⟩,⟨rfl,rfl,.inl rfl⟩,trivial⟩
     (fun cl C s H fp=>(pg_tupK (K:=K) 2 rfl rfl (pgs_cons (pg_name (i:=0) (show (["letter","row","web","kinds"]:List Str).Nodup by decide +kernel) rfl (Or.inl rfl) (.inr rfl)) (pgs_cons (pg_name (i:=1) (show (["letter","row","web","kinds"]:List Str).Nodup by decide +kernel) rfl (Or.inl rfl) (.inr rfl)) pgs_nil))))
     (fun cl C s H fp=>pts_nil)
     (fun cl C s H fp=>(@pe_tupS _ _ _ _ _ (@pa_consX _ _ _ _ _ (by rfl) (pe_def (by rfl) (by rfl) (by rfl) (by decide) Fr (hr.mono (by decide)) (@pa_consX _ _ _ _ _ (by rfl) (pe_bmK (K:=K) rfl (by rfl) (by rfl) (by rfl) (by rfl) (by rfl) PySem.F.plainAttrs_str PySem.F.slot_str_count PySem.F.type_str_count mt_countS (pv 3) (@pa_consX _ _ _ _ _ (by rfl) (pv 0) pa_nil)) (@pa_consX _ _ _ _ _ (by rfl) (pe_ix (ix_tupK (K:=K) rfl) (pv 2) pe_int (fun _ _=>rfl)) pa_nil))) (@pa_consX _ _ _ _ _ (by rfl) (pv 1) pa_nil))))) pa_nil)) (pv 9) (nomark _))
     (@pss_one _ _ _ (@ps_ret _ _ _ _ pe_bl))
     pss_nil)
    (@pss_cons _ _ _ _ _ (@ps_if _ _ _ _ _ _ _ _ (PW.pt (pw_or (pt_cmpR (op_neD hr) (pe_def (by rfl) (by rfl) (by rfl) (by decide) Bk (hr.mono (by decide)) (@pa_consX _ _ _ _ _ (by rfl) (pv 1) (@pa_consX _ _ _ _ _ (by rfl) (pv 2) (@pa_consX _ _ _ _ _ (by rfl) (pe_op op_repStr1 pe_str (pe_ix ix_tup (pv 1) pe_int (fun _ _=>rfl))) pa_nil)))) (@pe_lstS _ _ _ _ (@pa_consX _ _ _ _ _ (by rfl) (@pe_tupS _ _ _ _ _ (@pa_consX _ _ _ _ _ (by rfl) pe_str (@pa_consX _ _ _ _ _ (by rfl) (pv 9) pa_nil))) pa_nil)) (nomark _)) (pw_or1 (pt_cmpR (op_neD hr) (pe_def (by rfl) (by rfl) (by rfl) (by decide) Lo (hr.mono (by decide)) (@pa_consX _ _ _ _ _ (by rfl) (pe_op op_repStr1 pe_str (pe_ix ix_tup (pv 1) pe_int (fun _ _=>rfl))) (@pa_consX _ _ _ _ _ (by rfl) pe_str pa_nil))) (pe_def (by rfl) (by rfl) (by rfl) (by decide) Ev (hr.mono (by decide)) (@pa_consX _ _ _ _ _ (by rfl) (pv 1) pa_nil)) (nomark _)))))
     (@pss_one _ _ _ (@ps_ret _ _ _ _ pe_bl))
     pss_nil)
    (@pss_cons _ _ _ _ _ (@ps_if _ _ _ _ _ _ _ _ (pt_cmpR (op_neD hr) (pe_def (by rfl) (by rfl) (by rfl) (by decide) Mi (hr.mono (by decide)) (@pa_consX _ _ _ _ _ (by rfl) (@pe_lstS _ _ _ _ (@pa_consX _ _ _ _ _ (by rfl) (@pe_tupS _ _ _ _ _ (@pa_consX _ _ _ _ _ (by rfl) (@pe_tupS _ _ _ _ _ (@pa_consX _ _ _ _ _ (by rfl) pe_int (@pa_consX _ _ _ _ _ (by rfl) pe_int pa_nil))) (@pa_consX _ _ _ _ _ (by rfl) (pe_ix ix_tup (pe_ix ix_list (pv 5) pe_int (fun _ _=>rfl)) pe_int (fun _ _=>rfl)) pa_nil))) pa_nil)) pa_nil)) (pe_ix ix_tup (pe_ix ix_list (pv 5) pe_int (fun _ _=>rfl)) pe_int (fun _ _=>rfl)) (nomark _))
     (@pss_one _ _ _ (@ps_ret _ _ _ _ pe_bl))
     pss_nil)
    (@pss_cons _ _ _ _ _ (@ps_setX _ _ 10 _ _ _ _ (by rfl) (Or.inl rfl) nd rfl (Or.inl rfl) (pe_def (by rfl) (by rfl) (by rfl) (by decide) Mi (hr.mono (by decide)) (@pa_consX _ _ _ _ _ (by rfl) (pe_callTy call_listS (by rfl) T.lst boot_list (@pa_consX _ _ _ _ _ (by rfl) (pv 5) pa_nil)) pa_nil)))
    (@pss_cons _ _ _ _ _ (@ps_if _ _ _ _ _ _ _ _ (pt_cmpR op_gt (pe_callB (call_maxL rfl) (by rfl) T.max boot_max (@pa_consX _ _ _ _ _ (by rfl) (pe_compC ["share"] [none] rfl (pi_tup (pv 10)) (by show ∀ y:Str×NameKind,y∈_→y.2=NameKind.free→(defScope sRight).names.lookup y.1=some .cell;decide +kernel) (by decide) rfl (by decide +kernel) trivial
     (fun cl C s H fp=>(pg_name (i:=0) (show (["share"]:List Str).Nodup by decide +kernel) rfl (Or.inl rfl) (.inr rfl)))
     (fun cl C s H fp=>pts_nil)
     (fun cl C s H fp=>(pe_ix (ix_tupK (K:=K) rfl) (pv 0) pe_int (fun _ _=>rfl)))) pa_nil)) (pe_op op_pow pe_int pe_int) (nomark _))
     (@pss_one _ _ _ (@ps_ret _ _ _ _ pe_bl))
     pss_nil)
    (@pss_cons _ _ _ _ _ (@ps_setX _ _ 11 _ _ _ _ (by rfl) (Or.inl rfl) nd rfl (Or.inl rfl) (@pe_lstS _ _ _ _ (@pa_consX _ _ _ _ _ (by rfl) (@pe_tupS _ _ _ _ _ (@pa_consX _ _ _ _ _ (by rfl) (@pe_tupS _ _ _ _ _ (@pa_consX _ _ _ _ _ (by rfl) pe_int (@pa_consX _ _ _ _ _ (by rfl) pe_int pa_nil))) (@pa_consX _ _ _ _ _ (by rfl) (pv 10) pa_nil))) (@pa_consX _ _ _ _ _ (by rfl) (@pe_tupS _ _ _ _ _ (@pa_consX _ _ _ _ _ (by rfl) (@pe_tupS _ _ _ _ _ (@pa_consX _ _ _ _ _ (by rfl) pe_int (@pa_consX _ _ _ _ _ (by rfl) pe_int pa_nil))) (@pa_consX _ _ _ _ _ (by rfl) (pe_def (by rfl) (by rfl) (by rfl) (by decide) Ev (hr.mono (by decide)) (@pa_consX _ _ _ _ _ (by rfl) (pv 1) pa_nil)) pa_nil))) pa_nil))))
    (@pss_one _ _ _ (@ps_ret _ _ _ _ (pe_cmpR (op_eqD hr) (pe_def (by rfl) (by rfl) (by rfl) (by decide) Sh (hr.mono (by decide)) (@pa_consX _ _ _ _ _ (by rfl) (pv 1) (@pa_consX _ _ _ _ _ (by rfl) (pv 2) (@pa_consX _ _ _ _ _ (by rfl) (pe_def (by rfl) (by rfl) (by rfl) (by decide) Mi (hr.mono (by decide)) (@pa_consX _ _ _ _ _ (by rfl) (pv 11) pa_nil)) pa_nil)))) (pe_def (by rfl) (by rfl) (by rfl) (by decide) Mx (hr.mono (by decide)) (@pa_consX _ _ _ _ _ (by rfl) (@pe_lstS _ _ _ _ (@pa_consX _ _ _ _ _ (by rfl) (@pe_tupS _ _ _ _ _ (@pa_consX _ _ _ _ _ (by rfl) (@pe_tupS _ _ _ _ _ (@pa_consX _ _ _ _ _ (by rfl) pe_int (@pa_consX _ _ _ _ _ (by rfl) pe_int pa_nil))) (@pa_consX _ _ _ _ _ (by rfl) (pe_def (by rfl) (by rfl) (by rfl) (by decide) Sh (hr.mono (by decide)) (@pa_consX _ _ _ _ _ (by rfl) (pv 1) (@pa_consX _ _ _ _ _ (by rfl) (pv 2) (@pa_consX _ _ _ _ _ (by rfl) (pv 10) pa_nil)))) pa_nil))) (@pa_consX _ _ _ _ _ (by rfl) (@pe_tupS _ _ _ _ _ (@pa_consX _ _ _ _ _ (by rfl) (@pe_tupS _ _ _ _ _ (@pa_consX _ _ _ _ _ (by rfl) pe_int (@pa_consX _ _ _ _ _ (by rfl) pe_int pa_nil))) (@pa_consX _ _ _ _ _ (by rfl) (pv 9) pa_nil))) pa_nil))) pa_nil)) (nomark _)))))))))))))))))),?_⟩
   have g:Wl K H wa lp n ps A:=⟨hw,n1,n12,few,lk,fA,ca,a0,a1,sa⟩
   obtain ⟨wr,e0⟩:=g.at0
   have wad:wa≠d:=hd.neT e0
   have up:∀ {G:Hp} {l:Addr} {o:HO},DrawsAt G d→l≠d→DrawsAt (upd G l o) d:=fun h n=>by
    obtain ⟨ns',e',z'⟩:=h
    exact ⟨ns',by rw [upd_ne (Ne.symm n)];exact e',z'⟩
   refine ⟨_,rfl,d,3,rfl,by decide,hd,fun y G1 y0 y1 h1 k1=>⟨_,_,rfl,rfl,_,rfl,by omega,by omega,fun D hD=>?_⟩⟩
   have hDd:=h1.ne hD
   have hDH:H D=none:=k1.freeD h1 hD
   refine comp_rng (lo:=0) (n:=(1+y).toNat) (D:=D) (fun i ys σ U=>DrawsAt U d∧Kp d H U∧U D=some (.lst ys)∧(∃ ns:List Int,ys=ns.map V.int∧ns.length=i∧∀ n∈ns,1≤n∧n≤9)∧∃ x,σ=[x,some (.ref d)]) ?_ ?_ ?_ ?_
   · exact ⟨h1.same (Same.new hD),k1.trans (Kp.new hD),upd_same,⟨[],rfl,rfl,fun n hn=>by simp at hn⟩,none,rfl⟩
   · rintro i ys σ V ⟨_,_,e,_⟩
     exact e
   · rintro i ys σ V hi ⟨g1,g2,g3,⟨ns,rfl,g4,g5⟩,x,rfl⟩
     dsimp only [gName]
     rw [if_pos rfl]
     refine ⟨_,rfl,d,9,rfl,by decide,g1,fun v HL v0 v9 hL kL=>⟨_,_,rfl,rfl,?_⟩⟩
     have g3':HL D=_:=kL D _ g3 hDd
     refine ⟨g3',small1000 (by rw [List.length_map];omega),Wt.next hi ⟨up hL hDd,fun b o e n=>?_,upd_same,⟨ns ++ [1+v],?_,?_,?_⟩,_,rfl⟩⟩
     · rw [upd_ne (ne_of_none e hDH)];exact kL b o (g2 b o e n) n
     · rw [List.map_append];rfl
     · rw [List.length_append,List.length_singleton];omega
     · intro n hn
       rcases List.mem_append.mp hn with hn | hn
       · exact g5 n hn
       · simp at hn
         omega
   rintro ys σ G2 ⟨h2,k2,e2,⟨ws,rfl,lws,bws⟩,_⟩
   have hlw:(ws.length:Int)=1+y:=by omega
   have wt:Wts (1+y) ws:=⟨hlw,fun n hn=>by have:=bws n hn;omega,by
    cases hws:ws with
    | nil=>rw [hws] at lws;simp at lws;omega
    | cons w0 wr =>
      rw [← hws]
      exact Pw.sum_pos (m:=w0) (fun n hn=>by have:=bws n hn;omega) (by rw [hws];exact List.mem_cons_self) (by have:=bws w0 (by rw [hws];exact List.mem_cons_self);omega)⟩
   have s27:Sz 5 ws.sum:=by
    have:∀ l:List Int,(∀ n∈l,1≤n∧n≤9)→0≤l.sum∧l.sum≤9 * (l.length:Int):=by
     intro l
     induction l with
     | nil=>intro _;simp
     | cons a l ih =>
       intro h
       have:=ih fun n hn=>h n (List.mem_cons_of_mem _ hn)
       have:=h a List.mem_cons_self
       rw [List.sum_cons,List.length_cons]
       omega
    have:=this ws bws
    show ws.sum.natAbs<2 ^ 5
    omega
   have g2:=g.kl (hd.kl k2)
   have wpos:=wt.pos
   have wsz:=wt.sz (show 1+y≤12 by omega)
   refine ⟨_,rfl,D,rfl,⟨_,SqL.of e2⟩,fun D2 hD2=>?_⟩
   have hD2d:=h2.ne hD2
   refine comp_lst (K:=K) (a:=D) (D:=D2) (xs:=ws.map V.int) (fun i ys σ V=>Same G2 V∧V D2=some (.lst ys)∧FrL K V ((lps ws).take i) ys∧∃ x,σ=[x,some (.ref D)]) ?_ ?_ ?_ ?_
   · exact ⟨Same.new hD2,upd_same,rfl,none,rfl⟩
   · rintro i ys σ V ⟨sV,e,_⟩
     exact ⟨SqL.of (sV _ _ e2),e⟩
   · rintro i u ys σ V hi hlt ⟨sV,eD,fD,x,rfl⟩
     rw [List.length_map] at hlt
     have eu:u=.int (ws.getD i 0):=by
      rw [List.getElem?_map,getD_mapI (by omega)] at hi
      cases hi;rfl
     subst eu
     have mW:ws.getD i 0∈ws:=List.mem_of_getElem? (getD_mapI (by omega))
     have hw:=wt.nn _ mW
     dsimp only [gName]
     rw [if_pos rfl]
     refine ⟨_,rfl,_,rfl,D,ws,rfl,SqL.of (sV _ _ e2),_,_,rfl,by omega,(sz_of 41 (by omega)),wsz.mono (by decide),fun r V1 t1 f1=>?_⟩
     have f1:FrA K V1 r (Pw.mk (ws.getD i 0) ws.sum):=f1
     have eg:(lps ws)[i]?=some (Pw.mk (ws.getD i 0) ws.sum):=by
      unfold lps
      rw [List.getElem?_map,getD_mapI (by omega)];rfl
     have eD1:=t1 _ _ eD
     refine ⟨eD1,by rw [fD.len,List.length_take];exact small1000 (by omega),Wt.next (by rw [List.length_map];exact hlt) ⟨fun b o e=>?_,upd_same,?_,_,rfl⟩⟩
     · rw [upd_ne (ne_of_none e hD2)];exact t1 _ _ (sV _ _ e)
     · rw [List.take_succ,eg]
       exact ((fD.same t1).snoc f1).kp (KL.set eD1)
   rintro pys σ G3 ⟨s3,e3,f3,_⟩
   rw [List.length_map,List.take_of_length_le (by rw [lps_len];exact Nat.le_refl _)] at f3
   have h3:=h2.same s3
   have K3:Kp d H G3:=k2.trans (Same.kpd s3)
   have g3:=g2.same s3
   have hpl:=f3.len
   rw [lps_len] at hpl
   refine ⟨_,rfl,D2,rfl,⟨_,SqL.of e3⟩,fun D3 hD3=>?_⟩
   have hD3d:=h3.ne hD3
   have hD23:D2≠D3:=ne_of_none e3 hD3
   have hD3H:H D3=none:=K3.freeD h3 hD3
   refine comp_lst (K:=K) (a:=D2) (D:=D3) (xs:=pys) (fun i ys σ V=>DrawsAt V d∧Kp d H V∧V D2=some (.lst pys)∧FrL K V (lps ws) pys∧V D3=some (.lst ys)∧(∃ (Ms:List Pw.Mx) (P:Int),MixE K V Ms ys∧Ptd (n:Int) ws Ms P∧Ms.length=i)∧∃ x,σ=[x,some (.ref d),some (.ref wa)]) ?_ ?_ ?_ ?_
   · exact ⟨h3.same (Same.new hD3),K3.trans (Kp.new hD3),(Same.new hD3) _ _ e3,f3.same (Same.new hD3),upd_same,⟨[],1,MixE.nil,Ptd.nil,rfl⟩,none,rfl⟩
   · rintro i ys σ V ⟨_,_,e,_,e4,_⟩
     exact ⟨SqL.of e,e4⟩
   · rintro i u ys σ V hi hlt ⟨hV,kV,eP,fP,e4,⟨Ms,P,me,pt,hMi⟩,x,rfl⟩
     have hiw:i<(lps ws).length:=by rw [lps_len];omega
     obtain ⟨r,er,fr⟩:=fP.at (List.getElem?_eq_getElem hiw)
     rw [hi] at er
     cases er
     dsimp only [gName]
     rw [if_pos rfl]
     refine ⟨_,rfl,_,rfl,_,rfl,wa,_,0,_,rfl,rfl,SqT.of (kV _ _ e0 wad),rfl,d,(n:Int),rfl,by omega,by omega,hV,fun ls V2 vs us wv h4 eLs fl k4=>⟨(by show 2≤sizeLine;decide),fun q V3 t3 _ eq=>?_⟩⟩
     have l2:KL V V3:=(hV.kl k4).trans t3.kl
     have K4:Kp d V V3:=k4.trans (Same.kpd t3)
     have e5:V3 D3=some (.lst ys):=K4 _ _ e4 hD3d
     have kl:=KL.set (ys:=ys ++ [.ref q]) e5
     have eg:(lps ws).getD Ms.length (0,1)=(lps ws)[i]:=by rw [hMi,List.getD_eq_getElem?_getD,List.getElem?_eq_getElem hiw];rfl
     refine ⟨e5,by rw [me.1];exact small1000 (by omega),Wt.next hlt ⟨up (h4.same t3) hD3d,fun b o e n=>?_,?_,(fP.kp l2).kp kl,upd_same,⟨Ms ++ [((lps ws).getD Ms.length (0,1),lps vs)],P * vs.sum,?_,pt.snoc (by omega) (by omega) wv,by rw [List.length_append,hMi];rfl⟩,_,rfl⟩⟩
     · rw [upd_ne (ne_of_none e hD3H)];exact K4 _ _ (kV _ _ e n) n
     · rw [upd_ne hD23];exact K4 _ _ eP hD2d
     · refine ((me.kl l2).kl kl).snoc (p:=r) (l:=ls) (ws:=us) (kl.tup eq) ?_ (kl.tup (t3 _ _ eLs)) ((fl.same t3).kp kl)
       rw [eg]
       exact kl.tup (l2.tup fr)
   rintro mys σ G4 ⟨h4,K4,_,_,e4,⟨Ms,P,me,pt,hMl⟩,_⟩
   rw [hpl] at hMl
   have g4:=g.kl (hd.kl K4)
   have mok:=pt.ok wt (by omega) (by omega) (by omega) (by omega) hMl
   have mone:=pt.one wt hMl
   rw [Int.toNat_natCast] at mok mone
   have gl:∀ (Ts:List Pw.Mx) (T:Pw.Mx) (j:Nat),j<Ts.length→(Ts ++ [T]).getD j Pw.mxd=Ts.getD j Pw.mxd:=fun Ts T j h=>by
    rw [List.getD_eq_getElem?_getD,List.getElem?_append_left h,List.getD_eq_getElem?_getD]
   have gr:∀ (Ts:List Pw.Mx) (T:Pw.Mx),(Ts ++ [T]).getD Ts.length Pw.mxd=T:=fun Ts T=>by
    rw [List.getD_eq_getElem?_getD,List.getElem?_append_right (Nat.le_refl _),Nat.sub_self];rfl
   have hml:=me.1
   refine ⟨_,rfl,D3,rfl,⟨_,SqL.of e4⟩,fun D4 hD4=>?_⟩
   refine comp_lst (K:=K) (a:=D3) (D:=D4) (xs:=mys) (fun i ys σ U=>Same G4 U∧U D4=some (.lst ys)∧(∃ Ts:List Pw.Mx,MixE K U Ts ys∧Ts.length=i∧∀ j,j<i→(Ts.getD j Pw.mxd).1=(Ms.getD j Pw.mxd).1∧Pw.ShOk ps A (Ms.getD j Pw.mxd).2 n (Ts.getD j Pw.mxd).2∧∃ V':Int,0<V'∧Sz 696 V'∧∀ S∈(Ts.getD j Pw.mxd).2,S.2∣V')∧∃ x y,σ=[x,y,some (.ref wa),some (.ref lp)]) ?_ ?_ ?_ ?_
   · exact ⟨Same.new hD4,upd_same,⟨[],MixE.nil,rfl,fun j hj=>absurd hj (Nat.not_lt_zero _)⟩,none,none,rfl⟩
   · rintro i ys σ U ⟨sU,e,_⟩
     exact ⟨SqL.of (sU _ _ e4),e⟩
   · rintro i u ys σ U hi hlt ⟨sU,eD,⟨Ts,mt,hTl,hT⟩,x',y',rfl⟩
     have hiM:i<Ms.length:=by omega
     have hM:Ms[i]?=some Ms[i]:=List.getElem?_eq_getElem hiM
     have mM:=List.mem_of_getElem? hM
     have eMi:Ms.getD i Pw.mxd=Ms[i]:=by rw [List.getD_eq_getElem?_getD,hM];rfl
     obtain ⟨qi,pi,li,wi,hqi,eqi,fpi,eli,fli⟩:=(me.kl sU.kl).2 i _ hM
     rw [hi] at hqi
     cases hqi
     obtain ⟨vs,wv,ev,dv⟩:=pt.rows _ mM
     have fl2:=fli
     rw [ev] at fl2
     refine ⟨qi,_,rfl,SqT.of eqi,rfl,_,_,rfl,_,_,rfl,rfl,?_⟩
     dsimp only [gName]
     rw [if_pos rfl]
     refine ⟨_,rfl,_,rfl,_,rfl,_,rfl,wa,lp,li,(n:Int),ps,A,_,wi,vs.sum,41,rfl,(g4.same sU).gvS eli fl2.s (lps_canon wv) (fun B hB=>(lps_sz wv (by omega) B hB).mono (by decide)) (by rw [lps_len];have:=wv.len;omega),wts_pr a0 a1 n12 wv,by omega,by decide,sa,wv.sz (by omega),fun t U1 Ss V' ys1 okS v0 vz vd s1 e1 f1=>⟨(by show 2≤sizeLine;decide),fun q U2 s2 _ eq2=>?_⟩⟩
     rw [Int.toNat_natCast,← ev] at okS
     have s12:=s1.trans s2
     have eD2:=s12 _ _ eD
     have kl:=KL.set (ys:=ys ++ [.ref q]) eD2
     refine ⟨eD2,by rw [mt.1];exact small1000 (by omega),Wt.next hlt ⟨fun b o e=>?_,upd_same,⟨Ts ++ [(Ms[i].1,Ss)],?_,by rw [List.length_append,hTl];rfl,fun j hj=>?_⟩,_,_,rfl⟩⟩
     · rw [upd_ne (ne_of_none e hD4)];exact s12 _ _ (sU _ _ e)
     · exact ((mt.kl s12.kl).kl kl).snoc (p:=pi) (l:=t) (ws:=ys1) (kl.tup eq2) (kl.tup (s12 _ _ fpi)) (kl.tup (s2 _ _ e1)) ((f1.same s2).kp kl)
     · by_cases hji:j<i
       · rw [gl _ _ _ (by omega)]
         exact hT j hji
       · have:j=Ts.length:=by omega
         subst this
         rw [gr,hTl,eMi]
         exact ⟨rfl,okS,V',v0,vz,vd⟩
   rintro rys σ G5 ⟨s5,e5,⟨Ts,mt,hTl,hT⟩,_⟩
   rw [hml] at hTl hT
   have hM3:Ms.length≤3:=by omega
   have mrow:∀ i,i<Ms.length→∃ vs:List Int,Wts (n:Int) vs∧(Ms.getD i Pw.mxd).2=lps vs:=fun i hi=>by
    have hM:Ms[i]?=some Ms[i]:=List.getElem?_eq_getElem hi
    have eMi:Ms.getD i Pw.mxd=Ms[i]:=by rw [List.getD_eq_getElem?_getD,hM];rfl
    obtain ⟨vs,wv,ev,_⟩:=pt.rows _ (List.mem_of_getElem? hM)
    exact ⟨vs,wv,by rw [eMi];exact ev⟩
   have mpart:∀ i,i<Ms.length→Pw.F01 (Ms.getD i Pw.mxd).1:=fun i hi=>by
    have hM:Ms[i]?=some Ms[i]:=List.getElem?_eq_getElem hi
    have eMi:Ms.getD i Pw.mxd=Ms[i]:=by rw [List.getD_eq_getElem?_getD,hM];rfl
    rw [eMi]
    exact mok.part _ (List.mem_of_getElem? hM)
   have mixd:Pw.Mixd ps A n Ms Ts:=⟨hTl,fun i hi=>(hT i hi).1,fun i hi=>Pw.val_nn (mpart i hi).c.1 (mpart i hi).lo,fun i hi=>(hT i hi).2.1,fun i hi=>by
    obtain ⟨vs,wv,ev⟩:=mrow i hi
    rw [ev];exact lps_canon wv,fun i hi=>by
    obtain ⟨vs,wv,ev⟩:=mrow i hi
    rw [ev,lps_len];have:=wv.len;omega⟩
   have pone:Pw.qs Ms.length (fun i=>Pw.val (Ms.getD i Pw.mxd).1)=1:=by
    rw [Pw.qs_congr (g:=fun i=>Pw.val ((lps ws).getD i (0,1))) fun i hi=>by rw [pt.part i hi],hMl]
    exact lps_sum wt
   have lm:LMix Ts n:=lmix_of (b:=0) mixd pone mok.pos (by omega) n12 (fun i hi=>⟨(mpart i hi).c,(mpart i hi).sz⟩) (fun i hi=>by
    obtain ⟨_,_,V',v0,vz,vd⟩:=hT i hi
    exact ⟨V',v0,vz.mono (by decide),vd⟩) fun i hi=>by
     obtain ⟨D,c,s⟩:=cd_of (a:=100) (b:=696) mixd (fun i hi=>⟨(mpart i hi).c.1,(mpart i hi).sz.2⟩) (fun i hi=>(hT i hi).2.2) i hi
     exact ⟨D,c,s.mono (by omega)⟩
   have okm:=mixd.ok all ca pone
   have Dz:Sz 140 (ws.sum * P):=(s27.mul pt.sz).mono (by omega)
   have mpr:=mixPr a0 a1 mok mone
   have each:=mok.each mone
   have mcan:Pw.Canons (Pw.mixL Ms n):=fun R hR=>(each R hR).1
   have msz:∀ B∈Pw.mixL Ms n,Sz2 600 B:=fun B hB=>by
    obtain ⟨c,lo,hi,dv,_⟩:=each B hB
    have le:=Int.le_of_dvd mok.dpos dv
    have Dz':(ws.sum * P).natAbs<2 ^ 140:=Dz
    have c1:=c.1
    exact (show Sz2 140 B from ⟨(by show B.1.natAbs<2 ^ 140;omega),(by show B.2.natAbs<2 ^ 140;omega)⟩).mono (by decide)
   have g5:=g4.same s5
   have h5:=h4.same s5
   refine ⟨_,rfl,_,rfl,_,rfl,D3,mys,rfl,.inl (SqL.of (s5 _ _ e4)),fun L1 G6 t6 m6 e6=>?_⟩
   refine ⟨L1,Ms,mys,n,_,rfl,((me.kl s5.kl).kl t6.kl).at e6,mok,fun mt1 G7 ys7 t7 e7 f7=>?_⟩
   have s57:=t6.trans t7
   refine ⟨wa,lp,mt1,(n:Int),ps,A,_,ys7,_,140,rfl,(g5.same s57).gvS e7 f7.s mcan msz (Pw.mixL_len _ _),mpr,by omega,by decide,sa.mono (by decide),Dz,fun t8 G8 Ss V8 ys8 ok8 v80 v8z v8d s8 e8 f8=>?_⟩
   rw [Int.toNat_natCast] at ok8
   have lk2:∀ p∈ps,0≤p.2∧p.2<(n:Int):=fun p hp=>⟨(lk p hp).2.2.1,(lk p hp).2.2.2⟩
   obtain rfl:Ss=Pw.mixL Ts n:=Pw.ShOk.unique lk2 ca mcan (Pw.mixL_len _ _) mpr ok8 okm
   have s58:=s57.trans s8
   refine ⟨_,rfl,D4,Ts,rys,n,rfl,(mt.kl s58.kl).at (s58 _ _ e5),lm,fun t9 G9 ys9 s9 e9 f9=>?_⟩
   refine neTT (SqT.of (s9 _ _ e8)) (SqT.of e9) (f8.same s9) f9 ⟨_,rfl,ifF rfl ?_⟩
   have s59:=s58.trans s9
   have s49:=s5.trans s59
   have h9:=h4.same s49
   have g9:=g4.same s49
   have e09:=s49 _ _ (K4 _ _ e0 wad)
   have K9:Kp d H G9:=K4.trans (Same.kpd s49)
   have me9:MixE K G9 Ms mys:=me.kl s49.kl
   have e49:G9 D3=some (.lst mys):=s49 _ _ e4
   clear hT lm mt e5 e7 f7 e8 f8 e9 f9 e6
   refine ⟨_,rfl,_,rfl,wa,_,0,_,rfl,rfl,SqT.of e09,rfl,d,n,rfl,n1,n12,h9,fun x G10 xl xr h10 k10=>?_⟩
   have kl10:=h9.kl k10
   have g10:=g9.kl kl10
   have hxl:x.cps.toList.length=n:=by rw [Array.length_toList,xl]
   refine ⟨_,rfl,_,rfl,_,rfl,wa,lp,n,ps,A,x,rfl,g10.kin xl,fun To G11 cs Rs tus pw hmm okR s11 m11 e11 kd11=>?_⟩
   have g11:=g10.same s11
   obtain ⟨wr11,e011⟩:=g11.at0
   refine ⟨_,rfl,_,rfl,_,rfl,wa,n,_,rfl,e011,n1,n12,fun ev G12 eus s12 e12 f12=>?_⟩
   have we:Wts (n:Int) (List.replicate n 1):=⟨by rw [List.length_replicate],fun w hw=>by rw [List.eq_of_mem_replicate hw];decide,Pw.sum_pos (m:=1) (fun w hw=>by rw [List.eq_of_mem_replicate hw];decide) (List.mem_replicate.mpr ⟨by omega,rfl⟩) (by decide)⟩
   have ele:lps (List.replicate n 1)=List.replicate n (1,(n:Int)):=lps_even n1
   have epr:Pr A (List.replicate n (1,(n:Int))) (List.replicate n (1:Int)).sum:=by rw [← ele];exact wts_pr a0 a1 n12 we
   have ecan:Pw.Canons (List.replicate n (1,(n:Int))):=by rw [← ele];exact lps_canon we
   have elen:(List.replicate n ((1:Int),(n:Int))).length=n:=List.length_replicate
   have esz:∀ B∈List.replicate n ((1:Int),(n:Int)),Sz2 41 B:=by rw [← ele];exact lps_sz we (by omega)
   have g12:=g11.same s12
   refine ⟨wa,lp,ev,(n:Int),ps,A,_,eus,_,41,rfl,g12.gvS e12 f12.s ecan (fun B hB=>(esz B hB).mono (by decide)) elen,epr,by omega,by decide,sa,we.sz (by omega),fun du G13 Es V13 dus ok13 v130 v13z v13d s13 e13 f13=>?_⟩
   rw [Int.toNat_natCast] at ok13
   have g13:=g12.same s13
   obtain ⟨wr13,e013⟩:=g13.at0
   have e1113:G13 To=some (.lst tus):=s13 _ _ (s12 _ _ e11)
   have kd13:KdR K G13 cs Rs tus:=kd11.kl (s12.kl.trans s13.kl)
   obtain ⟨kl1,kl2⟩:=kd13.len
   have cnd:cs.Nodup:=pw.imp fun z=>Nat.ne_of_lt z
   have hck:∀ c∈cs,c∈x.cps.toList:=fun c h=>(hmm c).mp h
   have hcs12:cs.length≤n:=by rw [← hxl];exact Pw.nodup_sub_len cnd hck
   have hRok:∀ (i c:Nat) (R:List (Int×Int)),cs[i]?=some c→Rs[i]?=some R→Pw.ShOk ps A (Pw.kdL x.cps.toList c) n R:=fun i c R h1 h2=>(okR.2 i c R h1 h2).1
   have kmix:=Pw.k_mixd (m:=n) okR.1 hRok hck hxl (by omega)
   obtain ⟨keven,kone⟩:=Pw.k_even n1 hxl cnd hmm
   have kok:=kmix.ok all ca kone
   rw [keven] at kok
   obtain rfl:Es=Pw.mixL (Pw.kTs x.cps.toList cs Rs n) n:=Pw.ShOk.unique lk2 ca ecan elen epr ok13 kok
   have hTsl:(Pw.kTs x.cps.toList cs Rs n).length=cs.length:=by
    have:=kmix.len
    rw [Pw.kMs_len] at this
    exact this
   have hcpos:0<cs.length:=by
    obtain ⟨c0,hc0⟩:∃ c0,x.cps.toList[0]?=some c0:=⟨_,List.getElem?_eq_getElem (by omega)⟩
    have:=(hmm c0).mpr (List.mem_of_getElem? hc0)
    exact List.length_pos_of_mem this
   have klm:LMix (Pw.kTs x.cps.toList cs Rs n) n:=lmix_of (b:=0) kmix kone (by rw [Pw.kMs_len];exact hcpos) (by rw [Pw.kMs_len];omega) n12 (fun i hi=>by
    rw [Pw.kMs_len] at hi
    rw [Pw.kMs_at hi]
    have hcl:=List.count_le_length (a:=cs[i]) (l:=x.cps.toList)
    exact ⟨Pw.canon_mk (by omega),(mk_sz (n:=41) (by omega) (sz_of 41 (by omega)) (sz_of 41 (by omega))).mono (by decide)⟩) (fun i hi=>by
    rw [Pw.kMs_len] at hi
    have hiR:i<Rs.length:=by rw [okR.1];exact hi
    obtain ⟨_,V',v0,vz,vd⟩:=okR.2 i cs[i] Rs[i] (List.getElem?_eq_getElem hi) (List.getElem?_eq_getElem hiR)
    have e:(Pw.kTs x.cps.toList cs Rs n).getD i Pw.mxd=(Pw.mk ((x.cps.toList.count cs[i]:Nat):Int) (n:Int),Rs[i]):=by
     unfold Pw.kTs
     rw [List.getD_eq_getElem?_getD,List.getElem?_zipWith,List.getElem?_eq_getElem hi,List.getElem?_eq_getElem hiR]
     rfl
    rw [e]
    exact ⟨V',v0,vz.mono (by decide),vd⟩) fun i hi=>by
     have et:(Pw.kTs x.cps.toList cs Rs n).take i=Pw.kTs x.cps.toList (cs.take i) (Rs.take i) n:=by unfold Pw.kTs;rw [List.take_zipWith]
     rw [et]
     obtain ⟨D,c,s⟩:=Pw.k_pre (cs:=cs.take i) (Rs:=Rs.take i) (show ps.length≤100 by omega) lk2 all ca a0 a1 sa n1 n12 hxl (cnd.sublist (List.take_sublist _ _)) (fun c hc=>hck c (List.mem_of_mem_take hc)) (by rw [List.length_take,List.length_take,okR.1]) (fun j c R h1 h2=>by
      rw [List.getElem?_take] at h1 h2
      split at h1
      · rename_i hj
        rw [if_pos hj] at h2
        exact hRok j c R h1 h2
      · cases h1)
     exact ⟨D,c,s.mono (by decide)⟩
   refine ⟨_,rfl,To,rfl,⟨_,SqL.of e1113⟩,fun D5 hD5=>?_⟩
   refine comp_lst (K:=K) (a:=To) (D:=D5) (xs:=tus) (fun i ys σ U=>Same G13 U∧U D5=some (.lst ys)∧MixE K U ((Pw.kTs x.cps.toList cs Rs n).take i) ys∧∃ a b,σ=[a,b,some (.ref wa),some (.str x)]) ?_ ?_ ?_ ?_
   · exact ⟨Same.new hD5,upd_same,MixE.nil,none,none,rfl⟩
   · rintro i ys σ U ⟨sU,e,_⟩
     exact ⟨SqL.of (sU _ _ e1113),e⟩
   · rintro i u ys σ U hi hlt ⟨sU,eD,mU,x',y',rfl⟩
     have hic:i<cs.length:=by omega
     obtain ⟨q,r,rr,R,hq,hR,eq,er,fR⟩:=(kd13.kl sU.kl).at (List.getElem?_eq_getElem hic)
     rw [hi] at hq
     cases hq
     have hcl:=List.count_le_length (a:=cs[i]) (l:=x.cps.toList)
     refine ⟨q,_,rfl,SqT.of eq,rfl,_,_,rfl,_,_,rfl,rfl,?_⟩
     dsimp only [gName]
     rw [if_pos rfl]
     refine ⟨_,rfl,rfl,_,rfl,x,cs[i],rfl,rfl,_,rfl,wa,_,0,_,rfl,rfl,SqT.of (sU _ _ e013),rfl,_,_,rfl,by omega,sz_of 41 (by omega),sz_of 41 (by omega),fun p U1 s1 f1=>⟨_,rfl,(by show 2≤sizeLine;decide),fun q2 U2 s2 _ eq2=>?_⟩⟩
     have s12':=s1.trans s2
     have eD2:=s12' _ _ eD
     have kl:=KL.set (ys:=ys ++ [.ref q2]) eD2
     have hk:(Pw.kTs x.cps.toList cs Rs n)[i]?=some (Pw.mk ((x.cps.toList.count cs[i]:Nat):Int) (n:Int),R):=by
      unfold Pw.kTs
      rw [List.getElem?_zipWith,List.getElem?_eq_getElem hic,hR]
     refine ⟨eD2,by rw [mU.1,List.length_take];exact small1000 (by omega),Wt.next hlt ⟨fun b o e=>?_,upd_same,?_,_,_,rfl⟩⟩
     · rw [upd_ne (ne_of_none e hD5)];exact s12' _ _ (sU _ _ e)
     · rw [List.take_succ,hk]
       exact ((mU.kl s12'.kl).kl kl).snoc (M:=(Pw.mk ((x.cps.toList.count cs[i]:Nat):Int) (n:Int),R)) (p:=p) (l:=r) (ws:=rr) (kl.tup eq2) (kl.tup (s2 _ _ f1)) (kl.tup (s12' _ _ er)) ((fR.same s12').kp kl)
   rintro kys σ G14 ⟨s14,e14,m14,_⟩
   rw [List.take_of_length_le (by rw [hTsl];omega)] at m14
   refine ⟨D5,_,kys,n,rfl,m14.at e14,klm,fun t15 G15 ys15 s15 e15 f15=>?_⟩
   have s1315:=s14.trans s15
   refine ⟨_,rfl,neTT (SqT.of e15) (SqT.of (s1315 _ _ e13)) f15 (f13.same s1315) ⟨_,rfl,ifF rfl ?_⟩⟩
   have g15:=g13.same s1315
   have e1315:=s1315 _ _ e13
   have f1315:=f13.same s1315
   generalize Pw.mixL (Pw.kTs x.cps.toList cs Rs n) n=Es at ok13 f1315 v13d
   obtain ⟨wr15,e015⟩:=g15.at0
   have hqs:(⟨(List.replicate ((n:Int).toNat) 113).toArray⟩:Str).cps.size=n:=by
    show (List.replicate ((n:Int).toNat) 113).toArray.size=n
    rw [List.size_toArray,List.length_replicate,Int.toNat_natCast]
   have hql:(⟨(List.replicate ((n:Int).toNat) 113).toArray⟩:Str).cps.toList=List.replicate n 113:=by
    show (List.replicate ((n:Int).toNat) 113).toArray.toList=_
    rw [Int.toNat_natCast]
   refine ⟨_,rfl,_,rfl,_,rfl,wa,_,0,_,rfl,rfl,SqT.of e015,rfl,113,_,rfl,rfl,by omega,by omega,wa,lp,n,ps,A,_,rfl,g15.kin hqs,fun Tq G16 cs2 Rs2 us2 pw2 hm2 ok2 s16 m16 e16 kd16=>?_⟩
   rw [hql] at ok2
   obtain rfl:cs2=[113]:=Pw.lt_unique pw2 (List.pairwise_singleton _ _) fun c=>by
    rw [hm2,hql,List.mem_replicate,List.mem_singleton]
    exact ⟨fun h=>h.2,fun h=>⟨by omega,h⟩⟩
   obtain ⟨R2,rfl⟩:∃ R2,Rs2=[R2]:=by
    have:=ok2.1
    match Rs2,this with
    | [R2],_=>exact ⟨R2,rfl⟩
   have okq:=(ok2.2 0 113 R2 rfl rfl).1
   rw [Pw.kd_same] at okq
   obtain rfl:R2=Es:=Pw.ShOk.unique lk2 ca ecan elen epr okq ok13
   refine ⟨_,rfl,(by show 2≤sizeLine;decide),fun qt G17 s17 m17 e17=>⟨(by show 1≤sizeLine;decide),fun lq G18 s18 m18 e18=>?_⟩⟩
   have s1618:=s17.trans s18
   have s1518:=s16.trans s1618
   refine neKd (SqL.of (s1618 _ _ e16)) (SqL.of e18) (kd16.kl s1618.kl) ⟨qt,du,dus,[],rfl,s18 _ _ e17,s1518 _ _ e1315,f1315.same s1518,rfl⟩ ⟨_,rfl,ifF rfl ?_⟩
   have g18:=g15.same s1518
   have e018:=s1518 _ _ e015
   refine ⟨_,rfl,wa,_,0,_,rfl,rfl,SqT.of e018,rfl,113,_,rfl,rfl,by omega,by omega,_,113,rfl,by rw [hqs];exact n12,by rw [hql];exact List.mem_replicate.mpr ⟨by omega,rfl⟩,fun lq2 G19 us19 s19 e19 f19=>?_⟩
   rw [hql,Pw.kd_same] at f19
   refine ⟨_,rfl,wa,n,_,rfl,s19 _ _ e018,n1,n12,fun ev2 G20 us20 s20 e20 f20=>?_⟩
   refine ⟨lq2,ev2,_,_,_,_,rfl,rfl,.inl ⟨SqT.of (s20 _ _ e19),SqT.of e20⟩,(f19.same s20).dens,f20.dens,FrL.dep _,?_⟩
   rw [eqDs_refl]
   refine ⟨_,rfl,ifF rfl ?_⟩
   have s1520:=s1518.trans (s19.trans s20)
   have s1020:Same G10 G20:=s11.trans (s12.trans (s13.trans (s1315.trans s1520)))
   have kl920:KL G9 G20:=kl10.trans s1020.kl
   have me20:MixE K G20 Ms mys:=me9.kl kl920
   have e420:G20 D3=some (.lst mys):=s1020 _ _ (k10 _ _ e49 hD3d)
   have h20:DrawsAt G20 d:=h10.same s1020
   have K20:Kp d H G20:=K9.trans (k10.trans (Same.kpd s1020))
   have g20:=g15.same s1520
   have du20:=s1520 _ _ e1315
   have fdu20:=f1315.same s1520
   clear kd16 kd13 kd11 m14 e14 e15 f15 e16 e18 e19 f19 e20 f20 klm kok kmix
   have hm0:Ms[0]?=some (Ms[0]'(mok.pos)):=List.getElem?_eq_getElem mok.pos
   have mM0:=List.mem_of_getElem? hm0
   obtain ⟨vs0,wv0,ev0,_⟩:=pt.rows _ mM0
   obtain ⟨q0,p0,l0,w0,hq0,eq0,fp0,el0,fl0⟩:=me20.2 0 _ hm0
   refine ⟨(by show 2≤sizeLine;decide),fun o1 G21 s21 m21 e21=>?_⟩
   refine ⟨_,rfl,D3,mys,0,_,rfl,rfl,SqL.of (s21 _ _ e420),atI_nat (j:=0) hq0,q0,_,1,_,rfl,rfl,SqT.of (s21 _ _ eq0),rfl,(by show 2≤sizeLine;decide),fun pt1 G22 s22 m22 e22=>⟨(by show 1≤sizeLine;decide),fun L2 G23 s23 m23 e23=>?_⟩⟩
   have s2023:=s21.trans (s22.trans s23)
   have f11:Pw.F01 (1,1):=⟨Pw.canon11,by decide,by decide,sz_of 1 (by decide),sz_of 1 (by decide)⟩
   have ok1:Pw.MixOk [((1,1),(Ms[0]'(mok.pos)).2)] n vs0.sum:=⟨by show 1≤12;decide,by show 0<1;decide,n12,wv0.pos,(wv0.sz (by omega)).mono (by decide),fun M hM=>by rw [List.mem_singleton.mp hM];exact f11,fun M hM=>by rw [List.mem_singleton.mp hM];exact mok.len (Ms[0]'(mok.pos)) mM0,fun M hM=>by rw [List.mem_singleton.mp hM];exact mok.row (Ms[0]'(mok.pos)) mM0,fun M hM B hB=>by
    rw [List.mem_singleton.mp hM] at hB ⊢
    show (1:Int) * B.2∣_
    rw [Int.one_mul]
    rw [ev0] at hB
    exact lps_dvd wv0 B hB⟩
   have mx1:MixE K G23 [((1,1),(Ms[0]'(mok.pos)).2)] [.ref pt1]:=MixE.nil.snoc (M:=((1,1),(Ms[0]'(mok.pos)).2)) (s23 _ _ e22) (s23 _ _ (s22 _ _ e21)) (s2023 _ _ el0) (fl0.same s2023)
   refine ⟨L2,_,_,n,_,rfl,mx1.at e23,ok1,fun mt2 G24 ys24 s24 e24 f24=>?_⟩
   rw [Pw.mix_one (mok.len _ mM0) (fun B hB=>(mok.row _ mM0 B hB).c)] at f24
   have s2024:=s2023.trans s24
   refine ⟨_,rfl,D3,mys,0,_,rfl,rfl,SqL.of (s2024 _ _ e420),atI_nat (j:=0) hq0,q0,_,1,_,rfl,rfl,SqT.of (s2024 _ _ eq0),rfl,neTT (SqT.of e24) (SqT.of (s2024 _ _ el0)) f24 (fl0.same s2024) ⟨_,rfl,ifF rfl ?_⟩⟩
   refine ⟨_,rfl,D3,mys,rfl,.inl (SqL.of (s2024 _ _ e420)),fun L3 G25 s25 m25 e25=>?_⟩
   have s2025:=s2024.trans s25
   refine ⟨L3,Ms,mys,n,_,rfl,(me20.kl s2025.kl).at e25,mok,fun bo G26 bys s26 e26 f26=>?_⟩
   have s2026:=s2025.trans s26
   have h26:=h20.same s2026
   have K26:Kp d H G26:=K20.trans (Same.kpd s2026)
   have g26:=g20.same s2026
   have du26:=s2026 _ _ du20
   have fdu26:=fdu20.same s2026
   have hbl:=f26.len
   have lmx:(Pw.mixL Ms n).length=n:=Pw.mixL_len _ _
   refine ⟨_,rfl,bo,rfl,⟨_,SqT.of e26⟩,fun D6 hD6=>?_⟩
   refine comp_tup (K:=K) (a:=bo) (D:=D6) (xs:=bys) (fun i ys σ G=>Same G26 G∧G D6=some (.lst ys)∧ys=(((Pw.mixL Ms n).take i).map (·.2)).map V.int∧∃ x,σ=[x]) ?_ ?_ ?_ ?_
   · exact ⟨Same.new hD6,upd_same,rfl,none,rfl⟩
   · rintro i ys σ G ⟨s1,e1,_⟩
     exact ⟨SqT.of (s1 _ _ e26),e1⟩
   · rintro i z ys σ G hi hlt ⟨s1,e1,rfl,x',rfl⟩
     have hB:(Pw.mixL Ms n)[i]?=some ((Pw.mixL Ms n)[i]'(by omega)):=List.getElem?_eq_getElem (by omega)
     obtain ⟨q,eq,fq⟩:=f26.at hB
     rw [hi] at eq
     cases eq
     dsimp only [gName]
     rw [if_pos rfl]
     refine ⟨_,rfl,q,_,_,_,rfl,rfl,SqT.of (s1 _ _ fq),rfl,e1,?_,Wt.next hlt ⟨fun b o e=>?_,upd_same,?_,_,rfl⟩⟩
     · rw [List.length_map,List.length_map,List.length_take]
       exact small1000 (by omega)
     · rw [upd_ne (ne_of_none e hD6)];exact s1 _ _ e
     · rw [List.take_succ,hB,List.map_append,List.map_append];rfl
   rintro ys σ G27 ⟨s27',e27,rfl,_⟩
   rw [hbl,List.take_of_length_le (Nat.le_refl _)] at e27
   refine ⟨D6,(Pw.mixL Ms n).map (·.2),rfl,e27,fun z=>by
    rw [List.map_eq_nil_iff] at z
    rw [z] at lmx
    have:(0:Nat)=n:=lmx
    omega,fun m hm hmx=>?_⟩
   refine ⟨_,_,rfl,rfl,⟨by decide,by decide,by decide⟩,_,_,rfl,rfl,_,rfl,if2 (fun _=>k G27 (h26.same s27') (K26.trans (Same.kpd s27'))) (fun hF=>?_)⟩
   have hF:¬ (10:Int) ^ (15:Int).toNat<m:=of_decide_eq_false hF
   have fB:∀ B∈Pw.mixL Ms n,Pw.F01 B:=fun B hB=>by
    obtain ⟨c,lo,hi,_⟩:=each B hB
    have:=hmx B.2 (List.mem_map.mpr ⟨B,hB,rfl⟩)
    have:(10:Int) ^ (15:Int).toNat=1000000000000000:=by decide
    exact ⟨c,lo,hi,sz_of 60 (by omega),sz_of 60 (by omega)⟩
   have g27:=g26.same s27'
   have e27b:=s27' _ _ e26
   have f27b:=f26.same s27'
   have du27:=s27' _ _ du26
   have fdu27:=fdu26.same s27'
   have h27:=h26.same s27'
   have K27:Kp d H G27:=K26.trans (Same.kpd s27')
   have c13:Pw.F01 (1,3):=⟨⟨by decide,by decide⟩,by decide,by decide,sz_of 2 (by decide),sz_of 2 (by decide)⟩
   have c23:Pw.F01 (2,3):=⟨⟨by decide,by decide⟩,by decide,by decide,sz_of 2 (by decide),sz_of 2 (by decide)⟩
   refine ⟨(by show 2≤sizeLine;decide),fun x1 G28 s28 m28 e28=>⟨_,rfl,(by show 2≤sizeLine;decide),fun x2 G29 s29 m29 e29=>⟨(by show 2≤sizeLine;decide),fun x3 G30 s30 m30 e30=>?_⟩⟩⟩
   obtain ⟨wr27,e027⟩:=g27.at0
   have s2730:=s28.trans (s29.trans s30)
   refine ⟨_,rfl,wa,n,_,rfl,s2730 _ _ e027,n1,n12,fun ev3 G31 us31 s31 e31 f31=>⟨(by show 2≤sizeLine;decide),fun x4 G32 s32 m32 e32=>⟨(by show 2≤sizeLine;decide),fun La G33 s33 m33 e33=>?_⟩⟩⟩
   have s3033:=s31.trans (s32.trans s33)
   have s2733:=s2730.trans s3033
   have mx2:MixE K G33 [((1,3),Pw.mixL Ms n),((2,3),List.replicate n (1,(n:Int)))] [.ref x2,.ref x4]:=((MixE.nil.snoc (M:=((1,3),Pw.mixL Ms n)) (s3033 _ _ (s30 _ _ e29)) (s3033 _ _ (s30 _ _ (s29 _ _ e28))) (s2733 _ _ e27b) (f27b.same s2733)).snoc (M:=((2,3),List.replicate n (1,(n:Int)))) (s33 _ _ e32) (s3033 _ _ e30) (s33 _ _ (s32 _ _ e31)) (f31.same (s32.trans s33)))
   have mem2:∀ M∈[((1,3),Pw.mixL Ms n),(((2,3):Int×Int),List.replicate n ((1:Int),(n:Int)))],M=((1,3),Pw.mixL Ms n)∨M=((2,3),List.replicate n (1,(n:Int))):=fun M hM=>by
    rcases List.mem_cons.mp hM with h | h
    · exact .inl h
    · exact .inr (List.mem_singleton.mp h)
   have ef:∀ B∈List.replicate n ((1:Int),(n:Int)),Pw.F01 B∧B.2=(n:Int):=fun B hB=>by
    have hz:=esz B hB
    have hc:=ecan B hB
    rw [List.eq_of_mem_replicate hB] at hz hc ⊢
    exact ⟨⟨hc,by show (0:Int)≤1;decide,by show (1:Int)≤n;omega,hz.mono (by decide)⟩,rfl⟩
   have Dp:=mok.dpos
   have nz:Sz 4 (n:Int):=sz_of 4 (by omega)
   have ok2':Pw.MixOk [((1,3),Pw.mixL Ms n),((2,3),List.replicate n (1,(n:Int)))] n (3 * ((ws.sum * P) * (n:Int))):=⟨by show 2≤12;decide,by show 0<2;decide,n12,Int.mul_pos (by decide) (Int.mul_pos Dp (by omega)),((sz_of (k:=3) (m:=2) 2 (by decide)).mul (Dz.mul nz)).mono (by decide),fun M hM=>by
    rcases mem2 M hM with rfl | rfl
    · exact c13
    · exact c23,fun M hM=>by
    rcases mem2 M hM with rfl | rfl
    · exact lmx
    · exact elen,fun M hM B hB=>by
    rcases mem2 M hM with rfl | rfl
    · exact fB B hB
    · exact (ef B hB).1,fun M hM B hB=>by
    rcases mem2 M hM with rfl | rfl
    · exact Int.mul_dvd_mul (Int.dvd_refl 3) (Int.dvd_trans (each B hB).2.2.2.1 (Int.dvd_mul_right ..))
    · refine Int.mul_dvd_mul (Int.dvd_refl 3) ?_
      rw [(ef B hB).2]
      exact Int.dvd_mul_left ..⟩
   have p2one:Pw.qs 2 (fun i=>Pw.val ([((1,3),Pw.mixL Ms n),(((2,3):Int×Int),List.replicate n ((1:Int),(n:Int)))].getD i Pw.mxd).1)=1:=by
    show (0:Rat)+Pw.val (1,3)+Pw.val (2,3)=1
    unfold Pw.val
    show (0:Rat)+((1:Int):Rat) / ((3:Int):Rat)+((2:Int):Rat) / ((3:Int):Rat)=1
    rw [show ((1:Int):Rat)=1 from rfl,show ((2:Int):Rat)=2 from rfl,show ((3:Int):Rat)=3 from rfl]
    grind
   have one2:Pw.qs n (fun t=>Pw.mixQ [((1,3),Pw.mixL Ms n),((2,3),List.replicate n (1,(n:Int)))] t)=1:=by
    rw [Pw.mix_sum]
    · exact p2one
    · intro i hi
      have hi:i<2:=hi
      have h1:=mpr.one
      have h2:=epr.one
      rw [lmx] at h1
      rw [elen] at h2
      match i,hi with
      | 0,_=>exact h1
      | 1,_=>exact h2
   have pr2:=mixPr a0 a1 ok2' one2
   have each2:=ok2'.each one2
   have D2z:Sz 140 (3 * ((ws.sum * P) * (n:Int))):=((sz_of (k:=3) (m:=2) 2 (by decide)).mul (((s27.mul pt.sz).mono (show 5+(41 * Ms.length+1)≤130 by omega)).mul nz)).mono (by decide)
   have can2:Pw.Canons (Pw.mixL [((1,3),Pw.mixL Ms n),((2,3),List.replicate n (1,(n:Int)))] n):=fun R hR=>(each2 R hR).1
   have sz2:∀ B∈Pw.mixL [((1,3),Pw.mixL Ms n),((2,3),List.replicate n (1,(n:Int)))] n,Sz2 600 B:=fun B hB=>by
    obtain ⟨c,lo,hi,dv,_⟩:=each2 B hB
    have le:=Int.le_of_dvd ok2'.dpos dv
    have D2z':(3 * ((ws.sum * P) * (n:Int))).natAbs<2 ^ 140:=D2z
    have c1:=c.1
    generalize 3 * ((ws.sum * P) * (n:Int))=DD at le D2z'
    exact (show Sz2 140 B from ⟨(by show B.1.natAbs<2 ^ 140;omega),(by show B.2.natAbs<2 ^ 140;omega)⟩).mono (by decide)
   have g33:=g27.same s2733
   refine ⟨_,rfl,_,rfl,_,rfl,La,_,_,n,_,rfl,mx2.at e33,ok2',fun m34 G34 ys34 s34 e34 f34=>?_⟩
   refine ⟨wa,lp,m34,(n:Int),ps,A,_,ys34,_,140,rfl,(g33.same s34).gvS e34 f34.s can2 sz2 (Pw.mixL_len _ _),pr2,by omega,by decide,sa.mono (by decide),D2z,fun t35 G35 S35 V35 ys35 ok35 _ _ _ s35 e35 f35=>?_⟩
   rw [Int.toNat_natCast] at ok35
   have s2735:=s2733.trans (s34.trans s35)
   refine ⟨(by show 2≤sizeLine;decide),fun x5 G36 s36 m36 e36=>?_⟩
   have s2736:=s2735.trans s36
   refine ⟨_,rfl,_,rfl,_,rfl,wa,lp,bo,(n:Int),ps,A,_,bys,_,130,rfl,(g27.same s2736).gvS (s2736 _ _ e27b) (f27b.same s2736).s mcan msz lmx,mpr,by omega,by decide,sa.mono (by decide),(s27.mul pt.sz).mono (by omega),fun t37 G37 Sb V37 ys37 ok37 v370 v37z v37d s37 e37 f37=>?_⟩
   rw [Int.toNat_natCast] at ok37
   refine ⟨(by show 2≤sizeLine;decide),fun x6 G38 s38 m38 e38=>⟨(by show 2≤sizeLine;decide),fun x7 G39 s39 m39 e39=>⟨_,rfl,(by show 2≤sizeLine;decide),fun x8 G40 s40 m40 e40=>⟨(by show 2≤sizeLine;decide),fun Lb G41 s41 m41 e41=>?_⟩⟩⟩⟩
   have s3741:=s38.trans (s39.trans (s40.trans s41))
   have s3641:=s37.trans s3741
   have s2741:=s2736.trans s3641
   have mx3:MixE K G41 [((1,3),Sb),((2,3),R2)] [.ref x6,.ref x8]:=((MixE.nil.snoc (M:=((1,3),Sb)) (s41 _ _ (s40 _ _ (s39 _ _ e38))) (s3641 _ _ e36) (s3741 _ _ e37) (f37.same s3741)).snoc (M:=((2,3),R2)) (s41 _ _ e40) (s41 _ _ (s40 _ _ e39)) (s2741 _ _ du27) (fdu27.same s2741))
   have mixd2:Pw.Mixd ps A n [((1,3),Pw.mixL Ms n),((2,3),List.replicate n (1,(n:Int)))] [((1,3),Sb),((2,3),R2)]:=⟨rfl,fun i hi=>by
    have hi:i<2:=hi
    match i,hi with
    | 0,_=>rfl
    | 1,_=>rfl,fun i hi=>by
    have hi:i<2:=hi
    match i,hi with
    | 0,_=>exact Pw.val_nn c13.c.1 c13.lo
    | 1,_=>exact Pw.val_nn c23.c.1 c23.lo,fun i hi=>by
    have hi:i<2:=hi
    match i,hi with
    | 0,_=>exact ok37
    | 1,_=>exact ok13,fun i hi=>by
    have hi:i<2:=hi
    match i,hi with
    | 0,_=>exact mcan
    | 1,_=>exact ecan,fun i hi=>by
    have hi:i<2:=hi
    match i,hi with
    | 0,_=>exact lmx
    | 1,_=>exact elen⟩
   have prt2:∀ i,i<[((1,3),Pw.mixL Ms n),(((2,3):Int×Int),List.replicate n ((1:Int),(n:Int)))].length→Pw.F01 ([((1,3),Pw.mixL Ms n),(((2,3):Int×Int),List.replicate n ((1:Int),(n:Int)))].getD i Pw.mxd).1:=fun i hi=>by
    have hi:i<2:=hi
    match i,hi with
    | 0,_=>exact c13
    | 1,_=>exact c23
   have row2:∀ i,i<[((1,3),Pw.mixL Ms n),(((2,3):Int×Int),List.replicate n ((1:Int),(n:Int)))].length→∃ V':Int,0<V'∧Sz 1853 V'∧∀ S∈([(((1,3):Int×Int),Sb),((2,3),R2)].getD i Pw.mxd).2,S.2∣V':=fun i hi=>by
    have hi:i<2:=hi
    match i,hi with
    | 0,_=>exact ⟨V37,v370,v37z,v37d⟩
    | 1,_=>exact ⟨V13,v130,v13z.mono (by decide),v13d⟩
   have lm2:LMix [((1,3),Sb),((2,3),R2)] n:=lmix_of (b:=0) mixd2 p2one (by show 0<2;decide) (by show 2≤12;decide) n12 (fun i hi=>⟨(prt2 i hi).c,(prt2 i hi).sz⟩) (fun i hi=>by
    obtain ⟨V',v0,vz,vd⟩:=row2 i hi
    exact ⟨V',v0,vz.mono (by decide),vd⟩) fun i hi=>by
     obtain ⟨D,c,s⟩:=cd_of (a:=100) (b:=1853) mixd2 (fun i hi=>⟨(prt2 i hi).c.1,(prt2 i hi).sz.2⟩) row2 i hi
     have hi:i≤2:=hi
     exact ⟨D,c,s.mono (by omega)⟩
   obtain rfl:S35=Pw.mixL [((1,3),Sb),((2,3),R2)] n:=Pw.ShOk.unique lk2 ca can2 (Pw.mixL_len _ _) pr2 ok35 (mixd2.ok all ca p2one)
   refine ⟨Lb,_,_,n,rfl,mx3.at e41,lm2,fun t42 G42 ys42 s42 e42 f42=>?_⟩
   have s3542:=s36.trans (s3641.trans s42)
   have s2742:=s2741.trans s42
   exact eqTT (SqT.of (s3542 _ _ e35)) (SqT.of e42) (f35.same s3542) f42 (k G42 (h27.same s2742) (K27.trans (Same.kpd s2742)))
end
end Lw
set_option pp.maxSteps 800
namespace Lw
open PySem L2 PyProof.Rows
section
variable {P:Program} {w:World} {K:PySem.W.Frag} {mg:Str→Option Value} {base:Heap}
theorem scLaw:FnScope ["script","draws","many","web"] ["script"] (defScope sLaw):=⟨rfl,rfl,rfl,by decide +kernel,rfl,by decide +kernel,by decide +kernel⟩
set_option maxHeartbeats 0 in
theorem ok_law {f:Addr} {fd:FuncData} (F:Fun K "law" "law" sLaw f fd) (T:Txt mg) (Dr:Def P w K mg base 1 "_law_draws" ["script"] (spDraws K)) (Wb:Def P w K mg base 2 "_law_web" ["draws"] (spWebD K)) (Lk:Def P w K mg base 2 "_law_linked" ["draws","web"] (spLinked40 K)) (Al:Def P w K mg base 1 "_law_all_linked" ["web"] (spAllL K)) (Ri:Def P w K mg base 9 "_law_right" ["draws","web","leap"] (spRight40 K)) (Lq:Def P w K mg base 2 "_law_leap" ["draws"] (spLeapD K)):FnOk P w K mg base CX0 10 f fd ["script"] (spLaw K):=by
 have nd:=scLaw.nd
 refine F.ok scLaw (fun vs H Q E h=>?_) (fun cdv A' outer s H vs Q E hr h=>?_)
 · obtain ⟨_,_,rfl,_⟩:=h
   rfl
 · obtain ⟨a,ns,rfl,hS,hlen,k⟩:=h
   refine ⟨_,(@pss_cons _ _ _ _ _ (@ps_setX _ _ 1 _ _ _ _ (by rfl) (Or.inl rfl) nd rfl (Or.inl rfl) (pe_def (by rfl) (by rfl) (by rfl) (by decide) Dr (hr.mono (by decide)) (@pa_consX _ _ _ _ _ (by rfl) (pv 0) pa_nil)))
    (@pss_cons _ _ _ _ _ (@ps_setX _ _ 2 _ _ _ _ (by rfl) (Or.inl rfl) nd rfl (Or.inl rfl) pe_int)
    (@pss_cons _ _ _ _ _ (ps_while PassesOwn.never (PW.pt (pw_or (pt_cmpR op_lt (pv 2) pe_int (nomark _)) (pw_or1 (PW.pt (pw_and (pt_cmpR (op_neNil hr) (pv 1) (@pe_lstS _ _ _ _ pa_nil) (nomark _)) (pw_and1 (pt_cmpR op_lt (pv 2) pe_int (nomark _))))))))
     (@pss_cons _ _ _ _ _ (@ps_setX _ _ 3 _ _ _ _ (by rfl) (Or.inl rfl) nd rfl (Or.inl rfl) (pe_def (by rfl) (by rfl) (by rfl) (by decide) Lk (hr.mono (by decide)) (@pa_consX _ _ _ _ _ (by rfl) (pv 1) (@pa_consX _ _ _ _ _ (by rfl) (pe_def (by rfl) (by rfl) (by rfl) (by decide) Wb (hr.mono (by decide)) (@pa_consX _ _ _ _ _ (by rfl) (pv 1) pa_nil)) pa_nil))))
    (@pss_cons _ _ _ _ _ (@ps_if _ _ _ _ _ _ _ _ (PW.pt (pw_and (pt_val (pe_def (by rfl) (by rfl) (by rfl) (by decide) Al (hr.mono (by decide)) (@pa_consX _ _ _ _ _ (by rfl) (pv 3) pa_nil))) (pw_and1 (pt_not (pt_val (pe_def (by rfl) (by rfl) (by rfl) (by decide) Ri (hr.mono (by decide)) (@pa_consX _ _ _ _ _ (by rfl) (pv 1) (@pa_consX _ _ _ _ _ (by rfl) (pv 3) (@pa_consX _ _ _ _ _ (by rfl) (pe_def (by rfl) (by rfl) (by rfl) (by decide) Lq (hr.mono (by decide)) (@pa_consX _ _ _ _ _ (by rfl) (pv 1) pa_nil)) pa_nil)))))))))
     (@pss_one _ _ _ (@ps_ret _ _ _ _ pe_bl))
     pss_nil)
    (@pss_one _ _ _ (@ps_setX _ _ 2 _ _ _ _ (by rfl) (Or.inl rfl) nd rfl (Or.inl rfl) (pe_op op_add (pv 2) pe_int))))))
    (@pss_one _ _ _ (@ps_ret _ _ _ _ pe_bl))))),?_⟩
   refine ⟨_,rfl,a,ns,rfl,hS,hlen,fun d H1 s1 hd0 hd=>?_⟩
   refine while_in (fun σ G=>DrawsAt G d∧∃ (m:Int) (v3:Option V),0≤m∧σ=[some (.ref a),some (.ref d),some (.int m),v3])
    (fun σ _=>match σ with | [_,_,some (.int m),_]=>(3 - m).toNat | _=>0) ⟨hd,0,none,by decide,rfl⟩ ?_
   rintro σ G ⟨hG,mm,v3,mm0,rfl⟩
   refine wtest (d:=d) (m:=mm) rfl rfl hG (by decide) (fun hm G0 t0=>ifT rfl ⟨_,wN,?_⟩) (fun G0 t0=>ifF rfl (k _))
   have h0:=hG.same t0
   refine ⟨_,rfl,_,rfl,d,rfl,h0,fun w0 G1 pages ps0 ok hw h1 k1=>?_⟩
   have plo:=ok.lo
   have phi:=ok.hi
   obtain ⟨n,rfl⟩:∃ n:Nat,pages=(n:Int):=⟨pages.toNat,by omega⟩
   refine ⟨d,w0,n,ps0,rfl,h1,hw,ok,fun wa G2 ps hw2 few lk h2 k2=>?_⟩
   refine ⟨_,rfl,wa,n,ps,rfl,hw2,few,fun p hp=>⟨(lk p hp).1,(lk p hp).2.1⟩,fun b G3 hb s3=>⟨_,rfl,if2 (fun hb1=>?_) (fun _=>?_)⟩⟩
   · have all:=hb hb1
     have h3:=h2.same s3
     refine ⟨_,rfl,_,rfl,_,rfl,d,rfl,h3,fun lp G4 A ca a0 a1 sa h4 fA k4=>?_⟩
     refine ⟨d,wa,lp,n,ps,A,rfl,h4,(hw2.same s3).kl (h3.kl k4),by omega,by omega,few,lk,all,fA,ca,a0,a1,sa,fun G5 h5 k5=>⟨_,rfl,ifF rfl ?_⟩⟩
     refine ⟨_,rfl,_,_,rfl,rfl,⟨h5,_,_,by omega,rfl⟩,?_⟩
     show (3 - (mm+1)).toNat<(3 - mm).toNat
     omega
   · refine ifF rfl ⟨_,rfl,_,_,rfl,rfl,⟨h2.same s3,_,_,by omega,rfl⟩,?_⟩
     show (3 - (mm+1)).toNat<(3 - mm).toNat
     omega
end
end Lw
namespace Lw
open PySem L2 PyProof.Rows
set_option maxHeartbeats 0 in
theorem all_mk {l:PySem.W.OpenLaw} {w:World} {K:PySem.W.Frag} {h:Heap} {mg:Str→Option Value} {fa f49 zZERO:Addr} (XK:K.In h) (G:h.Ns mainGlobals mg) (hfa:mg "law"=some (.ref fa))
 {odZERO:Option Addr} {slZERO:Array (Option Value)} {nZERO:Nat} {tZERO uZERO:Tok}
 {od an:Option Addr} {sl:Array (Option Value)} {oc kV dc pm cd ct:Value}
 (aZERO:PySem.W.nsIn K mainGlobals "ZERO"=some (some (.ref zZERO))) (lZERO:K.lookup zZERO=some ⟨.type "tuple",odZERO,.seq #[.int 0 tZERO,.int 1 uZERO] nZERO,slZERO⟩)
 (A5:FnAt K "common" sCommon)
 (A6:FnAt K "made" sMade)
 (A7:FnAt K "plus" sPlus)
 (A8:FnAt K "times" sTimes)
 (A9:FnAt K "total" sTotal)
 (A10:FnAt K "shared_below" sBelow)
 (A11:FnAt K "aboves" sAboves)
 (A13:FnAt K "cleared" sCleared)
 (A14:FnAt K "solved" sSolved)
 (A16:FnAt K "leads" sLeads)
 (A17:FnAt K "even" sEven)
 (A19:FnAt K "parts" sParts)
 (A20:FnAt K "factor" sFactor)
 (A21:FnAt K "equation" sEquation)
 (A22:FnAt K "visits" sVisits)
 (A23:FnAt K "shares" sShares)
 (A25:FnAt K "leaps_of" s_leaps_of)
 (A26:FnAt K "mixed" s_mixed)
 (A27:FnAt K "by_kinds" s_by_kinds)
 (A29:FnAt K "_law_draws" s_law_draws)
 (A30:FnAt K "_law_take" s_law_take)
 (A31:FnAt K "_law_fraction" s_law_fraction)
 (A32:FnAt K "_law_sum" s_law_sum)
 (A34:FnAt K "_law_product" s_law_product)
 (A38:FnAt K "_law_web" sWeb)
 (A39:FnAt K "_law_leap" sLLeap)
 (A40:FnAt K "_law_leaps" sLLeaps)
 (A44:FnAt K "_law_kinds" s_law_kinds)
 (A45:FnAt K "_law_linked" s_law_linked)
 (A46:FnAt K "_law_all_linked" s_law_all_linked)
 (A47:FnAt K "_law_mix" s_law_mix)
 (A48:FnAt K "_law_right" sRight)
 (aL:PySem.W.nsIn K mainGlobals "law"=some (some (.ref f49))) (lL:K.lookup f49=some ⟨oc,od,.func (PySem.W.fnOf "law" "law" (defArgs sLaw) (defBody sLaw) (defScope sLaw) .none kV dc pm an cd ct),sl⟩) (cL:PySem.W.codeIn K cd "law"=true) (kL:PySem.W.keepIn K (.ref f49)=true)
 (zabs:PySem.W.nsIn K mainGlobals "abs"=some none)
 (zisi:PySem.W.nsIn K mainGlobals "isinstance"=some none)
 (ztup:PySem.W.nsIn K mainGlobals "tuple"=some none)
 (zint:PySem.W.nsIn K mainGlobals "int"=some none)
 (zbool:PySem.W.nsIn K mainGlobals "bool"=some none)
 (zlst:PySem.W.nsIn K mainGlobals "list"=some none)
 (zenu:PySem.W.nsIn K mainGlobals "enumerate"=some none)
 (zlen:PySem.W.nsIn K mainGlobals "len"=some none)
 (zrange:PySem.W.nsIn K mainGlobals "range"=some none)
 (zsrt:PySem.W.nsIn K mainGlobals "sorted"=some none)
 (zsum:PySem.W.nsIn K mainGlobals "sum"=some none)
 (zzip:PySem.W.nsIn K mainGlobals "zip"=some none)
 (zmax:PySem.W.nsIn K mainGlobals "max"=some none)
 (zmin:PySem.W.nsIn K mainGlobals "min"=some none)
 (zset:PySem.W.nsIn K mainGlobals "set"=some none)
 (zstr:PySem.W.nsIn K mainGlobals "str"=some none)
:∃ fd:FuncData,(∀ (s:Shared) (v:Value),BindsTo s fd ⟨[v],[]⟩ [("script",v)])∧∀ base:Heap,K.In base→base.Ns mainGlobals mg→FnOk l.prog w K mg base CX0 10 fa fd ["script"] (spLaw K):=by
 have e:=hfa.symm.trans (PySem.W.mg_of XK G aL)
 cases e
 have F49:=fun_mk (st:=sLaw) lL cL kL
 have nCommon:=A5.fnd ["one","other"] XK G fun _ _ _ _ _ _ us hl=>match us,hl with | [_,_],_=>rfl
 have nMade:=A6.fnd ["above","below"] XK G fun _ _ _ _ _ _ us hl=>match us,hl with | [_,_],_=>rfl
 have nPlus:=A7.fnd ["one","other"] XK G fun _ _ _ _ _ _ us hl=>match us,hl with | [_,_],_=>rfl
 have nTimes:=A8.fnd ["one","other"] XK G fun _ _ _ _ _ _ us hl=>match us,hl with | [_,_],_=>rfl
 have nTotal:=A9.fnd ["some"] XK G fun _ _ _ _ _ _ us hl=>match us,hl with | [_],_=>rfl
 have nBelow:=A10.fnd ["some"] XK G fun _ _ _ _ _ _ us hl=>match us,hl with | [_],_=>rfl
 have nAboves:=A11.fnd ["some","below"] XK G fun _ _ _ _ _ _ us hl=>match us,hl with | [_,_],_=>rfl
 have nCleared:=A13.fnd ["equation","chosen","place","before"] XK G fun _ _ _ _ _ _ us hl=>match us,hl with | [_,_,_,_],_=>rfl
 have nSolved:=A14.fnd ["equations"] XK G fun _ _ _ _ _ _ us hl=>match us,hl with | [_],_=>rfl
 have nLeads:=A16.fnd ["web","page"] XK G fun _ _ _ _ _ _ us hl=>match us,hl with | [_,_],_=>rfl
 have nEven:=A17.fnd ["web"] XK G fun _ _ _ _ _ _ us hl=>match us,hl with | [_],_=>rfl
 have nParts:=A19.fnd ["web","page"] XK G fun _ _ _ _ _ _ us hl=>match us,hl with | [_,_],_=>rfl
 have nFactor:=A20.fnd ["web","leap","here","there"] XK G fun _ _ _ _ _ _ us hl=>match us,hl with | [_,_,_,_],_=>rfl
 have nEquation:=A21.fnd ["web","leap","page","start"] XK G fun _ _ _ _ _ _ us hl=>match us,hl with | [_,_,_,_],_=>rfl
 have nVisits:=A22.fnd ["web","leap","leaps"] XK G fun _ _ _ _ _ _ us hl=>match us,hl with | [_,_,_],_=>rfl
 have nShares:=A23.fnd ["web","leap","leaps"] XK G fun _ _ _ _ _ _ us hl=>match us,hl with | [_,_,_],_=>rfl
 have n_leaps_of:=A25.fnd ["kinds","letter"] XK G fun _ _ _ _ _ _ us hl=>match us,hl with | [_,_],_=>rfl
 have n_mixed:=A26.fnd ["some"] XK G fun _ _ _ _ _ _ us hl=>match us,hl with | [_],_=>rfl
 have n_by_kinds:=A27.fnd ["web","leap","kinds"] XK G fun _ _ _ _ _ _ us hl=>match us,hl with | [_,_,_],_=>rfl
 have n_law_draws:=A29.fnd ["script"] XK G fun _ _ _ _ _ _ us hl=>match us,hl with | [_],_=>rfl
 have n_law_take:=A30.fnd ["draws","many"] XK G fun _ _ _ _ _ _ us hl=>match us,hl with | [_,_],_=>rfl
 have n_law_fraction:=A31.fnd ["above","below"] XK G fun _ _ _ _ _ _ us hl=>match us,hl with | [_,_],_=>rfl
 have n_law_sum:=A32.fnd ["one","other"] XK G fun _ _ _ _ _ _ us hl=>match us,hl with | [_,_],_=>rfl
 have n_law_product:=A34.fnd ["one","other"] XK G fun _ _ _ _ _ _ us hl=>match us,hl with | [_,_],_=>rfl
 have nWeb:=A38.fnd ["draws"] XK G fun _ _ _ _ _ _ us hl=>match us,hl with | [_],_=>rfl
 have nLLeap:=A39.fnd ["draws"] XK G fun _ _ _ _ _ _ us hl=>match us,hl with | [_],_=>rfl
 have nLLeaps:=A40.fnd ["draws","many"] XK G fun _ _ _ _ _ _ us hl=>match us,hl with | [_,_],_=>rfl
 have n_law_kinds:=A44.fnd ["draws","many"] XK G fun _ _ _ _ _ _ us hl=>match us,hl with | [_,_],_=>rfl
 have n_law_linked:=A45.fnd ["draws","web"] XK G fun _ _ _ _ _ _ us hl=>match us,hl with | [_,_],_=>rfl
 have n_law_all_linked:=A46.fnd ["web"] XK G fun _ _ _ _ _ _ us hl=>match us,hl with | [_],_=>rfl
 have n_law_mix:=A47.fnd ["some"] XK G fun _ _ _ _ _ _ us hl=>match us,hl with | [_],_=>rfl
 have nRight:=A48.fnd ["draws","web","leap"] XK G fun _ _ _ _ _ _ us hl=>match us,hl with | [_,_,_],_=>rfl
 have T:Txt mg:=⟨PySem.W.mg_none_of XK G zabs,PySem.W.mg_none_of XK G zisi,PySem.W.mg_none_of XK G ztup,PySem.W.mg_none_of XK G zint,PySem.W.mg_none_of XK G zbool,PySem.W.mg_none_of XK G zlst,PySem.W.mg_none_of XK G zenu,PySem.W.mg_none_of XK G zlen,PySem.W.mg_none_of XK G zrange,PySem.W.mg_none_of XK G zsrt,PySem.W.mg_none_of XK G zsum,PySem.W.mg_none_of XK G zzip,PySem.W.mg_none_of XK G zmax⟩
 have zmin:=PySem.W.mg_none_of XK G zmin
 have zset:=PySem.W.mg_none_of XK G zset
 have zstr:=PySem.W.mg_none_of XK G zstr
 have hZERO:∀ H,SqF K H zZERO (0,1):=fun H=>.inr ⟨_,_,_,lZERO,rfl,rfl,(by show 2≤sizeLine;decide),.cons ⟨_,rfl⟩ (.cons ⟨_,rfl⟩ .nil)⟩
 have mZERO:=PySem.W.mg_of XK G aZERO
 refine ⟨PySem.W.fnOf "law" "law" (defArgs sLaw) (defBody sLaw) (defScope sLaw) .none kV dc pm an cd ct,fun s v=>.of_eq rfl,fun base _ _=>?_⟩
 · skip
   have dTk:Def l.prog w K mg base 1 "_law_take" ["draws","many"] spTake:=d_law_take n_law_take T
   have dFr9:Def l.prog w K mg base 1 "_law_fraction" ["above","below"] spMade9:=d_law_fraction n_law_fraction T
   have dFr:=made9 dFr9
   have dDr:Def l.prog w K mg base 1 "_law_draws" ["script"] (spDraws K):=d_law_draws n_law_draws T zmin
   have dLuH:=d_law_sum n_law_sum dFr9
   have dLpH:=d_law_product n_law_product dFr9
   have dLu:=f2H dLuH
   have dLp:=f2H dLpH
   have dM:Def l.prog w K mg base 2 "made" ["above","below"] spMadeS:=d_made nMade nCommon T
   have dCo:Def l.prog w K mg base 1 "common" ["one","other"] spCommon:=d_common nCommon
   have dBe:=d_below nBelow dCo
   have dAb:Def l.prog w K mg base 1 "aboves" ["some","below"] (spAbovesS K):=d_aboves nAboves
   have dLd:Def l.prog w K mg base 1 "leads" ["web","page"] (spLinks K Pw.outs):=d_leads nLeads
   have dPa:=d_parts nParts T dLd
   have dFa:=d_factor nFactor T dPa
   have dEq:=d_equation nEquation T dFa
   have dCl:Def l.prog w K mg base 1 "cleared" ["equation","chosen","place","before"] (spCleared K):=d_cleared nCleared T
   have dSo:=d_solved nSolved T dCl
   have dVi:=d_visits nVisits T dAb dBe dSo dEq dPa
   have dSh:=d_shares nShares T dVi dM
   have dLo:=d_leaps_of n_leaps_of T mZERO hZERO zstr dM
   have dBk:=d_by_kinds n_by_kinds T zset dSh dLo
   have dKi:=d_law_kinds n_law_kinds T dTk
   have dWe:=d_law_web nWeb T dTk
   have dLq:=d_law_leap nLLeap T dTk dFr
   have dLs:=d_law_leaps nLLeaps T dTk dFr
   have dPl:=d_plus nPlus dM
   have dTi:=d_times nTimes dM
   have dTo:=d_total nTotal T mZERO hZERO dPl
   have dMi:=d_mixed n_mixed T dTo dTi
   have dEv:=d_even nEven T dM
   have dLk:=d_law_linked n_law_linked T dTk
   have dAl:Def l.prog w K mg base 1 "_law_all_linked" ["web"] (spAllL K):=d_law_all_linked n_law_all_linked T zset
   have dMx:=d_law_mix n_law_mix T dLuH dLpH
   have dRi:=d_law_right nRight T dTk dFr9 dLs dSh dMi dMx dKi dBk dEv dLo
   exact ok_law F49 T dDr dWe dLk dAl dRi dLq
theorem walk {l:PySem.W.OpenLaw} {q:Program} {loose:List Str} {XP:(Str→Option Value)→Heap→Prop} {YP:World→Heap→Prop} {d:DefRec} {K:Params→PySem.W.Frag} (hn:l.most=some 63) (hdf:d.params.defaults=[])
 (hY:∀ (w:World) (h:Heap),YP w h→(K w.params).In h)
 (F:∀ (w:World) (mg:Str→Option Value) (fa:Addr) (h:Heap),(K w.params).In h→h.Ns mainGlobals mg→mg d.name=some (.ref fa) →
  ∃ fd:FuncData,(∀ (s:Shared) (u:Value),BindsTo s fd ⟨[u],[]⟩ [("script",u)])∧∀ base:Heap,(K w.params).In base→base.Ns mainGlobals mg→FnOk l.prog w (K w.params) mg base CX0 10 fa fd ["script"] (spLaw (K w.params))) :
 PySem.W.WalkO q loose XP YP l.row.toRowW d [] (fun f vs=>PySem.call f vs) :=
 L2.walk_of (n:=63) (k:=10) (x:="script") (CX:=fun _=>CX0) (sp:=fun w=>spLaw (K w.params)) hn (by decide) hdf ⟨rfl,by decide,by decide,rfl⟩ hY F (fun _ _ a ns hl _ hS=>⟨a,ns,rfl,hS,hl,fun _=>rfl⟩) fun _ _ _ _ _ z=>z
end Lw
def PySem.W.Fast.tw17522529175376264167:Unit:=()
def PySem.W.Fast.tw4646912959397355224:Unit:=()
def PySem.W.Fast.tw14177202677195098641:Unit:=()
def PySem.W.Fast.tw16183944153307713501:Unit:=()
def PySem.W.Fast.tw5798597861071365779:Unit:=()
def PySem.W.Fast.tw15153080298589140559:Unit:=()
def PySem.W.Fast.tw3394041784764095862:Unit:=()
def PySem.W.Fast.tw10085996927466776916:Unit:=()
def PySem.W.Fast.tw15037509794691981265:Unit:=()
def PySem.W.Fast.tw18050772679276351687:Unit:=()
def PySem.W.Fast.tw8616813934595901224:Unit:=()
def PySem.W.Fast.tw7885307165956583341:Unit:=()
def PySem.W.Fast.tw11938904132488825079:Unit:=()
def PySem.W.Fast.tw6906789238987786396:Unit:=()
def PySem.W.Fast.tw16948947871281839256:Unit:=()
def PySem.W.Fast.tw11360337377789051462:Unit:=()
def PySem.W.Fast.tw2696093065533763459:Unit:=()
def PySem.W.Fast.tw13004804550625031531:Unit:=()
def PySem.W.Fast.tw9760068654977375431:Unit:=()
def PySem.W.Fast.tw266288359751800768:Unit:=()
def PySem.W.Fast.tw9170928409732303808:Unit:=()
def PySem.W.Fast.tw9923892172458103435:Unit:=()
def PySem.W.Fast.tw522703183177508371:Unit:=()
open PySem PySem.W PyProof.Rows
set_option maxRecDepth 100000 in
set_option maxHeartbeats 0 in
theorem PySem.Challenge.cw_pagewalks_k40_whole_mixed_shares_holds : PySem.Challenge.rw_pagewalks_k40_whole_mixed_shares.Holds := by
 w_on;o_law;k_head;(case hw=>w_witness2)
 k_fill
 refine Lw.walk (l:=PySem.Challenge.rw_pagewalks_k40_whole_mixed_shares) rfl rfl (fun w h Y=>PySem.W.kIn_of Y) ?F
 case F =>
  intro w mg fa h KX G hmg
  refine' Lw.all_mk KX G hmg ?aZERO ?lZERO ?A5 ?A6 ?A7 ?A8 ?A9 ?A10 ?A11 ?A13 ?A14 ?A16 ?A17 ?A19 ?A20 ?A21 ?A22 ?A23 ?A25 ?A26 ?A27 ?A29 ?A30 ?A31 ?A32 ?A34 ?A38 ?A39 ?A40 ?A44 ?A45 ?A46 ?A47 ?A48 ?aL ?lL ?cL ?kL ?zabs ?zisi ?ztup ?zint ?zbool ?zlst ?zenu ?zlen ?zrange ?zsrt ?zsum ?zzip ?zmax ?zmin ?zset ?zstr
  (case aZERO=>k_is)
  (case lZERO=>k_is)
  (case A5=>refine' L2.FnAt.of ?a ?l ?c ?k;(case a=>k_is);(case l=>k_is);(case c=>k_is);(case k=>k_is))
  (case A6=>refine' L2.FnAt.of ?a ?l ?c ?k;(case a=>k_is);(case l=>k_is);(case c=>k_is);(case k=>k_is))
  (case A7=>refine' L2.FnAt.of ?a ?l ?c ?k;(case a=>k_is);(case l=>k_is);(case c=>k_is);(case k=>k_is))
  (case A8=>refine' L2.FnAt.of ?a ?l ?c ?k;(case a=>k_is);(case l=>k_is);(case c=>k_is);(case k=>k_is))
  (case A9=>refine' L2.FnAt.of ?a ?l ?c ?k;(case a=>k_is);(case l=>k_is);(case c=>k_is);(case k=>k_is))
  (case A10=>refine' L2.FnAt.of ?a ?l ?c ?k;(case a=>k_is);(case l=>k_is);(case c=>k_is);(case k=>k_is))
  (case A11=>refine' L2.FnAt.of ?a ?l ?c ?k;(case a=>k_is);(case l=>k_is);(case c=>k_is);(case k=>k_is))
  (case A13=>refine' L2.FnAt.of ?a ?l ?c ?k;(case a=>k_is);(case l=>k_is);(case c=>k_is);(case k=>k_is))
  (case A14=>refine' L2.FnAt.of ?a ?l ?c ?k;(case a=>k_is);(case l=>k_is);(case c=>k_is);(case k=>k_is))
  (case A16=>refine' L2.FnAt.of ?a ?l ?c ?k;(case a=>k_is);(case l=>k_is);(case c=>k_is);(case k=>k_is))
  (case A17=>refine' L2.FnAt.of ?a ?l ?c ?k;(case a=>k_is);(case l=>k_is);(case c=>k_is);(case k=>k_is))
  (case A19=>refine' L2.FnAt.of ?a ?l ?c ?k;(case a=>k_is);(case l=>k_is);(case c=>k_is);(case k=>k_is))
  (case A20=>refine' L2.FnAt.of ?a ?l ?c ?k;(case a=>k_is);(case l=>k_is);(case c=>k_is);(case k=>k_is))
  (case A21=>refine' L2.FnAt.of ?a ?l ?c ?k;(case a=>k_is);(case l=>k_is);(case c=>k_is);(case k=>k_is))
  (case A22=>refine' L2.FnAt.of ?a ?l ?c ?k;(case a=>k_is);(case l=>k_is);(case c=>k_is);(case k=>k_is))
  (case A23=>refine' L2.FnAt.of ?a ?l ?c ?k;(case a=>k_is);(case l=>k_is);(case c=>k_is);(case k=>k_is))
  (case A25=>refine' L2.FnAt.of ?a ?l ?c ?k;(case a=>k_is);(case l=>k_is);(case c=>k_is);(case k=>k_is))
  (case A26=>refine' L2.FnAt.of ?a ?l ?c ?k;(case a=>k_is);(case l=>k_is);(case c=>k_is);(case k=>k_is))
  (case A27=>refine' L2.FnAt.of ?a ?l ?c ?k;(case a=>k_is);(case l=>k_is);(case c=>k_is);(case k=>k_is))
  (case A29=>refine' L2.FnAt.of ?a ?l ?c ?k;(case a=>k_is);(case l=>k_is);(case c=>k_is);(case k=>k_is))
  (case A30=>refine' L2.FnAt.of ?a ?l ?c ?k;(case a=>k_is);(case l=>k_is);(case c=>k_is);(case k=>k_is))
  (case A31=>refine' L2.FnAt.of ?a ?l ?c ?k;(case a=>k_is);(case l=>k_is);(case c=>k_is);(case k=>k_is))
  (case A32=>refine' L2.FnAt.of ?a ?l ?c ?k;(case a=>k_is);(case l=>k_is);(case c=>k_is);(case k=>k_is))
  (case A34=>refine' L2.FnAt.of ?a ?l ?c ?k;(case a=>k_is);(case l=>k_is);(case c=>k_is);(case k=>k_is))
  (case A38=>refine' L2.FnAt.of ?a ?l ?c ?k;(case a=>k_is);(case l=>k_is);(case c=>k_is);(case k=>k_is))
  (case A39=>refine' L2.FnAt.of ?a ?l ?c ?k;(case a=>k_is);(case l=>k_is);(case c=>k_is);(case k=>k_is))
  (case A40=>refine' L2.FnAt.of ?a ?l ?c ?k;(case a=>k_is);(case l=>k_is);(case c=>k_is);(case k=>k_is))
  (case A44=>refine' L2.FnAt.of ?a ?l ?c ?k;(case a=>k_is);(case l=>k_is);(case c=>k_is);(case k=>k_is))
  (case A45=>refine' L2.FnAt.of ?a ?l ?c ?k;(case a=>k_is);(case l=>k_is);(case c=>k_is);(case k=>k_is))
  (case A46=>refine' L2.FnAt.of ?a ?l ?c ?k;(case a=>k_is);(case l=>k_is);(case c=>k_is);(case k=>k_is))
  (case A47=>refine' L2.FnAt.of ?a ?l ?c ?k;(case a=>k_is);(case l=>k_is);(case c=>k_is);(case k=>k_is))
  (case A48=>refine' L2.FnAt.of ?a ?l ?c ?k;(case a=>k_is);(case l=>k_is);(case c=>k_is);(case k=>k_is))
  (case aL=>k_is)
  (case lL=>k_is)
  (case cL=>k_is)
  (case kL=>k_is)
  (case zabs=>k_is)
  (case zisi=>k_is)
  (case ztup=>k_is)
  (case zint=>k_is)
  (case zbool=>k_is)
  (case zlst=>k_is)
  (case zenu=>k_is)
  (case zlen=>k_is)
  (case zrange=>k_is)
  (case zsrt=>k_is)
  (case zsum=>k_is)
  (case zzip=>k_is)
  (case zmax=>k_is)
  (case zmin=>k_is)
  (case zset=>k_is)
  (case zstr=>k_is)

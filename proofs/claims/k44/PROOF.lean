import PyProof.Rows.All
import Wide.All
import OpenK.AllK
import Wide.FinOn
import Lean
import PyProof.EqAt
import PyProof.EqKinds
import PyProof.TupleCall
import PyProof.NeKinds
import PyProof.EnumMake
import PyProof.Draws
import PyProof.ListNew
import PyProof.Rows.IntBool
import KE.LcSums
import PyProof.ListMulRoad
import PyProof.WalksT
import PyProof.ZipIter
import PyProof.Rows.ZipGen
import PyProof.SumWalk
import PyProof.Rows.CallKwBuiltin
import PyProof.AutoListH
import PyProof.WalkInts
import KE.KRevIter
import PyProof.ListStr
import PyProof.ListRange
import KE.KSortTup
import PySem.Challenge.RW_pagewalks_k44_whole_arrivals_together
set_option maxHeartbeats 1000000
set_option Elab.async false
set_option bootstrap.genMatcherCode false
set_option genSizeOfSpec false
set_option genSizeOf false
set_option linter.all false
set_option maxRecDepth 100000
namespace L2
open PySem PySem.Spec PyProof.Rows

noncomputable abbrev Key:=Sum Int Str
noncomputable def keyIs:Key→Value→Bool
 | .inl k,v=>Value.isInt k v
 | .inr x,v=>Value.isStrOf x v
noncomputable def keyH (w:World):Key→Int
 | .inl k=>hashInt k
 | .inr x=>hashStr w x
theorem keyIs_shape:∀ {k:Key} {v:Value},keyIs k v=true→(∃ i t,k=Sum.inl i∧v=Value.int i t)∨(∃ x t,k=Sum.inr x∧v=Value.str x t)
 | .inl i,v,h=>by
   obtain ⟨t,e⟩:=Value.isInt_shape (k:=i) (v:=v) h
   exact .inl ⟨i,t,rfl,e⟩
 | .inr x,v,h=>by
   obtain ⟨t,e⟩:=Value.isStrOf_shape (x:=x) (v:=v) h
   exact .inr ⟨x,t,rfl,e⟩
theorem keyIs_int (i:Int) (t:Tok):keyIs (.inl i) (.int i t)=true:=by simp [keyIs,Value.isInt]
theorem keyIs_str (x:Str) (t:Tok):keyIs (.inr x) (.str x t)=true:=by simp [keyIs,Value.isStrOf]
theorem key_ll (a b:Int):decide ((Sum.inl a:Key)=Sum.inl b)=(a == b):=by
 by_cases e:a=b
 · subst e;simp
 · have h:¬ (Sum.inl a:Key)=Sum.inl b:=fun q=>e (Sum.inl.inj q)
   rw [decide_eq_false h]
   exact (beq_eq_false_iff_ne.mpr e).symm
theorem key_rr (a b:Str):decide ((Sum.inr a:Key)=Sum.inr b)=decide (a=b):=by
 by_cases e:a=b
 · subst e;simp
 · have h:¬ (Sum.inr a:Key)=Sum.inr b:=fun q=>e (Sum.inr.inj q)
   rw [decide_eq_false h,decide_eq_false e]
theorem key_lr (a:Int) (b:Str):decide ((Sum.inl a:Key)=Sum.inr b)=false:=decide_eq_false (fun q=>nomatch q)
theorem key_rl (a:Str) (b:Int):decide ((Sum.inr a:Key)=Sum.inl b)=false:=decide_eq_false (fun q=>nomatch q)

noncomputable def mixKind (prog:Program) (w:World):PySem.KeyKind prog w Key where
 is:=keyIs
 hash:=keyH w
 inj:=fun v a b ha hb=>by
  rcases keyIs_shape ha with ⟨i,t,rfl,rfl⟩ | ⟨x,t,rfl,rfl⟩
  · rcases keyIs_shape hb with ⟨j,u,rfl,e⟩ | ⟨y,u,rfl,e⟩
    · injection e with e1 _;rw [e1]
    · exact nomatch e
  · rcases keyIs_shape hb with ⟨j,u,rfl,e⟩ | ⟨y,u,rfl,e⟩
    · exact nomatch e
    · injection e with e1 _;rw [e1]
 byValue:=fun k v h=>by
  rcases keyIs_shape h with ⟨i,t,rfl,rfl⟩ | ⟨x,t,rfl,rfl⟩ <;> rfl
 pyHash:=fun hv h=>by
  rcases keyIs_shape hv with ⟨i,t,rfl,rfl⟩ | ⟨x,t,rfl,rfl⟩
  · exact wpAny_pyHash_int h
  · exact wpAny_pyHash_str h
 eqBool:=fun hu hv h=>by
  rcases keyIs_shape hu with ⟨i,t,rfl,rfl⟩ | ⟨x,t,rfl,rfl⟩
  · rcases keyIs_shape hv with ⟨j,u,rfl,rfl⟩ | ⟨y,u,rfl,rfl⟩
    · rw [key_ll] at h;exact wpAny_eqBool_int h
    · rw [key_lr] at h;exact SeqAt.EqAt.int_str i t y u _ _ _ _ h
  · rcases keyIs_shape hv with ⟨j,u,rfl,rfl⟩ | ⟨y,u,rfl,rfl⟩
    · rw [key_rl] at h;exact SeqAt.EqAt.str_int x t j u _ _ _ _ h
    · rw [key_rr] at h;exact wpAny_eqBool_str h
 «strs»:=fun k x t v h=>by
  rcases keyIs_shape h with ⟨i,u,rfl,e⟩ | ⟨y,u,rfl,e⟩
  · exact nomatch e
  · injection e with e1 _
    subst e1
    cases v <;> rfl

theorem mixKind_int (prog:Program) (w:World) (i:Int) (t:Tok):(mixKind prog w).is (.inl i) (.int i t)=true:=keyIs_int i t
theorem mixKind_str (prog:Program) (w:World) (x:Str) (t:Tok):(mixKind prog w).is (.inr x) (.str x t)=true:=keyIs_str x t
end L2

namespace L2
open PySem PySem.Spec PyProof.Rows

inductive V where
 | non | bl (b:Bool) | int (i:Int) | str (x:Str) | byt (b:Array UInt8) | flt (b:UInt64) | ref (a:Addr) | ty (n:String)
 deriving DecidableEq

noncomputable def RelV:V→Value→Prop
 | .non,u=>u=Value.none
 | .bl b,u=>u=Value.bool b
 | .int i,u=>∃ t,u=Value.int i t
 | .str x,u=>∃ t,u=Value.str x t
 | .byt b,u=>∃ t,u=Value.bytes b t
 | .flt b,u=>∃ t,u=Value.float b t
 | .ref a,u=>u=Value.ref a
 | .ty n,u=>u=Value.type n

noncomputable abbrev Vals:List V→List Value→Prop:=Paired RelV
theorem Vals.length {xs:List V} {us:List Value} (r:Vals xs us):xs.length=us.length:=Paired.length r
theorem Vals.get:∀ {xs:List V} {us:List Value} {i:Nat} {x:V},Vals xs us→xs[i]?=some x→∃ u,us[i]?=some u∧RelV x u
 | _,_,_,_,.nil,e=>by simp at e
 | _,_,0,_,.cons r _,e=>by simp at e;subst e;exact ⟨_,rfl,r⟩
 | _,_,i+1,x,.cons _ t,e=>by
   obtain ⟨u,h1,h2⟩:=Vals.get (i:=i) (x:=x) t (by simpa using e)
   exact ⟨u,by simpa using h1,h2⟩
theorem Vals.set {x:V} {u:Value} (r:RelV x u):∀ {xs:List V} {us:List Value} (i:Nat),Vals xs us→Vals (xs.set i x) (us.set i u)
 | _,_,_,.nil=>.nil
 | _,_,0,.cons _ t=>.cons r t
 | _,_,i+1,.cons q t=>.cons q (Vals.set r i t)
theorem Vals.append:∀ {xs ys:List V} {us ws:List Value},Vals xs us→Vals ys ws→Vals (xs ++ ys) (us ++ ws)
 | _,_,_,_,.nil,s=>s
 | _,_,_,_,.cons r t,s=>.cons r (Vals.append t s)
theorem Vals.take:∀ {xs:List V} {us:List Value} (n:Nat),Vals xs us→Vals (xs.take n) (us.take n)
 | _,_,0,_=>.nil
 | _,_,_+1,.nil=>.nil
 | _,_,n+1,.cons r t=>.cons r (Vals.take n t)
theorem Vals.drop:∀ {xs:List V} {us:List Value} (n:Nat),Vals xs us→Vals (xs.drop n) (us.drop n)
 | _,_,0,r=>r
 | _,_,_+1,.nil=>.nil
 | _,_,n+1,.cons _ t=>Vals.drop n t
noncomputable def RelO:Option V→Option Value→Prop
 | some v,some u=>RelV v u
 | none,none=>True
 | _,_=>False
noncomputable def KV {κ:Type}:List (κ×V)→List (κ×Value)→Prop:=Paired fun (p:κ×V) (q:κ×Value)=>p.1=q.1∧RelV p.2 q.2

noncomputable def kV:Key→V
 | .inl i=>.int i
 | .inr x=>.str x

inductive HO where
 | lst (xs:List V)
 | tup (xs:List V)
 | dK (kvs:List (Key×V)) | dT (kvs:List (List Key×V))
 | set (S:Int→Bool) (n:Nat)
 | ins (C dx:Addr) (fs:List (Str×V))
 | own (x:Addr)
 | xd (fs:List (Str×V))
 | met (f x:Addr)
 | rng (lo hi:Int)
 | frz (o:Obj) (u:HO)
 | tbl (ps:Array Value)
 | ext (φ:Heap→Prop)

noncomputable abbrev Hp:=Addr→Option HO
noncomputable def upd (H:Hp) (a:Addr) (o:HO):Hp:=fun b=>if b=a then some o else H b
theorem upd_same {H:Hp} {a:Addr} {o:HO}:upd H a o a=some o:=by unfold upd;rw [if_pos rfl]
theorem upd_ne {H:Hp} {a b:Addr} {o:HO} (h:b≠a):upd H a o b=H b:=by unfold upd;rw [if_neg h]
theorem ne_of {H:Hp} {a b:Addr} {o u:HO} (h:H a=some o) (h':H b=some u) (d:o≠u):a≠b:=by
 intro e;subst e;rw [h] at h';exact d (Option.some.inj h')
theorem ne_of_none {H:Hp} {a b:Addr} {o:HO} (h:H a=some o) (h':H b=none):a≠b:=by
 intro e;subst e;rw [h] at h';cases h'

noncomputable def IsTupN (h:Heap) (a:Addr) (items:Array Value):Prop:=∃ o,h.get? a=some o∧(o.cls,o.dict)=(Value.type "tuple",(none:Option Addr))∧∃ n,o.data=.seq items n
theorem IsTupN.tup {h:Heap} {a:Addr} {items:Array Value} (p:IsTupN h a items):PyProof.Rows.IsTup h a items:=by
 obtain ⟨o,e,c,n,d⟩:=p
 exact ⟨o,e,congrArg Prod.fst c,n,d⟩
theorem IsTupN.new (h:Heap) (items:Array Value):IsTupN (h.push { cls:=.type "tuple",data:=.seq items }) h.objs.size items:=⟨_,Heap.get?_push_size _ rfl,rfl,_,rfl⟩

section
variable (P:Program) (w:World)
noncomputable def ObjOk (H:Hp) (h:Heap) (a:Addr):HO→Prop
 | .lst xs=>xs.length≤sizeLine∧∃ (its:List Value) (n:Nat),Vals xs its∧h.get? a=some { cls:=.type "list",data:=.seq its.toArray n }
 | .tup xs=>xs.length≤sizeLine∧∃ its:List Value,Vals xs its∧IsTupN h a its.toArray
 | .dK kvs=>kvs.length≤sizeLine∧(a == sysModules)=false∧∃ vs,KV kvs vs∧h.DictOf (mixKind P w) a vs
 | .dT kvs=>kvs.length≤sizeLine∧(a == sysModules)=false∧∃ xs:List (List Key×Addr×Value),
  Paired (fun (p:List Key×V) (q:List Key×Addr×Value)=>p.1=q.1∧H q.2.1=some (.tup (p.1.map kV))∧RelV p.2 q.2.2) kvs xs ∧
  ∃ o es ep,h.get? a=some o∧o.ExactDict∧o.data=.dict es ep∧es.toList=xs.map (entryOfKey (tupleKind (mixKind P w)))∧(xs.map (·.1)).Nodup
 | .set S n=>h.SetOf (intKind P w) a S n
 | .ins C dx fs=>H dx=some (.own a)∧fs.length≤1000∧dx≠a∧h.get? a=some (PySem.W.instObj C dx) ∧
  ∃ mA,h.Ns1 dx mA∧(∀ f,RelO (fs.lookup f) (mA f))∧PySem.Within mA (fs.map (·.1))
 | .own _=>∃ o,h.get? a=some o
 | .xd fs=>∃ mA,h.Ns1 a mA∧∀ f,RelO (fs.lookup f) (mA f)
 | .rng lo hi=>∃ t u v,h.get? a=some { cls:=.type "range",data:=.fields #[.int lo t,.int hi u,.int 1 v] }
 | .frz o u=>h.get? a=some o∧ObjOk H h a u
 | .tbl ps=>h.get? a=some { cls:=.none,data:=.fields ps }
 | .met f x=>h.get? a=some (PySem.W.methodObj (.ref f) (.ref x))
 | .ext φ=>φ h∧(∃ o,h.get? a=some o)∧∀ h1 h2:Heap,φ h1→(∀ o,h1.get? a=some o→h2.get? a=some o)→φ h2
noncomputable def HOk (H:Hp) (h:Heap):Prop:=∀ a o,H a=some o→ObjOk P w H h a o
end

section
variable {P:Program} {w:World} {H H':Hp} {h h':Heap} {a:Addr} {o:HO}
theorem ObjOk.lt (x:ObjOk P w H h a o):a<h.objs.size:=by
 cases o with
 | lst xs=>obtain ⟨_,_,_,_,e⟩:=x;exact Heap.lt_size e
 | tup xs=>obtain ⟨_,_,_,p⟩:=x;exact p.tup.lt
 | dK kvs=>obtain ⟨_,_,_,_,o,_,_,e,_⟩:=x;exact Heap.lt_size e
 | dT kvs=>obtain ⟨_,_,_,_,o,_,_,e,_⟩:=x;exact Heap.lt_size e
 | set S n=>obtain ⟨o,_,_,_,e,_⟩:=x;exact Heap.lt_size e
 | ins C dx fs=>obtain ⟨_,_,_,e,_⟩:=x;exact Heap.lt_size e
 | own y=>obtain ⟨_,e⟩:=x;exact Heap.lt_size e
 | xd fs=>obtain ⟨_,⟨_,_,_,e,_⟩,_⟩:=x;exact Heap.lt_size e
 | rng lo hi=>obtain ⟨_,_,_,e⟩:=x;exact Heap.lt_size e
 | frz ob u=>obtain ⟨e,_⟩:=x;exact Heap.lt_size e
 | tbl ps=>exact Heap.lt_size (show h.get? a=some _ from x)
 | met f y=>exact Heap.lt_size (show h.get? a=some _ from x)
 | ext φ=>obtain ⟨_,⟨_,e⟩,_⟩:=x;exact Heap.lt_size e
theorem Paired.mapP {α β:Type} {F G:α→β→Prop}:∀ {l₁:List α} {l₂:List β},Paired F l₁ l₂→(∀ a b,F a b→G a b)→Paired G l₁ l₂
 | _,_,.nil,_=>.nil
 | _,_,.cons r t,f=>.cons (f _ _ r) (Paired.mapP t f)
theorem ObjOk.stay (x:ObjOk P w H h a o) (k:∀ b u,(b=a∨H b=some (.own a))→h.get? b=some u→h'.get? b=some u)
 (ho:∀ b,H b=some (.own a)→H' b=some (.own a)) (ht:∀ b xs,H b=some (.tup xs)→H' b=some (.tup xs)):ObjOk P w H' h' a o:=by
 induction o with
 | lst xs=>obtain ⟨z,its,n,r,e⟩:=x;exact ⟨z,its,n,r,k _ _ (.inl rfl) e⟩
 | tup xs=>obtain ⟨z,its,r,ob,e,c⟩:=x;exact ⟨z,its,r,ob,k _ _ (.inl rfl) e,c⟩
 | dK kvs=>obtain ⟨z,y,vs,r,ob,es,ep,e,c⟩:=x;exact ⟨z,y,vs,r,ob,es,ep,k _ _ (.inl rfl) e,c⟩
 | dT kvs =>
   obtain ⟨z,y,xs,r,ob,es,ep,e,c⟩:=x
   exact ⟨z,y,xs,Paired.mapP r fun p q z=>⟨z.1,ht _ _ z.2.1,z.2.2⟩,ob,es,ep,k _ _ (.inl rfl) e,c⟩
 | set S n=>obtain ⟨ob,es,ep,t,e,c⟩:=x;exact ⟨ob,es,ep,t,k _ _ (.inl rfl) e,c⟩
 | ins C dx fs =>
   obtain ⟨d,z,ne,e,mA,⟨od,es,ep,e2,c⟩,r⟩:=x
   exact ⟨ho _ d,z,ne,k _ _ (.inl rfl) e,mA,⟨od,es,ep,k _ _ (.inr d) e2,c⟩,r⟩
 | own y=>obtain ⟨ob,e⟩:=x;exact ⟨ob,k _ _ (.inl rfl) e⟩
 | xd fs=>obtain ⟨mA,⟨od,es,ep,e,c⟩,r⟩:=x;exact ⟨mA,⟨od,es,ep,k _ _ (.inl rfl) e,c⟩,r⟩
 | rng lo hi=>obtain ⟨t,u,v,e⟩:=x;exact ⟨t,u,v,k _ _ (.inl rfl) e⟩
 | frz ob u ih=>obtain ⟨e,q⟩:=x;exact ⟨k _ _ (.inl rfl) e,ih q⟩
 | tbl ps =>
   have e:h.get? a=some { cls:=.none,data:=.fields ps }:=x
   show h'.get? a=some { cls:=.none,data:=.fields ps }
   exact k a _ (.inl rfl) e
 | met f y =>
   have e:h.get? a=some (PySem.W.methodObj (.ref f) (.ref y)):=x
   show h'.get? a=some (PySem.W.methodObj (.ref f) (.ref y))
   exact k a _ (.inl rfl) e
 | ext φ=>obtain ⟨p,⟨o,e⟩,st⟩:=x;exact ⟨st _ _ p fun o q=>k _ _ (.inl rfl) q,⟨o,k _ _ (.inl rfl) e⟩,st⟩
theorem HOk.lt (x:HOk P w H h) (e:H a=some o):a<h.objs.size:=(x a o e).lt
theorem HOk.fresh (x:HOk P w H h) (e:h.objs.size≤a):H a=none:=by
 cases q:H a with
 | none=>rfl
 | some u=>exact absurd (Nat.lt_of_lt_of_le (x.lt q) e) (Nat.lt_irrefl _)
theorem HOk.kept (x:HOk P w H h) (k:∀ b u,h.get? b=some u→h'.get? b=some u):HOk P w H h':=fun a o e =>
 (x a o e).stay (fun b u _ q=>k b u q) (fun _ q=>q) fun _ _ q=>q
theorem HOk.laid (x:HOk P w H h) (k:∀ b u,h.get? b=some u→h'.get? b=some u) (hp:h.objs.size≤a) (new:ObjOk P w (upd H a o) h' a o):HOk P w (upd H a o) h':=fun b u e=>by
 have hn:=x.fresh hp
 by_cases hb:b=a
 · subst hb;rw [upd_same] at e;cases e;exact new
 · rw [upd_ne hb] at e
   exact (x b u e).stay (fun c v _ q=>k c v q) (fun c q=>by rw [upd_ne (ne_of_none q hn)];exact q) fun c xs q=>by rw [upd_ne (ne_of_none q hn)];exact q
end

noncomputable def Rd (H:Hp) (a:Addr) (u:HO):Prop:=H a=some u∨∃ o,H a=some (.frz o u)
theorem Rd.ok {P:Program} {w:World} {H:Hp} {h:Heap} {a:Addr} {u:HO} (r:Rd H a u) (x:HOk P w H h):ObjOk P w H h a u:=by
 rcases r with r | ⟨o,r⟩
 · exact x a u r
 · obtain ⟨_,q⟩:=x a _ r
   exact q
noncomputable def Mut:Option HO→Prop
 | some (.lst _)=>True
 | some (.dK _)=>True
 | some (.dT _)=>True
 | some (.set _ _)=>True
 | some (.ins _ _ _)=>True
 | some (.ext _)=>True
 | _=>False
section
variable {P:Program} {w:World} {H:Hp} {h h':Heap} {x e:Addr} {o':HO}
theorem HOk.write (ok:HOk P w H h) (mu:Mut (H x)) (he:e=x∨H e=some (.own x)) (k:∀ b u,b≠e→h.get? b=some u→h'.get? b=some u) (heo:∃ u,h'.get? e=some u)
 (new:ObjOk P w (upd H x o') h' x o'):HOk P w (upd H x o') h':=fun b u q=>by
 have nown:∀ c y,H c=some (.own y)→c≠x:=fun c y r z=>by subst z;rw [r] at mu;exact mu
 have ntup:∀ c xs,H c=some (.tup xs)→c≠x:=fun c xs r z=>by subst z;rw [r] at mu;exact mu
 by_cases hb:b=x
 · subst hb;rw [upd_same] at q;cases q;exact new
 · rw [upd_ne hb] at q
   by_cases hbe:b=e
   · have q':H b=some (.own x):=by
      rcases he with z | z
      · exact absurd (hbe.trans z) hb
      · rw [hbe];exact z
     rw [q] at q';cases q'
     obtain ⟨v,hv⟩:=heo
     exact ⟨v,by rw [hbe];exact hv⟩
   · refine (ok b u q).stay (fun c v hc r=>k c v ?_ r) (fun c r=>by rw [upd_ne (nown c b r)];exact r) fun c xs r=>by rw [upd_ne (ntup c xs r)];exact r
     rcases hc with rfl | hc
     · exact hbe
     · rintro rfl
       rcases he with z | z
       · exact nown c b hc z
       · rw [hc] at z;cases z;exact hb rfl
end

structure Un (fs ex:List Addr) (H H':Hp) (h h':Heap):Prop where
 keep:∀ b o,h.get? b=some o→H b=none→b ∉ fs→b ∉ ex→h'.get? b=some o
 slot:∀ b o,h.get? b=some o→H b=none→b∈fs→b ∉ ex→∃ sl,h'.get? b=some { o with slots:=sl }
 free:∀ b o,h.get? b=some o→H b=none→b ∉ ex→H' b=none
 there:∀ b o,h.get? b=some o→b ∉ ex→∃ o',h'.get? b=some o'
 tups:∀ b xs,H b=some (.tup xs)→H' b=some (.tup xs)
 frzs:∀ b o u,H b=some (.frz o u)→H' b=some (.frz o u)
 tbls:∀ b ps,H b=some (.tbl ps)→∃ more,H' b=some (.tbl (ps ++ more))
section
variable {fs fs' ex ex':List Addr} {H H1 H2:Hp} {h h1 h2 h':Heap} {a x e:Addr} {o:HO}
theorem Un.any (u:Un fs ex H H1 h h1) {b:Addr} {ob:Obj} (q:h.get? b=some ob) (n:H b=none) (hx:b ∉ ex):∃ sl,h1.get? b=some { ob with slots:=sl }:=by
 by_cases hb:b∈fs
 · exact u.slot b ob q n hb hx
 · exact ⟨ob.slots,u.keep b ob q n hb hx⟩
theorem Un.kept (k:∀ b u,h.get? b=some u→h'.get? b=some u):Un fs ex H H h h' :=
 ⟨fun b ob q _ _ _=>k b ob q,fun b ob q _ _ _=>⟨ob.slots,k b ob q⟩,fun _ _ _ n _=>n,fun b ob q _=>⟨ob,k b ob q⟩,fun _ _ q=>q,fun _ _ _ q=>q,fun _ ps q=>⟨#[],by rw [q];simp⟩⟩
theorem Un.refl:Un fs ex H H h h:=Un.kept fun _ _ q=>q
theorem Un.laid (k:∀ b u,h.get? b=some u→h'.get? b=some u) (hp:h.objs.size≤a) (hn:H a=none):Un fs ex H (upd H a o) h h' where
 keep:=fun b u q _ _ _=>k b u q
 slot:=fun b u q _ _ _=>⟨u.slots,k b u q⟩
 free:=fun b u q n _=>by rw [upd_ne (Nat.ne_of_lt (Nat.lt_of_lt_of_le (Heap.lt_size q) hp))];exact n
 there:=fun b u q _=>⟨u,k b u q⟩
 tups:=fun b xs q=>by rw [upd_ne (ne_of_none q hn)];exact q
 frzs:=fun b u xs q=>by rw [upd_ne (ne_of_none q hn)];exact q
 tbls:=fun b ps q=>⟨#[],by rw [upd_ne (ne_of_none q hn),q];simp⟩
theorem Un.write (mu:Mut (H x)) (he:e=x∨H e=some (.own x)) (k:∀ b u,b≠e→h.get? b=some u→h'.get? b=some u) (heo:∃ u,h'.get? e=some u):Un fs ex H (upd H x o) h h':=by
 have hx:∀ b,H b=none→b≠x:=fun b n z=>by subst z;rw [n] at mu;exact mu
 have hb:∀ b,H b=none→b≠e:=fun b n z=>by
  subst z
  rcases he with r | r
  · exact hx b n r
  · rw [n] at r;cases r
 have hm:∀ b u,H b=some u→¬ Mut (some u)→b≠x:=fun b u q nm z=>by subst z;rw [q] at mu;exact nm mu
 refine ⟨fun b u q n _ _=>k b u (hb b n) q,fun b u q n _ _=>⟨u.slots,k b u (hb b n) q⟩,fun b u q n _=>by rw [upd_ne (hx b n)];exact n,fun b u q _=>?_,
  fun b xs q=>by rw [upd_ne (hm b _ q fun z=>z)];exact q,fun b u xs q=>by rw [upd_ne (hm b _ q fun z=>z)];exact q,fun b ps q=>⟨#[],by rw [upd_ne (hm b _ q fun z=>z),q];simp⟩⟩
 by_cases hbe:b=e
 · subst hbe;exact heo
 · exact ⟨u,k b u hbe q⟩
end

noncomputable def trk (h:Heap) (H:Hp):List Addr:=(List.range h.objs.size).filter fun a=>(H a).isSome
noncomputable def hidT (h:Heap) (H:Hp):Heap:=PySem.W.hideAll h (trk h H)
theorem hidT_size (h:Heap) (H:Hp):(hidT h H).objs.size=h.objs.size:=PySem.W.hideAll_size _ _
theorem hidT_get {h:Heap} {H:Hp} {b:Addr} {o:Obj} (e:h.get? b=some o) (n:H b=none):(hidT h H).get? b=some o :=
 PySem.W.hideAll_get _ e fun hm=>by
  have q:(H b).isSome=true:=(List.mem_filter.mp hm).2
  rw [n] at q;simp at q
theorem of_hidT {h:Heap} {H:Hp} {b:Addr} {o:Obj} (e:(hidT h H).get? b=some o):h.get? b=some o∧H b=none:=by
 have e':h.get? b=some o:=PySem.W.of_hideAll (trk h H) e
 refine ⟨e',?_⟩
 cases q:H b with
 | none=>rfl
 | some x =>
   have hm:b∈trk h H:=List.mem_filter.mpr ⟨List.mem_range.mpr (Heap.lt_size e'),by simp [q]⟩
   have z:(hidT h H).get? b=none:=PySem.W.hideAll_none (trk h H) hm
   rw [z] at e;cases e

noncomputable def allNews (g h:Heap) (L:Addr):List (Addr×Obj):=(List.range h.objs.size).filterMap fun a=>if a=L∨(g.get? a).isSome=true then none else (h.get? a).map fun o=>(a,o)
theorem mem_allNews {g h:Heap} {L a:Addr} {o:Obj} (h1:a≠L) (h2:g.get? a=none) (h3:h.get? a=some o):(a,o)∈allNews g h L :=
 List.mem_filterMap.mpr ⟨a,List.mem_range.mpr (Heap.lt_size h3),by simp [h1,h2,h3]⟩
theorem of_mem_allNews {g h:Heap} {L:Addr} {p:Addr×Obj} (hp:p∈allNews g h L):p.1≠L∧g.get? p.1=none∧h.get? p.1=some p.2:=by
 obtain ⟨b,_,e⟩:=List.mem_filterMap.mp hp
 split at e
 · cases e
 · rename_i hn
   cases q:h.get? b with
   | none=>rw [q] at e;simp at e
   | some u =>
     rw [q] at e
     simp only [Option.map_some,Option.some.injEq] at e
     subst e
     refine ⟨fun z=>hn (.inl z),?_,q⟩
     show g.get? b=none
     cases r:g.get? b with
     | none=>rfl
     | some v=>exact (hn (.inr (by simp [r]))).elim
theorem news_all {g h:Heap} {L:Addr}:News g L h (allNews g h L):=fun p hp=>let ⟨a,b,c⟩:=of_mem_allNews hp;⟨c,a,b⟩
end L2

namespace L2
open PySem PySem.Spec PyProof.Rows

structure Mod (K:PySem.W.Frag) (mg:Str→Option Value) (base:Heap):Prop where
 kin:K.In base
 glob:base.Ns mainGlobals mg
 blt:∃ mb,base.Ns builtinsNs mb∧∀ x:Str,x≠"__name__"→mb x=bootBuiltins x
 nolimit:base.NoLimit

set_option genInjectivity false in
set_option genInjectivity false in
structure Cx where
 prog:Program
 w:World
 K:PySem.W.Frag
 mg:Str→Option Value
 base:Heap
 A:Around
 N:List Str
 s₀:Shared
 H₀:Hp
 env:Env
 outer:List Env
 stack:List Env
 ex:List Addr
 fn:Str→Bool
 calm:Bool
 pn:List (Addr×Obj)
 xe:Value→Shared→Prop
noncomputable def frs (l:List Env):List Addr:=l.filterMap (·.frame)
noncomputable abbrev Cx.fs (X:Cx):List Addr:=frs X.outer

noncomputable def Vis (sc:Scope) (x:Str):Prop:=sc.names.lookup x=some .local∨sc.names.lookup x=some .cell∨sc.names.lookup x=some .free
noncomputable def Loc (sc:Scope) (x:Str):Prop:=sc.names.lookup x=some .local∨sc.names.lookup x=some .cell
noncomputable def Look (env:Env) (h:Heap) (m:Str→Option Value) (x:Str) (u:Value):Prop :=
 (env.kindOf x=some .local∧m x=some u)∨((env.kindOf x=some .cell∨env.kindOf x=some .free)∧∃ c,env.cells.lookup x=some c∧h.IsCell c (some u))

set_option genInjectivity false in
structure Cx.Ok (X:Cx):Prop where
 mod:Mod X.K X.mg X.base
 kind:X.env.scope.kind=.function
 glob:X.env.globals=mainGlobals
 blt:X.env.builtins=builtinsNs
 above:X.s₀.heap.objs.size≤X.env.locals
 inj:∀ x y c,X.env.cells.lookup x=some c→X.env.cells.lookup y=some c→x=y
 has:∀ x,(X.env.kindOf x=some .cell∨X.env.kindOf x=some .free)→∃ c,X.env.cells.lookup x=some c
 cab:∀ x c,X.fn x=true→X.env.cells.lookup x=some c→X.s₀.heap.objs.size≤c
 hd:X.calm=true→X.A.handled=none
 frames:X.A.frames=some X.stack
 stk:X.stack=X.outer∨(X.stack=X.env :: X.outer∧X.env.frame=some X.env.locals)
 exf:∀ b∈X.ex,b≠X.env.locals∧∀ x c,X.env.cells.lookup x=some c→c≠b
 bs:∀ b o,X.base.get? b=some o→X.s₀.heap.get? b=some o∧X.H₀ b=none
 bsz:X.base.objs.size≤X.s₀.heap.objs.size
 noex:∀ b o,X.base.get? b=some o→b ∉ X.ex
 exfs:∀ b∈X.ex,b ∉ X.fs
 funs:X.s₀.heap.FunFrames X.base X.outer
 frf:∀ b∈X.fs,X.H₀ b=none

set_option genInjectivity false in
structure Inv (X:Cx) (pins:List (Addr×Obj)) (σ:List (Option V)) (H:Hp) (s:Shared):Prop where
 ok:X.Ok
 os:s.os=X.s₀.os
 bare:AllBare s.gens
 base:Un X.fs X.ex X.H₀ H X.s₀.heap s.heap
 loc:∃ m,s.heap.Ns X.env.locals m∧∀ (i:Nat) (x:Str) (v:V),X.N[i]?=some x→σ[i]?=some (some v)→Vis X.env.scope x→∃ u,RelV v u∧Look X.env s.heap m x u
 cell:∀ x c,X.env.cells.lookup x=some c→∃ v,s.heap.IsCell c v
 free:H X.env.locals=none
 freeC:∀ x c,X.env.cells.lookup x=some c→H c=none
 pin:∀ p∈X.pn ++ pins,s.heap.get? p.1=some p.2∧H p.1=none∧p.1≠X.env.locals∧p.1 ∉ X.fs∧∀ v,p.2.data≠.cell v
 hok:HOk X.prog X.w H s.heap
 len:σ.length=X.N.length

section
variable {X:Cx} {pins:List (Addr×Obj)} {σ:List (Option V)} {H H':Hp} {s:Shared} {h':Heap}

theorem Cx.Ok.nofr (ok:X.Ok) {b:Addr} {o:Obj} (e:X.base.get? b=some o):b ∉ X.fs:=fun hb=>by
 have:=(ok.funs.mem hb).1
 rw [e] at this;cases this
theorem Inv.bs (I:Inv X pins σ H s):∀ b o,X.base.get? b=some o→s.heap.get? b=some o∧H b=none:=fun b o e =>
 ⟨I.base.keep b o (I.ok.bs b o e).1 (I.ok.bs b o e).2 (I.ok.nofr e) (I.ok.noex b o e),I.base.free b o (I.ok.bs b o e).1 (I.ok.bs b o e).2 (I.ok.noex b o e)⟩
theorem Inv.bk (I:Inv X pins σ H s):∀ b o,X.base.get? b=some o→s.heap.get? b=some o:=fun b o e=>(I.bs b o e).1
theorem Inv.mod (I:Inv X pins σ H s):Mod X.K X.mg X.base:=I.ok.mod
theorem Inv.kIn (I:Inv X pins σ H s):X.K.In s.heap:=I.ok.mod.kin.keeps I.bk
theorem Inv.lt (I:Inv X pins σ H s):X.env.locals<s.heap.objs.size:=let ⟨_,hn,_⟩:=I.loc;hn.lt
theorem Inv.sz (I:Inv X pins σ H s):X.s₀.heap.objs.size≤s.heap.objs.size:=Nat.le_trans I.ok.above (Nat.le_of_lt I.lt)
theorem Inv.nofs (I:Inv X pins σ H s) {a:Addr} (h:s.heap.objs.size≤a):a ∉ X.fs:=fun hb=>by
 obtain ⟨_,o,ho,_⟩:=I.ok.funs.mem hb
 exact absurd (Nat.lt_of_lt_of_le (Heap.lt_size ho) (Nat.le_trans I.sz h)) (Nat.lt_irrefl _)
theorem Inv.cne (I:Inv X pins σ H s):∀ x c,X.env.cells.lookup x=some c→c≠X.env.locals:=fun x c e z=>by
 obtain ⟨v,o,ho,hd⟩:=I.cell x c e
 obtain ⟨m,⟨o',es,ep,ho',hd',_⟩,_⟩:=I.loc
 rw [z,ho'] at ho;cases ho;rw [hd'] at hd;cases hd
theorem Inv.funs (I:Inv X pins σ H s):s.heap.FunFrames X.base X.outer:=by
 have all:∀ (l:List Env),(∀ b∈frs l,b∈X.fs)→X.s₀.heap.FunFrames X.base l→s.heap.FunFrames X.base l:=by
  intro l
  induction l with
  | nil=>intro _ _;trivial
  | cons env r ih =>
    intro hs hl
    obtain ⟨hk,⟨L,o,hf,hn,ho,hd⟩,hr⟩:=hl
    have hL:L∈X.fs:=hs L (by unfold frs;rw [List.filterMap_cons,hf];exact List.mem_cons_self)
    obtain ⟨sl,e⟩:=I.base.slot L o ho (I.ok.frf L hL) hL fun z=>I.ok.exfs L z hL
    exact ⟨hk,⟨L,_,hf,hn,e,hd⟩,ih (fun b hb=>hs b (by unfold frs;rw [List.filterMap_cons,hf];exact List.mem_cons_of_mem _ hb)) hr⟩
 exact all X.outer (fun _ hb=>hb) I.ok.funs

theorem Inv.stack (I:Inv X pins σ H s):s.heap.FunFrames X.base X.stack:=by
 rcases I.ok.stk with e | ⟨e,hf⟩
 · rw [e];exact I.funs
 · rw [e]
   obtain ⟨m,hn,_⟩:=I.loc
   refine .cons (by rw [I.ok.kind];decide) hf hn ?_ I.funs
   exact Heap.get?_none_of_le (Nat.le_trans I.ok.bsz I.ok.above)
theorem Inv.stkSub (I:Inv X pins σ H s):∀ b∈frs X.stack,b∈X.env.locals :: X.fs:=fun b hb=>by
 rcases I.ok.stk with e | ⟨e,hf⟩
 · rw [e] at hb;exact List.mem_cons_of_mem _ hb
 · rw [e] at hb
   unfold frs at hb
   rw [List.filterMap_cons,hf] at hb
   exact hb
theorem Inv.stkFree (I:Inv X pins σ H s):∀ b∈frs X.stack,H b=none:=fun b hb=>by
 rcases List.mem_cons.mp (I.stkSub b hb) with e | hb
 · rw [e];exact I.free
 · obtain ⟨_,o,ho,_⟩:=I.ok.funs.mem hb
   exact I.base.free b o ho (I.ok.frf b hb) fun z=>I.ok.exfs b z hb

theorem Inv.step {g':Array GenState} {t':Nat} {d':Drawn} {ch:List Addr} (I:Inv X pins σ H s)
 (hch:∀ b∈ch,(b∈X.ex∨X.s₀.heap.objs.size≤b)∧b≠X.env.locals∧(∀ x c,X.env.cells.lookup x=some c→c≠b)∧∀ p∈X.pn ++ pins,p.1≠b)
 (keep:∀ b o,b≠X.env.locals→b ∉ X.fs→b ∉ ch→s.heap.get? b=some o→H b=none→h'.get? b=some o)
 (slot:∀ b o,b≠X.env.locals→b∈X.fs→b ∉ ch→s.heap.get? b=some o→H b=none→∃ sl,h'.get? b=some { o with slots:=sl }) (free:∀ b o,b ∉ ch→s.heap.get? b=some o→H b=none→H' b=none)
 (there:∀ b o,b ∉ ch→s.heap.get? b=some o→∃ o',h'.get? b=some o')
 (tups:∀ b xs,H b=some (.tup xs)→H' b=some (.tup xs)) (frzs:∀ b o u,H b=some (.frz o u)→H' b=some (.frz o u)) (tbls:∀ b ps,H b=some (.tbl ps)→∃ more,H' b=some (.tbl (ps ++ more)))
 (ns:∀ m,s.heap.Ns X.env.locals m→h'.Ns X.env.locals m) (hok:HOk X.prog X.w H' h') (hg:AllBare g') :
 Inv X pins σ H' { s with heap:=h',gens:=g',drawn:=d',toks:=t' }:=by
 have neL:∀ b o,X.s₀.heap.get? b=some o→b≠X.env.locals:=fun b o e=>Nat.ne_of_lt (Nat.lt_of_lt_of_le (Heap.lt_size e) I.ok.above)
 have neC:∀ b o,X.s₀.heap.get? b=some o→b ∉ X.ex→b ∉ ch:=fun b o e hx hb=>by
  rcases (hch b hb).1 with z | z
  · exact hx z
  · exact absurd (Nat.lt_of_lt_of_le (Heap.lt_size e) z) (Nat.lt_irrefl _)
 have cellK:∀ x c,X.env.cells.lookup x=some c→∀ v,s.heap.IsCell c v→h'.IsCell c v:=fun x c e v ⟨o,ho,hd⟩=>by
  have nch:c ∉ ch:=fun z=>(hch c z).2.2.1 x c e rfl
  by_cases hc:c∈X.fs
  · obtain ⟨sl,q⟩:=slot c o (I.cne x c e) hc nch ho (I.freeC x c e)
    exact ⟨_,q,hd⟩
  · exact ⟨o,keep c o (I.cne x c e) hc nch ho (I.freeC x c e),hd⟩
 refine ⟨I.ok,I.os,hg,⟨fun b o e n hb hx=>?_,fun b o e n hb hx=>?_,fun b o e n hx=>?_,fun b o e hx=>?_,fun b xs e=>tups b xs (I.base.tups b xs e),fun b o xs e=>frzs b o xs (I.base.frzs b o xs e),fun b ps e=>?_⟩,?_,fun x c e=>?_,?_,fun x c e=>?_,fun p hp=>?_,hok,I.len⟩
 · exact keep b o (neL b o e) hb (neC b o e hx) (I.base.keep b o e n hb hx) (I.base.free b o e n hx)
 · obtain ⟨sl,e1⟩:=I.base.slot b o e n hb hx
   obtain ⟨sl',e2⟩:=slot b _ (neL b o e) hb (neC b o e hx) e1 (I.base.free b o e n hx)
   exact ⟨sl',e2⟩
 · obtain ⟨o',e1⟩:=I.base.there b o e hx
   exact free b o' (neC b o e hx) e1 (I.base.free b o e n hx)
 · obtain ⟨o',e1⟩:=I.base.there b o e hx
   exact there b o' (neC b o e hx) e1
 · obtain ⟨m1,e1⟩:=I.base.tbls b ps e
   obtain ⟨m2,e2⟩:=tbls b _ e1
   exact ⟨m1 ++ m2,by rw [e2,Array.append_assoc]⟩
 · obtain ⟨m,hn,hl⟩:=I.loc
   refine ⟨m,ns m hn,fun i x v e1 e2 e3=>?_⟩
   obtain ⟨u,r,l⟩:=hl i x v e1 e2 e3
   refine ⟨u,r,?_⟩
   rcases l with l | ⟨k,c,e,z⟩
   · exact .inl l
   · exact .inr ⟨k,c,e,cellK x c e _ z⟩
 · obtain ⟨v,z⟩:=I.cell x c e
   exact ⟨v,cellK x c e v z⟩
 · obtain ⟨m,⟨o,_,_,ho,_⟩,_⟩:=I.loc
   exact free _ o (fun z=>(hch _ z).2.1 rfl) ho I.free
 · obtain ⟨v,o,ho,hd⟩:=I.cell x c e
   exact free c o (fun z=>(hch c z).2.2.1 x c e rfl) ho (I.freeC x c e)
 · obtain ⟨e,n,ne,nf,d⟩:=I.pin p hp
   have nch:p.1 ∉ ch:=fun z=>(hch p.1 z).2.2.2 p hp rfl
   exact ⟨keep p.1 p.2 ne nf nch e n,free p.1 p.2 nch e n,ne,nf,d⟩
theorem Inv.un {t':Nat} (I:Inv X pins σ H s) (u:Un X.fs [] H H' s.heap h') (hok:HOk X.prog X.w H' h'):Inv X pins σ H' { s with heap:=h',toks:=t' }:=by
 obtain ⟨m,⟨o,es,ep,ho,r⟩,_⟩:=id I.loc
 obtain ⟨sl,hL⟩:=u.any ho I.free (by simp)
 exact I.step (g':=s.gens) (d':=s.drawn) (ch:=[]) (fun _ z=>nomatch z) (fun b o _ hb _ e n=>u.keep b o e n hb (by simp)) (fun b o _ hb _ e n=>u.slot b o e n hb (by simp)) (fun b o _ e n=>u.free b o e n (by simp)) (fun b o _ e=>u.there b o e (by simp)) u.tups u.frzs u.tbls (fun m' hm=>by
  obtain ⟨o',es',ep',ho',r'⟩:=hm
  rw [ho] at ho';cases ho'
  exact ⟨_,es',ep',hL,r'⟩) hok I.bare
theorem Inv.call {g':Array GenState} {t':Nat} {d':Drawn} {ch:List Addr} (I:Inv X pins σ H s) (u:Un (frs X.stack) ch H H' s.heap h') (hok:HOk X.prog X.w H' h') (hg:AllBare g')
 (hch:∀ b∈ch,(b∈X.ex∨X.s₀.heap.objs.size≤b)∧b≠X.env.locals∧(∀ x c,X.env.cells.lookup x=some c→c≠b)∧∀ p∈X.pn ++ pins,p.1≠b) :
 Inv X pins σ H' { s with heap:=h',gens:=g',drawn:=d',toks:=t' }:=by
 obtain ⟨m,⟨o,es,ep,ho,r⟩,_⟩:=id I.loc
 obtain ⟨sl,hL⟩:=u.any ho I.free fun z=>(hch _ z).2.1 rfl
 exact I.step (ch:=ch) hch (fun b o hL hb hc e n=>u.keep b o e n (fun z=>(List.mem_cons.mp (I.stkSub b z)).elim hL hb) hc) (fun b o _ _ hc e n=>u.any e n hc) (fun b o hc e n=>u.free b o e n hc) (fun b o hc e=>u.there b o e hc) u.tups u.frzs u.tbls (fun m' hm=>by
  obtain ⟨o',es',ep',ho',r'⟩:=hm
  rw [ho] at ho';cases ho'
  exact ⟨_,es',ep',hL,r'⟩) hok hg
theorem Inv.turned {t':Nat} {it:Addr} (I:Inv X pins σ H s) (k:∀ b o,b≠it→s.heap.get? b=some o→h'.get? b=some o) (hn:H it=none) (hL:it≠X.env.locals)
 (h1:it∈X.ex∨X.s₀.heap.objs.size≤it) (h2:∀ x c,X.env.cells.lookup x=some c→c≠it) (h3:∀ p∈X.pn ++ pins,p.1≠it):Inv X pins σ H { s with heap:=h',toks:=t' }:=by
 have nit:∀ b u,H b=some u→b≠it:=fun b u e z=>by rw [z,hn] at e;cases e
 refine I.step (g':=s.gens) (d':=s.drawn) (ch:=[it]) (fun b hb=>?_) (fun b o _ _ hc e _=>k b o (fun z=>hc (by simp [z])) e) (fun b o _ _ hc e _=>⟨o.slots,k b o (fun z=>hc (by simp [z])) e⟩) (fun _ _ _ _ n=>n)
  (fun b o hc e=>⟨o,k b o (fun z=>hc (by simp [z])) e⟩) (fun _ _ e=>e) (fun _ _ _ e=>e) (fun b ps e=>⟨#[],by rw [e];simp⟩) (fun m hm=>?_) (fun b u e=>?_) I.bare
 · have e:b=it:=by simpa using hb
   subst e
   exact ⟨h1,hL,h2,h3⟩
 · obtain ⟨o,es,ep,ho,r⟩:=hm
   exact ⟨o,es,ep,k _ o (Ne.symm hL) ho,r⟩
 · refine (I.hok b u e).stay (fun c v hc q=>k c v ?_ q) (fun _ q=>q) fun _ _ q=>q
   rcases hc with z | z
   · rw [z];exact nit b u e
   · exact nit c _ z
theorem Inv.tok (I:Inv X pins σ H s) (t:Nat):Inv X pins σ H { s with toks:=t }:=I.un (h':=s.heap) (t':=t) Un.refl I.hok
theorem Inv.kept {t':Nat} (I:Inv X pins σ H s) (k:∀ b u,s.heap.get? b=some u→h'.get? b=some u):Inv X pins σ H { s with heap:=h',toks:=t' }:=I.un (Un.kept k) (I.hok.kept k)
theorem Inv.laid {a:Addr} {o:HO} {t':Nat} (I:Inv X pins σ H s) (k:∀ b u,s.heap.get? b=some u→h'.get? b=some u) (hp:s.heap.objs.size≤a) (new:ObjOk X.prog X.w (upd H a o) h' a o) :
 Inv X pins σ (upd H a o) { s with heap:=h',toks:=t' }:=I.un (Un.laid k hp (I.hok.fresh hp)) (I.hok.laid k hp new)
theorem Inv.write {x e:Addr} {o:HO} {t':Nat} (I:Inv X pins σ H s) (mu:Mut (H x)) (he:e=x∨H e=some (.own x)) (k:∀ b u,b≠e→s.heap.get? b=some u→h'.get? b=some u) (heo:∃ u,h'.get? e=some u)
 (new:ObjOk X.prog X.w (upd H x o) h' x o):Inv X pins σ (upd H x o) { s with heap:=h',toks:=t' }:=I.un (Un.write mu he k heo) (I.hok.write mu he k heo new)
theorem Inv.pins_of {pins':List (Addr×Obj)} (I:Inv X pins σ H s) (h:∀ p∈pins',s.heap.get? p.1=some p.2∧H p.1=none∧p.1≠X.env.locals∧p.1 ∉ X.fs∧∀ v,p.2.data≠.cell v):Inv X pins' σ H s :=
 ⟨I.ok,I.os,I.bare,I.base,I.loc,I.cell,I.free,I.freeC,fun p hp=>(List.mem_append.mp hp).elim (fun z=>I.pin p (List.mem_append_left _ z)) (h p),I.hok,I.len⟩

theorem nodup_ix {N:List Str} (hN:N.Nodup) {i j:Nat} {x:Str} (a:N[i]?=some x) (b:N[j]?=some x):i=j:=by
 obtain ⟨h1,e1⟩:=List.getElem?_eq_some_iff.mp a
 obtain ⟨h2,e2⟩:=List.getElem?_eq_some_iff.mp b
 exact (List.getElem_inj hN).mp (e1.trans e2.symm)

theorem store_ok2 {M:Model} {A:Around} {E:Value→Shared→Prop} {i:Nat} {x:Str} {v:V} {u:Value} {Q:Unit→Shared→Prop} (I:Inv X pins σ H s) (hN:X.N.Nodup) (hi:X.N[i]?=some x) (hx:Loc X.env.scope x) (r:RelV v u)
 (h:∀ s',Inv X pins (σ.set i (some v)) H s'→(∃ a,Heap.SameBut a s.heap s'.heap∧(a=X.env.locals∨X.env.cells.lookup x=some a))→Q () s') (hf:X.fn x=true∨X.env.scope.names.lookup x=some .local:=by first | exact .inl rfl | exact .inr rfl | assumption):wpAny M A (storeName X.env x u) Q E s:=by
 obtain ⟨m,hn,hl⟩:=id I.loc
 have hcls:(X.env.scope.kind == .class || (X.env.scope.kind == .module && X.env.locals != X.env.globals))=false:=by rw [I.ok.kind];rfl
 have hiσ:i<σ.length:=by rw [I.len];exact (List.getElem?_eq_some_iff.mp hi).1
 have cne:=I.cne
 have tracked:∀ {a:Addr} {h':Heap},(∃ o,s.heap.get? a=some o∧H a=none)→Heap.SameBut a s.heap h'→HOk X.prog X.w H h':=fun {a h'} ha hs b ob e=>by
  obtain ⟨_,_,hfree⟩:=ha
  refine (I.hok b ob e).stay (fun c w' hc q=>(hs.2 c ?_).trans q) (fun _ q=>q) fun _ _ q=>q
  rintro rfl
  rcases hc with rfl | hc
  · rw [hfree] at e;cases e
  · rw [hfree] at hc;cases hc
 rcases hx with hk | hk
 · refine wpAny_storeName_local hk hn (fun h' hn' hs=>?_) hcls
   obtain ⟨oL,_,_,hoL,_⟩:=id hn
   refine h _ ⟨I.ok,I.os,I.bare,⟨fun b o e n hb hx=>?_,fun b o e n hb hx=>?_,I.base.free,fun b o e hx=>?_,I.base.tups,I.base.frzs,I.base.tbls⟩,⟨_,hn',fun j y v' e1 e2 e3=>?_⟩,fun y c e=>?_,I.free,I.freeC,fun p hp=>?_,tracked ⟨oL,hoL,I.free⟩ hs,by simpa using I.len⟩ ⟨_,hs,.inl rfl⟩
   · exact (hs.2 b (Nat.ne_of_lt (Nat.lt_of_lt_of_le (Heap.lt_size e) I.ok.above))).trans (I.base.keep b o e n hb hx)
   · obtain ⟨sl,e1⟩:=I.base.slot b o e n hb hx
     exact ⟨sl,(hs.2 b (Nat.ne_of_lt (Nat.lt_of_lt_of_le (Heap.lt_size e) I.ok.above))).trans e1⟩
   · obtain ⟨o',e1⟩:=I.base.there b o e hx
     exact ⟨o',(hs.2 b (Nat.ne_of_lt (Nat.lt_of_lt_of_le (Heap.lt_size e) I.ok.above))).trans e1⟩
   · by_cases hj:j=i
     · subst hj
       rw [hi] at e1;cases e1
       rw [List.getElem?_set_self hiσ] at e2
       cases e2
       exact ⟨u,r,.inl ⟨hk,by simp⟩⟩
     · rw [List.getElem?_set_ne (Ne.symm hj)] at e2
       obtain ⟨u',r',q⟩:=hl j y v' e1 e2 e3
       refine ⟨u',r',?_⟩
       rcases q with ⟨k,e⟩ | ⟨k,c,e,z⟩
       · refine .inl ⟨k,?_⟩
         have:y≠x:=fun e=>hj (nodup_ix hN e1 (e ▸ hi))
         simp [this,e]
       · exact .inr ⟨k,c,e,z.sameBut hs (cne y c e)⟩
   · obtain ⟨w',z⟩:=I.cell y c e
     exact ⟨w',z.sameBut hs (cne y c e)⟩
   · obtain ⟨e,n,ne,nf,d⟩:=I.pin p hp
     exact ⟨(hs.2 p.1 ne).trans e,n,ne,nf,d⟩
 · have hfn:X.fn x=true:=by
    rcases hf with z | z
    · exact z
    · rw [z] at hk;cases hk
   obtain ⟨c,hc⟩:=I.ok.has x (.inl hk)
   obtain ⟨w',z⟩:=I.cell x c hc
   refine wpAny_storeName_cell I.ok.kind hk hc z (fun h' hc' hs=>?_)
   obtain ⟨oc,hoc,hocd⟩:=id z
   refine h { s with heap:=h' } ⟨I.ok,I.os,I.bare,⟨fun b o e n hb hx=>?_,fun b o e n hb hx=>?_,I.base.free,fun b o e hx=>?_,I.base.tups,I.base.frzs,I.base.tbls⟩,⟨m,hn.sameBut hs (Ne.symm (cne x c hc)),fun j y v' e1 e2 e3=>?_⟩,fun y c' e=>?_,I.free,I.freeC,fun p hp=>?_,tracked ⟨oc,hoc,I.freeC x c hc⟩ hs,by simpa using I.len⟩ ⟨c,hs,.inr hc⟩
   · exact (hs.2 b (Nat.ne_of_lt (Nat.lt_of_lt_of_le (Heap.lt_size e) (I.ok.cab x c hfn hc)))).trans (I.base.keep b o e n hb hx)
   · obtain ⟨sl,e1⟩:=I.base.slot b o e n hb hx
     exact ⟨sl,(hs.2 b (Nat.ne_of_lt (Nat.lt_of_lt_of_le (Heap.lt_size e) (I.ok.cab x c hfn hc)))).trans e1⟩
   · obtain ⟨o',e1⟩:=I.base.there b o e hx
     exact ⟨o',(hs.2 b (Nat.ne_of_lt (Nat.lt_of_lt_of_le (Heap.lt_size e) (I.ok.cab x c hfn hc)))).trans e1⟩
   · by_cases hj:j=i
     · subst hj
       rw [hi] at e1;cases e1
       rw [List.getElem?_set_self hiσ] at e2
       cases e2
       exact ⟨u,r,.inr ⟨.inl hk,c,hc,hc'⟩⟩
     · rw [List.getElem?_set_ne (Ne.symm hj)] at e2
       obtain ⟨u',r',q⟩:=hl j y v' e1 e2 e3
       refine ⟨u',r',?_⟩
       rcases q with q | ⟨k,c',e,z'⟩
       · exact .inl q
       · refine .inr ⟨k,c',e,z'.sameBut hs ?_⟩
         rintro rfl
         exact hj (nodup_ix hN e1 (I.ok.inj _ _ _ e hc ▸ hi))
   · by_cases hcc:c'=c
     · subst hcc;exact ⟨_,hc'⟩
     · obtain ⟨w2,z2⟩:=I.cell y c' e
       exact ⟨w2,z2.sameBut hs hcc⟩
   · obtain ⟨e,n,ne,nf,d⟩:=I.pin p hp
     refine ⟨(hs.2 p.1 ?_).trans e,n,ne,nf,d⟩
     intro q
     rw [q,hoc] at e
     have q':oc=p.2:=Option.some.inj e
     exact d w' (by rw [← q'];exact hocd)
theorem store_ok {M:Model} {A:Around} {E:Value→Shared→Prop} {i:Nat} {x:Str} {v:V} {u:Value} {Q:Unit→Shared→Prop} (I:Inv X pins σ H s) (hN:X.N.Nodup) (hi:X.N[i]?=some x) (hx:Loc X.env.scope x) (r:RelV v u)
 (h:∀ s',Inv X pins (σ.set i (some v)) H s'→Q () s') (hf:X.fn x=true∨X.env.scope.names.lookup x=some .local:=by first | exact .inl rfl | exact .inr rfl | assumption):wpAny M A (storeName X.env x u) Q E s :=
 store_ok2 I hN hi hx r (fun s' I' _=>h s' I') hf
theorem Inv.call' {s':Shared} {ch:List Addr} (I:Inv X pins σ H s) (ho:s'.os=s.os) (u:Un (frs X.stack) ch H H' s.heap s'.heap) (hok:HOk X.prog X.w H' s'.heap) (hg:AllBare s'.gens)
 (hch:∀ b∈ch,(b∈X.ex∨X.s₀.heap.objs.size≤b)∧b≠X.env.locals∧(∀ x c,X.env.cells.lookup x=some c→c≠b)∧∀ p∈X.pn ++ pins,p.1≠b):Inv X pins σ H' s':=by
 obtain ⟨h',g',d',t',o'⟩:=s'
 have e:o'=s.os:=ho
 subst e
 exact I.call (g':=g') (t':=t') (d':=d') u hok hg hch
end

noncomputable abbrev XK:=Value→Option Addr→Hp→Prop
noncomputable abbrev St:=List (Option V)
noncomputable abbrev VK:=V→Hp→Prop
noncomputable abbrev TE:=St→Hp→VK→Prop
noncomputable abbrev TT:=St→Hp→(Bool→Hp→Prop)→Prop
noncomputable abbrev TA:=St→Hp→(List V→Hp→Prop)→Prop
set_option genInjectivity false in
structure Ends where
 nx:St→Hp→Prop
 rt:VK
 bk:St→Hp→Prop:=fun _ _=>False
 ct:St→Hp→Prop:=fun _ _=>False
noncomputable abbrev TS:=Ends→St→Hp→Prop

noncomputable def EP (X:Cx) (pins:List (Addr×Obj)) (σ:St) (Q:VK) (u:Value) (s':Shared):Prop:=∃ v H',Inv X pins σ H' s'∧RelV v u∧Q v H'
noncomputable def TP (X:Cx) (pins:List (Addr×Obj)) (σ:St) (Q:Bool→Hp→Prop) (b:Bool) (s':Shared):Prop:=∃ H',Inv X pins σ H' s'∧Q b H'
noncomputable def AP (X:Cx) (pins:List (Addr×Obj)) (σ:St) (Q:List V→Hp→Prop) (us:List Value) (s':Shared):Prop:=∃ vs H',Inv X pins σ H' s'∧Vals vs us∧Q vs H'
noncomputable def SP (X:Cx) (pins:List (Addr×Obj)) (D:Ends) (f:Flow) (s':Shared):Prop :=
 match f with
 | .next=>∃ σ' H',Inv X pins σ' H' s'∧D.nx σ' H'
 | .brk=>∃ σ' H',Inv X pins σ' H' s'∧D.bk σ' H'
 | .cont=>∃ σ' H',Inv X pins σ' H' s'∧D.ct σ' H'
 | .ret u=>∃ v σ' H',Inv X pins σ' H' s'∧RelV v u∧D.rt v H'

noncomputable def PE (X:Cx) (e:Expr) (t:TE):Prop :=
 ∀ (pins:List (Addr×Obj)) (s:Shared) (σ:St) (H:Hp) (Q:VK),Inv X pins σ H s→t σ H Q→wpAny (model X.prog X.w) X.A (eval e X.env) (EP X pins σ Q) X.xe s
noncomputable def PT (X:Cx) (e:Expr) (t:TT):Prop :=
 ∀ (pins:List (Addr×Obj)) (s:Shared) (σ:St) (H:Hp) (Q:Bool→Hp→Prop),Inv X pins σ H s→t σ H Q→wpAny (model X.prog X.w) X.A (isTrue e X.env (eval e X.env)) (TP X pins σ Q) X.xe s
noncomputable def PW (X:Cx) (e:Expr) (t:TT):Prop :=
 ∀ (whole:Sem Value) (pins:List (Addr×Obj)) (s:Shared) (σ:St) (H:Hp) (Q:Bool→Hp→Prop),Inv X pins σ H s→t σ H Q→wpAny (model X.prog X.w) X.A (isTrue e X.env whole) (TP X pins σ Q) X.xe s
theorem PW.pt {X:Cx} {e:Expr} {t:TT} (h:PW X e t):PT X e t:=h _
noncomputable def PA (X:Cx) (es:List Expr) (t:TA):Prop :=
 ∀ (pos:Pos) (pins:List (Addr×Obj)) (s:Shared) (σ:St) (H:Hp) (Q:List V→Hp→Prop),Inv X pins σ H s→t σ H Q→wpAny (model X.prog X.w) X.A (spliced (backTo pos (starEach es X.env))) (AP X pins σ Q) X.xe s
noncomputable def PS (X:Cx) (st:Stmt) (t:TS):Prop :=
 ∀ (pins:List (Addr×Obj)) (s:Shared) (σ:St) (H:Hp) (D:Ends),Inv X pins σ H s→t D σ H→wpAny (model X.prog X.w) X.A (exec st X.env) (SP X pins D) X.xe s
noncomputable def PSs (X:Cx) (st:List Stmt) (t:TS):Prop :=
 ∀ (pins:List (Addr×Obj)) (s:Shared) (σ:St) (H:Hp) (D:Ends),Inv X pins σ H s→t D σ H→wpAny (model X.prog X.w) X.A (execs st X.env) (SP X pins D) X.xe s
theorem thn {α:Type} {t:Sem α} {Q Q':α→Shared→Prop} {M:Model} {A:Around} {E:Value→Shared→Prop} {s:Shared} (h:wpAny M A t Q E s) (hQ:∀ a s,Q a s→Q' a s):wpAny M A t Q' E s:=wpAny_mono h hQ fun _ _ x=>x
end L2

namespace L2
open PySem PySem.Spec PyProof.Rows
section
variable {X:Cx}

noncomputable def tVar (i:Nat):TE:=fun σ H Q=>∃ v,σ[i]?=some (some v)∧Q v H
noncomputable def tC (v:V):TE:=fun _ H Q=>Q v H
theorem pe_var {i:Nat} {x:Str} {pos:Pos} (hN:X.N[i]?=some x) (hv:Vis X.env.scope x) (hd:(x == ("__debug__":Str))=false:=by decide) (hcd:(x == ("__classdict__":Str))=false:=by decide):PE X (.Name x pos) (tVar i):=by
 intro pins s σ H Q I h
 obtain ⟨v,e,h⟩:=h
 obtain ⟨m,hn,hl⟩:=I.loc
 obtain ⟨u,r,l⟩:=hl i x v hN e hv
 have fin:EP X pins σ Q u s:=⟨v,H,I,r,h⟩
 rcases l with ⟨hk,hm⟩ | ⟨hk,c,hc,hcell⟩
 · exact wpAny_Name (wpAny_loadName_local I.ok.kind hk hn hm fin) hd
 · rcases hk with hk | hk
   · exact wpAny_Name (wpAny_loadName_cell I.ok.kind hk hc hcell fin) hd
   · exact wpAny_Name (wpAny_loadName_free I.ok.kind hk hc hcell fin hcd) hd
theorem pe_int {i j pos}:PE X (.Constant (.int i) j pos) (tC (.int i)):=fun _ _ _ H _ I h=>wpAny_Constant_int ⟨.int i,H,I.tok _,⟨_,rfl⟩,h⟩
theorem pe_bl {b j pos}:PE X (.Constant (.bool b) j pos) (tC (.bl b)):=fun _ _ _ H _ I h=>Constant_bool ⟨.bl b,H,I,rfl,h⟩
theorem pe_non {j pos}:PE X (.Constant .none j pos) (tC .non):=fun _ _ _ H _ I h=>Constant_none ⟨.non,H,I,rfl,h⟩
noncomputable def Gl (X:Cx) (x:Str):Prop:=X.env.kindOf x=some .globalImplicit
theorem ld_glob {E:Value→Shared→Prop} {pins:List (Addr×Obj)} {s:Shared} {σ:St} {H:Hp} {x:Str} {u:Value} {pos:Pos} {Q:Value→Shared→Prop} (I:Inv X pins σ H s) (hg:Gl X x) (hm:X.mg x=some u) (h:Q u s)
 (hd:(x == ("__debug__":Str))=false:=by decide):wpAny (model X.prog X.w) X.A (eval (.Name x pos) X.env) Q E s :=
 Calls.Name_function_global I.ok.kind hg (Calls.loadGlobal_global (by rw [I.ok.glob];exact I.mod.glob.keeps I.bk) hm h) hd
theorem ld_blt {E:Value→Shared→Prop} {pins:List (Addr×Obj)} {s:Shared} {σ:St} {H:Hp} {x:Str} {u:Value} {pos:Pos} {Q:Value→Shared→Prop} (I:Inv X pins σ H s) (hg:Gl X x) (hm:X.mg x=none) (hv:bootBuiltins x=some u) (h:Q u s)
 (hn:x≠"__name__":=by decide) (hd:(x == ("__debug__":Str))=false:=by decide):wpAny (model X.prog X.w) X.A (eval (.Name x pos) X.env) Q E s:=by
 obtain ⟨mb,h1,h2⟩:=I.mod.blt
 exact Calls.Name_function_global I.ok.kind hg (Calls.loadGlobal_builtin (by rw [I.ok.glob];exact I.mod.glob.keeps I.bk) hm (by rw [I.ok.blt];exact h1.keeps I.bk) ((h2 x hn).trans hv) h) hd
theorem pe_glob {x:Str} {v:V} {u:Value} {pos:Pos} (hg:Gl X x) (hm:X.mg x=some u) (r:RelV v u) (hd:(x == ("__debug__":Str))=false:=by decide):PE X (.Name x pos) (tC v) :=
 fun _ _ _ H _ I h=>ld_glob I hg hm ⟨v,H,I,r,h⟩ hd
variable {a b:Expr} {ta tb:TE} {pos:Pos}
noncomputable def PC (X:Cx) (op:CmpOp) (a b:Expr) (t:TE):Prop :=
 ∀ (pins:List (Addr×Obj)) (s:Shared) (σ:St) (H:Hp) (Q:VK),Inv X pins σ H s→t σ H Q →
   wpAny (model X.prog X.w) X.A (eval a X.env) (fun v s₁=>wpAny (model X.prog X.w) X.A (eval b X.env) (fun u s₂=>wpAny (model X.prog X.w) X.A (compareOp op v u) (EP X pins σ Q) X.xe s₂) X.xe s₁) X.xe s
noncomputable def tB (t:TE):TT:=fun σ H Q=>t σ H fun x H1=>∃ c,x=.bl c∧Q c H1
theorem pt_cmp {op:CmpOp} {t:TE} (h:PC X op a b t) (h1:behindInMarks op b=false:=by first | exact nobehind _ (by decide) (by decide) | rfl):PT X (.Compare a [op] [b] pos) (tB t):=by
 intro pins s σ H Q I hw
 refine wpAny_isTrue_Compare1 (thn (h pins s σ H _ I hw) fun v s1 h1=>thn h1 fun u s2 h2=>thn h2 fun c s3 ⟨x,H1,I1,r1,q1⟩=>?_) h1
 obtain ⟨d,rfl,q⟩:=q1
 cases r1
 exact wpAny_truthy_bool ⟨H1,I1,q⟩
theorem pt_val {e:Expr} {t:TE} (h:PE X e t) (he:∀ whole,isTrue e X.env whole=(do let v ←whole;standAt e.pos;holding [v] (truthy v)):=by intro _;rfl):PT X e (tB t):=by
 intro pins s σ H Q I hw
 refine isTrue_plain (thn (h pins s σ H _ I hw) fun v s1 ⟨x,H1,I1,r1,q1⟩=>?_) (he _)
 obtain ⟨d,rfl,q⟩:=q1
 cases r1
 exact wpAny_truthy_bool ⟨H1,I1,q⟩

variable {tA tB':TT} {rest:List Expr}
noncomputable def tAnd (t u:TT):TT:=fun σ H Q=>t σ H fun c H1=>if c=true then u σ H1 Q else Q false H1
noncomputable def tOr (t u:TT):TT:=fun σ H Q=>t σ H fun c H1=>if c=true then Q true H1 else u σ H1 Q
noncomputable def tNot (t:TT):TT:=fun σ H Q=>t σ H fun c H1=>Q (!c) H1
theorem pw_and1 (ha:PT X a tA):PW X (.BoolOp .And [a] pos) tA:=by
 intro wh pins s σ H Q I h
 refine isTrue_and (thn (ha pins s σ H Q I h) fun c s1 e=>?_)
 cases c with
 | true=>exact isTrue_and_nil e
 | false=>exact e
theorem pw_or1 (ha:PT X a tA):PW X (.BoolOp .Or [a] pos) tA:=by
 intro wh pins s σ H Q I h
 refine isTrue_or (thn (ha pins s σ H Q I h) fun c s1 e=>?_)
 cases c with
 | false=>exact isTrue_or_nil e
 | true=>exact e
theorem pw_and (ha:PT X a tA) (hb:PW X (.BoolOp .And (b :: rest) pos) tB'):PW X (.BoolOp .And (a :: b :: rest) pos) (tAnd tA tB'):=by
 intro wh pins s σ H Q I h
 refine isTrue_and (thn (ha pins s σ H _ I h) fun c s1 ⟨H1,I1,q1⟩=>?_)
 cases c with
 | true=>exact hb wh pins s1 σ H1 Q I1 q1
 | false=>exact ⟨H1,I1,q1⟩
theorem pw_or (ha:PT X a tA) (hb:PW X (.BoolOp .Or (b :: rest) pos) tB'):PW X (.BoolOp .Or (a :: b :: rest) pos) (tOr tA tB'):=by
 intro wh pins s σ H Q I h
 refine isTrue_or (thn (ha pins s σ H _ I h) fun c s1 ⟨H1,I1,q1⟩=>?_)
 cases c with
 | true=>exact ⟨H1,I1,q1⟩
 | false=>exact hb wh pins s1 σ H1 Q I1 q1
theorem pt_not (ha:PT X a tA):PT X (.UnaryOp .Not a pos) (tNot tA):=by
 intro pins s σ H Q I h
 exact isTrue_not (ha pins s σ H (fun c H1=>Q (!c) H1) I h)
noncomputable def tAndV (ta tb:TE):TE:=fun σ H Q=>ta σ H fun x H1=>∃ c,x=.bl c∧if c=true then tb σ H1 Q else Q (.bl false) H1
theorem pe_one {op} {t:TE} (h:PE X a t):PE X (.BoolOp op [a] pos) t:=fun pins s σ H Q I hw=>BoolOp_one (h pins s σ H Q I hw)
theorem pe_and (ha:PE X a ta) (hb:PE X (.BoolOp .And (b :: rest) pos) tb):PE X (.BoolOp .And (a :: b :: rest) pos) (tAndV ta tb):=by
 intro pins s σ H Q I h
 refine BoolOp_and (thn (ha pins s σ H _ I h) fun v s1 ⟨x,H1,I1,r1,q1⟩=>?_)
 obtain ⟨c,rfl,q1⟩:=q1
 cases r1
 refine wpAny_truthy_bool ?_
 cases c with
 | true=>exact hb pins s1 σ H1 Q I1 q1
 | false=>exact ⟨.bl false,H1,I1,rfl,q1⟩
noncomputable def tIf (t:TT) (ta tb:TE):TE:=fun σ H Q=>t σ H fun c H1=>if c=true then ta σ H1 Q else tb σ H1 Q
theorem pe_ifExp {c:Expr} (hc:PT X c tA) (ha:PE X a ta) (hb:PE X b tb):PE X (.IfExp c a b pos) (tIf tA ta tb):=by
 intro pins s σ H Q I h
 refine wpAny_IfExp (thn (hc pins s σ H _ I h) fun d s1 ⟨H1,I1,q1⟩=>?_)
 cases d with
 | true=>exact ha pins s1 σ H1 Q I1 q1
 | false=>exact hb pins s1 σ H1 Q I1 q1
end
end L2

namespace L2
open PySem PySem.Spec PyProof.Rows

noncomputable def SqL (K:PySem.W.Frag) (H:Hp) (a:Addr) (xs:List V):Prop :=
 Rd H a (.lst xs) ∨
  ∃ (o:Obj) (its:Array Value) (n:Nat),K.lookup a=some o∧o.cls=.type "list"∧o.dict=none∧o.data=.seq its n∧its.size≤sizeLine∧Vals xs its.toList
noncomputable def SqT (K:PySem.W.Frag) (H:Hp) (a:Addr) (xs:List V):Prop :=
 Rd H a (.tup xs) ∨
  ∃ (o:Obj) (its:Array Value) (n:Nat),K.lookup a=some o∧o.cls=.type "tuple"∧o.data=.seq its n∧its.size≤sizeLine∧Vals xs its.toList
noncomputable def absV:Value→Option V
 | .none=>some .non
 | .bool b=>some (.bl b)
 | .int i _=>some (.int i)
 | .str x _=>some (.str x)
 | .bytes b _=>some (.byt b)
 | .float b _=>some (.flt b)
 | .ref a=>some (.ref a)
 | .type n=>some (.ty n)
 | _=>none
theorem RelV.abs {x:V} {u:Value} (r:RelV x u):absV u=some x:=by
 cases x with
 | non=>cases r;rfl
 | bl _=>cases r;rfl
 | int _=>obtain ⟨t,rfl⟩:=r;rfl
 | str _=>obtain ⟨t,rfl⟩:=r;rfl
 | byt _=>obtain ⟨t,rfl⟩:=r;rfl
 | flt _=>obtain ⟨t,rfl⟩:=r;rfl
 | ref _=>cases r;rfl
 | ty _=>cases r;rfl
theorem RelV.inj {x y:V} {u:Value} (r:RelV x u) (q:RelV y u):x=y:=Option.some.inj (r.abs.symm.trans q.abs)
theorem Vals.inj:∀ {xs ys:List V} {us:List Value},Vals xs us→Vals ys us→xs=ys
 | _,_,_,.nil,.nil=>rfl
 | _,_,_,.cons r t,.cons r' t'=>by rw [r.inj r',Vals.inj t t']
section
variable {X:Cx} {pins:List (Addr×Obj)} {σ:St} {H:Hp} {s:Shared} {a:Addr} {xs ys:List V}
theorem SqL.of {K:PySem.W.Frag} (h:H a=some (.lst xs)):SqL K H a xs:=.inl (.inl h)
theorem SqT.of {K:PySem.W.Frag} (h:H a=some (.tup xs)):SqT K H a xs:=.inl (.inl h)
theorem Inv.list (I:Inv X pins σ H s) (h:SqL X.K H a xs):∃ its:List Value,Vals xs its∧PlainL s.heap a its.toArray∧xs.length≤sizeLine:=by
 rcases h with h | ⟨o,its,n,hk,hc,hd,hs,hz,r⟩
 · obtain ⟨z,its,n,r,e⟩:=h.ok I.hok
   exact ⟨its,r,⟨_,n,e,rfl,rfl,rfl⟩,z⟩
 · refine ⟨its.toList,r,⟨o,n,I.kIn a o hk,hc,hd,by simpa using hs⟩,?_⟩
   have e:=r.length
   simp only [Array.length_toList] at e
   omega
theorem Inv.tuple (I:Inv X pins σ H s) (h:SqT X.K H a xs):∃ its:List Value,Vals xs its∧IsTup s.heap a its.toArray∧xs.length≤sizeLine:=by
 rcases h with h | ⟨o,its,n,hk,hc,hs,hz,r⟩
 · obtain ⟨z,its,r,p⟩:=h.ok I.hok
   exact ⟨its,r,p.tup,z⟩
 · refine ⟨its.toList,r,⟨o,I.kIn a o hk,hc,n,by simpa using hs⟩,?_⟩
   have e:=r.length
   simp only [Array.length_toList] at e
   omega
theorem Inv.list_inj (I:Inv X pins σ H s) (h:SqL X.K H a xs) (h':SqL X.K H a ys):xs=ys:=by
 obtain ⟨its,r,⟨o,n,e,_,_,d⟩,_⟩:=I.list h
 obtain ⟨its',r',⟨o',n',e',_,_,d'⟩,_⟩:=I.list h'
 rw [e] at e';cases e'
 rw [d] at d'
 injection d' with d1 _
 have:its=its':=by simpa using congrArg Array.toList d1
 subst this
 exact r.inj r'
theorem Inv.tuple_inj (I:Inv X pins σ H s) (h:SqT X.K H a xs) (h':SqT X.K H a ys):xs=ys:=by
 obtain ⟨its,r,⟨o,e,_,n,d⟩,_⟩:=I.tuple h
 obtain ⟨its',r',⟨o',e',_,n',d'⟩,_⟩:=I.tuple h'
 rw [e] at e';cases e'
 rw [d] at d'
 injection d' with d1 _
 have:its=its':=by simpa using congrArg Array.toList d1
 subst this
 exact r.inj r'
end

noncomputable abbrev Cx.wish (X:Cx) (E:Value→Shared→Prop):Cx:={ X with xe:=E }
noncomputable abbrev Cx.nox (X:Cx):Cx:=X.wish fun _ _=>False
theorem Cx.Ok.wish {X:Cx} (ok:X.Ok) (E:Value→Shared→Prop):(X.wish E).Ok :=
 ⟨ok.mod,ok.kind,ok.glob,ok.blt,ok.above,ok.inj,ok.has,ok.cab,ok.hd,ok.frames,ok.stk,ok.exf,ok.bs,ok.bsz,ok.noex,ok.exfs,ok.funs,ok.frf⟩
theorem Cx.Ok.unwish {X:Cx} {E:Value→Shared→Prop} (ok:(X.wish E).Ok):X.Ok :=
 ⟨ok.mod,ok.kind,ok.glob,ok.blt,ok.above,ok.inj,ok.has,ok.cab,ok.hd,ok.frames,ok.stk,ok.exf,ok.bs,ok.bsz,ok.noex,ok.exfs,ok.funs,ok.frf⟩
section
variable {X:Cx} {pins:List (Addr×Obj)} {σ:St} {H:Hp} {s:Shared} {E:Value→Shared→Prop}
theorem Inv.wish (I:Inv X pins σ H s) (E:Value→Shared→Prop):Inv (X.wish E) pins σ H s:=⟨I.ok.wish E,I.os,I.bare,I.base,I.loc,I.cell,I.free,I.freeC,I.pin,I.hok,I.len⟩
theorem Inv.unwish (I:Inv (X.wish E) pins σ H s):Inv X pins σ H s:=⟨I.ok.unwish,I.os,I.bare,I.base,I.loc,I.cell,I.free,I.freeC,I.pin,I.hok,I.len⟩
theorem SP.unwish {D:Ends} {f:Flow} {s':Shared} (h:SP (X.wish E) pins D f s'):SP X pins D f s':=by
 cases f with
 | next=>obtain ⟨σ',H',I,q⟩:=h;exact ⟨σ',H',I.unwish,q⟩
 | brk=>obtain ⟨σ',H',I,q⟩:=h;exact ⟨σ',H',I.unwish,q⟩
 | cont=>obtain ⟨σ',H',I,q⟩:=h;exact ⟨σ',H',I.unwish,q⟩
 | ret u=>obtain ⟨v,σ',H',I,r,q⟩:=h;exact ⟨v,σ',H',I.unwish,r,q⟩
theorem PSs.nox {st:List Stmt} {t:TS} (h:PSs X.nox st t):PSs X st t:=fun pins s σ H D I hw =>
 wpAny_mono (h pins s σ H D (I.wish _) hw) (fun _ _ q=>q.unwish) fun _ _ z=>False.elim z
end

section
variable {X:Cx} {st:Stmt} {rest:List Stmt} {t u:TS} {e:Expr} {te:TE} {pos:Pos}
noncomputable def tNext:TS:=fun D σ H=>D.nx σ H
noncomputable def tSeq (t u:TS):TS:=fun D σ H=>t { D with nx:=u D } σ H
theorem pss_nil:PSs X [] tNext:=fun _ _ σ H _ I h=>wpAny_execs_nil ⟨σ,H,I,h⟩
theorem pss_cons (h1:PS X st t) (h2:PSs X rest u):PSs X (st :: rest) (tSeq t u):=by
 intro pins s σ H D I h
 refine wpAny_execs_cons (thn (h1 pins s σ H { D with nx:=u D } I h) fun f s1 q=>?_)
 cases f with
 | next =>
   obtain ⟨σ',H',I',q⟩:=q
   exact h2 pins s1 σ' H' D I' q
 | ret v=>exact q
 | brk=>exact q
 | cont=>exact q
theorem pss_one (h1:PS X st t):PSs X [st] t:=by
 intro pins s σ H D I h
 refine wpAny_execs_cons (thn (h1 pins s σ H D I h) fun f s1 q=>?_)
 cases f with
 | next=>exact wpAny_execs_nil q
 | ret v=>exact q
 | brk=>exact q
 | cont=>exact q
theorem Inv.quiet {pins:List (Addr×Obj)} {σ:St} {H:Hp} {s:Shared} (I:Inv X pins σ H s):interactive X.env=false:=by simp [interactive,I.ok.kind]
noncomputable def tDrop (te:TE):TS:=fun D σ H=>te σ H fun _ H1=>D.nx σ H1
theorem ps_expr (he:PE X e te) (hs:swapsWith e none pos.line X.env=pure false:=by rfl):PS X (.Expr e pos) (tDrop te):=by
 intro pins s σ H D I h
 exact wpAny_Expr_any (thn (he pins s σ H _ I h) fun v s1 ⟨x,H1,I1,r1,q1⟩=>⟨σ,H1,I1,q1⟩) I.quiet hs
noncomputable def tRet (te:TE):TS:=fun D σ H=>te σ H D.rt
theorem ps_ret (he:PE X e te):PS X (.Return (some e) pos) (tRet te):=by
 intro pins s σ H D I h
 exact wpAny_Return_some (thn (he pins s σ H _ I h) fun v s1 ⟨x,H1,I1,r1,q1⟩=>⟨x,σ,H1,I1,r1,q1⟩)
noncomputable def tIfS (c:TT) (t u:TS):TS:=fun D σ H=>c σ H fun b H1=>if b=true then t D σ H1 else u D σ H1
theorem ps_if {c:Expr} {a b:List Stmt} {tc:TT} (hc:PT X c tc) (ha:PSs X a t) (hb:PSs X b u):PS X (.If c a b pos) (tIfS tc t u):=by
 intro pins s σ H D I h
 refine wpAny_If (thn (hc pins s σ H _ I h) fun d s1 ⟨H1,I1,q1⟩=>?_)
 cases d with
 | true=>exact ha pins s1 σ H1 D I1 q1
 | false=>exact hb pins s1 σ H1 D I1 q1
end

noncomputable abbrev TG:=V→St→Hp→(St→Hp→Prop)→Prop
noncomputable abbrev TGs:=List V→St→Hp→(St→Hp→Prop)→Prop
noncomputable def PG (X:Cx) (target:Expr) (t:TG):Prop :=
 ∀ (pins:List (Addr×Obj)) (s:Shared) (σ:St) (H:Hp) (v:V) (u:Value) (Q:St→Hp→Prop),Inv X pins σ H s→RelV v u→t v σ H Q →
   wpAny (model X.prog X.w) X.A (assign target X.env u) (fun _ s'=>∃ σ' H',Inv X pins σ' H' s'∧Q σ' H') X.xe s
noncomputable def PGs (X:Cx) (ts:List Expr) (t:TGs):Prop :=
 ∀ (pins:List (Addr×Obj)) (s:Shared) (σ:St) (H:Hp) (vs:List V) (us:List Value) (Q:St→Hp→Prop),Inv X pins σ H s→Vals vs us→t vs σ H Q →
   wpAny (model X.prog X.w) X.A (assignInOrder ((assignEach ts X.env).map (·.2)) us) (fun _ s'=>∃ σ' H',Inv X pins σ' H' s'∧Q σ' H') X.xe s
noncomputable abbrev TSet:=V→V→V→Hp→(Hp→Prop)→Prop
noncomputable def PSet (X:Cx) (t:TSet):Prop :=
 ∀ (pins:List (Addr×Obj)) (s:Shared) (σ:St) (H:Hp) (o i v:V) (ov iv u:Value) (Q:Hp→Prop),Inv X pins σ H s→RelV o ov→RelV i iv→RelV v u→t o i v H Q →
   wpAny (model X.prog X.w) X.A (setItem ov iv u) (fun _ s'=>∃ H',Inv X pins σ H' s'∧Q H') X.xe s
section
variable {X:Cx} {pos:Pos}
noncomputable def gName (i:Nat):TG:=fun v σ H Q=>Q (σ.set i (some v)) H
theorem pg_name {i:Nat} {x:Str} (hN:X.N.Nodup) (hi:X.N[i]?=some x) (hx:Loc X.env.scope x) (hf:X.fn x=true∨X.env.scope.names.lookup x=some .local:=by first | exact .inl rfl | exact .inr rfl | assumption):PG X (.Name x pos) (gName i):=by
 intro pins s σ H v u Q I r h
 exact wpAny_assign_Name (store_ok I hN hi hx r (fun s' I'=>⟨_,H,I',h⟩) hf)
noncomputable def gNil:TGs:=fun vs σ H Q=>vs=[]∧Q σ H
noncomputable def gCons (t:TG) (u:TGs):TGs:=fun vs σ H Q=>∃ v r,vs=v :: r∧t v σ H fun σ' H'=>u r σ' H' Q
theorem pgs_nil:PGs X [] gNil:=by
 intro pins s σ H vs us Q I r h
 obtain ⟨e,h⟩:=h
 subst e
 cases r
 exact assignInOrder_nil ⟨σ,H,I,h⟩
theorem pgs_cons {e:Expr} {es:List Expr} {t:TG} {u:TGs} (h1:PG X e t) (h2:PGs X es u)
 (hs:(assignEach (e :: es) X.env).map (·.2)=assign e X.env :: (assignEach es X.env).map (·.2):=by rfl):PGs X (e :: es) (gCons t u):=by
 intro pins s σ H vs us Q I r h
 obtain ⟨v,vr,e1,h⟩:=h
 subst e1
 cases r with
 | cons r rr =>
   rw [hs]
   refine assignInOrder_cons (thn (h1 pins s σ H _ _ _ I r h) fun _ s1 ⟨σ1,H1,I1,q1⟩=>?_)
   exact h2 pins s1 σ1 H1 _ _ Q I1 rr q1
noncomputable def gTup (K:PySem.W.Frag) (n:Nat) (t:TGs):TG:=fun v σ H Q=>∃ a xs,v=.ref a∧SqT K H a xs∧xs.length=n∧t xs σ H Q
theorem pg_tup {es:List Expr} {k:Nat} {t:TGs} {n:Nat} (hc:X.calm=true) (h:PGs X es t)
 (hn:(assignEach es X.env).length=n:=by rfl) (hst:(assignEach es X.env).findIdx? (·.1)=none:=by rfl):PG X (.Tuple es k pos) (gTup X.K n t):=by
 intro pins s σ H v u Q I r hw
 obtain ⟨a,xs,e1,hq,hl,hw⟩:=hw
 subst e1
 cases r
 obtain ⟨its,rv,ht,hz⟩:=I.tuple hq
 refine assign_Tuple_tuple (I.ok.hd hc) ht (by simp [hn,← hl,rv.length]) hst fun h' hx=>?_
 have I1:Inv X pins σ H { s with heap:=h' }:=I.kept (t':=s.toks) fun b o e=>hx b o (Nat.ne_of_lt (Heap.lt_size e)) e
 exact h pins _ σ H xs _ Q I1 (by simpa using rv) hw
noncomputable def gSub (to ti:TE) (t:TSet):TG:=fun v σ H Q=>to σ H fun o H1=>ti σ H1 fun i H2=>t o i v H2 fun H3=>Q σ H3
theorem pg_sub {o i:Expr} {to ti:TE} {t:TSet} (ho:PE X o to) (hi:PE X i ti) (hs:PSet X t)
 (ha:∀ v,assign (.Subscript o i pos) X.env v=(do
  let ov ←holding [v] (eval o X.env)
  let iv ←holding [v,ov] (eval i X.env)
  standAt pos
  holding [v,ov,iv] (setItem ov iv v)
  release [v,ov,iv] []):=by intro _;rfl):PG X (.Subscript o i pos) (gSub to ti t):=by
 intro pins s σ H v u Q I r h
 rw [ha]
 refine wpAny_bind (wpAny_holding (thn (ho pins s σ H _ I h) fun ov s1 ⟨x,H1,I1,r1,q1⟩=>?_))
 refine wpAny_bind (wpAny_holding (thn (hi pins s1 σ H1 _ I1 q1) fun iv s2 ⟨y,H2,I2,r2,q2⟩=>?_))
 refine wpAny_bind (wpAny_standAt (wpAny_bind (wpAny_holding (thn (hs pins s2 σ H2 x y v ov iv u _ I2 r1 r2 r q2) fun _ s3 ⟨H3,I3,q3⟩=>?_))))
 exact wpAny_release ⟨σ,H3,I3,q3⟩
noncomputable def tAsg (te:TE) (g:TG):TS:=fun D σ H=>te σ H fun x H1=>g x σ H1 D.nx
theorem ps_asg {tg e:Expr} {te:TE} {g:TG} (he:PE X e te) (hg:PG X tg g) (hs:swapsWithSole [tg] e pos.line X.env=pure false:=by rfl) (hw:swappedStores [tg] e X.env=pure none:=by rfl)
 (h1:(assignEach [tg] X.env).map (·.2)=[assign tg X.env]:=by rfl):PS X (.Assign [tg] e pos) (tAsg te g):=by
 intro pins s σ H D I h
 refine wpAny_Assign_stores (thn (he pins s σ H _ I h) fun v s1 ⟨x,H1,I1,r1,q1⟩=>?_) hs hw
 rw [h1]
 exact thn (hg pins s1 σ H1 x v _ I1 r1 q1) fun _ s2 q=>q
theorem ps_set {i:Nat} {x:Str} {e:Expr} {te:TE} {pos':Pos} (hN:X.N.Nodup) (hi:X.N[i]?=some x) (hx:Loc X.env.scope x) (he:PE X e te) (hs:swapsWith e (some (.Name x pos')) pos.line X.env=pure false:=by rfl) (hf:X.fn x=true∨X.env.scope.names.lookup x=some .local:=by first | exact .inl rfl | exact .inr rfl | assumption) :
 PS X (.Assign [.Name x pos'] e pos) (tAsg te (gName i)):=by
 intro pins s σ H D I h
 refine wpAny_Assign_Name (thn (he pins s σ H _ I h) fun v s1 ⟨y,H1,I1,r1,q1⟩=>?_) hs
 exact store_ok I1 hN hi hx r1 (fun s2 I2=>⟨_,H1,I2,q1⟩) hf
noncomputable def tPar (i j:Nat) (ta:TA):TS:=fun D σ H=>ta σ H fun vs H1=>∃ v w,vs=[v,w]∧D.nx ((σ.set i (some v)).set j (some w)) H1
theorem ps_par {i j:Nat} {x y:Str} {a b:Expr} {ta:TA} {px py pt:Pos} {kt k2 pt2} (hc:X.calm=true) (hN:X.N.Nodup) (hi:X.N[i]?=some x) (hj:X.N[j]?=some y) (hij:i≠j)
 (hx:X.env.scope.names.lookup x=some .local) (hy:X.env.scope.names.lookup y=some .local) (ha:PA X [a,b] ta)
 (hw:swappedStores [.Tuple [.Name x px,.Name y py] kt pt] (.Tuple [a,b] k2 pt2) X.env=pure (some [x,y]))
 (hs:swapsWithSole [.Tuple [.Name x px,.Name y py] kt pt] (.Tuple [a,b] k2 pt2) pos.line X.env=pure false:=by rfl) :
 PS X (.Assign [.Tuple [.Name x px,.Name y py] kt pt] (.Tuple [a,b] k2 pt2) pos) (tPar i j ta):=by
 intro pins s σ H D I h
 rw [exec_Assign_arm]
 refine wpAny_bind (wpAny_standAt ?_)
 rw [hs]
 refine wpAny_bind (wpAny_pure ?_)
 rw [if_neg (by decide)]
 refine wpAny_bind (Tuple_ (thn (ha _ pins s σ H _ I h) fun us s1 ⟨vs,H1,I1,r1,q1⟩=>?_))
 obtain ⟨v,w,e1,q1⟩:=q1
 subst e1
 obtain ⟨u1,u2,rfl,rv,rw'⟩:∃ u1 u2,us=[u1,u2]∧RelV v u1∧RelV w u2:=by
  cases r1 with
  | cons p q =>
    cases q with
    | cons p' q' =>
      cases q'
      exact ⟨_,_,rfl,p,p'⟩
 refine wpAny_newObj_type ?_ (by show 2≤sizeLine;decide)
 have I2:Inv X pins σ H1 { s1 with heap:=s1.heap.push { cls:=.type "tuple",data:=.seq [u1,u2].toArray } }:=I1.kept (t':=s1.toks) fun b o e=>Heap.get?_push_of_some _ e
 rw [hw]
 refine wpAny_bind (wpAny_pure ?_)
 show wpAny (model X.prog X.w) X.A (do rule "assign.swapped-stores";let items ←unpackItems (.ref s1.heap.objs.size) 2 none;assignInOrder [fun v=>bindName X.env y v,fun v=>bindName X.env x v] items.reverse;pure Flow.next) _ _ _
 refine wpAny_bind (wpAny_rule (wpAny_bind (unpackItems_tuple (items:=#[u1,u2]) (I.ok.hd hc) (IsTup.new s1.heap _) fun h' hx'=>?_)))
 have I3:=I2.kept (h':=h') (t':=s1.toks) fun b o e=>hx' b o (Nat.ne_of_lt (Heap.lt_size e)) e
 show wpAny _ _ (assignInOrder [fun v=>bindName X.env y v,fun v=>bindName X.env x v] [u2,u1] >>= fun _=>pure Flow.next) _ _ _
 refine wpAny_bind (assignInOrder_cons (wpAny_bindName (store_ok I3 hN hj (.inl hy) rw' (fun s2 I4=>?_) (.inr hy))))
 refine assignInOrder_cons (wpAny_bindName (store_ok I4 hN hi (.inl hx) rv (fun s3 I5=>assignInOrder_nil (wpAny_pure ?_)) (.inr hx)))
 rw [List.set_comm _ _ (Ne.symm hij)] at I5
 exact ⟨_,H1,I5,q1⟩
end

section
variable {X:Cx} {pos:Pos}
noncomputable def tWhile (c:TT) (tb:TS):TS:=fun D σ H=>∃ W:Nat→St→Hp→Prop,(∃ m,W m σ H)∧∀ m σ H,W m σ H →
 c σ H fun b H1=>if b=true then ∃ N:St→Hp→Prop,(∀ σ' H',N σ' H'→∃ m',m'<m∧W m' σ' H')∧tb { D with nx:=N,ct:=N,bk:=D.nx } σ H1 else D.nx σ H1
theorem ps_while {c:Expr} {body:List Stmt} {tc:TT} {tb:TS} (hp:PassesOwn (model X.prog X.w) X.A X.env X.xe) (hc:PT X c tc) (hb:PSs X body tb):PS X (.While c body [] pos) (tWhile tc tb):=by
 intro pins s σ H D I h
 obtain ⟨W,⟨m0,w0⟩,turn⟩:=h
 refine wpAny_While (codeAny_whileLoop (fun n s'=>∃ σ' H',Inv X pins σ' H' s'∧W n σ' H') ?_ m0 ⟨σ,H,I,w0⟩)
 rintro n s1 ⟨σ1,H1,I1,w1⟩
 refine wpAny_passesOwn hp (thn (hc pins s1 σ1 H1 _ I1 (turn n σ1 H1 w1)) fun b s2 ⟨H2,I2,q2⟩=>?_)
 cases b with
 | true =>
   obtain ⟨N,hN,q2⟩:=q2
   rw [if_pos rfl]
   refine wpAny_passesOwn hp (thn (hb pins s2 σ1 H2 _ I2 q2) fun f s3 q3=>?_)
   cases f with
   | next =>
     obtain ⟨σ3,H3,I3,n3⟩:=q3
     obtain ⟨m',hm,w3⟩:=hN σ3 H3 n3
     exact ⟨m',hm,σ3,H3,I3,w3⟩
   | cont =>
     obtain ⟨σ3,H3,I3,n3⟩:=q3
     obtain ⟨m',hm,w3⟩:=hN σ3 H3 n3
     exact ⟨m',hm,σ3,H3,I3,w3⟩
   | brk=>exact q3
   | ret v=>exact q3
 | false =>
   rw [if_neg Bool.false_ne_true]
   exact wpAny_execs_nil ⟨σ1,H2,I2,q2⟩
end

set_option genInjectivity false in
structure It where
 go:Nat→Hp→Prop
 yld:Nat→Hp→V→Hp→Prop
 stop:Nat→Hp→Prop
noncomputable def FpOk (X:Cx) (pins:List (Addr×Obj)) (H:Hp) (b:Addr):Prop :=
 H b=none∧b≠X.env.locals∧b ∉ X.fs∧(b∈X.ex∨X.s₀.heap.objs.size≤b)∧(∀ x c,X.env.cells.lookup x=some c→c≠b)∧∀ p∈X.pn ++ pins,p.1≠b
theorem Inv.fpOk {X:Cx} {pins:List (Addr×Obj)} {σ:St} {H H':Hp} {s:Shared} {b:Addr} (I:Inv X pins σ H s) (hb:s.heap.objs.size≤b) (hn:H' b=none):FpOk X pins H' b:=by
 refine ⟨hn,Nat.ne_of_gt (Nat.lt_of_lt_of_le I.lt hb),I.nofs hb,.inr (Nat.le_trans I.sz hb),fun x c e z=>?_,fun p hp z=>?_⟩
 · obtain ⟨v,q⟩:=I.cell x c e
   exact absurd (Nat.lt_of_lt_of_le q.lt (by rw [z];exact hb)) (Nat.lt_irrefl _)
 · exact absurd (Nat.lt_of_lt_of_le (Heap.lt_size (I.pin p hp).1) (by rw [z];exact hb)) (Nat.lt_irrefl _)
structure Turn (P:Program) (w:World) (K:PySem.W.Frag) (tg:Expr) (J:It) (fp:List Addr) (it:Addr) (tn:Nat→Heap→Prop):Prop where
 mem:it∈fp
 obj:∀ i h,tn i h→∀ b∈fp,∃ o,h.get? b=some o∧∀ v,o.data≠.cell v
 keep:∀ i h h',tn i h→(∀ b∈fp,∀ o,h.get? b=some o→h'.get? b=some o)→tn i h'
 item:∀ (X:Cx),X.prog=P→X.w=w→X.K=K→X.calm=true→∀ (i:Nat) (pins:List (Addr×Obj)) (s:Shared) (σ:St) (H:Hp) (E:Value→Shared→Prop),Inv X pins σ H s→(∀ b∈fp,FpOk X pins H b)→tn i s.heap→J.go i H →
  wpAny (model P w) X.A (pyNext (.ref it)) (fun r s1=>∃ u,r=some u ∧
   wpAny (model P w) X.A (letOwnedTupleGo tg (.ref it) u) (fun _ s2=>∃ x H',Inv X pins σ H' s2∧RelV x u∧J.yld i H x H'∧tn (i+1) s2.heap∧∀ b∈fp,H' b=none) E s1) E s
 done:∀ (X:Cx),X.prog=P→X.w=w→X.K=K→X.calm=true→∀ (i:Nat) (pins:List (Addr×Obj)) (s:Shared) (σ:St) (H:Hp) (E:Value→Shared→Prop),Inv X pins σ H s→(∀ b∈fp,FpOk X pins H b)→tn i s.heap→J.stop i H →
  wpAny (model P w) X.A (pyNext (.ref it)) (fun r s1=>r=none∧Inv X pins σ H s1) E s
 self:∀ (A:Around) (i:Nat) (s:Shared) (Q:Value→Shared→Prop) (E:Value→Shared→Prop),tn i s.heap→Q (.ref it) s→wpAny (model P w) A (pyIter (.ref it)) Q E s
noncomputable abbrev TI:=St→Hp→(It→Hp→Prop)→Prop
noncomputable def PIE (X:Cx) (pins:List (Addr×Obj)) (σ:St) (tg:Expr) (R:It→Hp→Prop) (itv:Value) (s2:Shared):Prop :=
 ∃ (it:Addr) (fp:List Addr) (tn:Nat→Heap→Prop) (J:It) (H':Hp),itv=.ref it∧Inv X pins σ H' s2∧Turn X.prog X.w X.K tg J fp it tn∧tn 0 s2.heap∧(∀ b∈fp,FpOk X pins H' b)∧R J H'
noncomputable def PI (X:Cx) (tg iter:Expr) (wi:TI):Prop :=
 ∀ (pins:List (Addr×Obj)) (s:Shared) (σ:St) (H:Hp) (R:It→Hp→Prop),Inv X pins σ H s→wi σ H R →
   wpAny (model X.prog X.w) X.A (eval iter X.env) (fun v s1=>wpAny (model X.prog X.w) X.A (pyIter v) (PIE X pins σ tg R) X.xe s1) X.xe s

theorem go_of {M:Model} {A:Around} {E:Value→Shared→Prop} {s:Shared} {tg:Expr} {it:Addr} {u:Value} {o:Obj} {n:String} {vs:Array Value} {Q:Unit→Shared→Prop} (ho:s.heap.get? it=some o) (hc:o.cls=.type n) (hd:o.data=.fields vs)
 (hn:["enumerate","zip","dict_itemiterator","dict_reverseitemiterator","odict_iterator","itertools.zip_longest","itertools.pairwise"].contains n=false) (hQ:Q () s):wpAny M A (letOwnedTupleGo tg (.ref it) u) Q E s:=by
 unfold letOwnedTupleGo
 cases tg <;> first
  | exact wpAny_pure hQ
  | (cases u <;> first
   | exact wpAny_pure hQ
   | (refine wpAny_bind (wpAny_load ho ?_)
      rw [hc,hd]
      show wpAny M A (if (["enumerate","zip","dict_itemiterator","dict_reverseitemiterator","odict_iterator","itertools.zip_longest","itertools.pairwise"].contains n && vs[0]? == some (rawInt _))=true then _ else _) Q E s
      rw [if_neg (by intro h;rw [hn,Bool.false_and] at h;cases h)]
      exact wpAny_pure hQ))

noncomputable def Itl (K:PySem.W.Frag) (a:Addr):It :=
 ⟨fun i H=>∃ xs x,SqL K H a xs∧xs[i]?=some x,fun i H x H'=>H'=H∧∀ xs,SqL K H a xs→xs[i]?=some x,fun i H=>∃ xs,SqL K H a xs∧xs.length≤i⟩
noncomputable def Itt (K:PySem.W.Frag) (a:Addr):It :=
 ⟨fun i H=>∃ xs x,SqT K H a xs∧xs[i]?=some x,fun i H x H'=>H'=H∧∀ xs,SqT K H a xs→xs[i]?=some x,fun i H=>∃ xs,SqT K H a xs∧xs.length≤i⟩
noncomputable def Itr (lo:Int) (n:Nat):It:=⟨fun i _=>i<n,fun i H x H'=>H'=H∧x=.int (lo+i),fun i _=>n≤i⟩
theorem turn_list {P:Program} {w:World} {K:PySem.W.Frag} {tg:Expr} (a it:Addr):Turn P w K tg (Itl K a) [it] it (fun i h=>h.IsListIter it a i) where
 mem:=by simp
 obj:=fun i h st b hb=>by
  have e:b=it:=by simpa using hb
  subst e
  obtain ⟨o,e,c,d⟩:=st
  exact ⟨o,e,fun v z=>by rw [d] at z;cases z⟩
 keep:=fun i h h' st k=>st.at fun o e=>k it (by simp) o e
 item:=by
  intro X hP hw hK hc i pins s σ H E I hf st hg
  subst hP hw hK
  obtain ⟨xs,x,hq,hx⟩:=hg
  obtain ⟨its,rv,p,hz⟩:=I.list hq
  obtain ⟨u,hu,ru⟩:=rv.get hx
  obtain ⟨f0,f1,f2,f3,f4,f5⟩:=hf it (by simp)
  refine wpAny_pyNext_list_item st p.isList (x:=u) (by simpa using hu) fun h' st' sb=>?_
  have I1:Inv X pins σ H { s with heap:=h' }:=I.turned (t':=s.toks) (fun b o hb e=>(sb.2 b hb).trans e) f0 f1 f3 f4 f5
  obtain ⟨o,e,c,d⟩:=id st'
  exact ⟨u,rfl,go_of (s:={ s with heap:=h' }) e c d (by decide) ⟨x,H,I1,ru,⟨rfl,fun ys hy=>by rw [I.list_inj hy hq];exact hx⟩,st',fun b hb=>(hf b hb).1⟩⟩
 done:=by
  intro X hP hw hK hc i pins s σ H E I hf st hg
  subst hP hw hK
  obtain ⟨xs,hq,hx⟩:=hg
  obtain ⟨its,rv,p,hz⟩:=I.list hq
  obtain ⟨f0,f1,f2,f3,f4,f5⟩:=hf it (by simp)
  have hl:=rv.length
  exact wpAny_pyNext_list_end (I.ok.hd hc) st p.isList (by simp;omega) fun h' eb=>⟨rfl,I.turned (t':=s.toks) (fun b o hb e=>eb b o hb e) f0 f1 f3 f4 f5⟩
 self:=fun _ _ _ _ _ st h=>wpAny_pyIter_listiter st h
theorem turn_tuple {P:Program} {w:World} {K:PySem.W.Frag} {tg:Expr} (a it:Addr):Turn P w K tg (Itt K a) [it] it (fun i h=>h.IsTupleIter it a i) where
 mem:=by simp
 obj:=fun i h st b hb=>by
  have e:b=it:=by simpa using hb
  subst e
  obtain ⟨o,e,c,d⟩:=st
  exact ⟨o,e,fun v z=>by rw [d] at z;cases z⟩
 keep:=fun i h h' st k=>st.at fun o e=>k it (by simp) o e
 item:=by
  intro X hP hw hK hc i pins s σ H E I hf st hg
  subst hP hw hK
  obtain ⟨xs,x,hq,hx⟩:=hg
  obtain ⟨its,rv,p,hz⟩:=I.tuple hq
  obtain ⟨u,hu,ru⟩:=rv.get hx
  obtain ⟨f0,f1,f2,f3,f4,f5⟩:=hf it (by simp)
  refine wpAny_pyNext_tuple_item st (show s.heap.IsTuple a its.toArray from p) (x:=u) (by simpa using hu) fun h' st' sb=>?_
  have I1:Inv X pins σ H { s with heap:=h' }:=I.turned (t':=s.toks) (fun b o hb e=>(sb.2 b hb).trans e) f0 f1 f3 f4 f5
  obtain ⟨o,e,c,d⟩:=id st'
  exact ⟨u,rfl,go_of (s:={ s with heap:=h' }) e c d (by decide) ⟨x,H,I1,ru,⟨rfl,fun ys hy=>by rw [I.tuple_inj hy hq];exact hx⟩,st',fun b hb=>(hf b hb).1⟩⟩
 done:=by
  intro X hP hw hK hc i pins s σ H E I hf st hg
  subst hP hw hK
  obtain ⟨xs,hq,hx⟩:=hg
  obtain ⟨its,rv,p,hz⟩:=I.tuple hq
  obtain ⟨f0,f1,f2,f3,f4,f5⟩:=hf it (by simp)
  have hl:=rv.length
  exact wpAny_pyNext_tuple_end (I.ok.hd hc) st (show s.heap.IsTuple a its.toArray from p) (by simp;omega) fun h' eb=>⟨rfl,I.turned (t':=s.toks) (fun b o hb e=>eb b o hb e) f0 f1 f3 f4 f5⟩
 self:=fun _ _ _ _ _ st h=>wpAny_pyIter_tupleiter st h
theorem turn_range {P:Program} {w:World} {K:PySem.W.Frag} {tg:Expr} (it:Addr) (lo:Int) (n:Nat):Turn P w K tg (Itr lo n) [it] it (fun i h=>IsRangeIter h it (lo+(i:Nat) * 1) ((n:Int) - (i:Nat)) 1) where
 mem:=by simp
 obj:=fun i h st b hb=>by
  have e:b=it:=by simpa using hb
  subst e
  exact ⟨_,st,fun v z=>by
   have z':Data.fields _=Data.cell v:=z
   cases z'⟩
 keep:=fun i h h' st k=>k it (by simp) _ st
 item:=by
  intro X hP hw hK hc i pins s σ H E I hf st hg
  subst hP hw hK
  obtain ⟨f0,f1,f2,f3,f4,f5⟩:=hf it (by simp)
  have W:=Walks.range (prog:=X.prog) (w:=X.w) (I.ok.hd hc) it lo 1 n
  refine W.item i s _ _ hg st fun v h' tk hv st' kk=>?_
  obtain ⟨t,rfl⟩:=hv
  have I1:Inv X pins σ H { s with heap:=h',toks:=tk }:=I.turned (fun b o hb e=>kk b o (by simpa using hb) e) f0 f1 f3 f4 f5
  refine ⟨_,rfl,go_of (s:={ s with heap:=h',toks:=tk }) (n:="range_iterator") st' rfl rfl (by decide) ⟨.int (lo+i),H,I1,⟨t,?_⟩,⟨rfl,rfl⟩,st',fun b hb=>(hf b hb).1⟩⟩
  rw [Int.mul_one]
 done:=by
  intro X hP hw hK hc i pins s σ H E I hf st hg
  subst hP hw hK
  obtain ⟨f0,f1,f2,f3,f4,f5⟩:=hf it (by simp)
  exact wpAny_pyNext_range_end (I.ok.hd hc) st (by have:n≤i:=hg;omega) fun h' eb=>⟨rfl,I.turned (t':=s.toks) (fun b o hb e=>eb b o hb e) f0 f1 f3 f4 f5⟩
 self:=fun _ _ _ _ _ st h=>wpAny_pyIter_rangeiter st h
end L2

namespace L2
open PySem PySem.Spec PyProof.Rows
section
variable {X:Cx} {tg:Expr}
noncomputable def iList (K:PySem.W.Frag) (tl:TE):TI:=fun σ H R=>tl σ H fun x H1=>∃ a,x=.ref a∧(∃ xs,SqL K H1 a xs)∧R (Itl K a) H1
noncomputable def iTup (K:PySem.W.Frag) (tl:TE):TI:=fun σ H R=>tl σ H fun x H1=>∃ a,x=.ref a∧(∃ xs,SqT K H1 a xs)∧R (Itt K a) H1
theorem pi_list {l:Expr} {tl:TE} (hl:PE X l tl):PI X tg l (iList X.K tl):=by
 intro pins s σ H R I h
 refine thn (hl pins s σ H _ I h) fun v s1 ⟨x,H1,I1,r1,q1⟩=>?_
 obtain ⟨a,e,⟨xs,hq⟩,q⟩:=q1
 subst e
 cases r1
 obtain ⟨its,rv,p,hz⟩:=I1.list hq
 refine wpAny_pyIter_list p.isList ?_
 refine ⟨s1.heap.objs.size,[s1.heap.objs.size],_,_,H1,rfl,I1.kept (t':=s1.toks) fun b o e=>Heap.get?_push_of_some _ e,turn_list a _,⟨_,Heap.get?_push_size _ rfl,rfl,rfl⟩,fun b hb=>?_,q⟩
 have e:b=s1.heap.objs.size:=by simpa using hb
 subst e
 exact I1.fpOk (Nat.le_refl _) (I1.hok.fresh (Nat.le_refl _))
theorem pi_tup {l:Expr} {tl:TE} (hl:PE X l tl):PI X tg l (iTup X.K tl):=by
 intro pins s σ H R I h
 refine thn (hl pins s σ H _ I h) fun v s1 ⟨x,H1,I1,r1,q1⟩=>?_
 obtain ⟨a,e,⟨xs,hq⟩,q⟩:=q1
 subst e
 cases r1
 obtain ⟨its,rv,p,hz⟩:=I1.tuple hq
 refine wpAny_pyIter_tuple (show s1.heap.IsTuple a its.toArray from p) ?_
 refine ⟨s1.heap.objs.size,[s1.heap.objs.size],_,_,H1,rfl,I1.kept (t':=s1.toks) fun b o e=>Heap.get?_push_of_some _ e,turn_tuple a _,⟨_,Heap.get?_push_size _ rfl,rfl,rfl⟩,fun b hb=>?_,q⟩
 have e:b=s1.heap.objs.size:=by simpa using hb
 subst e
 exact I1.fpOk (Nat.le_refl _) (I1.hok.fresh (Nat.le_refl _))
theorem range_it {pins:List (Addr×Obj)} {σ:St} {H:Hp} {s:Shared} {R:It→Hp→Prop} {E:Value→Shared→Prop} {lo hi:Int} {t u v:Tok} {tk:Nat} (I:Inv X pins σ H s) (h1:-(2 ^ 62)≤lo) (h2:lo<2 ^ 62) (h3:-(2 ^ 62)≤hi) (h4:hi<2 ^ 62)
 (q:R (Itr lo (hi - lo).toNat) H):wpAny (model X.prog X.w) X.A (pyIter (.ref s.heap.objs.size)) (PIE X pins σ tg R) E { s with heap:=s.heap.push { cls:=.type "range",data:=.fields #[.int lo t,.int hi u,.int 1 v] },toks:=tk }:=by
 refine wpAny_pyIter_range (IsRange.new ..) (small_one h1 h2 h3 h4) ?_
 have I1:Inv X pins σ H { s with heap:=s.heap.push { cls:=.type "range",data:=.fields #[.int lo t,.int hi u,.int 1 v] },toks:=tk }:=I.kept fun b o e=>Heap.get?_push_of_some _ e
 refine ⟨(s.heap.push { cls:=.type "range",data:=.fields #[.int lo t,.int hi u,.int 1 v] }).objs.size,[(s.heap.push { cls:=.type "range",data:=.fields #[.int lo t,.int hi u,.int 1 v] }).objs.size],_,_,H,rfl,
  I1.kept (t':=tk) fun b o e=>Heap.get?_push_of_some _ e,turn_range _ lo (hi - lo).toNat,?_,fun b hb=>?_,q⟩
 · have e1:lo+((0:Nat):Int) * 1=lo:=by simp
   have e2:(((hi - lo).toNat:Nat):Int) - ((0:Nat):Int)=Builtin.Range.rangeSize lo hi 1:=by rw [rangeSize_one];split <;> omega
   show IsRangeIter _ _ (lo+((0:Nat):Int) * 1) ((((hi - lo).toNat:Nat):Int) - ((0:Nat):Int)) 1
   rw [e1,e2]
   exact Heap.get?_push_size _ rfl
 · have e:b=(s.heap.push { cls:=.type "range",data:=.fields #[.int lo t,.int hi u,.int 1 v] }).objs.size:=by simpa using hb
   subst e
   exact I1.fpOk (Nat.le_refl _) (I1.hok.fresh (Nat.le_refl _))
noncomputable def iRng1 (ta:TA):TI:=fun σ H R=>ta σ H fun vs H1=>∃ j:Int,vs=[.int j]∧-(2 ^ 62)≤j∧j<2 ^ 62∧R (Itr 0 j.toNat) H1
theorem pi_range1 {a:Expr} {ta:TA} {p pos:Pos} (hg:Gl X "range") (hm:X.mg "range"=none) (ha:PA X [a] ta) (hs:starEach [a] X.env=[(false,eval a X.env)]:=by rfl):PI X tg (.Call (.Name "range" p) [a] [] pos) (iRng1 ta):=by
 intro pins s σ H R I h
 refine Call_ (ld_blt I hg hm boot_range (PyProof.Rows.callWith_type1 (thn (ha pos pins s σ H _ I h) fun us s1 ⟨vs,H1,I1,r1,q1⟩=>?_) hs rfl))
 obtain ⟨j,e,q1,q2,q⟩:=q1
 subst e
 cases r1 with
 | cons r rr =>
   cases rr
   obtain ⟨t,rfl⟩:=r
   exact call_range_1 (range_it I1 (by omega) (by omega) q1 q2 (by simpa using q))
noncomputable def tFor (wi:TI) (g:TG) (tb:TS):TS:=fun D σ H=>wi σ H fun J H1=>∃ W:Nat→Nat→St→Hp→Prop,(∃ m,W 0 m σ H1)∧∀ i m σ H,W i m σ H →
 (J.stop i H∧D.nx σ H)∨(J.go i H∧∃ N:St→Hp→Prop,(∀ σ' H',N σ' H'→∃ m',m'<m∧W (i+1) m' σ' H')∧∀ x H',J.yld i H x H'→g x σ H' fun σ2 H2=>tb { D with nx:=N,ct:=N,bk:=D.nx } σ2 H2)
noncomputable def pinsAt (fp:List Addr) (h:Heap):List (Addr×Obj):=fp.filterMap fun b=>(h.get? b).map fun o=>(b,o)
theorem mem_pinsAt {fp:List Addr} {h:Heap} {b:Addr} {o:Obj} (hb:b∈fp) (e:h.get? b=some o):(b,o)∈pinsAt fp h:=List.mem_filterMap.mpr ⟨b,hb,by rw [e];rfl⟩
theorem of_pinsAt {fp:List Addr} {h:Heap} {p:Addr×Obj} (hp:p∈pinsAt fp h):p.1∈fp∧h.get? p.1=some p.2:=by
 obtain ⟨b,hb,e⟩:=List.mem_filterMap.mp hp
 cases q:h.get? b with
 | none=>rw [q] at e;cases e
 | some o =>
   rw [q] at e
   have e':(b,o)=p:=Option.some.inj e
   subst e'
   exact ⟨hb,q⟩
theorem Inv.pinned {pins:List (Addr×Obj)} {σ:St} {H:Hp} {s:Shared} {fp:List Addr} (I:Inv X pins σ H s) (hf:∀ b∈fp,FpOk X pins H b) (ho:∀ b∈fp,∃ o,s.heap.get? b=some o∧∀ v,o.data≠.cell v):Inv X (pins ++ pinsAt fp s.heap) σ H s :=
 I.pins_of fun p hp=>(List.mem_append.mp hp).elim (fun z=>I.pin p (List.mem_append_right _ z)) fun z=>by
  obtain ⟨hb,e⟩:=of_pinsAt z
  obtain ⟨f0,f1,f2,_⟩:=hf p.1 hb
  obtain ⟨o,e',d⟩:=ho p.1 hb
  rw [e] at e';cases e'
  exact ⟨e,f0,f1,f2,d⟩
theorem Inv.unpinned {pins pl:List (Addr×Obj)} {σ:St} {H:Hp} {s:Shared} (I:Inv X (pins ++ pl) σ H s):Inv X pins σ H s:=I.pins_of fun p hp=>I.pin p (List.mem_append_right _ (List.mem_append_left _ hp))
theorem ps_for {iter:Expr} {body:List Stmt} {wi:TI} {g:TG} {tb:TS} {pos:Pos} (hp:PassesOwn (model X.prog X.w) X.A X.env X.xe) (hc:X.calm=true) (hi:PI X tg iter wi) (hg:PG X tg g) (hb:PSs X body tb)
 (hs:∀ x,foldedSetIterable iter X.env x=pure x:=by intro _;rfl):PS X (.For tg iter body [] pos) (tFor wi g tb):=by
 intro pins s σ H D I h
 refine wpAny_For (thn (hi pins s σ H _ I h) fun v s1 h1=>thn h1 fun itv s2 h2=>?_) hs
 obtain ⟨it,fp,tn,J,H2,e,I2,T,st2,f2,W,⟨m0,w0⟩,turn⟩:=h2
 subst e
 have stat:∀ {H':Hp},(∀ b∈fp,H' b=none)→∀ b∈fp,FpOk X pins H' b:=fun hn b hb=>⟨hn b hb,(f2 b hb).2⟩
 refine codeAny_forLoop_any (fun n s'=>∃ i σ' H',Inv X pins σ' H' s'∧tn i s'.heap∧(∀ b∈fp,H' b=none)∧W i n σ' H') ?_ m0 ⟨0,σ,H2,I2,st2,fun b hb=>(f2 b hb).1,w0⟩
 rintro n s3 ⟨i,σ3,H3,I3,st3,fr3,w3⟩
 rcases turn i n σ3 H3 w3 with ⟨stop,qn⟩ | ⟨go,N,hN,step⟩
 · refine wpAny_passesOwn hp (thn (T.done X rfl rfl rfl hc i pins s3 σ3 H3 X.xe I3 (stat fr3) st3 stop) fun r s4 ⟨hr,I4⟩=>?_)
   subst hr
   exact wpAny_execs_nil ⟨σ3,H3,I4,qn⟩
 · refine wpAny_passesOwn hp (thn (T.item X rfl rfl rfl hc i pins s3 σ3 H3 X.xe I3 (stat fr3) st3 go) fun r s4 ⟨u,hr,h4⟩=>?_)
   subst hr
   refine wpAny_passesOwn hp (thn h4 fun _ s5 ⟨x,H5,I5,r5,y5,st5,fr5⟩=>?_)
   have I5':=I5.pinned (stat fr5) (T.obj _ _ st5)
   refine wpAny_passesOwn hp (thn (hg _ s5 σ3 H5 x u _ I5' r5 (step x H5 y5)) fun _ s6 ⟨σ6,H6,I6,q6⟩=>?_)
   refine wpAny_passesOwn hp (thn (hb _ s6 σ6 H6 _ I6 q6) fun f s7 q7=>?_)
   have again:∀ {σ7:St} {H7:Hp},Inv X (pins ++ pinsAt fp s5.heap) σ7 H7 s7→N σ7 H7→∃ m,m<n∧∃ i σ' H',Inv X pins σ' H' s7∧tn i s7.heap∧(∀ b∈fp,H' b=none)∧W i m σ' H':=fun {σ7 H7} I7 n7=>by
    obtain ⟨m',hm,w7⟩:=hN σ7 H7 n7
    refine ⟨m',hm,i+1,σ7,H7,I7.unpinned,T.keep _ _ _ st5 fun b hb o e=>(I7.pin (b,o) (List.mem_append_right _ (List.mem_append_right _ (mem_pinsAt hb e)))).1,fun b hb=>?_,w7⟩
    obtain ⟨o,e,d⟩:=T.obj _ _ st5 b hb
    exact (I7.pin (b,o) (List.mem_append_right _ (List.mem_append_right _ (mem_pinsAt hb e)))).2.1
   cases f with
   | next=>obtain ⟨σ7,H7,I7,n7⟩:=q7;exact again I7 n7
   | cont=>obtain ⟨σ7,H7,I7,n7⟩:=q7;exact again I7 n7
   | brk=>obtain ⟨σ7,H7,I7,q7⟩:=q7;exact ⟨σ7,H7,I7.unpinned,q7⟩
   | ret v=>obtain ⟨x7,σ7,H7,I7,r7,q7⟩:=q7;exact ⟨x7,σ7,H7,I7.unpinned,r7,q7⟩
end

theorem for_list {K:PySem.W.Frag} {a:Addr} {xs:List V} {g:TG} {tb:TS} {D:Ends} {σ:St} {H:Hp} (Pv:Nat→St→Hp→Prop) (h0:Pv 0 σ H) (hl:∀ i σ H,i≤xs.length→Pv i σ H→SqL K H a xs)
 (hs:∀ i x σ H,xs[i]?=some x→Pv i σ H→g x σ H fun σ2 H2=>tb { D with nx:=Pv (i+1),ct:=Pv (i+1),bk:=D.nx } σ2 H2) (hd:∀ σ H,Pv xs.length σ H→D.nx σ H) :
 ∃ W:Nat→Nat→St→Hp→Prop,(∃ m,W 0 m σ H)∧∀ i m σ H,W i m σ H →
   ((Itl K a).stop i H∧D.nx σ H)∨((Itl K a).go i H∧∃ N:St→Hp→Prop,(∀ σ' H',N σ' H'→∃ m',m'<m∧W (i+1) m' σ' H')∧∀ x H',(Itl K a).yld i H x H'→g x σ H' fun σ2 H2=>tb { D with nx:=N,ct:=N,bk:=D.nx } σ2 H2):=by
 refine ⟨fun i m σ H=>m=xs.length - i∧i≤xs.length∧Pv i σ H,⟨xs.length,by simp,Nat.zero_le _,h0⟩,?_⟩
 rintro i m σ H ⟨rfl,hi,p⟩
 have q:=hl i σ H hi p
 by_cases hlt:i<xs.length
 · refine .inr ⟨⟨xs,xs[i],q,by simp [hlt]⟩,Pv (i+1),fun σ' H' p'=>⟨xs.length - (i+1),by omega,rfl,hlt,p'⟩,fun x H' y=>?_⟩
   obtain ⟨e,y⟩:=y
   subst e
   exact hs i x σ _ (y xs q) p
 · have e:i=xs.length:=by omega
   subst e
   exact .inl ⟨⟨xs,q,Nat.le_refl _⟩,hd σ H p⟩
theorem for_tup {K:PySem.W.Frag} {a:Addr} {xs:List V} {g:TG} {tb:TS} {D:Ends} {σ:St} {H:Hp} (Pv:Nat→St→Hp→Prop) (h0:Pv 0 σ H) (hl:∀ i σ H,i≤xs.length→Pv i σ H→SqT K H a xs)
 (hs:∀ i x σ H,xs[i]?=some x→Pv i σ H→g x σ H fun σ2 H2=>tb { D with nx:=Pv (i+1),ct:=Pv (i+1),bk:=D.nx } σ2 H2) (hd:∀ σ H,Pv xs.length σ H→D.nx σ H) :
 ∃ W:Nat→Nat→St→Hp→Prop,(∃ m,W 0 m σ H)∧∀ i m σ H,W i m σ H →
   ((Itt K a).stop i H∧D.nx σ H)∨((Itt K a).go i H∧∃ N:St→Hp→Prop,(∀ σ' H',N σ' H'→∃ m',m'<m∧W (i+1) m' σ' H')∧∀ x H',(Itt K a).yld i H x H'→g x σ H' fun σ2 H2=>tb { D with nx:=N,ct:=N,bk:=D.nx } σ2 H2):=by
 refine ⟨fun i m σ H=>m=xs.length - i∧i≤xs.length∧Pv i σ H,⟨xs.length,by simp,Nat.zero_le _,h0⟩,?_⟩
 rintro i m σ H ⟨rfl,hi,p⟩
 have q:=hl i σ H hi p
 by_cases hlt:i<xs.length
 · refine .inr ⟨⟨xs,xs[i],q,by simp [hlt]⟩,Pv (i+1),fun σ' H' p'=>⟨xs.length - (i+1),by omega,rfl,hlt,p'⟩,fun x H' y=>?_⟩
   obtain ⟨e,y⟩:=y
   subst e
   exact hs i x σ _ (y xs q) p
 · have e:i=xs.length:=by omega
   subst e
   exact .inl ⟨⟨xs,q,Nat.le_refl _⟩,hd σ H p⟩
theorem for_range {lo:Int} {n:Nat} {g:TG} {tb:TS} {D:Ends} {σ:St} {H:Hp} (Pv:Nat→St→Hp→Prop) (h0:Pv 0 σ H)
 (hs:∀ i σ H,i<n→Pv i σ H→g (.int (lo+i)) σ H fun σ2 H2=>tb { D with nx:=Pv (i+1),ct:=Pv (i+1),bk:=D.nx } σ2 H2) (hd:∀ σ H,Pv n σ H→D.nx σ H) :
 ∃ W:Nat→Nat→St→Hp→Prop,(∃ m,W 0 m σ H)∧∀ i m σ H,W i m σ H →
   ((Itr lo n).stop i H∧D.nx σ H)∨((Itr lo n).go i H∧∃ N:St→Hp→Prop,(∀ σ' H',N σ' H'→∃ m',m'<m∧W (i+1) m' σ' H')∧∀ x H',(Itr lo n).yld i H x H'→g x σ H' fun σ2 H2=>tb { D with nx:=N,ct:=N,bk:=D.nx } σ2 H2):=by
 refine ⟨fun i m σ H=>m=n - i∧i≤n∧Pv i σ H,⟨n,by simp,Nat.zero_le _,h0⟩,?_⟩
 rintro i m σ H ⟨rfl,hi,p⟩
 by_cases hlt:i<n
 · refine .inr ⟨hlt,Pv (i+1),fun σ' H' p'=>⟨n - (i+1),by omega,rfl,hlt,p'⟩,fun x H' y=>?_⟩
   obtain ⟨e,y⟩:=y
   subst e y
   exact hs i σ _ hlt p
 · have e:i=n:=by omega
   subst e
   exact .inl ⟨Nat.le_refl _,hd σ H p⟩
theorem while_by {c:TT} {tb:TS} {D:Ends} {σ:St} {H:Hp} (Pv:St→Hp→Prop) (μ:St→Hp→Nat) (h0:Pv σ H)
 (hs:∀ σ H,Pv σ H→c σ H fun b H1=>if b=true then tb { D with nx:=fun σ' H'=>Pv σ' H'∧μ σ' H'<μ σ H,ct:=fun σ' H'=>Pv σ' H'∧μ σ' H'<μ σ H,bk:=D.nx } σ H1 else D.nx σ H1)
 (mono:∀ σ H Q Q',(∀ b H1,Q b H1→Q' b H1)→c σ H Q→c σ H Q'):tWhile c tb D σ H:=by
 refine ⟨fun m σ H=>m=μ σ H∧Pv σ H,⟨_,rfl,h0⟩,?_⟩
 rintro m σ H ⟨rfl,p⟩
 refine mono σ H _ _ (fun b H1 q=>?_) (hs σ H p)
 cases b with
 | true=>exact ⟨_,fun σ' H' ⟨p',l⟩=>⟨_,l,rfl,p'⟩,q⟩
 | false=>exact q
end L2

namespace L2
open PySem PySem.Spec PyProof.Rows

noncomputable abbrev R2:=V→V→Hp→VK→Prop
noncomputable def OpR (X:Cx) (f:Value→Value→Sem Value) (r:R2):Prop :=
 ∀ (pins:List (Addr×Obj)) (s:Shared) (σ:St) (H:Hp) (x y:V) (v u:Value) (Q:VK),Inv X pins σ H s→RelV x v→RelV y u→r x y H Q →
   wpAny (model X.prog X.w) X.A (f v u) (EP X pins σ Q) X.xe s
noncomputable def UnR (X:Cx) (f:Value→Sem Value) (r:V→Hp→VK→Prop):Prop :=
 ∀ (pins:List (Addr×Obj)) (s:Shared) (σ:St) (H:Hp) (x:V) (v:Value) (Q:VK),Inv X pins σ H s→RelV x v→r x H Q →
   wpAny (model X.prog X.w) X.A (f v) (EP X pins σ Q) X.xe s
noncomputable def CallR (X:Cx) (f:Value) (r:List V→Hp→VK→Prop):Prop :=
 ∀ (pins:List (Addr×Obj)) (s:Shared) (σ:St) (H:Hp) (xs:List V) (us:List Value) (Q:VK),Inv X pins σ H s→Vals xs us→r xs H Q →
   wpAny (model X.prog X.w) X.A (call f us) (EP X pins σ Q) X.xe s
noncomputable def tOp (r:R2) (ta tb:TE):TE:=fun σ H Q=>ta σ H fun x H1=>tb σ H1 fun y H2=>r x y H2 Q
noncomputable def tUn (r:V→Hp→VK→Prop) (ta:TE):TE:=fun σ H Q=>ta σ H fun x H1=>r x H1 Q
noncomputable def rI (C:Int→Int→Prop) (g:Int→Int→V):R2:=fun x y H Q=>∃ i j,x=.int i∧y=.int j∧C i j∧Q (g i j) H
noncomputable def rI0 (g:Int→Int→V):R2:=fun x y H Q=>∃ i j,x=.int i∧y=.int j∧Q (g i j) H
noncomputable def rU (g:Int→V):V→Hp→VK→Prop:=fun x H Q=>∃ i,x=.int i∧Q (g i) H

section
variable {X:Cx} {a b c:Expr} {ta tb tc:TE} {pos:Pos}

theorem binT (ha:PE X a ta) (hb:PE X b tb) {pins:List (Addr×Obj)} {s:Shared} {σ:St} {H:Hp} {R:V→V→Hp→Prop} (I:Inv X pins σ H s)
 (h:ta σ H fun x H1=>tb σ H1 fun y H2=>R x y H2) {Q:Value→Shared→Prop} {f:Value→Value→Sem Value}
 (hf:∀ v u s2 x y H2,Inv X pins σ H2 s2→RelV x v→RelV y u→R x y H2→wpAny (model X.prog X.w) X.A (f v u) Q X.xe s2) :
 wpAny (model X.prog X.w) X.A (eval a X.env) (fun v s₁=>wpAny (model X.prog X.w) X.A (eval b X.env) (fun u s₂=>wpAny (model X.prog X.w) X.A (f v u) Q X.xe s₂) X.xe s₁) X.xe s:=by
 refine thn (ha pins s σ H _ I h) fun v s1 ⟨x,H1,I1,r1,q1⟩=>?_
 refine thn (hb pins s1 σ H1 _ I1 q1) fun u s2 ⟨y,H2,I2,r2,q2⟩=>?_
 exact hf v u s2 x y H2 I2 r1 r2 q2

theorem pe_op {op:Operator} {r:R2} (ho:OpR X (binaryOp op) r) (ha:PE X a ta) (hb:PE X b tb):PE X (.BinOp a op b pos) (tOp r ta tb):=by
 intro pins s σ H Q I h
 exact wpAny_BinOp (binT ha hb I h fun v u s2 x y H2 I2 rx ry q=>ho pins s2 σ H2 x y v u Q I2 rx ry q)
theorem pe_un {op:UnaryOp} {r:V→Hp→VK→Prop} (ho:UnR X (unaryOp op) r) (ha:PE X a ta):PE X (.UnaryOp op a pos) (tUn r ta):=by
 intro pins s σ H Q I h
 exact UnaryOp_ (thn (ha pins s σ H _ I h) fun v s1 ⟨x,H1,I1,r1,q1⟩=>ho pins s1 σ H1 x v Q I1 r1 q1)
theorem opI {f:Value→Value→Sem Value} {C:Int→Int→Prop} {g:Int→Int→Int}
 (rule:∀ (i j:Int) (t u:Tok) (s:Shared) (Q:Value→Shared→Prop) (E:Value→Shared→Prop),C i j→Q (.int (g i j) s.toks) { s with toks:=s.toks+1 }→wpAny (model X.prog X.w) X.A (f (.int i t) (.int j u)) Q E s) :
 OpR X f (rI C fun i j=>.int (g i j)):=by
 intro pins s σ H x y v u Q I rx ry h
 obtain ⟨i,j,rfl,rfl,hc,q⟩:=h
 obtain ⟨t,rfl⟩:=rx
 obtain ⟨t',rfl⟩:=ry
 exact rule i j t t' s _ _ hc ⟨.int (g i j),H,I.tok _,⟨_,rfl⟩,q⟩
theorem opI0 {f:Value→Value→Sem Value} {g:Int→Int→Int}
 (rule:∀ (i j:Int) (t u:Tok) (s:Shared) (Q:Value→Shared→Prop) (E:Value→Shared→Prop),Q (.int (g i j) s.toks) { s with toks:=s.toks+1 }→wpAny (model X.prog X.w) X.A (f (.int i t) (.int j u)) Q E s) :
 OpR X f (rI0 fun i j=>.int (g i j)):=by
 intro pins s σ H x y v u Q I rx ry h
 obtain ⟨i,j,rfl,rfl,q⟩:=h
 obtain ⟨t,rfl⟩:=rx
 obtain ⟨t',rfl⟩:=ry
 exact rule i j t t' s _ _ ⟨.int (g i j),H,I.tok _,⟨_,rfl⟩,q⟩
theorem opB0 {f:Value→Value→Sem Value} {g:Int→Int→Bool}
 (rule:∀ (i j:Int) (t u:Tok) (s:Shared) (Q:Value→Shared→Prop) (E:Value→Shared→Prop),Q (.bool (g i j)) s→wpAny (model X.prog X.w) X.A (f (.int i t) (.int j u)) Q E s) :
 OpR X f (rI0 fun i j=>.bl (g i j)):=by
 intro pins s σ H x y v u Q I rx ry h
 obtain ⟨i,j,rfl,rfl,q⟩:=h
 obtain ⟨t,rfl⟩:=rx
 obtain ⟨t',rfl⟩:=ry
 exact rule i j t t' s _ _ ⟨.bl (g i j),H,I,rfl,q⟩

noncomputable def CDiv (i j:Int):Prop:=0<j∧j<1073741824
noncomputable def CPow (i j:Int):Prop:=0≤j∧j≤1000000∧i.natAbs<2 ^ 64
noncomputable def CMul (i j:Int):Prop:=(-(2 ^ 64)<i∧i<2 ^ 64)∨(-(2 ^ 64)<j∧j<2 ^ 64)
theorem CMul.ok {i j:Int} (h:CMul i j):IntMulOk i j:=by
 rcases h with ⟨h1,h2⟩ | ⟨h1,h2⟩
 · exact .of_left (intBits_le_64 h1 h2)
 · exact .of_right (intBits_le_64 h1 h2)
theorem op_add:OpR X (binaryOp .Add) (rI0 fun i j=>.int (i+j)):=opI0 fun _ _ _ _ _ _ _ q=>add_int q
theorem op_sub:OpR X (binaryOp .Sub) (rI0 fun i j=>.int (i - j)):=opI0 fun _ _ _ _ _ _ _ q=>sub_int q
theorem op_mul:OpR X (binaryOp .Mult) (rI CMul fun i j=>.int (i * j)):=opI fun _ _ _ _ _ _ _ hc q=>mul_int q hc.ok
theorem op_fdiv:OpR X (binaryOp .FloorDiv) (rI CDiv fun i j=>.int (i / j)):=opI fun i j _ _ _ _ _ hc q=>by
 have h1:(0:Int)<j:=hc.1
 have h2:j<1073741824:=hc.2
 exact floordiv_int (by omega) (by rw [Int.fdiv_eq_ediv_of_nonneg i (by omega)];exact q) (.inl (PyProof.noPylong_small (by omega)))
theorem op_mod:OpR X (binaryOp .Mod) (rI (fun _ j=>0<j) fun i j=>.int (i % j)):=opI fun i j _ _ _ _ _ hc q=>by
 have h1:(0:Int)<j:=hc
 exact mod_int' (by omega) (by rw [Int.fmod_eq_emod_of_nonneg i (by omega)];exact q)
theorem op_pow:OpR X (binaryOp .Pow) (rI CPow fun i j=>.int (i ^ j.toNat)):=opI fun _ _ _ _ _ _ _ hc q=>pow_int_small hc.1 hc.2.1 hc.2.2 q
theorem unI {f:Value→Sem Value} {g:Int→Int}
 (rule:∀ (i:Int) (t:Tok) (s:Shared) (Q:Value→Shared→Prop) (E:Value→Shared→Prop),Q (.int (g i) s.toks) { s with toks:=s.toks+1 }→wpAny (model X.prog X.w) X.A (f (.int i t)) Q E s) :
 UnR X f (rU fun i=>.int (g i)):=by
 intro pins s σ H x v Q I rx h
 obtain ⟨i,rfl,q⟩:=h
 obtain ⟨t,rfl⟩:=rx
 exact rule i t s _ _ ⟨.int (g i),H,I.tok _,⟨_,rfl⟩,q⟩
theorem un_neg:UnR X (unaryOp .USub) (rU fun i=>.int (-i)):=unI fun _ _ _ _ _ q=>neg_int q
end

noncomputable def scal:V→V→Bool
 | .non,.non=>true | .non,.int _=>true | .int _,.non=>true | .non,.bl _=>true | .bl _,.non=>true | .non,.str _=>true | .str _,.non=>true
 | .int _,.int _=>true | .bl _,.bl _=>true | .str _,.str _=>true | .byt _,.byt _=>true
 | .int _,.str _=>true | .str _,.int _=>true | .bl _,.str _=>true | .str _,.bl _=>true
 | _,_=>false
noncomputable def rEq:R2:=fun x y H Q=>scal x y=true∧Q (.bl (decide (x=y))) H
noncomputable def rNe:R2:=fun x y H Q=>scal x y=true∧Q (.bl (!decide (x=y))) H

theorem dec_int {i j:Int}:decide (V.int i=V.int j)=(i == j):=by
 rw [Bool.eq_iff_iff]
 simp
theorem dec_bl {i j:Bool}:decide (V.bl i=V.bl j)=(i == j):=by
 rw [Bool.eq_iff_iff]
 simp
theorem dec_str {i j:Str}:decide (V.str i=V.str j)=(i == j):=by
 rw [Bool.eq_iff_iff]
 simp
theorem dec_byt {i j:Array UInt8}:decide (V.byt i=V.byt j)=(i.toList == j.toList):=by
 rw [Bool.eq_iff_iff]
 cases i
 cases j
 simp

section
variable {X:Cx} {a b c:Expr} {ta tb tc:TE} {pos:Pos}
theorem fin_bl {pins:List (Addr×Obj)} {σ:St} {H:Hp} {s:Shared} {Q:VK} {k k':Bool} (I:Inv X pins σ H s) (q:Q (.bl k) H) (e:k=k'):EP X pins σ Q (.bool k') s:=by
 subst e
 exact ⟨.bl k,H,I,rfl,q⟩
theorem op_eq:OpR X (compareOp .Eq) rEq:=by
 intro pins s σ H x y v u Q I rx ry h
 obtain ⟨hs,q⟩:=h
 cases x with
 | non =>
   cases rx
   cases y with
   | non=>cases ry;exact PySem.EqNone.eq_none_none (fin_bl I q (by simp))
   | bl j=>cases ry;exact PySem.EqNone.eq_none_bool (fin_bl I q (by simp))
   | int j=>obtain ⟨t',rfl⟩:=ry;exact PySem.EqNone.eq_none_int (fin_bl I q (by simp))
   | str j=>obtain ⟨t',rfl⟩:=ry;exact PySem.EqNone.eq_none_str (fin_bl I q (by simp))
   | _=>exact absurd (show false=true from hs) Bool.false_ne_true
 | bl i =>
   cases rx
   cases y with
   | non=>cases ry;exact PySem.EqNone.eq_bool_none (fin_bl I q (by simp))
   | bl j=>cases ry;exact eq_bool (fin_bl I q dec_bl)
   | str j=>obtain ⟨t',rfl⟩:=ry;exact PySem.EqMixed.eq_bool_str (fin_bl I q (by simp))
   | _=>exact absurd (show false=true from hs) Bool.false_ne_true
 | int i =>
   obtain ⟨t,rfl⟩:=rx
   cases y with
   | non=>cases ry;exact PySem.EqNone.eq_int_none (fin_bl I q (by simp))
   | int j=>obtain ⟨t',rfl⟩:=ry;exact eq_int (fin_bl I q dec_int)
   | str j=>obtain ⟨t',rfl⟩:=ry;exact PySem.EqMixed.eq_int_str (fin_bl I q (by simp))
   | _=>exact absurd (show false=true from hs) Bool.false_ne_true
 | str i =>
   obtain ⟨t,rfl⟩:=rx
   cases y with
   | non=>cases ry;exact PySem.EqNone.eq_str_none (fin_bl I q (by simp))
   | bl j=>cases ry;exact PySem.EqMixed.eq_str_bool (fin_bl I q (by simp))
   | int j=>obtain ⟨t',rfl⟩:=ry;exact PySem.EqMixed.eq_str_int (fin_bl I q (by simp))
   | str j=>obtain ⟨t',rfl⟩:=ry;exact eq_str (fin_bl I q dec_str)
   | _=>exact absurd (show false=true from hs) Bool.false_ne_true
 | byt i =>
   obtain ⟨t,rfl⟩:=rx
   cases y with
   | byt j=>obtain ⟨t',rfl⟩:=ry;exact PySem.W.eq_bytes (fin_bl I q dec_byt)
   | _=>exact absurd (show false=true from hs) Bool.false_ne_true
 | _=>cases y <;> exact absurd (show false=true from hs) Bool.false_ne_true
theorem op_ne:OpR X (compareOp .NotEq) rNe:=by
 intro pins s σ H x y v u Q I rx ry h
 obtain ⟨hs,q⟩:=h
 cases x with
 | non =>
   cases rx
   cases y with
   | non=>cases ry;exact PySem.EqNone.ne_none_none (fin_bl I q (by simp))
   | bl j=>cases ry;exact PySem.EqNone.ne_none_bool (fin_bl I q (by simp))
   | int j=>obtain ⟨t',rfl⟩:=ry;exact PySem.EqNone.ne_none_int (fin_bl I q (by simp))
   | str j=>obtain ⟨t',rfl⟩:=ry;exact PySem.EqNone.ne_none_str (fin_bl I q (by simp))
   | _=>exact absurd (show false=true from hs) Bool.false_ne_true
 | bl i =>
   cases rx
   cases y with
   | non=>cases ry;exact PySem.EqNone.ne_bool_none (fin_bl I q (by simp))
   | bl j=>cases ry;exact ne_bool (fin_bl I q (congrArg not dec_bl))
   | str j=>obtain ⟨t',rfl⟩:=ry;exact PySem.EqMixed.ne_bool_str (fin_bl I q (by simp))
   | _=>exact absurd (show false=true from hs) Bool.false_ne_true
 | int i =>
   obtain ⟨t,rfl⟩:=rx
   cases y with
   | non=>cases ry;exact PySem.EqNone.ne_int_none (fin_bl I q (by simp))
   | int j=>obtain ⟨t',rfl⟩:=ry;exact ne_int (fin_bl I q (congrArg not dec_int))
   | str j=>obtain ⟨t',rfl⟩:=ry;exact PySem.EqMixed.ne_int_str (fin_bl I q (by simp))
   | _=>exact absurd (show false=true from hs) Bool.false_ne_true
 | str i =>
   obtain ⟨t,rfl⟩:=rx
   cases y with
   | non=>cases ry;exact PySem.EqNone.ne_str_none (fin_bl I q (by simp))
   | bl j=>cases ry;exact PySem.EqMixed.ne_str_bool (fin_bl I q (by simp))
   | int j=>obtain ⟨t',rfl⟩:=ry;exact PySem.EqMixed.ne_str_int (fin_bl I q (by simp))
   | str j=>obtain ⟨t',rfl⟩:=ry;exact ne_str (fin_bl I q (congrArg not dec_str))
   | _=>exact absurd (show false=true from hs) Bool.false_ne_true
 | byt i =>
   obtain ⟨t,rfl⟩:=rx
   cases y with
   | byt j=>obtain ⟨t',rfl⟩:=ry;exact PySem.W.ne_bytes (fin_bl I q (congrArg not dec_byt))
   | _=>exact absurd (show false=true from hs) Bool.false_ne_true
 | _=>cases y <;> exact absurd (show false=true from hs) Bool.false_ne_true

theorem op_lt:OpR X (compareOp .Lt) (rI0 fun i j=>.bl (decide (i<j))):=opB0 fun _ _ _ _ _ _ _ q=>lt_int q
theorem op_gt:OpR X (compareOp .Gt) (rI0 fun i j=>.bl (decide (j<i))):=opB0 fun _ _ _ _ _ _ _ q=>gt_int q
theorem op_ge:OpR X (compareOp .GtE) (rI0 fun i j=>.bl (decide (j≤i))):=opB0 fun _ _ _ _ _ _ _ q=>ge_int q
theorem op_isN:OpR X (compareOp .Is) (fun x y H Q=>y=.non∧Q (.bl (decide (x=.non))) H):=by
 intro pins s σ H x y v u Q I rx ry h
 obtain ⟨rfl,q⟩:=h
 cases ry
 refine is_none_gen (fin_bl I q ?_)
 cases x <;> first
  | (cases rx;rfl)
  | (obtain ⟨t,rfl⟩:=rx;rfl)
theorem op_notN:OpR X (compareOp .IsNot) (fun x y H Q=>y=.non∧Q (.bl (!decide (x=.non))) H):=by
 intro pins s σ H x y v u Q I rx ry h
 obtain ⟨rfl,q⟩:=h
 cases ry
 refine isnot_none_gen (fin_bl I q ?_)
 cases x <;> first
  | (cases rx;rfl)
  | (obtain ⟨t,rfl⟩:=rx;rfl)

theorem nomark (b:Expr) {op:CmpOp} (h:op≠.In:=by decide) (h2:op≠.NotIn:=by decide):behindInMarks op b=false:=by
 have e1:(op == CmpOp.In)=false:=by cases op <;> first | rfl | exact absurd rfl h
 have e2:(op == CmpOp.NotIn)=false:=by cases op <;> first | rfl | exact absurd rfl h2
 cases b <;> simp [behindInMarks,e1,e2]
theorem pe_cmpR {op:CmpOp} {r:R2} (ho:OpR X (compareOp op) r) (ha:PE X a ta) (hb:PE X b tb) (hm:behindInMarks op b=false):PE X (.Compare a [op] [b] pos) (tOp r ta tb):=by
 intro pins s σ H Q I h
 exact wpAny_Compare1 (binT ha hb I h fun v u s2 x y H2 I2 rx ry q=>ho pins s2 σ H2 x y v u Q I2 rx ry q) hm
noncomputable def tTest (t:TE):TT:=fun σ H Q=>t σ H fun x H'=>∃ k,x=.bl k∧Q k H'
theorem pt_cmpR {op:CmpOp} {r:R2} (ho:OpR X (compareOp op) r) (ha:PE X a ta) (hb:PE X b tb) (hm:behindInMarks op b=false):PT X (.Compare a [op] [b] pos) (tTest (tOp r ta tb)):=by
 intro pins s σ H Q I h
 refine wpAny_isTrue_Compare1 (thn (ha pins s σ H _ I h) fun v s1 ⟨x,H1,I1,r1,q1⟩=>thn (hb pins s1 σ H1 _ I1 q1) fun u s2 ⟨y,H2,I2,r2,q2⟩ =>
  thn (ho pins s2 σ H2 x y v u _ I2 r1 r2 q2) fun c s3 ⟨z,H3,I3,r3,k,e,q3⟩=>?_) hm
 subst e
 cases r3
 exact wpAny_truthy_bool ⟨H3,I3,q3⟩
theorem line63:(sizeLine:Nat)<2 ^ 63:=by rw [sizeLine_eq];decide
theorem vals1 {x:V} {us:List Value} (r:Vals [x] us):∃ u,us=[u]∧RelV x u:=by
 cases r with
 | cons r1 r2=>cases r2;exact ⟨_,rfl,r1⟩
theorem vals2 {x y:V} {us:List Value} (r:Vals [x,y] us):∃ u w',us=[u,w']∧RelV x u∧RelV y w':=by
 cases r with
 | cons r1 r2 =>
   cases r2 with
   | cons r3 r4=>cases r4;exact ⟨_,_,rfl,r1,r3⟩
theorem call_abs:CallR X (.builtin "abs") (fun xs H Q=>∃ i,xs=[.int i]∧Q (.int (if i<0 then -i else i)) H):=by
 intro pins s σ H xs us Q I r h
 obtain ⟨i,rfl,q⟩:=h
 obtain ⟨u,rfl,t,rfl⟩:=vals1 r
 exact call_abs_int fun u tk=>⟨.int (if i<0 then -i else i),H,I.tok _,⟨_,rfl⟩,q⟩
theorem call_max2 (hc:X.calm=true):CallR X (.builtin "max") (fun xs H Q=>∃ i j,xs=[.int i,.int j]∧Q (.int (if j > i then j else i)) H):=by
 intro pins s σ H xs us Q I r h
 obtain ⟨i,j,rfl,q⟩:=h
 obtain ⟨u,w',rfl,⟨t,rfl⟩,⟨t',rfl⟩⟩:=vals2 r
 refine max_two_ints (I.ok.hd hc) fun h' tk k=>⟨_,H,I.kept k,?_,q⟩
 by_cases hj:j > i
 · rw [if_pos hj,if_pos hj];exact ⟨_,rfl⟩
 · rw [if_neg hj,if_neg hj];exact ⟨_,rfl⟩
theorem call_min2 (hc:X.calm=true):CallR X (.builtin "min") (fun xs H Q=>∃ i j,xs=[.int i,.int j]∧Q (.int (if j<i then j else i)) H):=by
 intro pins s σ H xs us Q I r h
 obtain ⟨i,j,rfl,q⟩:=h
 obtain ⟨u,w',rfl,⟨t,rfl⟩,⟨t',rfl⟩⟩:=vals2 r
 refine min_two_ints (I.ok.hd hc) fun h' tk k=>⟨_,H,I.kept k,?_,q⟩
 by_cases hj:j<i
 · rw [if_pos hj,if_pos hj];exact ⟨_,rfl⟩
 · rw [if_neg hj,if_neg hj];exact ⟨_,rfl⟩
theorem call_int1:CallR X (.type "int") (fun xs H Q=>(∃ i,xs=[.int i]∧Q (.int i) H)∨∃ k,xs=[.bl k]∧Q (.int (if k then 1 else 0)) H):=by
 intro pins s σ H xs us Q I r h
 rcases h with ⟨i,rfl,q⟩ | ⟨k,rfl,q⟩
 · obtain ⟨u,rfl,t,rfl⟩:=vals1 r
   exact call_int_int ⟨.int i,H,I,⟨_,rfl⟩,q⟩
 · obtain ⟨u,rfl,r1⟩:=vals1 r
   cases r1
   exact call_int_bool ⟨.int (if k then 1 else 0),H,I.tok _,⟨_,rfl⟩,q⟩
end
end L2

namespace L2
open PySem PySem.Spec PyProof.Rows

section
variable {prog:Program} {w:World} {A:Around} {E:Value→Shared→Prop} {s:Shared} {K:PySem.W.Frag} {x dx C f:Addr} {mA:Str→Option Value} {name:Str} {v:Value}

end

theorem RelO.some_of {v:V} {o:Option Value} (r:RelO (some v) o):∃ u,o=some u∧RelV v u:=by
 cases o with
 | none=>exact (show False from r).elim
 | some u=>exact ⟨u,rfl,r⟩
section
variable {P:Program} {w:World} {H H':Hp} {h h':Heap} {a C dx:Addr} {fs fs':List (Str×V)}
end

section
variable {X:Cx} {pins:List (Addr×Obj)} {σ:St} {H:Hp} {s:Shared} {a C dx:Addr} {fs:List (Str×V)} {f:Str} {v:V} {A:Around} {E:Value→Shared→Prop}

end

section
variable {X:Cx} {o e value:Expr} {f:Str} {pos pos' tpos:Pos} {ta tv:TE}
end

section
variable {X:Cx} {pins:List (Addr×Obj)} {σ:St} {H:Hp} {s:Shared} {A:Around} {E:Value→Shared→Prop} {Q:Value→Shared→Prop} {c:Value} {b:Bool}
end
end L2

namespace L2
open PySem PySem.Spec PyProof.Rows

structure Room (k:Nat) (A:Around):Prop where
 hd:A.handled=none
 dp:A.depth+3 * k+5<recursionLimit
 un:A.units+16 * k+200<cLine
 gd:A.guards=some []
theorem Room.mono {j k:Nat} {A:Around} (r:Room k A) (h:j≤k):Room j A:=⟨r.hd,by have:=r.dp;omega,by have:=r.un;omega,r.gd⟩
theorem Room.deeper {k:Nat} {A:Around} (r:Room (k+1) A) (env:Env):Room k (A.deeper env) :=
 ⟨r.hd,by have:=r.dp;show A.depth+1+3 * k+5<_;omega,by have:=r.un;show A.units+3+16 * k+200<_;omega,r.gd⟩
theorem Room.depth {k:Nat} {A:Around} (r:Room k A):A.depth<recursionLimit:=by have:=r.dp;omega
theorem Room.units {k:Nat} {A:Around} (r:Room k A):A.units+64<cLine:=by have:=r.un;omega
noncomputable def tNil:TA:=fun _ H Q=>Q [] H
noncomputable def tCons (ta:TE) (tr:TA):TA:=fun σ H Q=>ta σ H fun x H1=>tr σ H1 fun xs H2=>Q (x :: xs) H2
section
variable {X:Cx} {e:Expr} {es:List Expr} {te:TE} {t:TA} {pos:Pos}
theorem pa_nil:PA X [] tNil:=fun _ _ _ _ H Q I h=>Calls.spliced_nil ⟨[],H,I,.nil,h⟩
theorem pa_cons (ha:PE X e te) (hr:PA X es t) (hs:starEach (e :: es) X.env=(false,eval e X.env) :: starEach es X.env:=by rfl):PA X (e :: es) (tCons te t):=by
 intro pos pins s σ H Q I h
 rw [hs]
 show wpAny _ _ (spliced ((false,eval e X.env) :: backTo pos (starEach es X.env))) _ _ s
 refine Calls.spliced_cons (thn (ha pins s σ H _ I h) fun u s1 ⟨x,H1,I1,r1,q1⟩=>?_)
 exact thn (hr pos pins s1 σ H1 _ I1 q1) fun us s2 ⟨xs,H2,I2,r2,q2⟩=>⟨x :: xs,H2,I2,.cons r1 r2,q2⟩

noncomputable def tTup (t:TA):TE:=fun σ H Q=>t σ H fun xs H1=>xs.length≤sizeLine∧∀ p,H1 p=none→Q (.ref p) (upd H1 p (.tup xs))
theorem pe_tup {x1} (h:PA X es t):PE X (.Tuple es x1 pos) (tTup t):=by
 intro pins s σ H Q I hq
 refine wpAny_Tuple_spliced (thn (h pos pins s σ H _ I hq) fun us s1 ⟨xs,H1,I1,r,z,q⟩=>⟨by rw [← r.length];exact z,?_⟩)
 have hf:H1 s1.heap.objs.size=none:=I1.hok.fresh (Nat.le_refl _)
 refine ⟨.ref s1.heap.objs.size,upd H1 s1.heap.objs.size (.tup xs),I1.laid (t':=s1.toks) (fun b u e=>Heap.get?_push_of_some _ e) (Nat.le_refl _) ?_,rfl,q _ hf⟩
 exact ⟨z,us,r,⟨_,Heap.get?_push_size _ rfl,rfl,_,rfl⟩⟩
end

noncomputable abbrev Sp:=List V→Hp→VK→XK→Prop
noncomputable abbrev CXT:=List Env→Hp→Shared→XK→Value→Shared→Prop

structure Env0 (P:Program) (w:World) (K:PySem.W.Frag) (mg:Str→Option Value) (base:Heap) (A:Around) (outer:List Env) (s:Shared) (H:Hp):Prop where
 frames:A.frames=some outer
 mod:Mod K mg base
 bs:∀ b o,base.get? b=some o→s.heap.get? b=some o∧H b=none
 bsz:base.objs.size≤s.heap.objs.size
 funs:s.heap.FunFrames base outer
 frf:∀ b∈frs outer,H b=none
 hok:HOk P w H s.heap
 bare:AllBare s.gens
noncomputable def CE (outer:List Env) (P:Program) (w:World) (H:Hp) (s:Shared) (Q:VK) (u:Value) (s':Shared):Prop :=
 ∃ v H',s'.os=s.os∧AllBare s'.gens∧Un (frs outer) [] H H' s.heap s'.heap∧HOk P w H' s'.heap∧RelV v u∧Q v H'
noncomputable def CR (CX:CXT) (outer:List Env) (P:Program) (w:World) (H:Hp) (s:Shared) (Q:VK) (E:XK) (r:Result) (s':Shared):Prop :=
 match r with
 | .ok (.ret u)=>CE outer P w H s Q u s'
 | .ok _=>False
 | .error e=>CX outer H s E e s'
structure FnOk (P:Program) (w:World) (K:PySem.W.Frag) (mg:Str→Option Value) (base:Heap) (CX:CXT) (k:Nat) (f:Addr) (fd:FuncData) (ps:List Str) (sp:Sp):Prop where
 len:∀ vs H Q E,sp vs H Q E→vs.length=ps.length
 run:∀ (A:Around) (outer:List Env) (s:Shared) (H:Hp) (args:Args) (us:List Value) (vs:List V) (Q:VK) (E:XK),Room k A→Env0 P w K mg base A outer s H→BindsTo s fd args (ps.zip us)→Vals vs us→sp vs H Q E →
  codeAny (model P w) A (.call (.ref f) args) (CR CX outer P w H s Q E) s
theorem FnOk.imp {P:Program} {w:World} {K:PySem.W.Frag} {mg:Str→Option Value} {base:Heap} {CX:CXT} {k:Nat} {f:Addr} {fd:FuncData} {ps:List Str} {sp sp':Sp} (F:FnOk P w K mg base CX k f fd ps sp)
 (h:∀ vs H Q E,sp' vs H Q E→sp vs H Q E):FnOk P w K mg base CX k f fd ps sp' :=
 ⟨fun vs H Q E q=>F.len vs H Q E (h _ _ _ _ q),fun A outer s H args us vs Q E hr he hb hv hs=>F.run A outer s H args us vs Q E hr he hb hv (h _ _ _ _ hs)⟩

section
variable {X:Cx} {pins:List (Addr×Obj)} {σ:St} {H:Hp} {s s':Shared}
theorem Inv.env0 (I:Inv X pins σ H s):Env0 X.prog X.w X.K X.mg X.base X.A X.stack s H :=
 ⟨I.ok.frames,I.ok.mod,I.bs,Nat.le_trans I.ok.bsz I.sz,I.stack,I.stkFree,I.hok,I.bare⟩
theorem Inv.after {Q:VK} {u:Value} (I:Inv X pins σ H s) (h:CE X.stack X.prog X.w H s Q u s'):EP X pins σ Q u s':=by
 obtain ⟨v,H',os,bare,un,hok,r,q⟩:=h
 obtain ⟨hh,g,d,t,os'⟩:=s'
 obtain rfl:os'=s.os:=os
 exact ⟨v,H',I.call (h':=hh) (g':=g) (d':=d) (t':=t) (ch:=[]) un hok bare (fun b z=>absurd z (by simp)),r,q⟩
end

noncomputable def tCall (sp:Sp) (dvs:List V) (E:XK) (t:TA):TE:=fun σ H Q=>t σ H fun vs H1=>sp (vs ++ dvs) H1 Q E
noncomputable def Binds (K:PySem.W.Frag) (fd:FuncData) (ps:List Str) (ds:List Value):Prop :=
 ∀ (s:Shared) (us:List Value),K.In s.heap→(us ++ ds).length=ps.length→BindsTo s fd ⟨us,[]⟩ (ps.zip (us ++ ds))
theorem Binds.all {K:PySem.W.Frag} {fd:FuncData} {ps:List Str} (h:∀ us:List Value,us.length=ps.length→bindArgs fd ⟨us,[]⟩=pure (ps.zip us)):Binds K fd ps []:=fun s us _ hl=>by
 rw [List.append_nil] at hl ⊢
 exact .of_eq (h us hl)

noncomputable def Passes (CX:CXT) (X:Cx) (E:XK):Prop:=∀ (pins:List (Addr×Obj)) (σ:St) (H:Hp) (s:Shared) (e:Value) (s':Shared),Inv X pins σ H s→CX X.stack H s E e s'→X.xe e s'

section
variable {X:Cx} {CX:CXT} {k:Nat} {f C:Addr} {fd:FuncData} {ps:List Str} {sp:Sp} {dvs:List V} {ds:List Value} {E:XK} {x m:Str} {p pos apos:Pos} {e o:Expr} {es:List Expr} {ta:TE} {t:TA}

theorem run_fn {pins:List (Addr×Obj)} {σ:St} {H:Hp} {s:Shared} {Q:VK} {us:List Value} {vs:List V} (F:FnOk X.prog X.w X.K X.mg X.base CX k f fd ps sp) (hr:Room k X.A) (hb:Binds X.K fd ps ds) (hd:Vals dvs ds) (hx:Passes CX X E)
 (I:Inv X pins σ H s) (r:Vals vs us) (h:sp (vs ++ dvs) H Q E):wpAny (model X.prog X.w) X.A (call (.ref f) us) (EP X pins σ Q) X.xe s:=by
 have r2:Vals (vs ++ dvs) (us ++ ds):=r.append hd
 have hl:(us ++ ds).length=ps.length:=by rw [← r2.length];exact F.len _ _ _ _ h
 refine wpAny_call (codeAny_mono (F.run X.A X.stack s H ⟨us,[]⟩ (us ++ ds) (vs ++ dvs) Q E hr I.env0 (hb s us I.kIn hl) r2 h) fun r s' hq=>?_)
 cases r with
 | error e=>exact hx pins σ H s e s' I hq
 | ok fl =>
   cases fl with
   | ret u=>exact I.after hq
   | next=>exact False.elim hq
   | brk=>exact False.elim hq
   | cont=>exact False.elim hq

theorem pe_call (F:FnOk X.prog X.w X.K X.mg X.base CX k f fd ps sp) (hr:Room k X.A) (hg:Gl X x) (hm:X.mg x=some (.ref f)) (hk:PySem.W.keepIn X.K (.ref f)=true) (hb:Binds X.K fd ps ds) (hd:Vals dvs ds) (hx:Passes CX X E)
 (ha:PA X (e :: es) t) (hdb:(x == ("__debug__":Str))=false:=by decide) (he:starEach (e :: es) X.env=(false,eval e X.env) :: starEach es X.env:=by rfl) (hpl:(backTo pos (starEach es X.env)).any (·.1)=false:=by rfl) :
 PE X (.Call (.Name x p) (e :: es) [] pos) (tCall sp dvs E t):=by
 intro pins s σ H Q I h
 refine wpAny_Call_Name_kw (ld_glob I hg hm ?_ hdb)
 refine PySem.W.callWith_K (h₀:=X.base) I.ok.mod.kin hk (thn (ha pos pins s σ H _ I h) fun us s1 ⟨vs,H1,I1,r,q⟩=>⟨I1.kIn,?_⟩) he hpl
 exact run_fn F hr hb hd hx I1 r q
end

section
variable {X:Cx} {CX:CXT} {k:Nat} {f C:Addr} {fd:FuncData} {ps ks:List Str} {sp:Sp} {E:XK} {x m:Str} {p pos apos kpos:Pos} {e o:Expr} {es:List Expr} {kws:List Keyword} {te ta:TE} {t tk:TA} {nm:Option Str}
variable {g:List Value→List Value→List Value} {gV:List V→List V→List V}
end

structure FnScope (N P:List Str) (sc:Scope):Prop where
 kind:sc.kind=.function
 co:sc.isCoroutine=false
 gen:sc.isGenerator=false
 nd:N.Nodup
 pre:N.take P.length=P
 par:∀ x∈P,sc.names.lookup x=some .local∨sc.names.lookup x=some .cell
 nofree:∀ y∈sc.names,y.2≠.free

theorem bindL_out {kindOf:Str→Option NameKind} {x:Str}:∀ {binds:List (Str×Value)} {m:Str→Option Value},(∀ v,(x,v) ∉ binds)→bindL kindOf binds m x=m x
 | [],_,_=>rfl
 | (n,v) :: r,m,h=>by
   unfold bindL
   rw [bindL_out fun w hw=>h w (List.mem_cons_of_mem _ hw)]
   split
   · have:x≠n:=by rintro rfl;exact h v List.mem_cons_self
     simp [this]
   · rfl
theorem bindC_out {kindOf:Str→Option NameKind} {x:Str}:∀ {binds:List (Str×Value)} {m:Str→Option Value},(∀ v,(x,v) ∉ binds)→bindC kindOf binds m x=m x
 | [],_,_=>rfl
 | (n,v) :: r,m,h=>by
   unfold bindC
   rw [bindC_out fun w hw=>h w (List.mem_cons_of_mem _ hw)]
   split
   · rfl
   · have:x≠n:=by rintro rfl;exact h v List.mem_cons_self
     simp [this]
theorem bindL_get {kindOf:Str→Option NameKind} {x:Str} {v:Value}:∀ {P:List Str} {vs:List Value} {i:Nat} {m:Str→Option Value},P.Nodup→P[i]?=some x→vs[i]?=some v→kindOf x=some .local →
 bindL kindOf (P.zip vs) m x=some v
 | [],_,_,_,_,h,_,_=>by simp at h
 | _ :: _,[],_,_,_,_,h,_=>by simp at h
 | p :: P,w :: vs,0,m,nd,h1,h2,hk=>by
   simp at h1 h2;subst h1;subst h2
   show bindL kindOf ((p,w) :: P.zip vs) m p=_
   unfold bindL
   rw [bindL_out fun v hv=>(List.nodup_cons.mp nd).1 (List.of_mem_zip hv).1,if_pos hk]
   simp
 | p :: P,w :: vs,i+1,m,nd,h1,h2,hk=>by
   show bindL kindOf ((p,w) :: P.zip vs) m x=_
   unfold bindL
   exact bindL_get (i:=i) (List.nodup_cons.mp nd).2 (by simpa using h1) (by simpa using h2) hk
theorem bindC_get {kindOf:Str→Option NameKind} {x:Str} {v:Value}:∀ {P:List Str} {vs:List Value} {i:Nat} {m:Str→Option Value},P.Nodup→P[i]?=some x→vs[i]?=some v→kindOf x≠some .local →
 bindC kindOf (P.zip vs) m x=some v
 | [],_,_,_,_,h,_,_=>by simp at h
 | _ :: _,[],_,_,_,_,h,_=>by simp at h
 | p :: P,w :: vs,0,m,nd,h1,h2,hk=>by
   simp at h1 h2;subst h1;subst h2
   show bindC kindOf ((p,w) :: P.zip vs) m p=_
   unfold bindC
   rw [bindC_out fun v hv=>(List.nodup_cons.mp nd).1 (List.of_mem_zip hv).1,if_neg hk]
   simp
 | p :: P,w :: vs,i+1,m,nd,h1,h2,hk=>by
   show bindC kindOf ((p,w) :: P.zip vs) m x=_
   unfold bindC
   exact bindC_get (i:=i) (List.nodup_cons.mp nd).2 (by simpa using h1) (by simpa using h2) hk

noncomputable def start (N:List Str) (vs:List V):St:=vs.map some ++ List.replicate (N.length - vs.length) none

noncomputable def cxOf (CX:CXT) (P:Program) (w:World) (K:PySem.W.Frag) (mg:Str→Option Value) (base:Heap) (N:List Str) (qual:Str) (scope:Scope) (f:Addr) (cd:Value) (A:Around) (outer:List Env) (s:Shared) (H:Hp) (E:XK):Cx where
 prog:=P
 w:=w
 K:=K
 mg:=mg
 base:=base
 A:=A.deeper (envOfC qual scope s.heap.objs.size f cd)
 N:=N
 s₀:=s
 H₀:=H
 env:=envOfC qual scope s.heap.objs.size f cd
 outer:=outer
 stack:=envOfC qual scope s.heap.objs.size f cd :: outer
 ex:=[]
 calm:=true
 fn:=fun _=>true
 pn:=[]
 xe:=fun e s'=>wpAny (model P w) (A.deeper (envOfC qual scope s.heap.objs.size f cd)) (leaving (envOfC qual scope s.heap.objs.size f cd) e) (fun _ s''=>CX outer H s E e s'') (fun e' s''=>CX outer H s E e' s'') s'

theorem cell_has {sc:Scope} {n:Nat} {x:Str} (h:sc.names.lookup x=some .cell):∃ c,(cellsFrom n sc.names []).lookup x=some c:=by
 have q:=PySem.W.cellsFrom_some sc.names n [] (.inl h)
 exact Option.isSome_iff_exists.mp q

theorem inv_start {CX:CXT} {P:Program} {w:World} {K:PySem.W.Frag} {mg:Str→Option Value} {base:Heap} {N ps:List Str} {qual:Str} {scope:Scope} {f:Addr} {cd:Value} {A:Around} {outer:List Env} {s s1:Shared} {H:Hp} {E:XK} {us:List Value} {vs:List V}
 (S:FnScope N ps scope) (hd:A.handled=none) (e0:Env0 P w K mg base A outer s H) (hl:vs.length=ps.length) (r:Vals vs us)
 (x:InCallC s s.heap.objs.size (bindL (envOfC qual scope s.heap.objs.size f cd).kindOf (ps.zip us) fun _=>none) (cellsFrom (s.heap.objs.size+1) scope.names []) (bindC (envOfC qual scope s.heap.objs.size f cd).kindOf (ps.zip us) fun _=>none) s1) :
 Inv (cxOf CX P w K mg base N qual scope f cd A outer s H E) [] (start N vs) H s1:=by
 have hpl:ps.length≤N.length:=by have:=congrArg List.length S.pre;rw [List.length_take] at this;omega
 obtain ⟨h1,tk,rfl,hk⟩:=x.done
 have noA:∀ b:Addr,b ∉ (cxOf CX P w K mg base N qual scope f cd A outer s H E).ex:=fun b z=>absurd (show b∈([]:List Addr) from z) (by simp)
 refine ⟨⟨e0.mod,S.kind,rfl,rfl,Nat.le_refl _,fun y z c h1 h2=>?_,fun y hy=>?_,fun y c _ h=>?_,fun _=>hd,Around.frames_deeper e0.frames,.inr ⟨rfl,rfl⟩,fun b z=>absurd z (noA b),e0.bs,e0.bsz,fun b _ _=>noA b,fun b z=>absurd z (noA b),e0.funs,e0.frf⟩,
  rfl,e0.bare,Un.kept hk,⟨_,x.toInCall.ns,fun i y v h1 h2 h3=>?_⟩,fun y c h=>⟨_,x.cell y c h⟩,e0.hok.fresh (Nat.le_refl _),fun y c h=>?_,fun p hp=>absurd (show p∈([]:List (Addr×Obj)) from hp) (by simp),e0.hok.kept hk,?_⟩
 · exact name_of_addr x.apart (PySem.mem_of_lookup h1) (PySem.mem_of_lookup h2)
 · have hy:scope.names.lookup y=some .cell∨scope.names.lookup y=some .free:=hy
   rcases hy with hy | hy
   · exact cell_has hy
   · exact absurd rfl (S.nofree _ (PySem.mem_of_lookup hy))
 · exact Nat.le_of_lt (x.above y c (PySem.mem_of_lookup h))
 · have hi:i<vs.length:=by
    unfold start at h2
    by_cases hi:i<vs.length
    · exact hi
    · rw [List.getElem?_append_right (by simpa using hi)] at h2
      rw [List.getElem?_replicate] at h2
      split at h2 <;> cases h2
   have ha:vs[i]?=some v:=by
    unfold start at h2
    rw [List.getElem?_append_left (by simpa using hi),List.getElem?_map] at h2
    cases e:vs[i]? with
    | none=>rw [e] at h2;cases h2
    | some a=>rw [e] at h2;cases h2;rfl
   obtain ⟨u,hu,rv⟩:=r.get ha
   have hp:ps[i]?=some y:=by
    rw [← S.pre,List.getElem?_take_of_lt (by omega)];exact h1
   have ndP:ps.Nodup:=by rw [← S.pre];exact S.nd.sublist (List.take_sublist _ _)
   refine ⟨u,rv,?_⟩
   rcases S.par y (List.mem_of_getElem? hp) with k | k
   · exact .inl ⟨k,bindL_get ndP hp hu k⟩
   · obtain ⟨c,e⟩:=cell_has (n:=s.heap.objs.size+1) k
     refine .inr ⟨.inl k,c,e,?_⟩
     have q:=x.cell y c e
     rw [bindC_get ndP hp hu (by show scope.names.lookup y≠_;rw [k];decide)] at q
     exact q
 · exact e0.hok.fresh (Nat.le_of_lt (x.above y c (PySem.mem_of_lookup h)))
 · unfold start
   show _=N.length
   rw [List.length_append,List.length_map,List.length_replicate]
   omega

theorem fn_of {CX:CXT} {P:Program} {w:World} {K:PySem.W.Frag} {mg:Str→Option Value} {base:Heap} {k:Nat} {f:Addr} {name qual:Str} {params:Arguments} {body:List Stmt} {scope:Scope} {dV kV doc pm cdv ct oc:Value} {an od:Option Addr}
 {osl:Array (Option Value)} {N ps:List Str} {sp:Sp} (lk:K.lookup f=some ⟨oc,od,.func (PySem.W.fnOf name qual params body scope dV kV doc pm an cdv ct),osl⟩) (hcd:PySem.W.codeIn K cdv qual=true) (S:FnScope N ps scope)
 (len:∀ vs H Q E,sp vs H Q E→vs.length=ps.length)
 (hbody:∀ (A:Around) (outer:List Env) (s:Shared) (H:Hp) (vs:List V) (Q:VK) (E:XK),Room k (A.deeper (envOfC qual scope s.heap.objs.size f cdv))→sp vs H Q E →
  ∃ t,PSs (cxOf CX P w K mg base N qual scope f cdv A outer s H E) body t∧t { nx:=fun _ H'=>Q .non H',rt:=Q } (start N vs) H) :
 FnOk P w K mg base CX (k+1) f (PySem.W.fnOf name qual params body scope dV kV doc pm an cdv ct) ps sp:=by
 refine ⟨len,fun A outer s H args us vs Q E hr e0 hb r hsp=>?_⟩
 have hl:=len _ _ _ _ hsp
 have KX:K.In s.heap:=e0.mod.kin.keeps fun b o e=>(e0.bs b o e).1
 have lim:s.heap.NoLimit:=e0.mod.nolimit.keeps fun b o e=>(e0.bs b o e).1
 have hkind:∀ y∈ps.zip us,scope.names.lookup y.1=some .local∨(scope.names.lookup y.1=some .cell∧((cellsFrom (s.heap.objs.size+1) scope.names []).lookup y.1).isSome=true):=fun ⟨n,v⟩ hy=>by
  rcases S.par n (List.of_mem_zip hy).1 with q | q
  · exact .inl q
  · exact .inr ⟨q,PySem.W.cellsFrom_some _ _ _ (.inl q)⟩
 refine codeAny_call_function hr.depth (KX _ _ lk) rfl S.co S.gen rfl (PySem.W.codeRec_of KX hcd) (hb _ _ _ _ ?_)
 refine wpAny_newFunctionEnv_cells S.kind hkind fun env he s1 x=>?_
 subst he
 refine ⟨lim.keeps x.toInCall.keep,codeAny_func ?_⟩
 obtain ⟨t,ht,hq⟩:=hbody A outer s H vs Q E (hr.deeper _) hsp
 have I:Inv (cxOf CX P w K mg base N qual scope f cdv A outer s H E) [] (start N vs) H s1:=inv_start S hr.hd e0 hl r x
 refine wpAny_mono (ht [] s1 (start N vs) H _ I hq) (fun fl s' hs=>?_) fun e s' hs=>hs
 have fin:∀ {σ':St} {H':Hp} {v:V} {u:Value},Inv (cxOf CX P w K mg base N qual scope f cdv A outer s H E) [] σ' H' s'→RelV v u→Q v H'→CE outer P w H s Q u s' :=
  fun {σ' H' v u} J rv q=>⟨v,H',J.os,J.bare,J.base,J.hok,rv,q⟩
 cases fl with
 | ret u =>
   obtain ⟨v,σ',H',J,rv,q⟩:=hs
   exact fin J rv q
 | next =>
   obtain ⟨σ',H',J,q⟩:=hs
   exact fin (v:=V.non) (u:=Value.none) J rfl q
 | brk =>
   obtain ⟨_,_,_,q⟩:=hs
   exact False.elim q
 | cont =>
   obtain ⟨_,_,_,q⟩:=hs
   exact False.elim q
end L2

namespace L2
open PySem PySem.Spec PyProof.Rows
section
variable {X:Cx} {x:Str} {p pos:Pos} {e:Expr} {es:List Expr} {t:TA} {id T:String} {r:List V→Hp→VK→Prop}

noncomputable def tCB (r:List V→Hp→VK→Prop) (t:TA):TE:=fun σ H Q=>t σ H fun vs H1=>r vs H1 Q
theorem pe_callB (hc:CallR X (.builtin id) r) (hg:Gl X x) (hm:X.mg x=none) (hv:bootBuiltins x=some (.builtin id)) (ha:PA X (e :: es) t) (hn:x≠"__name__":=by decide) (hdb:(x == ("__debug__":Str))=false:=by decide)
 (he:starEach (e :: es) X.env=(false,eval e X.env) :: starEach es X.env:=by rfl) (hpl:(backTo pos (starEach es X.env)).any (·.1)=false:=by rfl):PE X (.Call (.Name x p) (e :: es) [] pos) (tCB r t):=by
 intro pins s σ H Q I h
 refine wpAny_Call_Name_kw (ld_blt I hg hm hv ?_ hn hdb)
 exact PyProof.Rows.callWith_builtin1 (thn (ha pos pins s σ H _ I h) fun us s1 ⟨vs,H1,I1,r1,q1⟩=>hc pins s1 σ H1 vs us Q I1 r1 q1) he hpl
theorem pe_callTy (hc:CallR X (.type T) r) (hg:Gl X x) (hm:X.mg x=none) (hv:bootBuiltins x=some (.type T)) (ha:PA X (e :: es) t) (hn:x≠"__name__":=by decide) (hdb:(x == ("__debug__":Str))=false:=by decide)
 (he:starEach (e :: es) X.env=(false,eval e X.env) :: starEach es X.env:=by rfl) (hpl:(backTo pos (starEach es X.env)).any (·.1)=false:=by rfl):PE X (.Call (.Name x p) (e :: es) [] pos) (tCB r t):=by
 intro pins s σ H Q I h
 refine wpAny_Call_Name_kw (ld_blt I hg hm hv ?_ hn hdb)
 exact PyProof.Rows.callWith_type1 (thn (ha pos pins s σ H _ I h) fun us s1 ⟨vs,H1,I1,r1,q1⟩=>hc pins s1 σ H1 vs us Q I1 r1 q1) he hpl
end
end L2

namespace HT
open PySem PyProof.Rows

section
open PySem.SeqAt
open PySem.AutoSeq1 (wpAny_loadPart')
open PySem.MeetsSeq PySem.MeetsSeq2 PySem.MeetsSeq3

end

section
variable {prog:Program} {w:World} {A:Around} {E:Value→Shared→Prop} {s:Shared}

theorem cat_tup {t b:Addr} {vs ws:List Value} {Q:Value→Shared→Prop} (ht:IsTup s.heap t vs.toArray) (hb:IsTup s.heap b ws.toArray) (hv:vs≠[])
 (h1:ws=[]→Q (.ref t) s) (h2:ws≠[]→Q (.ref s.heap.objs.size) { s with heap:=s.heap.push { cls:=.type "tuple",data:=.seq (vs ++ ws).toArray } })
 (hsz:vs.length+ws.length≤sizeLine):wpAny (model prog w) A (binaryOp .Add (.ref t) (.ref b)) Q E s:=by
 obtain ⟨⟨cls,dd,data,sl⟩,ho,hc,n,hd⟩:=id ht
 obtain ⟨⟨cls2,dd2,data2,sl2⟩,ho2,hc2,n2,hd2⟩:=id hb
 simp only at hc hd hc2 hd2
 subst hc hd hc2 hd2
 have e:vs.toArray ++ ws.toArray=(vs ++ ws).toArray:=by simp
 by_cases hw:ws=[]
 · exact concat_meets ⟨_,ho,rfl⟩ ⟨_,ho2,rfl⟩ noFill_tuple_add seq_tuple_add PySem.F.slot_tuple_add PySem.F.entry_tuple_add (PySem.F.args_tuple_add_2 _ _)
    (tuple_addW1 t b vs.toArray ws.toArray n n2 dd dd2 sl sl2 (by simpa using hv) (by simp [hw])) ⟨ho,ho2,h1 hw⟩
 · refine concat_meets ⟨_,ho,rfl⟩ ⟨_,ho2,rfl⟩ noFill_tuple_add seq_tuple_add PySem.F.slot_tuple_add PySem.F.entry_tuple_add (PySem.F.args_tuple_add_2 _ _)
    (tuple_addW2 t b vs.toArray ws.toArray n n2 dd dd2 sl sl2 (by simpa using hv) (by simpa using hw) (by rw [List.size_toArray,List.size_toArray];exact hsz)) ⟨ho,ho2,?_⟩
   rw [e]
   exact h2 hw

noncomputable def sIx (n d:Nat):Option Int→Nat
 | none=>d
 | some v=>if v<0 then (v+(n:Int)).toNat else min v.toNat n
theorem sIx_none (n d:Nat):sIx n d none=d:=rfl
theorem sIx_nat (n d k:Nat):sIx n d (some (k:Int))=min k n:=by
 show (if (k:Int)<0 then ((k:Int)+(n:Int)).toNat else min (k:Int).toNat n)=min k n
 rw [if_neg (by omega),Int.toNat_natCast]
end
end HT

namespace L2
open PySem PySem.Spec PyProof.Rows

noncomputable abbrev TO:=St→Hp→(Option Int→Hp→Prop)→Prop
noncomputable def PO (X:Cx) (e:Option Expr) (t:TO):Prop :=
 ∀ (pins:List (Addr×Obj)) (s:Shared) (σ:St) (H:Hp) (Q:Option Int→Hp→Prop),Inv X pins σ H s→t σ H Q →
   wpAny (model X.prog X.w) X.A (evalPart e X.env) (fun u s'=>∃ o H',Inv X pins σ H' s'∧IsPart u o∧Q o H') X.xe s
noncomputable def tNoPart:TO:=fun _ H Q=>Q none H
noncomputable def tPart (t:TE):TO:=fun σ H Q=>t σ H fun x H1=>∃ i,x=.int i∧Q (some i) H1

theorem intsAre_of {ns:List Int}:∀ {us:List Value},Vals (ns.map V.int) us→IntsAre us ns:=by
 induction ns with
 | nil=>intro us r;rw [List.map_nil] at r;cases r;exact .nil
 | cons n ns ih =>
   intro us r
   rw [List.map_cons] at r
   cases r with
   | cons r1 r2 =>
     obtain ⟨t,e⟩:=r1
     subst e
     exact .cons n t (ih r2)

section
variable {X:Cx} {e:Expr} {te:TE} {lo hi:Option Expr} {tl th:TO} {pos p2:Pos}

theorem po_none:PO X none tNoPart:=by
 intro pins s σ H Q I h
 rw [evalPart_none]
 exact wpAny_pure ⟨none,H,I,.none,h⟩
theorem po_some (h:PE X e te):PO X (some e) (tPart te):=by
 intro pins s σ H Q I hw
 rw [evalPart_some]
 refine thn (h pins s σ H _ I hw) fun u s1 ⟨x,H1,I1,r1,q1⟩=>?_
 obtain ⟨i,rfl,q⟩:=q1
 obtain ⟨t,rfl⟩:=r1
 exact ⟨some i,H1,I1,.int i t,q⟩

noncomputable def SlR (X:Cx) (r:V→Option Int→Option Int→Hp→VK→Prop):Prop :=
 ∀ (pins:List (Addr×Obj)) (s:Shared) (σ:St) (H:Hp) (x:V) (v vl vu:Value) (lo hi:Option Int) (sl:Addr) (Q:VK),Inv X pins σ H s→RelV x v→s.heap.IsSliceOf sl vl vu .none→IsPart vl lo→IsPart vu hi→r x lo hi H Q →
   ∃ T id,typeLookup (.type T) "__getitem__"=pure (some (.builtin id))∧s.TypeIs v T∧wpAny (model X.prog X.w) X.A (getItem v (.ref sl)) (EP X pins σ Q) X.xe s
noncomputable def tSl (r:V→Option Int→Option Int→Hp→VK→Prop) (te:TE) (tl th:TO):TE:=fun σ H Q=>te σ H fun x H1=>tl σ H1 fun l H2=>th σ H2 fun u H3=>r x l u H3 Q
theorem pe_slice {r:V→Option Int→Option Int→Hp→VK→Prop} (hr:SlR X r) (he:PE X e te) (hl:PO X lo tl) (hu:PO X hi th):PE X (.Subscript e (.Slice lo hi none p2) pos) (tSl r te tl th):=by
 intro pins s σ H Q I h
 refine Subscript_ (thn (he pins s σ H _ I h) fun v s1 ⟨x,H1,I1,r1,q1⟩=>?_)
 refine wpAny_Slice (thn (hl pins s1 σ H1 _ I1 q1) fun vl s2 ⟨l,H2,I2,pl,q2⟩=>thn (hu pins s2 σ H2 _ I2 q2) fun vu s3 ⟨u,H3,I3,pu,q3⟩=>?_)
 rw [evalPart_none]
 refine wpAny_pure ?_
 have I4:Inv X pins σ H3 { s3 with heap:=s3.heap.push { cls:=.type "slice",data:=.fields #[vl,vu,.none] } }:=I3.kept (t':=s3.toks) fun b ob q=>Heap.get?_push_of_some _ q
 obtain ⟨T,id,hT,ht,hg⟩:=hr pins { s3 with heap:=s3.heap.push { cls:=.type "slice",data:=.fields #[vl,vu,.none] } } σ H3 x v vl vu l u s3.heap.objs.size Q I4 r1 (Heap.IsSliceOf.new ..) pl pu q3
 show wpAny (model X.prog X.w) X.A (subscriptTail e (.Slice lo hi none p2) v (.ref s3.heap.objs.size)) (EP X pins σ Q) X.xe { s3 with heap:=s3.heap.push { cls:=.type "slice",data:=.fields #[vl,vu,.none] } }
 exact tail_any (ops:=[.ref s3.heap.objs.size,v]) ht hT hg (by with_unfolding_all rfl)

noncomputable def cutV (xs:List V) (lo hi:Option Int):List V:=(xs.drop (HT.sIx xs.length 0 lo)).take (HT.sIx xs.length xs.length hi - HT.sIx xs.length 0 lo)
theorem cutV_length (xs:List V) (lo hi:Option Int):(cutV xs lo hi).length≤xs.length:=by
 unfold cutV
 rw [List.length_take,List.length_drop]
 omega
noncomputable def rCatT (K:PySem.W.Frag):R2:=fun x y H Q=>∃ a b xs ys,x=.ref a∧y=.ref b∧SqT K H a xs∧SqT K H b ys∧xs≠[]∧xs.length+ys.length≤sizeLine ∧
 (ys=[]→Q (.ref a) H)∧(ys≠[]→∀ p,H p=none→Q (.ref p) (upd H p (.tup (xs ++ ys))))
theorem Vals.nil_iff {xs:List V} {us:List Value} (r:Vals xs us):us=[] ↔ xs=[]:=by
 cases r with
 | nil=>simp
 | cons _ _=>simp
theorem op_catT:OpR X (binaryOp .Add) (rCatT X.K):=by
 intro pins s σ H x y v u Q I rx ry h
 obtain ⟨a,b,xs,ys,rfl,rfl,ha,hb,hx,hz,q1,q2⟩:=h
 cases rx
 cases ry
 obtain ⟨its,r1,p1,_⟩:=I.tuple ha
 obtain ⟨its2,r2,p2,_⟩:=I.tuple hb
 refine HT.cat_tup p1 p2 (fun z=>hx (r1.nil_iff.mp z)) (fun z=>⟨.ref a,H,I,rfl,q1 (r2.nil_iff.mp z)⟩) (fun z=>?_) (by rw [← r1.length,← r2.length];exact hz)
 refine ⟨.ref s.heap.objs.size,_,I.laid (t':=s.toks) (o:=.tup (xs ++ ys)) (fun b ob q=>Heap.get?_push_of_some _ q) (Nat.le_refl _) ?_,rfl,q2 (fun w=>z (r2.nil_iff.mpr w)) _ (I.hok.fresh (Nat.le_refl _))⟩
 exact ⟨by rw [List.length_append];exact hz,_,r1.append r2,IsTupN.new _ _⟩
end
end L2

namespace L2
open PySem PySem.Spec PyProof.Rows

noncomputable def ixN (n:Nat) (i:Int):Option Nat:=if 0≤i then (if i<n then some i.toNat else none) else if -(n:Int)≤i then some (i+n).toNat else none
noncomputable def atI {α:Type} (xs:List α) (i:Int):Option α:=(ixN xs.length i).bind fun j=>xs[j]?
theorem ixN_seq {n:Nat} {i:Int} {j:Nat} (h:ixN n i=some j):seqIndex? i n=some j∧j<n∧-(n:Int)≤i∧i<n:=by
 unfold ixN at h
 by_cases h0:0≤i
 · rw [if_pos h0] at h
   by_cases h1:i<n
   · rw [if_pos h1] at h
     have e:i.toNat=j:=Option.some.inj h
     exact ⟨by rw [seqIndex_of h0 h1,e],by omega,by omega,h1⟩
   · rw [if_neg h1] at h;cases h
 · rw [if_neg h0] at h
   by_cases h1:-(n:Int)≤i
   · rw [if_pos h1] at h
     have e:(i+n).toNat=j:=Option.some.inj h
     exact ⟨by rw [seqIndex_neg (by omega) h1,e],by omega,h1,by omega⟩
   · rw [if_neg h1] at h;cases h
theorem atI_get {α:Type} {xs:List α} {i:Int} {v:α} (h:atI xs i=some v):∃ j,seqIndex? i xs.length=some j∧xs[j]?=some v∧j<xs.length∧-(xs.length:Int)≤i∧i<xs.length:=by
 unfold atI at h
 cases e:ixN xs.length i with
 | none=>rw [e] at h;cases h
 | some j =>
   rw [e] at h
   obtain ⟨h1,h2,h3,h4⟩:=ixN_seq e
   exact ⟨j,h1,h,h2,h3,h4⟩
theorem atI_nat {α:Type} {xs:List α} {j:Nat} {v:α} (h:xs[j]?=some v):atI xs (j:Int)=some v:=by
 have hj:j<xs.length:=(List.getElem?_eq_some_iff.mp h).1
 have e:ixN xs.length (j:Int)=some j:=by
  unfold ixN
  rw [if_pos (by omega),if_pos (by omega)];simp
 unfold atI;rw [e];exact h
theorem atI_last {α:Type} (xs:List α) (v:α):atI (xs ++ [v]) (-1)=some v:=by
 have hl:(xs ++ [v]).length=xs.length+1:=by simp
 have e:ixN (xs ++ [v]).length (-1)=some xs.length:=by
  unfold ixN
  rw [hl,if_neg (by decide),if_pos (by omega)]
  congr 1
  omega
 unfold atI
 rw [e]
 show (xs ++ [v])[xs.length]?=some v
 simp

noncomputable def PlainIx (b:Expr):Prop:=∀ o i,subscripted b false o i=operate [o,i] (getItem o i)
noncomputable def IxR (X:Cx) (r:R2):Prop :=
 ∀ (value slice:Expr) (pins:List (Addr×Obj)) (s:Shared) (σ:St) (H:Hp) (x y:V) (v u:Value) (Q:VK),Inv X pins σ H s→RelV x v→RelV y u→r x y H Q →
   subscripted slice false v u=operate [v,u] (getItem v u)→wpAny (model X.prog X.w) X.A (subscriptTail value slice v u) (EP X pins σ Q) X.xe s
noncomputable def MtR (X:Cx) (id:String) (r:V→List V→Hp→VK→Prop):Prop :=
 ∀ (pins:List (Addr×Obj)) (s:Shared) (σ:St) (H:Hp) (x:V) (xs:List V) (v:Value) (us:List Value) (Q:VK),Inv X pins σ H s→RelV x v→Vals xs us→r x xs H Q →
   wpAny (model X.prog X.w) X.A (call (.builtin id) (v :: us)) (EP X pins σ Q) X.xe s
section
variable {X:Cx} {a b:Expr} {ta tb:TE} {pos:Pos}
theorem pe_ix {r:R2} (hr:IxR X r) (ha:PE X a ta) (hb:PE X b tb) (hs:PlainIx b):PE X (.Subscript a b pos) (tOp r ta tb):=by
 intro pins s σ H Q I h
 exact Subscript_ (binT ha hb I h fun v u s2 x y H2 I2 rx ry q=>hr a b pins s2 σ H2 x y v u Q I2 rx ry q (hs _ _))

noncomputable def rIxL (K:PySem.W.Frag):R2:=fun x y H Q=>∃ p xs i v,x=.ref p∧y=.int i∧SqL K H p xs∧atI xs i=some v∧Q v H
noncomputable def rIxT (K:PySem.W.Frag):R2:=fun x y H Q=>∃ p xs i v,x=.ref p∧y=.int i∧SqT K H p xs∧atI xs i=some v∧Q v H
theorem ix_list:IxR X (rIxL X.K):=by
 intro value slice pins s σ H x y v u Q I rx ry h hs
 obtain ⟨p,xs,i,z,rfl,rfl,hq,he,q⟩:=h
 cases rx
 obtain ⟨t,rfl⟩:=ry
 obtain ⟨its,r,pl,hz⟩:=I.list hq
 obtain ⟨j,h1,h2,h3,h4,h5⟩:=atI_get he
 obtain ⟨w,ew,rw'⟩:=r.get h2
 have hl:=r.length
 have hn:=line63
 have fin:EP X pins σ Q w s:=⟨z,H,I,rw',q⟩
 by_cases h0:0≤i
 · have hj:i.toNat=j:=by
    rw [seqIndex_of h0 h5] at h1
    exact Option.some.inj h1
   exact item_listR pl.isList h0 (by omega) (by rw [hj];simpa using ew) fin hs
 · have hj:(i+(its.toArray.size:Int)).toNat=j:=by
    rw [seqIndex_neg (by omega) h4] at h1
    rw [List.size_toArray,← hl]
    exact Option.some.inj h1
   exact subscriptTail_builtinR (x:=w) pl.isList.typeIs slot_list_getitem.lookup
    (wpAny_getItem_list_neg (Q:=fun r s'=>r=w∧EP X pins σ Q r s') pl.isList (by omega) (by rw [List.size_toArray] <;> omega) (by omega) (by rw [hj];simpa using ew) ⟨rfl,fin⟩) hs
theorem ix_tup:IxR X (rIxT X.K):=by
 intro value slice pins s σ H x y v u Q I rx ry h hs
 obtain ⟨p,xs,i,z,rfl,rfl,hq,he,q⟩:=h
 cases rx
 obtain ⟨t,rfl⟩:=ry
 obtain ⟨its,r,pl,hz⟩:=I.tuple hq
 obtain ⟨j,h1,h2,h3,h4,h5⟩:=atI_get he
 obtain ⟨w,ew,rw'⟩:=r.get h2
 have hl:=r.length
 have hn:=line63
 have fin:EP X pins σ Q w s:=⟨z,H,I,rw',q⟩
 exact subscriptTail_builtinR (x:=w) pl.typeIs slot_tuple_getitem.lookup
  (getItem_tuple (j:=j) (Q:=fun r s'=>r=w∧EP X pins σ Q r s') pl (by omega) (by omega) (by rw [List.size_toArray,← hl];exact h1) (by simpa using ew) ⟨rfl,fin⟩) hs
theorem mapSeq_set (its:List Value) (n j:Nat) (u:Value):Obj.mapSeq (·.setIfInBounds j u) { cls:=.type "list",data:=.seq its.toArray n }={ cls:=.type "list",data:=.seq (its.set j u).toArray n }:=by
 simp [Obj.mapSeq]
theorem Inv.lst {pins:List (Addr×Obj)} {σ:St} {H:Hp} {s:Shared} {p:Addr} {xs:List V} (I:Inv X pins σ H s) (h:H p=some (.lst xs)) :
 ∃ (its:List Value) (n:Nat),Vals xs its∧s.heap.get? p=some { cls:=.type "list",data:=.seq its.toArray n }∧xs.length≤sizeLine:=by
 obtain ⟨z,its,n,r,e⟩:=I.hok p _ h
 exact ⟨its,n,r,e,z⟩
theorem Inv.lstUpd {pins:List (Addr×Obj)} {σ:St} {H:Hp} {s:Shared} {p:Addr} {xs ys:List V} {its its':List Value} {n n':Nat} {f:Obj→Obj} (I:Inv X pins σ H s) (h:H p=some (.lst xs))
 (ho:s.heap.get? p=some { cls:=.type "list",data:=.seq its.toArray n }) (hf:f { cls:=.type "list",data:=.seq its.toArray n }={ cls:=.type "list",data:=.seq its'.toArray n' }) (r:Vals ys its') (hz:ys.length≤sizeLine) (t:Nat) :
 Inv X pins σ (upd H p (.lst ys)) { s with heap:=s.heap.update p f,toks:=t }:=by
 have e:(s.heap.update p f).get? p=some { cls:=.type "list",data:=.seq its'.toArray n' }:=by
  rw [Heap.get?_update_self f ho (by rw [hf] <;> rfl),hf]
 refine I.write (x:=p) (e:=p) (by rw [h];trivial) (.inl rfl) (fun b u hb q=>(Heap.get?_update_other _ _ (Ne.symm hb)).trans q) ⟨_,e⟩ ?_
 exact ⟨hz,its',n',r,e⟩
noncomputable def rSetL:V→V→V→Hp→(Hp→Prop)→Prop:=fun o i v H Q=>∃ p xs k j,o=.ref p∧i=.int k∧H p=some (.lst xs)∧ixN xs.length k=some j∧Q (upd H p (.lst (xs.set j v)))
theorem set_list:PSet X rSetL:=by
 intro pins s σ H o i v ov iv u Q I ro ri rv h
 obtain ⟨p,xs,k,j,rfl,rfl,hp,hj,q⟩:=h
 cases ro
 obtain ⟨t,rfl⟩:=ri
 obtain ⟨its,n,r,ho,hz⟩:=I.lst hp
 obtain ⟨h1,h2,h3,h4⟩:=ixN_seq hj
 have hl:=r.length
 have hn:=line63
 have I':Inv X pins σ (upd H p (.lst (xs.set j v))) { s with heap:=s.heap.update p (Obj.mapSeq (·.setIfInBounds j u)) } :=
  I.lstUpd hp ho (mapSeq_set its n j u) (r.set rv j) (by rw [List.length_set];exact hz) s.toks
 by_cases h0:0≤k
 · have hk:k.toNat=j:=by
    rw [seqIndex_of h0 h4] at h1
    exact Option.some.inj h1
   exact PySem.W.ki_setAt ho h0 (by omega) (by rw [List.size_toArray,← hl];exact h4) (by rw [hk];exact ⟨_,I',q⟩)
 · have hk:(k+(its.toArray.size:Int)).toNat=j:=by
    rw [seqIndex_neg (by omega) h3] at h1
    rw [List.size_toArray,← hl]
    exact Option.some.inj h1
   exact PySem.W.ki_setBack ho (by omega) (by rw [List.size_toArray,← hl];exact h3) (by omega) (by rw [hk];exact ⟨_,I',q⟩)

theorem slice_bounds (lo hi:Option Int) (n:Nat):(sliceBounds lo hi none n).1=((HT.sIx n 0 lo:Nat):Int)∧(sliceBounds lo hi none n).2.1=((HT.sIx n n hi:Nat):Int)∧(sliceBounds lo hi none n).2.2=1:=by
 refine ⟨?_,?_,rfl⟩
 · cases lo with
   | none=>simp [sliceBounds,HT.sIx]
   | some i =>
     simp only [sliceBounds,HT.sIx,Option.getD_none,show (1:Int) > 0 by decide,if_true]
     by_cases h:i<0
     · simp only [h,if_true] <;> omega
     · simp only [h,if_false] <;> omega
 · cases hi with
   | none=>simp [sliceBounds,HT.sIx]
   | some i =>
     simp only [sliceBounds,HT.sIx,Option.getD_none,show (1:Int) > 0 by decide,if_true]
     by_cases h:i<0
     · simp only [h,if_true] <;> omega
     · simp only [h,if_false] <;> omega
theorem slicePick_cut (its:List Value) (lo hi:Option Int):slicePick its.toArray lo hi none=((its.drop (HT.sIx its.length 0 lo)).take (HT.sIx its.length its.length hi - HT.sIx its.length 0 lo)).toArray:=by
 obtain ⟨h1,h2,h3⟩:=slice_bounds lo hi its.toArray.size
 unfold slicePick
 rw [h1,h2,h3]
 simp only [sliceRange_one,pick_run,List.size_toArray] <;> rfl
noncomputable def rSlL (K:PySem.W.Frag):V→Option Int→Option Int→Hp→VK→Prop:=fun x lo hi H Q=>∃ a xs,x=.ref a∧SqL K H a xs∧∀ p,H p=none→Q (.ref p) (upd H p (.lst (cutV xs lo hi)))
theorem sl_list:SlR X (rSlL X.K):=by
 intro pins s σ H x v vl vu lo hi sl Q I rx hs pl pu h
 obtain ⟨a,xs,rfl,hx,q⟩:=h
 cases rx
 obtain ⟨its,r,ht,hz⟩:=I.list hx
 have hlen:=r.length
 refine ⟨"list",_,slot_list_getitem.lookup,ht.isList.typeIs,?_⟩
 refine wpAny_getItem_list_slice ht.isList hs pl pu .none (by simp) ?_ (by rw [List.size_toArray] <;> omega)
 rw [slicePick_cut,← hlen]
 refine ⟨.ref s.heap.objs.size,_,I.laid (t':=s.toks) (o:=.lst (cutV xs lo hi)) (fun b ob q=>Heap.get?_push_of_some _ q) (Nat.le_refl _) ?_,rfl,q _ (I.hok.fresh (Nat.le_refl _))⟩
 exact ⟨Nat.le_trans (cutV_length xs lo hi) hz,_,0,(r.drop (HT.sIx xs.length 0 lo)).take (HT.sIx xs.length xs.length hi - HT.sIx xs.length 0 lo),Heap.get?_push_size _ rfl⟩

noncomputable def flatV:V→Bool
 | .non=>true
 | .bl _=>true
 | .int _=>true
 | .str _=>true
 | _=>false
noncomputable def eqV:V→V→Bool
 | .non,.non=>true
 | .bl a,.bl b=>a == b
 | .bl a,.int b=>(if a then 1 else 0) == b
 | .int a,.bl b=>a == (if b then 1 else 0)
 | .int a,.int b=>a == b
 | .str a,.str b=>a == b
 | _,_=>false
theorem eqAt_V {A:Around} {s:Shared} {y x:V} {u v:Value} (ry:RelV y u) (rx:RelV x v) (fy:flatV y=true) (fx:flatV x=true):SeqAt.EqAt A s u v (eqV y x):=by
 cases y with
 | non =>
   cases ry
   cases x with
   | non=>cases rx;exact SeqAt.EqAt.same _
   | bl b=>cases rx;exact SeqAt.EqAt.none_bool b
   | int b=>obtain ⟨t,rfl⟩:=rx;exact SeqAt.EqAt.none_int b t
   | str b=>obtain ⟨t,rfl⟩:=rx;exact SeqAt.EqAt.none_str b t
   | _=>exact absurd (show false=true from fx) Bool.false_ne_true
 | bl a =>
   cases ry
   cases x with
   | non=>cases rx;exact SeqAt.EqAt.bool_none a
   | bl b=>cases rx;exact SeqAt.EqAt.bool_bool a b
   | int b=>obtain ⟨t,rfl⟩:=rx;exact SeqAt.EqAt.bool_int a b t
   | str b=>obtain ⟨t,rfl⟩:=rx;exact SeqAt.EqAt.bool_str a b t
   | _=>exact absurd (show false=true from fx) Bool.false_ne_true
 | int a =>
   obtain ⟨t',rfl⟩:=ry
   cases x with
   | non=>cases rx;exact SeqAt.EqAt.int_none a t'
   | bl b=>cases rx;exact SeqAt.EqAt.int_bool a t' b
   | int b=>obtain ⟨t,rfl⟩:=rx;exact SeqAt.EqAt.int_int a t' b t
   | str b=>obtain ⟨t,rfl⟩:=rx;exact SeqAt.EqAt.int_str a t' b t
   | _=>exact absurd (show false=true from fx) Bool.false_ne_true
 | str a =>
   obtain ⟨t',rfl⟩:=ry
   cases x with
   | non=>cases rx;exact SeqAt.EqAt.str_none a t'
   | bl b=>cases rx;exact SeqAt.EqAt.str_bool a t' b
   | int b=>obtain ⟨t,rfl⟩:=rx;exact SeqAt.EqAt.str_int a t' b t
   | str b=>obtain ⟨t,rfl⟩:=rx;exact SeqAt.EqAt.str_str a t' b t
   | _=>exact absurd (show false=true from fx) Bool.false_ne_true
 | _=>exact absurd (show false=true from fy) Bool.false_ne_true
theorem call_len_seq:CallR X (.builtin "len") (fun xs H Q=>∃ p ys,xs=[.ref p]∧(SqL X.K H p ys∨SqT X.K H p ys)∧Q (.int ys.length) H):=by
 intro pins s σ H xs us Q I r h
 obtain ⟨p,ys,rfl,hq,q⟩:=h
 obtain ⟨u,rfl,rx⟩:=vals1 r
 cases rx
 have hn:=line63
 rcases hq with hq | hq
 · obtain ⟨its,r',pl,hz⟩:=I.list hq
   have hlen:=r'.length
   exact Calls.call_len_list pl.isList (by simp only [List.size_toArray] <;> omega) ⟨.int ys.length,H,I.tok _,⟨s.toks+1,by rw [List.size_toArray,hlen]⟩,q⟩
 · obtain ⟨its,r',pl,hz⟩:=I.tuple hq
   have hlen:=r'.length
   exact len_tuple pl (by simp only [List.size_toArray] <;> omega) ⟨.int ys.length,H,I.tok _,⟨s.toks+1,by rw [List.size_toArray,hlen]⟩,q⟩
theorem call_tuple_of:CallR X (.type "tuple") (fun xs H Q=>∃ p ys,xs=[.ref p]∧((SqL X.K H p ys∧∀ l,H l=none→Q (.ref l) (upd H l (.tup ys)))∨(SqT X.K H p ys∧Q (.ref p) H))):=by
 intro pins s σ H xs us Q I r h
 obtain ⟨p,ys,rfl,h⟩:=h
 obtain ⟨u,rfl,rx⟩:=vals1 r
 cases rx
 rcases h with ⟨hq,q⟩ | ⟨hq,q⟩
 · obtain ⟨its,r',pl,hz⟩:=I.list hq
   have hlen:=r'.length
   refine call_tuple_list pl.isList (fun h' kp=>?_) (by simp only [List.size_toArray] <;> omega)
   have I1:Inv X pins σ H { s with heap:=h' }:=I.kept (t':=s.toks) kp
   have I2:Inv X pins σ (upd H h'.objs.size (.tup ys)) { s with heap:=h'.push { cls:=.type "tuple",data:=.seq its.toArray } } :=
    I1.laid (t':=s.toks) (fun b o e=>Heap.get?_push_of_some _ e) (Nat.le_refl _) (show ObjOk X.prog X.w _ _ _ (.tup ys) from ⟨hz,its,r',IsTupN.new _ _⟩)
   exact ⟨.ref h'.objs.size,_,I2,rfl,q _ (I1.hok.fresh (Nat.le_refl _))⟩
 · obtain ⟨its,r',pl,hz⟩:=I.tuple hq
   exact call_tuple_same pl ⟨.ref p,H,I,rfl,q⟩

noncomputable def tyV (K:PySem.W.Frag) (T:String) (x:V) (H:Hp):Prop:=match x with
 | .str _=>T="str"
 | .int _=>T="int"
 | .ref p=>(T="list"∧∃ xs,SqL K H p xs)∨(T="tuple"∧∃ o,K.lookup p=some o∧o.cls=.type "tuple"∧o.dict=none) ∨
  (T="dict"∧((∃ kvs,H p=some (.dK kvs))∨∃ kvs,H p=some (.dT kvs)))∨(T="set"∧∃ S n,H p=some (.set S n))
 | _=>False
theorem tyV_is {pins:List (Addr×Obj)} {σ:St} {H:Hp} {s:Shared} {T:String} {x:V} {v:Value} (I:Inv X pins σ H s) (r:RelV x v) (ty:tyV X.K T x H) :
 s.TypeIs v T∧∀ a,v=.ref a→∃ ob,s.heap.get? a=some ob∧ob.dict=none:=by
 cases x with
 | str z =>
   obtain ⟨t,rfl⟩:=r
   cases (show T="str" from ty)
   exact ⟨typeIs_str s z t,fun _ e=>nomatch e⟩
 | int i =>
   obtain ⟨t,rfl⟩:=r
   cases (show T="int" from ty)
   exact ⟨typeIs_int s i t,fun _ e=>nomatch e⟩
 | ref p =>
   cases r
   rcases ty with ⟨rfl,xs,hq⟩ | ⟨rfl,o,hk,hc,hd⟩ | ⟨rfl,hk⟩ | ⟨rfl,S,n,hk⟩
   · obtain ⟨its,_,pl,_⟩:=I.list hq
     refine ⟨pl.isList.typeIs,fun a e=>?_⟩
     cases e
     obtain ⟨o,n,e,c,hd,_⟩:=pl
     exact ⟨o,e,hd⟩
   · refine ⟨⟨o,I.kIn p o hk,hc⟩,fun a e=>?_⟩
     cases e
     exact ⟨o,I.kIn _ o hk,hd⟩
   · have z:∃ o,s.heap.get? p=some o∧o.ExactDict:=by
      rcases hk with ⟨kvs,hk⟩ | ⟨kvs,hk⟩
      · obtain ⟨_,_,_,_,o,_,_,e,ex,_⟩:=I.hok p _ hk
        exact ⟨o,e,ex⟩
      · obtain ⟨_,_,_,_,o,_,_,e,ex,_⟩:=I.hok p _ hk
        exact ⟨o,e,ex⟩
     obtain ⟨o,e,ex⟩:=z
     refine ⟨⟨o,e,ex.1⟩,fun a e2=>?_⟩
     cases e2
     exact ⟨o,e,ex.2.1⟩
   · obtain ⟨o,_,_,_,e,ex,_⟩:=I.hok p _ hk
     refine ⟨⟨o,e,ex.1⟩,fun a e2=>?_⟩
     cases e2
     exact ⟨o,e,ex.2.1⟩
 | _=>exact False.elim ty
noncomputable def tBM (K:PySem.W.Frag) (T:String) (r:V→List V→Hp→VK→Prop) (to:TE) (t:TA):TE:=fun σ H Q=>to σ H fun x H1=>tyV K T x H1∧t σ H1 fun xs H2=>r x xs H2 Q
variable {o e:Expr} {es:List Expr} {to:TE} {t:TA} {name:Str} {apos cpos:Pos} {T id:String} {r:V→List V→Hp→VK→Prop}
theorem pe_bm (pa:PlainAttrs T) (slot:Slot T name id) (hty:typeOf (.builtin id)=pure (.type "method_descriptor")) (hm:MtR X id r) (ho:PE X o to) (ha:PA X (e :: es) t)
 (hbase:attributeBase o name X.env (eval o X.env)=eval o X.env:=by rfl)
 (hfew:((backTo cpos (starEach (e :: es) X.env)).all (fun x=>!x.1) && (backToKw cpos (keywordEach [] X.env)).all (fun x=>x.1.isSome)
  && decide ((e :: es).length+([]:List Keyword).length+(if ([]:List Keyword).isEmpty then 0 else 1)<30))=true:=by rfl)
 (hline:(apos.endLine == cpos.line)=true:=by rfl) (hs:starEach (e :: es) X.env=(false,eval e X.env) :: starEach es X.env:=by rfl) (hplain:(backTo cpos (starEach es X.env)).any (·.1)=false:=by rfl) :
 PE X (.Call (.Attribute o name apos) (e :: es) [] cpos) (tBM X.K T r to t):=by
 intro pins s σ H Q I h
 refine wpAny_Call_method_late hbase hfew hline rfl (thn (ho pins s σ H _ I h) fun v s1 ⟨x,H1,I1,r1,ty,q1⟩=>?_)
 obtain ⟨h1,h2⟩:=tyV_is I1 r1 ty
 refine ⟨T,id,pa,slot,hty,h1,h2,?_⟩
 have hA:=ha cpos pins s1 σ H1 _ I1 q1
 rw [hs] at hA ⊢
 refine Calls.callWith_builtin (by show (false || (backTo cpos (starEach es X.env)).any (·.1))=false;rw [hplain] <;> rfl) (Calls.evalArgs_plain ?_)
 exact thn hA fun us s2 ⟨vs,H2,I2,r2,q2⟩=>hm pins s2 σ H2 x vs v us Q I2 r1 r2 q2
/- xs.append(e),list.index on a module's tuple .. are MtR facts of 06m -/
end
end L2

namespace L2
open PySem PySem.Spec PyProof.Rows

noncomputable def MtM (X:Cx) (id:String) (r:V→List V→Hp→VK→Prop):Prop :=
 ∀ (pins:List (Addr×Obj)) (s:Shared) (σ:St) (H:Hp) (x:V) (xs:List V) (v:Value) (us:List Value) (Q:VK),Inv X pins σ H s→RelV x v→Vals xs us→r x xs H Q →
   wpAny (model X.prog X.w) X.A (call (.builtin id) (v :: us)) (EP X pins σ Q) X.xe s

theorem Vals.one:∀ {x:V} {us:List Value},Vals [x] us→∃ u,us=[u]∧RelV x u
 | _,_,.cons r .nil=>⟨_,rfl,r⟩
theorem Vals.eraseIdx:∀ {xs:List V} {us:List Value} (i:Nat),Vals xs us→Vals (xs.eraseIdx i) (us.eraseIdx i)
 | _,_,_,.nil=>.nil
 | _,_,0,.cons _ t=>t
 | _,_,i+1,.cons r t=>.cons r (Vals.eraseIdx i t)
theorem Vals.rep {xs:List V} {us:List Value} (h:Vals xs us):∀ k:Nat,Vals (List.replicate k xs).flatten (List.replicate k us).flatten
 | 0=>.nil
 | k+1=>by
   rw [List.replicate_succ,List.replicate_succ,List.flatten_cons,List.flatten_cons]
   exact Vals.append h (Vals.rep h k)
theorem len_erase {α:Type}:∀ (l:List α) (i:Nat),(l.eraseIdx i).length≤l.length
 | [],_=>Nat.le_refl _
 | _ :: _,0=>Nat.le_succ _
 | _ :: r,i+1=>Nat.succ_le_succ (len_erase r i)
theorem foldl_rep (its:List Value):∀ (k:Nat) (acc:List Value),
 List.foldl (fun x1 x2=>x1 ++ x2) acc.toArray (List.replicate k its.toArray)=(acc ++ (List.replicate k its).flatten).toArray
 | 0,acc=>by simp
 | k+1,acc=>by
   have e:acc.toArray ++ its.toArray=(acc ++ its).toArray:=by simp
   have e2:(acc ++ its) ++ (List.replicate k its).flatten=acc ++ (List.replicate (k+1) its).flatten:=by
    rw [List.replicate_succ,List.flatten_cons,List.append_assoc]
   rw [← e2,← foldl_rep its k (acc ++ its),← e,List.replicate_succ,List.foldl_cons]

section
variable {X:Cx} {pins:List (Addr×Obj)} {σ:St} {H:Hp} {s:Shared} {l b:Addr} {xs ys zs:List V}

theorem Inv.lset {its its':List Value} {n:Nat} {f:Array Value→Array Value} {t':Nat} (I:Inv X pins σ H s) (hH:H l=some (.lst xs))
 (e:s.heap.get? l=some { cls:=.type "list",data:=.seq its.toArray n }) (hf:f its.toArray=its'.toArray) (hv:Vals ys its') (hz:ys.length≤sizeLine) :
 Inv X pins σ (upd H l (.lst ys)) { s with heap:=s.heap.update l (Obj.mapSeq f),toks:=t' }:=by
 have q:=PySem.IsL.update e f
 rw [hf] at q
 refine I.write (x:=l) (e:=l) (by rw [hH];exact trivial) (.inl rfl) (fun b' u hb hu=>(Heap.get?_update_other s.heap (Obj.mapSeq f) (Ne.symm hb)).trans hu) ⟨_,q⟩ ?_
 exact ⟨hz,its',_,hv,q⟩
theorem Inv.lnew {its:List Value} {t':Nat} (I:Inv X pins σ H s) (hv:Vals ys its) (hz:ys.length≤sizeLine) :
 Inv X pins σ (upd H s.heap.objs.size (.lst ys)) { s with heap:=s.heap.push { cls:=.type "list",data:=.seq its.toArray },toks:=t' } :=
 I.laid (fun _ _ q=>Heap.get?_push_of_some _ q) (Nat.le_refl _) ⟨hz,its,0,hv,Heap.get?_push_size _ rfl⟩
theorem Inv.fresh (I:Inv X pins σ H s):H s.heap.objs.size=none:=I.hok.fresh (Nat.le_refl _)
theorem Inv.lstM (I:Inv X pins σ H s) (hH:H l=some (.lst xs)):xs.length≤sizeLine∧∃ (its:List Value) (n:Nat),Vals xs its∧xs.length=its.length∧s.heap.get? l=some { cls:=.type "list",data:=.seq its.toArray n }:=by
 obtain ⟨z,its,n,r,e⟩:=I.hok l _ hH
 exact ⟨z,its,n,r,r.length,e⟩

theorem notLongL {n:Nat} (h:n≤sizeLine):Builtin.List.listTooLong n=false:=by
 unfold Builtin.List.listTooLong
 exact decide_eq_false (by omega)
end

section
variable {X:Cx}

noncomputable def rAppend:V→List V→Hp→VK→Prop:=fun x vs H Q=>∃ l xs y,x=.ref l∧vs=[y]∧H l=some (.lst xs)∧xs.length<sizeLine∧Q .non (upd H l (.lst (xs ++ [y])))
theorem mt_append:MtM X "list.append" rAppend:=by
 intro pins s σ H x vs v us Q I rx rv h
 obtain ⟨l,xs,y,rfl,rfl,hH,hz,q⟩:=h
 cases rx
 obtain ⟨u,rfl,ru⟩:=rv.one
 obtain ⟨z,its,n,r,hl,e⟩:=I.lstM hH
 refine call_meets F.slot_list_append ⟨_,e,rfl⟩ F.entry_list_append (F.args_list_append_2 _ _) (PySem.list_append l its.toArray n u (by rw [List.size_toArray];omega)) ⟨e,?_⟩
 refine ⟨.non,_,I.lset (its':=its ++ [u]) hH e (by simp) (r.append (.cons ru .nil)) ?_,rfl,q⟩
 rw [List.length_append,List.length_singleton]
 omega

noncomputable def rPopAt:V→List V→Hp→VK→Prop:=fun x vs H Q=>∃ l xs i k y,x=.ref l∧vs=[.int i]∧H l=some (.lst xs)∧-(2 ^ 63)≤i∧i<2 ^ 63∧seqIndex? i xs.length=some k∧xs[k]?=some y∧Q y (upd H l (.lst (xs.eraseIdx k)))
theorem mt_popAt:MtM X "list.pop" rPopAt:=by
 intro pins s σ H x vs v us Q I rx rv h
 obtain ⟨l,xs,i,k,y,rfl,rfl,hH,h1,h2,hk,hy,q⟩:=h
 cases rx
 obtain ⟨u,rfl,ru⟩:=rv.one
 obtain ⟨t,rfl⟩:=ru
 obtain ⟨z,its,n,r,hl,e⟩:=I.lstM hH
 obtain ⟨w,hw,rw'⟩:=r.get hy
 refine call_meets F.slot_list_pop ⟨_,e,rfl⟩ F.entry_list_pop (F.args_list_pop_2 _ _)
  (MeetsSeq.list_pop_at l its.toArray n i t k w (fitsIndex_both h1 h2) (by rw [List.size_toArray,← hl];exact hk) (by rw [← Array.getElem?_toList];exact hw) (by rw [List.size_toArray];omega)) ⟨e,?_⟩
 refine ⟨y,_,I.lset (its':=its.eraseIdx k) hH e ?_ (r.eraseIdx k) ?_,rw',q⟩
 · show its.toArray.eraseIdxIfInBounds k=(its.eraseIdx k).toArray
   rw [List.eraseIdxIfInBounds_toArray]
 · have:=len_erase xs k
   omega

noncomputable def rCat:R2:=fun x y H Q=>∃ l b xs zs,x=.ref l∧y=.ref b∧H l=some (.lst xs)∧H b=some (.lst zs)∧xs.length+zs.length≤sizeLine∧∀ p,H p=none→Q (.ref p) (upd H p (.lst (xs ++ zs)))
theorem op_cat:OpR X (binaryOp .Add) rCat:=by
 intro pins s σ H x y v u Q I rx ry h
 obtain ⟨l,b,xs,zs,rfl,rfl,hH,hB,hz,q⟩:=h
 cases rx
 cases ry
 obtain ⟨z,its,n,r,hl,e⟩:=I.lstM hH
 obtain ⟨z2,its2,n2,r2,hl2,e2⟩:=I.lstM hB
 refine PySem.P.add_list e e2 ?_ (by rw [List.size_toArray,List.size_toArray];omega)
 have ea:its.toArray ++ its2.toArray=(its ++ its2).toArray:=by simp
 rw [ea]
 exact ⟨.ref _,_,I.lnew (t':=s.toks) (r.append r2) (by rw [List.length_append];omega),rfl,q _ I.fresh⟩
noncomputable def rRep:R2:=fun x y H Q=>∃ l k xs,x=.ref l∧y=.int k∧H l=some (.lst xs)∧-(2 ^ 63)≤k∧k<2 ^ 63∧xs.length * k.toNat≤sizeLine ∧
 ∀ p,H p=none→Q (.ref p) (upd H p (.lst (List.replicate k.toNat xs).flatten))
theorem len_rep {α:Type} (xs:List α) (k:Nat):(List.replicate k xs).flatten.length=k * xs.length:=by
 induction k with
 | zero=>simp
 | succ k ih=>rw [List.replicate_succ,List.flatten_cons,List.length_append,ih,Nat.succ_mul,Nat.add_comm]
theorem op_rep:OpR X (binaryOp .Mult) rRep:=by
 intro pins s σ H x y v u Q I rx ry h
 obtain ⟨l,k,xs,rfl,rfl,hH,h1,h2,hz,q⟩:=h
 cases rx
 obtain ⟨t,rfl⟩:=ry
 obtain ⟨z,its,n,r,hl,e⟩:=I.lstM hH
 have hlen:its.toArray.size * k.toNat≤sizeLine:=by rw [List.size_toArray,← hl];exact hz
 have hcap:¬ its.toArray.size * k.toNat > (2 ^ 63 - 1) / 8:=by
  have:(sizeLine:Nat)≤(2 ^ 63 - 1) / 8:=by decide
  omega
 have hfit:¬ (!Builtin.List.listFitsIndex k)=true:=by
  rw [fitsIndex_both h1 h2]
  exact Bool.false_ne_true
 have hlong:¬ Builtin.List.listTooLong (its.toArray.size * k.toNat)=true:=by
  rw [notLongL hlen]
  exact Bool.false_ne_true
 have hnew:List.foldl (fun x1 x2=>x1 ++ x2) #[] (List.replicate (if its.toArray.isEmpty=true then 0 else k.toNat) its.toArray)=(List.replicate k.toNat its).flatten.toArray:=by
  have f0:∀ m:Nat,List.foldl (fun x1 x2=>x1 ++ x2) #[] (List.replicate m its.toArray)=(List.replicate m its).flatten.toArray:=fun m=>by
   have:=foldl_rep its m []
   rw [List.nil_append] at this
   exact this
  rw [f0]
  cases its with
  | nil=>simp
  | cons a r'=>rw [if_neg (by simp)]
 refine wpAny_binaryOp_repeat_ref (T:="list") (U:="int") (by decide) ⟨_,e,rfl⟩ (fun s'=>typeIs_int s' k t) noFill_list_mul F.fills_int_mul F.slot_int_rmul repeat_list F.slot_int_index.lookup
  (call_meets F.slot_int_rmul (typeIs_int s k t) F.entry_int_rmul (F.args_int_rmul_2 _ _) (int___rmul___int_list k t l its.toArray n)
   ⟨e,rfl,⟨_,e,rfl⟩,call_meets F.slot_list_mul ⟨_,e,rfl⟩ F.entry_list_mul (F.args_list_mul_2 _ _) (AutoListH.list___mul___list_int_3 l its.toArray n k t hfit hcap hlong) ⟨e,?_⟩⟩)
 rw [hnew]
 exact ⟨.ref _,_,I.lnew (t':=s.toks) (r.rep k.toNat) (by rw [len_rep,Nat.mul_comm];exact hz),rfl,q _ I.fresh⟩

end

section
variable {prog:Program} {w:World} {A:Around} {E:Value→Shared→Prop} {s:Shared}
end

section
variable {X:Cx}
end
end L2

namespace Att
open PySem PySem.W PySem.Calls PyProof.Rows

theorem ints_of_wellAll {P:Params} {h:Heap}:∀ (ns:List Int) (vs:List Value),WellAll P h vs (ns.map WData.int)→IntsAre vs ns:=by
 intro ns
 induction ns with
 | nil =>
   intro vs w
   rw [List.map_nil] at w
   cases w
   exact .nil
 | cons n ns ih =>
   intro vs w
   rw [List.map_cons] at w
   cases w with
   | cons a b =>
     cases a
     exact .cons _ _ (ih _ b)

theorem script_of {l:OpenLaw} {n:Nat} (hn:l.most=some n) {P:Params} {h:Heap} {args:List WData} {vals:List Value}
 (hpre:l.row.toRowW.claim.pre args=true) (hwl:WellAll P h vals args) :
 ∃ a vs ns,vals=[Value.ref a]∧args=[WData.list (ns.map WData.int)]∧h.get? a=some { cls:=.type "list",data:=.seq vs.toArray }∧IntsAre vs ns∧ns.length≤n:=by
 have hsh:WShape.hasAll [] args [.list .int]=true:=(pre_splitW hpre).1
 have hc:l.pre.holds [] { args:=args }=true:=(pre_splitW hpre).2
 obtain ⟨d,r,rfl,h1,h2⟩:=hasAllW_cons hsh
 obtain rfl:=hasAllW_nil h2
 obtain ⟨xs,rfl,h3⟩:=hasW_list h1
 obtain ⟨ns,rfl⟩:=items_int h3
 have hlen:ns.length≤n:=by
  unfold OpenLaw.pre at hc
  have h4:(WTm.not (.lt (.lit (.int (n:Int))) (.len (.arg 0)))).holds [] { args:=[.list (ns.map .int)] }=true:=by
   have h4:=(holds_andW hc).1
   rw [hn] at h4
   exact h4
  have h5:=condW_of h4 (w_not (w_lt w_lit (w_len_list (w_arg rfl))))
  rw [List.length_map] at h5
  refine Nat.le_of_not_lt fun q=>?_
  have q':(n:Int)<((ns.length:Nat):Int):=by omega
  first
   | (rw [decide_eq_true q'] at h5;exact absurd h5 (by decide))
   | (simp at h5;omega)
 cases hwl with
 | cons w1 w2 =>
   cases w2
   cases w1 with
   | list ho hall=>exact ⟨_,_,ns,rfl,rfl,ho,ints_of_wellAll ns _ hall,hlen⟩

theorem post_true (l:OpenLaw) (args:List WData):l.row.toRowW.claim.post args (.bool true) args=true :=
 postW_of (r:=l.row.toRowW) (X:=(true == true))
  (show WShape.has [] (.bool true) .bool=true by first | rfl | decide | simp [WShape.has,WShape.arms,WShape.armsAll])
  (show (WTm.eq .res (.lit (.bool true))).value [] { args:=args,res:=some (.bool true),after:=args }=some (.bool (true == true)) from w_eq_bool (w_res rfl) w_lit) rfl

theorem attach_call {l:OpenLaw} {n:Nat} {q:Program} {loose:List Str} {XP:(Str→Option Value)→Heap→Prop} {YP:World→Heap→Prop} {d:DefRec}
 (hn:l.most=some n) (hdf:d.params.defaults=[])
 (call:∀ (w:World) (s₀ s₁:Shared) (mg mb:Str→Option Value) (fa:Addr) (o:Obj) (pm cd doc:Value) (a:Addr) (vs:List Value) (ns:List Int),
  Ground q loose [] XP w s₀ mg mb s₁.heap→YP w s₁.heap →
  s₁.heap.get? fa=some o→o.data=.func (docDef d.name d.params d.body d.scope pm cd doc)→s₁.heap.CodeRec cd d.name→mg d.name=some (.ref fa) →
  s₁.heap.get? a=some { cls:=.type "list",data:=.seq vs.toArray }→IntsAre vs ns→ns.length≤n→s₁.gens=#[] →
  codeAny (model l.prog w) callerA (.call (.ref fa) ⟨[.ref a],[]⟩) (fun r s'=>r=.ok (.ret (.bool true))∧OldK s₁.heap s'.heap∧s'.os=s₁.os∧AllBare s'.gens) s₁) :
 WalkO q loose XP YP l.row.toRowW d [] (fun f vs=>PySem.call f vs):=by
 intro w s₀ s₁ mg mb G Y fa o pm cd doc dV kV ho hd hcd hD hmg hg args vals as hpre hlay hrd hwl hlo
 obtain rfl:dV=.none:=Dflts.none hD hdf
 obtain rfl:kV=.none:=Dflts.noKw hD
 obtain ⟨a,vs,ns,rfl,rfl,hobj,hints,hlen⟩:=script_of hn hpre hwl
 refine enter_call (codeAny_mono (call w s₀ s₁ mg mb fa o pm cd doc a vs ns G Y ho (fd_plain hd) hcd hmg hobj hints hlen hg) fun r s' hq=>?_)
 obtain ⟨rfl,h2,h3,h4⟩:=hq
 exact ⟨.inl ⟨.bool true,.bool true,[],rfl,fun _=>rfl,.bool true,post_true l _,fun _=>⟨List.Pairwise.nil,fun _ hm=>(nomatch hm)⟩⟩,h2,h3,h4⟩

section
variable {prog:Program} {w:World} {A:Around} {E:Value→Shared→Prop} {s:Shared} {K:Frag}

end
end Att

namespace L2
open PySem PySem.Spec PyProof.Rows

theorem vals_ints:∀ {vs:List Value} {ns:List Int},IntsAre vs ns→Vals (ns.map V.int) vs
 | _,_,.nil=>.nil
 | _,_,.cons n t h=>.cons ⟨t,rfl⟩ (vals_ints h)

noncomputable def Only (H:Hp):Prop:=∀ b,H b=none∨∃ o xs,H b=some (.frz o (.lst xs))

theorem law_call {P:Program} {w:World} {K:PySem.W.Frag} {mg mb:Str→Option Value} {CX:CXT} {k:Nat} {fa a:Addr} {fd:FuncData} {x:Str} {sp:Sp} {s₁:Shared} {vs:List Value} {ns:List Int}
 (KX:K.In s₁.heap) (hns:s₁.heap.Ns mainGlobals mg) (hb:s₁.heap.Ns builtinsNs mb) (hbb:∀ x:Str,x≠"__name__"→mb x=bootBuiltins x) (hlim:s₁.heap.NoLimit) (hg:s₁.gens=#[])
 (ha:s₁.heap.get? a=some { cls:=.type "list",data:=.seq vs.toArray }) (hi:IntsAre vs ns) (hl:ns.length≤sizeLine) (hr:Room k callerA)
 (F:∀ base:Heap,K.In base→base.Ns mainGlobals mg→FnOk P w K mg base CX k fa fd [x] sp) (hbind:∀ (s:Shared) (u:Value),BindsTo s fd ⟨[u],[]⟩ [(x,u)])
 (hsp:∀ H:Hp,Only H→SqL K H a (ns.map V.int)→sp [.ref a] H (fun v _=>v=.bl true) fun _ _ _=>False)
 (hCX:∀ H e s',CX [] H s₁ (fun _ _ _=>False) e s'→False) :
 codeAny (model P w) callerA (.call (.ref fa) ⟨[.ref a],[]⟩) (fun r s'=>r=.ok (.ret (.bool true))∧OldK s₁.heap s'.heap∧s'.os=s₁.os∧AllBare s'.gens) s₁:=by
 have rv:=vals_ints hi
 have lenV:=hi.length
 have core:∀ H:Hp,Only H→SqL K H a (ns.map V.int)→HOk P w H s₁.heap→(∀ b,H b≠none→b=a)→(H a≠none→K.lookup a=none) →
  codeAny (model P w) callerA (.call (.ref fa) ⟨[.ref a],[]⟩) (fun r s'=>r=.ok (.ret (.bool true))∧OldK s₁.heap s'.heap∧s'.os=s₁.os∧AllBare s'.gens) s₁:=by
  intro H hO hS hok hA hK
  have base_of:∀ {b:Addr} {o:Obj},s₁.heap.get? b=some o→H b=none→(hidT s₁.heap H).get? b=some o:=fun e n=>hidT_get e n
  have noA:∀ {b:Addr} {o:Obj} {es:Array DictEntry} {ep:Nat},s₁.heap.get? b=some o→o.data=.dict es ep→H b=none:=fun {b o es ep} e d=>by
   cases q:H b with
   | none=>rfl
   | some u =>
     have e':b=a:=hA b (by rw [q];simp)
     subst e'
     rw [ha] at e;cases e
     have d':Data.seq vs.toArray _=Data.dict es ep:=d
     cases d'
  have nsK:∀ {b:Addr} {m:Str→Option Value},s₁.heap.Ns b m→(hidT s₁.heap H).Ns b m:=fun {b m} ⟨o,es,ep,e,d,r⟩=>⟨o,es,ep,base_of e (noA e d),d,r⟩
  have hKb:K.In (hidT s₁.heap H):=fun b o e=>base_of (KX b o e) (by
   cases q:H b with
   | none=>rfl
   | some u =>
     have e':b=a:=hA b (by rw [q];simp)
     subst e'
     rw [hK (by rw [q];simp)] at e;cases e)
  have hM:Mod K mg (hidT s₁.heap H):=⟨hKb,nsK hns,⟨mb,nsK hb,hbb⟩,let ⟨mc,h1,h2⟩:=hlim;⟨mc,nsK h1,h2⟩⟩
  have e0:Env0 P w K mg (hidT s₁.heap H) callerA [] s₁ H:=⟨rfl,hM,fun b o e=>of_hidT e,Nat.le_of_eq (hidT_size _ _),trivial,fun b hb=>absurd (show b∈([]:List Addr) from hb) (by simp),hok,.of_eq hg⟩
  refine codeAny_mono ((F _ hKb (nsK hns)).run callerA [] s₁ H ⟨[.ref a],[]⟩ [.ref a] [.ref a] _ _ hr e0 (hbind s₁ (.ref a)) (.cons rfl .nil) (hsp H hO hS)) fun r s' h=>?_
  cases r with
  | error e=>exact (hCX H e s' h).elim
  | ok fl =>
    cases fl with
    | next=>exact False.elim h
    | brk=>exact False.elim h
    | cont=>exact False.elim h
    | ret u =>
      obtain ⟨v,H',os,bare,un,hok',r',q⟩:=h
      have q':v=.bl true:=q
      subst q'
      obtain rfl:u=Value.bool true:=r'
      refine ⟨rfl,OldK.of_keep fun b o e=>?_,os,bare⟩
      cases q:H b with
      | none=>exact un.keep b o e q (by intro z;exact absurd (show b∈([]:List Addr) from z) (by simp)) (by simp)
      | some u =>
        rcases hO b with z | ⟨ob,xs,z⟩
        · rw [q] at z;cases z
        · have z2:=un.frzs b ob _ z
          obtain ⟨e1,_⟩:=hok b _ z
          obtain ⟨e2,_⟩:=hok' b _ z2
          rw [e] at e1;cases e1
          exact e2
 cases hk:K.lookup a with
 | some o =>
   have e:=KX a o hk
   rw [ha] at e
   cases e
   refine core (fun _=>none) (fun _=>.inl rfl) (.inr ⟨_,vs.toArray,_,hk,rfl,rfl,rfl,by rw [List.size_toArray,lenV];exact hl,by simpa using rv⟩) (fun b u z=>by have z':(none:Option HO)=some u:=z;cases z') (fun b z=>absurd rfl z) fun z=>absurd rfl z
 | none =>
   refine core (fun b=>if b=a then some (.frz { cls:=.type "list",data:=.seq vs.toArray } (.lst (ns.map V.int))) else none) (fun b=>?_) (.inl (.inr ⟨{ cls:=.type "list",data:=.seq vs.toArray },if_pos rfl⟩)) (fun b u z=>?_) (fun b z=>?_) fun _=>hk
   · by_cases hb:b=a
     · exact .inr ⟨_,_,if_pos hb⟩
     · exact .inl (if_neg hb)
   · by_cases hb:b=a
     · have z':=(if_pos hb).symm.trans z
       cases z'
       subst hb
       exact ⟨ha,by rw [List.length_map];exact hl,vs,_,rv,ha⟩
     · have z':=(if_neg hb).symm.trans z
       cases z'
   · by_cases hb:b=a
     · exact hb
     · exact absurd (if_neg hb) z
end L2

namespace L2
open PySem PySem.Spec PyProof.Rows

theorem walk_of {l:PySem.W.OpenLaw} {n k:Nat} {q:Program} {loose:List Str} {XP:(Str→Option Value)→Heap→Prop} {YP:World→Heap→Prop} {d:DefRec} {K:Params→PySem.W.Frag} {CX:World→CXT} {sp:World→Sp} {x:Str}
 (hn:l.most=some n) (hn2:n≤sizeLine) (hdf:d.params.defaults=[]) (hr:Room k callerA)
 (hY:∀ (w:World) (h:Heap),YP w h→(K w.params).In h)
 (F:∀ (w:World) (mg:Str→Option Value) (fa:Addr) (h:Heap),(K w.params).In h→h.Ns mainGlobals mg→mg d.name=some (.ref fa) →
  ∃ fd:FuncData,(∀ (s:Shared) (u:Value),BindsTo s fd ⟨[u],[]⟩ [(x,u)]) ∧
    ∀ base:Heap,(K w.params).In base→base.Ns mainGlobals mg→FnOk l.prog w (K w.params) mg base (CX w) k fa fd [x] (sp w))
 (hsp:∀ (w:World) (H:Hp) (a:Addr) (ns:List Int),ns.length≤n→Only H→SqL (K w.params) H a (ns.map V.int)→sp w [.ref a] H (fun v _=>v=.bl true) fun _ _ _=>False)
 (hCX:∀ (w:World) (H:Hp) (s:Shared) (e:Value) (s':Shared),CX w [] H s (fun _ _ _=>False) e s'→False) :
 PySem.W.WalkO q loose XP YP l.row.toRowW d [] (fun f vs=>PySem.call f vs):=by
 refine Att.attach_call hn hdf fun w s₀ s₁ mg mb fa o pm cd doc a vs ns G Y ho hd hcd hmg hobj hints hlen hg=>?_
 have KX:=hY w _ Y
 obtain ⟨fd,hb,hF⟩:=F w mg fa _ KX G.T.g hmg
 exact law_call KX G.T.g G.T.b G.T.builtins G.T.nolimit hg hobj hints (Nat.le_trans hlen hn2) hr hF hb (fun H hO hS=>hsp w H a ns hlen hO hS) fun H e s'=>hCX w H s₁ e s'
end L2

namespace L2
open PySem PySem.Spec PyProof.Rows

noncomputable def defArgs (s:Stmt):Arguments:=match s with
 | .FunctionDef _ a _ _ _ _ _ _ _ _=>a
 | _=>{ posonlyargs:=[],args:=[],vararg:=none,kwonlyargs:=[],kw_defaults:=[],kwarg:=none,defaults:=[] }
noncomputable def defBody (s:Stmt):List Stmt:=match s with
 | .FunctionDef _ _ b _ _ _ _ _ _ _=>b
 | _=>[]
noncomputable def defScope (s:Stmt):Scope:=match s with
 | .FunctionDef _ _ _ _ _ _ sc _ _ _=>sc
 | _=>{ kind:=.function,names:=[],isGenerator:=false,isCoroutine:=false }

noncomputable abbrev CX0:CXT:=fun _ _ _ _ _ _=>False
noncomputable abbrev E0:XK:=fun _ _ _=>False
theorem pass0 {X:Cx}:Passes CX0 X E0:=fun _ _ _ _ _ _ _ h=>h.elim

structure Fun (K:PySem.W.Frag) (x qual:Str) (st:Stmt) (f:Addr) (fd:FuncData):Prop where
 ex:∃ (oc:Value) (od:Option Addr) (kV doc pm:Value) (an:Option Addr) (cdv ct:Value) (osl:Array (Option Value)),
  fd=PySem.W.fnOf x qual (defArgs st) (defBody st) (defScope st) .none kV doc pm an cdv ct∧K.lookup f=some ⟨oc,od,.func fd,osl⟩∧PySem.W.codeIn K cdv qual=true
 kp:PySem.W.keepIn K (.ref f)=true
section
variable {P:Program} {w:World} {K:PySem.W.Frag} {mg:Str→Option Value} {base:Heap}
theorem Fun.ok {x qual:Str} {st:Stmt} {f:Addr} {fd:FuncData} {N ps:List Str} {k:Nat} {sp:Sp} (F:Fun K x qual st f fd) (S:FnScope N ps (defScope st)) (len:∀ vs H Q E,sp vs H Q E→vs.length=ps.length)
 (hbody:∀ (cdv:Value) (A:Around) (outer:List Env) (s:Shared) (H:Hp) (vs:List V) (Q:VK) (E:XK),Room k (A.deeper (envOfC qual (defScope st) s.heap.objs.size f cdv))→sp vs H Q E →
  ∃ t,PSs (cxOf CX0 P w K mg base N qual (defScope st) f cdv A outer s H E).nox (defBody st) t∧t { nx:=fun _ H'=>Q .non H',rt:=Q } (start N vs) H):FnOk P w K mg base CX0 (k+1) f fd ps sp:=by
 obtain ⟨oc,od,kV,doc,pm,an,cdv,ct,osl,rfl,lk,hcd⟩:=F.ex
 refine fn_of lk hcd S len fun A outer s H vs Q E hr hsp=>?_
 obtain ⟨t,h,q⟩:=hbody cdv A outer s H vs Q E hr hsp
 exact ⟨t,h.nox,q⟩
theorem Fun.binds {x qual:Str} {st:Stmt} {f:Addr} {fd:FuncData} {ps:List Str} (F:Fun K x qual st f fd)
 (h:∀ (kV doc pm:Value) (an:Option Addr) (cdv ct:Value) (us:List Value),us.length=ps.length→bindArgs (PySem.W.fnOf x qual (defArgs st) (defBody st) (defScope st) .none kV doc pm an cdv ct) ⟨us,[]⟩=pure (ps.zip us)):Binds K fd ps []:=by
 obtain ⟨oc,od,kV,doc,pm,an,cdv,ct,osl,rfl,lk,hcd⟩:=F.ex
 exact .all (h kV doc pm an cdv ct)
theorem fun_mk {x qual:Str} {st:Stmt} {f:Addr} {oc:Value} {od an:Option Addr} {osl:Array (Option Value)} {kV doc pm cdv ct:Value} (l:K.lookup f=some ⟨oc,od,.func (PySem.W.fnOf x qual (defArgs st) (defBody st) (defScope st) .none kV doc pm an cdv ct),osl⟩)
 (c:PySem.W.codeIn K cdv qual=true) (k:PySem.W.keepIn K (.ref f)=true):Fun K x qual st f (PySem.W.fnOf x qual (defArgs st) (defBody st) (defScope st) .none kV doc pm an cdv ct):=⟨⟨oc,od,kV,doc,pm,an,cdv,ct,osl,rfl,l,c⟩,k⟩
end
theorem hu_of {A:Around} {k:Nat} (hr:Room k A):A.units+1<cLine:=Nat.lt_of_le_of_lt (Nat.add_le_add_left (by decide:1≤64) _) hr.units
theorem small1000 {n:Nat} (h:n≤1000):n<sizeLine:=Nat.lt_of_le_of_lt h (by decide)

section
variable {X:Cx}
theorem pv (i:Nat) {x:Str} {pos:Pos} (hN:X.N[i]?=some x:=by rfl) (hv:Vis X.env.scope x:=by first | exact Or.inl rfl | exact Or.inr (Or.inl rfl) | exact Or.inr (Or.inr rfl)) (hd:(x == ("__debug__":Str))=false:=by decide)
 (hcd:(x == ("__classdict__":Str))=false:=by decide):PE X (.Name x pos) (tVar i):=pe_var hN hv hd hcd
end

theorem iteF {A B:Prop} (h:B):if false=true then A else B:=by
 rw [if_neg Bool.false_ne_true]
 exact h
theorem iteT {A B:Prop} (h:A):if true=true then A else B:=by
 rw [if_pos rfl]
 exact h
noncomputable def Same (H H':Hp):Prop:=∀ b o,H b=some o→H' b=some o
theorem Same.refl (H:Hp):Same H H:=fun _ _ h=>h
theorem Same.trans {H H1 H2:Hp} (a:Same H H1) (b:Same H1 H2):Same H H2:=fun c o h=>b c o (a c o h)
theorem Same.free {H H':Hp} (e:Same H H') {l:Addr} (h:H' l=Option.none):H l=Option.none:=by
 cases q:H l with
 | none=>rfl
 | some o =>
   rw [e l o q] at h
   cases h
theorem Same.seq {K:PySem.W.Frag} {H H':Hp} {a:Addr} {xs:List V} (e:Same H H') (h:SqL K H a xs):SqL K H' a xs:=by
 rcases h with (h | ⟨o,h⟩) | h
 · exact .inl (.inl (e _ _ h))
 · exact .inl (.inr ⟨o,e _ _ h⟩)
 · exact .inr h

end L2

namespace L2
open PySem PySem.Spec PyProof.Rows

section
variable {prog:Program} {w:World} {A:Around} {R:Result→Shared→Prop} {s:Shared}
theorem compLoop_any {elt target iter:Expr} {ifs:List Expr} {scope:Scope} {pos:Pos} {it acc:Value} {env:Env} (I:Nat→Shared→Prop)
 (turn:∀ n s,I n s→wpAny (model prog w) A (pyNext it) (fun r s₁=>match r with
  | none=>R (.ok .next) s₁
  | some v=>wpAny (model prog w) A (letOwnedTupleGo target it v) (fun _ s₁'=>wpAny (model prog w) A (assign target env v) (fun _ s₂ =>
   wpAny (model prog w) A (forIn ifs true fun c r=>if r=true then do let ok ←isTrue c env (eval c env);pure (ForInStep.yield ok) else pure (ForInStep.yield r)) (fun ok s₃ =>
    if ok=true then wpAny (model prog w) A (eval elt env) (fun x s₄ =>
     wpAny (model prog w) A (call (.builtin "list.append") [acc,x]) (fun _ s₅=>∃ m,m<n∧I m s₅) (fun _ _=>False) s₄) (fun _ _=>False) s₃
    else ∃ m,m<n∧I m s₃) (fun _ _=>False) s₂) (fun _ _=>False) s₁') (fun _ _=>False) s₁) (fun _ _=>False) s)
 (n:Nat) (h:I n s) :
 codeAny (model prog w) A (.compLoop (.ListComp elt [⟨target,iter,ifs,0⟩] scope pos) 0 it acc env) R s:=by
 refine codeAny_loop rfl I (fun n s hI=>?_) n h
 show wpAny _ A ((compTurn (.ListComp elt [⟨target,iter,ifs,0⟩] scope pos) 0 it acc env).onRaise (fun x=>do noteFrame x env;theTreesLotGoes x)) _ _ s
 refine wpAny_noted ?_
 rw [compTurn_list]
 have el:∀ {E':Value→Shared→Prop} (x:Value) (s':Shared),False→E' x s':=fun _ _ f=>f.elim
 refine wpAny_bind (wpAny_standAt (wpAny_bind (wpAny_mono (turn n s hI) (fun r s₁ h₁=>?_) fun _ _ f=>f.elim)))
 cases r with
 | none=>exact wpAny_pure h₁
 | some v =>
   refine wpAny_bind (wpAny_mono h₁ (fun _ s₁' h₁'=>?_) fun _ _ f=>f.elim)
   refine wpAny_bind (wpAny_mono h₁' (fun _ s₂ h₂=>wpAny_bind (wpAny_mono h₂ (fun ok s₃ h₃=>?_) fun _ _ f=>f.elim)) fun _ _ f=>f.elim)
   cases ok with
   | false=>exact wpAny_pure ⟨rfl,h₃⟩
   | true =>
     exact wpAny_bind (wpAny_bind (wpAny_mono h₃ (fun x s₄ h₄=>wpAny_bind (wpAny_mono h₄ (fun _ s₅ h₅=>wpAny_pure (wpAny_pure ⟨rfl,h₅⟩)) fun _ _ f=>f.elim)) fun _ _ f=>f.elim))
end

noncomputable def compX (X:Cx) (N':List Str) (scope:Scope) (cl:List (Str×Addr)) (C:Addr) (s:Shared) (H:Hp) (fp:List Addr):Cx where
 prog:=X.prog
 w:=X.w
 K:=X.K
 mg:=X.mg
 base:=X.base
 A:=X.A
 N:=N'
 s₀:=s
 H₀:=H
 env:=compEnvC scope cl C X.env
 outer:=X.stack
 stack:=X.stack
 ex:=fp
 fn:=fun _=>false
 calm:=X.calm
 pn:=[]
 xe:=fun _ _=>False

noncomputable def PTs (X:Cx) (ifs:List Expr) (t:TT):Prop :=
 ∀ (pins:List (Addr×Obj)) (s:Shared) (σ:St) (H:Hp) (Q:Bool→Hp→Prop),Inv X pins σ H s→t σ H Q →
   wpAny (model X.prog X.w) X.A (forIn ifs true fun c r=>if r=true then do let ok ←isTrue c X.env (eval c X.env);pure (ForInStep.yield ok) else pure (ForInStep.yield r)) (TP X pins σ Q) X.xe s
theorem pts_nil {X:Cx}:PTs X [] (fun _ H Q=>Q true H):=fun _ _ _ H _ I h=>wpAny_pure ⟨H,I,h⟩
theorem pts_one {X:Cx} {c:Expr} {t:TT} (h:PT X c t):PTs X [c] t:=fun pins s σ H Q I hw=>by
 simp only [List.forIn_cons,List.forIn_nil,if_true]
 exact wpAny_bind (wpAny_bind (wpAny_mono (h pins s σ H Q I hw) (fun b s' hb=>wpAny_pure (wpAny_pure hb)) fun _ _ x=>x))

noncomputable def Cap (X:Cx) (sc:Scope):List Str→List (Option Nat)→Prop
 | [],[]=>True
 | _ :: N,none :: ks=>Cap X sc N ks
 | x :: N,some k :: ks=>(X.N[k]?=some x∧X.env.scope.names.lookup x=some .cell∧(sc.names.lookup x=some .cell∨sc.names.lookup x=some .free))∧Cap X sc N ks
 | _,_=>False
theorem Cap.len {X:Cx} {sc:Scope}:∀ {N:List Str} {ks:List (Option Nat)},Cap X sc N ks→ks.length=N.length
 | [],[],_=>rfl
 | _ :: N,none :: ks,h=>by simp [Cap.len (show Cap X sc N ks from h)]
 | _ :: N,some _ :: ks,h=>by simp [Cap.len (show Cap X sc N ks from h.2)]
 | [],_ :: _,h=>by cases h
 | _ :: _,[],h=>by cases h
theorem Cap.get {X:Cx} {sc:Scope}:∀ {N:List Str} {ks:List (Option Nat)} {i k:Nat} {x:Str},Cap X sc N ks→N[i]?=some x→ks[i]?=some (some k) →
 X.N[k]?=some x∧X.env.scope.names.lookup x=some .cell∧(sc.names.lookup x=some .cell∨sc.names.lookup x=some .free)
 | [],[],_,_,_,_,e,_=>by simp at e
 | [],_ :: _,_,_,_,h,_,_=>by cases h
 | _ :: _,[],_,_,_,h,_,_=>by cases h
 | _ :: N,none :: ks,0,k,x,h,e1,e2=>by simp at e2
 | _ :: N,none :: ks,i+1,k,x,h,e1,e2=>Cap.get (i:=i) (show Cap X sc N ks from h) (by simpa using e1) (by simpa using e2)
 | y :: N,some j :: ks,0,k,x,h,e1,e2=>by
   simp at e1 e2
   subst e1 e2
   exact h.1
 | _ :: N,some _ :: ks,i+1,k,x,h,e1,e2=>Cap.get (i:=i) (show Cap X sc N ks from h.2) (by simpa using e1) (by simpa using e2)
noncomputable def capt (ks:List (Option Nat)) (σ:St):St:=ks.map fun o=>match o with
 | none=>none
 | some k=>σ.getD k none

noncomputable def CompW (J:It) (D:Addr) (g:TG) (tt:TT) (te:TE) (Q:VK) (σ0:St) (H0:Hp):Prop :=
 ∃ W:Nat→Nat→List V→St→Hp→Prop,(∃ m,W 0 m [] σ0 H0)∧∀ i m ys σ' H',W i m ys σ' H'→H' D=some (.lst ys) ∧
   ((J.stop i H'∧Q (.ref D) H')∨(J.go i H'∧∀ x H2,J.yld i H' x H2→g x σ' H2 fun σ3 H3=>tt σ3 H3 fun b H4=>if b=true then
     te σ3 H4 fun y H5=>H5 D=some (.lst ys)∧ys.length<sizeLine∧∃ m',m'<m∧W (i+1) m' (ys ++ [y]) σ3 (upd H5 D (.lst (ys ++ [y]))) else ∃ m',m'<m∧W (i+1) m' ys σ3 H4))
noncomputable def tComp (wi:TI) (ks:List (Option Nat)) (g:TG) (tt:TT) (te:TE):TE:=fun σ H Q=>wi σ H fun J H1=>∀ D,H1 D=none→CompW J D g tt te Q (capt ks σ) (upd H1 D (.lst []))

section
variable {X:Cx}
theorem pe_comp {tg iter elt:Expr} {ifs:List Expr} {scope:Scope} {pos:Pos} {N':List Str} {ks:List (Option Nat)} {cl:List (Str×Addr)} {wi:TI} {g:TG} {tt:TT} {te:TE}
 (hcalm:X.calm=true) (hi:PI X tg iter wi) (hclos:closureFor scope X.env=pure cl) (hcl:∀ x c,cl.lookup x=some c→X.env.cells.lookup x=some c)
 (hcell:∀ y∈scope.names,y.2≠.cell) (hkind:scope.kind=.function) (hnames:∀ y∈scope.names,y.2=.local→scope.names.lookup y.1=some .local)
 (hhas:∀ x,((relabel scope X.env).names.lookup x=some .cell∨(relabel scope X.env).names.lookup x=some .free)→∃ c,cl.lookup x=some c)
 (hcap:Cap X (relabel scope X.env) N' ks)
 (hg:∀ C s H fp,PG (compX X N' scope cl C s H fp) tg g) (ht:∀ C s H fp,PTs (compX X N' scope cl C s H fp) ifs tt) (he:∀ C s H fp,PE (compX X N' scope cl C s H fp) elt te)
 (hs:∀ x,foldedSetIterable iter X.env x=pure x:=by intro _;rfl):PE X (.ListComp elt [⟨tg,iter,ifs,0⟩] scope pos) (tComp wi ks g tt te):=by
 intro pins s σ H Q I h
 rw [eval_ListComp]
 refine wpAny_comprehension_free (use:=none) rfl hs hclos hkind hnames (thn (hi pins s σ H _ I h) fun v s1 h1=>thn h1 fun itv s2 h2=>?_)
 obtain ⟨it,fp,tn,J,H2,e,I2,T,st2,f2,R⟩:=h2
 subst e
 refine wpAny_newObj_type (wpAny_newFunctionEnv hcell (by intro y hy;simp at hy) (fun h₁ hns₁ hsb₁=>?_) hkind)
 dsimp only at hns₁ hsb₁ ⊢
 have hD:H2 s2.heap.objs.size=none:=I2.hok.fresh (Nat.le_refl _)
 obtain ⟨W,⟨m0,w0⟩,turn⟩:=R _ hD
 generalize hs3:({ s2 with heap:=s2.heap.push { cls:=.type "list",dict:=none,data:=.seq ([]:List Value).toArray } }:Shared)=s3
 have e3:s3.heap=s2.heap.push { cls:=.type "list",dict:=none,data:=.seq ([]:List Value).toArray }:=by rw [← hs3]
 have I3:Inv X pins σ (upd H2 s2.heap.objs.size (.lst [])) s3:=by
  rw [← hs3]
  exact I2.laid (t':=s2.toks) (fun b o e=>Heap.get?_push_of_some _ e) (Nat.le_refl _) ⟨Nat.zero_le _,[],0,.nil,Heap.get?_push_size _ rfl⟩
 generalize hD0:s2.heap.objs.size=D at *
 generalize hH3:upd H2 D (.lst [])=H3 at *
 rw [← e3] at hns₁ hsb₁ ⊢
 have kp:∀ b o,s3.heap.get? b=some o→h₁.get? b=some o:=fun b o e=>hsb₁.extBut b o (Nat.ne_of_lt (Heap.lt_size e)) (Heap.get?_push_of_some _ e)
 have f3:∀ b∈fp,FpOk X pins H3 b∧b<s3.heap.objs.size:=fun b hb=>by
  obtain ⟨o,ho,_⟩:=T.obj 0 _ st2 b hb
  have hlt:b<D:=by rw [← hD0];exact Heap.lt_size ho
  refine ⟨⟨?_,(f2 b hb).2⟩,?_⟩
  · rw [← hH3,upd_ne (Nat.ne_of_lt hlt)];exact (f2 b hb).1
  · rw [e3,Heap.size_push,hD0];exact Nat.lt_succ_of_lt hlt
 have st3:tn 0 h₁:=T.keep 0 s2.heap h₁ st2 fun b hb o e=>kp b o (by rw [e3];exact Heap.get?_push_of_some _ e)
 have capK:∀ x c,cl.lookup x=some c→X.env.cells.lookup x=some c:=hcl
 have stkne:∀ b∈fp,b ∉ frs X.stack:=fun b hb z=>by
  rcases List.mem_cons.mp (I3.stkSub b z) with e | e
  · exact (f3 b hb).1.2.1 e
  · exact (f3 b hb).1.2.2.1 e
 have Cfresh:H3 s3.heap.objs.size=none:=I3.hok.fresh (Nat.le_refl _)
 have ok':(compX X N' scope cl s3.heap.objs.size s3 H3 fp).Ok:=by
  refine ⟨I3.ok.mod,hkind,I3.ok.glob,I3.ok.blt,Nat.le_refl _,fun x y c h1 h2=>I3.ok.inj x y c (capK x c h1) (capK y c h2),fun x hx=>hhas x hx,fun x c hf _=>absurd (show false=true from hf) Bool.false_ne_true,fun z=>I3.ok.hd z,I3.ok.frames,.inl rfl,
   fun b hb=>⟨Nat.ne_of_lt (f3 b hb).2,fun x c e=>(f3 b hb).1.2.2.2.2.1 x c (capK x c e)⟩,I3.bs,Nat.le_trans I3.ok.bsz I3.sz,fun b o e hb=>?_,fun b hb=>stkne b hb,I3.stack,I3.stkFree⟩
  rcases (f3 b hb).1.2.2.2.1 with z | z
  · exact I3.ok.noex b o e z
  · exact absurd (Nat.lt_of_lt_of_le (Heap.lt_size e) (Nat.le_trans I3.ok.bsz z)) (Nat.lt_irrefl _)
 have I4:Inv (compX X N' scope cl s3.heap.objs.size s3 H3 fp) [] (capt ks σ) H3 { s3 with heap:=h₁,toks:=s3.toks+([]:List (Str×Value)).length }:=by
  refine ⟨ok',rfl,I3.bare,Un.kept kp,⟨_,hns₁,fun i x v e1 e2 e3'=>?_⟩,fun x c e=>?_,Cfresh,fun x c e=>I3.freeC x c (capK x c e),fun p hp=>absurd (show p∈([]:List (Addr×Obj)) from hp) (by simp),I3.hok.kept kp,?_⟩
  · have e2':(capt ks σ)[i]?=some (some v):=e2
    unfold capt at e2'
    rw [List.getElem?_map] at e2'
    cases hk:ks[i]? with
    | none=>rw [hk] at e2';cases e2'
    | some o =>
      rw [hk] at e2'
      cases o with
      | none=>cases e2'
      | some k =>
        have ev:σ.getD k none=some v:=Option.some.inj e2'
        obtain ⟨c1,c2,c3⟩:=hcap.get e1 hk
        obtain ⟨m,hn,hl⟩:=I3.loc
        have es:σ[k]?=some (some v):=by
         rw [List.getD_eq_getElem?_getD] at ev
         cases q:σ[k]? with
         | none=>rw [q] at ev;cases ev
         | some z=>rw [q] at ev;exact congrArg some ev
        obtain ⟨u,r,l⟩:=hl k x v c1 es (.inr (.inl c2))
        refine ⟨u,r,.inr ⟨c3,?_⟩⟩
        rcases l with ⟨l1,_⟩ | ⟨_,c,l2,l3⟩
        · have l1':X.env.scope.names.lookup x=some .local:=l1
          rw [c2] at l1';cases l1'
        · obtain ⟨c',hc'⟩:=hhas x c3
          have:X.env.cells.lookup x=some c':=capK x c' hc'
          rw [l2] at this
          cases this
          refine ⟨c,hc',?_⟩
          obtain ⟨o,ho,hd⟩:=l3
          exact ⟨o,kp c o ho,hd⟩
  · obtain ⟨v,o,ho,hd⟩:=I3.cell x c (capK x c e)
    exact ⟨v,o,kp c o ho,hd⟩
  · show (capt ks σ).length=N'.length
    unfold capt
    rw [List.length_map,hcap.len]
 have Cne:∀ p∈X.pn ++ pins,p.1≠s3.heap.objs.size:=fun p hp=>Nat.ne_of_lt (Heap.lt_size (I3.pin p hp).1)
 have back:∀ {σ':St} {H':Hp} {s':Shared},Inv (compX X N' scope cl s3.heap.objs.size s3 H3 fp) [] σ' H' s'→∀ h'':Heap,Heap.SameBut s3.heap.objs.size s'.heap h''→Inv X pins σ H' { s' with heap:=h'' }:=fun {σ' H' s'} I' h'' sb=>by
  have J1:Inv X pins σ H' s':=I3.call' (ch:=fp) I'.os I'.base I'.hok I'.bare fun b hb=>⟨(f3 b hb).1.2.2.2.1,(f3 b hb).1.2.1,(f3 b hb).1.2.2.2.2.1,(f3 b hb).1.2.2.2.2.2⟩
  refine J1.turned (t':=s'.toks) (it:=s3.heap.objs.size) (fun b o hb e=>(sb.2 b hb).trans e) I'.free (Nat.ne_of_gt I3.lt) (.inr I3.sz) (fun x c e=>?_) Cne
  obtain ⟨v,q⟩:=I3.cell x c e
  exact Nat.ne_of_lt q.lt
 have fpok:∀ {H':Hp},(∀ b∈fp,H' b=none)→∀ b∈fp,FpOk (compX X N' scope cl s3.heap.objs.size s3 H3 fp) [] H' b:=fun hn b hb =>
  ⟨hn b hb,Nat.ne_of_lt (f3 b hb).2,stkne b hb,.inl hb,fun x c e=>(f3 b hb).1.2.2.2.2.1 x c (capK x c e),fun p hp=>absurd (show p∈([]:List (Addr×Obj)) from hp) (by simp)⟩
 have loop:codeAny (model X.prog X.w) X.A (.compLoop (.ListComp elt [⟨tg,iter,ifs,0⟩] scope pos) 0 (.ref it) (.ref D) (compEnvC scope cl s3.heap.objs.size X.env))
  (compPost (model X.prog X.w) X.A X.xe none (EP X pins σ Q) (.ref D) s3.heap.objs.size) { s3 with heap:=h₁,toks:=s3.toks+([]:List (Str×Value)).length }:=by
  refine compLoop_any (fun n s'=>∃ i ys σ' H',Inv (compX X N' scope cl s3.heap.objs.size s3 H3 fp) [] σ' H' s'∧tn i s'.heap∧(∀ b∈fp,H' b=none)∧W i n ys σ' H') ?_ m0 ⟨0,[],_,_,I4,st3,fun b hb=>(f3 b hb).1.1,w0⟩
  rintro n s5 ⟨i,ys,σ5,H5,I5,st5,fr5,w5⟩
  obtain ⟨hD5,tq⟩:=turn i n ys σ5 H5 w5
  rcases tq with ⟨stop,q⟩ | ⟨go,step⟩
  · refine thn (T.done (compX X N' scope cl s3.heap.objs.size s3 H3 fp) rfl rfl rfl hcalm i [] s5 σ5 H5 _ I5 (fpok fr5) st5 stop) fun r s6 ⟨hr,I6⟩=>?_
    subst hr
    obtain ⟨m,hn,_⟩:=I6.loc
    exact ⟨m,hn,fun h'' sb=>⟨.ref D,H5,back I6 h'' sb,rfl,q⟩⟩
  · refine thn (T.item (compX X N' scope cl s3.heap.objs.size s3 H3 fp) rfl rfl rfl hcalm i [] s5 σ5 H5 _ I5 (fpok fr5) st5 go) fun r s6 ⟨u,hr,h6⟩=>?_
    subst hr
    refine thn h6 fun _ s7 ⟨x,H7,I7,r7,y7,st7,fr7⟩=>?_
    have I7':=I7.pinned (fpok fr7) (T.obj _ _ st7)
    refine thn (hg _ _ _ _ _ s7 σ5 H7 x u _ I7' r7 (step x H7 y7)) fun _ s8 ⟨σ8,H8,I8,q8⟩=>?_
    refine thn (ht _ _ _ _ _ s8 σ8 H8 _ I8 q8) fun ok s9 ⟨H9,I9,q9⟩=>?_
    have again:∀ {σ':St} {H':Hp} {s':Shared} {ys':List V},Inv (compX X N' scope cl s3.heap.objs.size s3 H3 fp) ([] ++ pinsAt fp s7.heap) σ' H' s'→(∃ m',m'<n∧W (i+1) m' ys' σ' H') →
     ∃ m',m'<n∧∃ i ys σ' H',Inv (compX X N' scope cl s3.heap.objs.size s3 H3 fp) [] σ' H' s'∧tn i s'.heap∧(∀ b∈fp,H' b=none)∧W i m' ys σ' H':=fun {σ' H' s' ys'} I' hw=>by
     obtain ⟨m',hm,w'⟩:=hw
     refine ⟨m',hm,i+1,ys',σ',H',I'.unpinned,T.keep _ _ _ st7 fun b hb o e=>(I'.pin (b,o) (List.mem_append_right _ (List.mem_append_right _ (mem_pinsAt hb e)))).1,fun b hb=>?_,w'⟩
     obtain ⟨o,e,d⟩:=T.obj _ _ st7 b hb
     exact (I'.pin (b,o) (List.mem_append_right _ (List.mem_append_right _ (mem_pinsAt hb e)))).2.1
    cases ok with
    | false =>
      rw [if_neg Bool.false_ne_true] at q9 ⊢
      exact again I9 q9
    | true =>
      rw [if_pos rfl] at q9 ⊢
      refine thn (he _ _ _ _ _ s9 σ8 H9 _ I9 q9) fun y s10 ⟨yv,H10,I10,r10,q10,z10,w10⟩=>?_
      refine thn (mt_append _ s10 σ8 H10 (.ref D) [yv] (.ref D) [y] (fun v H'=>v=.non∧H'=upd H10 D (.lst (ys ++ [yv]))) I10 rfl (.cons r10 .nil) ⟨D,ys,yv,rfl,rfl,q10,z10,rfl,rfl⟩) fun _ s11 ⟨_,H11,I11,_,_,e11⟩=>?_
      subst e11
      exact again I11 w10
 have es:({ s3 with heap:=h₁,toks:=s3.toks+([]:List (Str×Value)).length }:Shared)={ s2 with heap:=h₁,toks:=s2.toks+([]:List (Str×Value)).length }:=by rw [← hs3]
 rw [es] at loop
 exact codeAny_compStart_list loop (T.self _ 0 _ _ _ st3 loop)
end
end L2

namespace L2
open PySem PySem.Spec PyProof.Rows

noncomputable def Sz (n:Nat) (k:Int):Prop:=k.natAbs<2 ^ n
theorem Sz.mono {n m:Nat} {k:Int} (h:Sz n k) (l:n≤m):Sz m k:=Nat.lt_of_lt_of_le h (Nat.pow_le_pow_right (by decide) l)
theorem Sz.mul {n m:Nat} {a b:Int} (h:Sz n a) (h':Sz m b):Sz (n+m) (a * b):=by
 unfold Sz at *
 rw [Int.natAbs_mul,Nat.pow_add]
 exact Nat.mul_lt_mul'' h h'
theorem Sz.add {n:Nat} {a b:Int} (h:Sz n a) (h':Sz n b):Sz (n+1) (a+b):=by
 unfold Sz at *
 rw [Nat.pow_succ]
 omega
theorem Sz.sub {n:Nat} {a b:Int} (h:Sz n a) (h':Sz n b):Sz (n+1) (a - b):=by
 unfold Sz at *
 rw [Nat.pow_succ]
 omega
theorem Sz.neg {n:Nat} {a:Int} (h:Sz n a):Sz n (-a):=by
 unfold Sz at *
 omega
theorem Sz.bits {n:Nat} {k:Int} (h:Sz n k):Builtin.Int.intBits k≤n:=by
 unfold Builtin.Int.intBits
 split
 · exact Nat.zero_le _
 · rename_i hk
   have h0:k.natAbs≠0:=fun z=>hk (by simp at z;simp [z])
   have:=(Nat.log2_lt h0).mpr h
   omega
theorem Sz.log2 {n:Nat} {k:Int} (h:Sz n k) (hn:0<n):k.natAbs.log2<n:=by
 by_cases h0:k.natAbs=0
 · rw [h0];exact hn
 · exact (Nat.log2_lt h0).mpr h
noncomputable def CMulB (i j:Int):Prop:=Sz 100000 i∧Sz 100000 j
theorem CMulB.ok {i j:Int} (h:CMulB i j):IntMulOk i j:=by
 have h1:=h.1.bits
 have h2:=h.2.bits
 have e:Builtin.Int.intTooBig ((Builtin.Int.intBits i:Int)+Builtin.Int.intBits j)=false:=by
  unfold Builtin.Int.intTooBig
  refine decide_eq_false ?_
  have:(bitsLine:Nat)=134217728:=rfl
  rw [this]
  omega
 unfold IntMulOk
 simp [e]
noncomputable def CDivB (_ j:Int):Prop:=j≠0∧Sz 9000 j
section
variable {X:Cx}
theorem op_mulB:OpR X (binaryOp .Mult) (rI CMulB fun i j=>.int (i * j)):=opI fun _ _ _ _ _ _ _ hc q=>mul_int q hc.ok
theorem op_fdivB:OpR X (binaryOp .FloorDiv) (rI CDivB fun i j=>.int (i.fdiv j)):=opI fun _ _ _ _ _ _ _ hc q=>floordiv_int hc.1 q (.inl (PyProof.noPylong_of_log2 (hc.2.log2 (by decide))))
end

inductive Dt where
 | non | bl (b:Bool) | int (i:Int) | str (x:Str) | tup (xs:List Dt) | lst (xs:List Dt)
mutual
def Den (K:PySem.W.Frag) (H:Hp):Dt→V→Prop
 | .non,v=>v=.non
 | .bl b,v=>v=.bl b
 | .int i,v=>v=.int i
 | .str x,v=>v=.str x
 | .tup ds,v=>∃ a xs,v=.ref a∧SqT K H a xs∧Dens K H ds xs
 | .lst ds,v=>∃ a xs,v=.ref a∧SqL K H a xs∧Dens K H ds xs
def Dens (K:PySem.W.Frag) (H:Hp):List Dt→List V→Prop
 | [],xs=>xs=[]
 | d :: ds,xs=>∃ x r,xs=x :: r∧Den K H d x∧Dens K H ds r
end
mutual
def eqD:Dt→Dt→Bool
 | .non,.non=>true
 | .bl a,.bl b=>a == b
 | .bl a,.int b=>(if a then 1 else 0) == b
 | .int a,.bl b=>a == (if b then 1 else 0)
 | .int a,.int b=>a == b
 | .str a,.str b=>a == b
 | .tup xs,.tup ys=>eqDs xs ys
 | .lst xs,.lst ys=>eqDs xs ys
 | _,_=>false
def eqDs:List Dt→List Dt→Bool
 | [],[]=>true
 | x :: xs,y :: ys=>eqD x y && eqDs xs ys
 | _,_=>false
end
mutual
def depD:Dt→Nat
 | .tup xs=>depDs xs+1
 | .lst xs=>depDs xs+1
 | _=>0
def depDs:List Dt→Nat
 | []=>0
 | x :: xs=>max (depD x) (depDs xs)
end
mutual
theorem eqD_refl:∀ d:Dt,eqD d d=true
 | .non=>rfl
 | .bl b=>by simp [eqD]
 | .int b=>by simp [eqD]
 | .str b=>by simp [eqD]
 | .tup xs=>by simp only [eqD];exact eqDs_refl xs
 | .lst xs=>by simp only [eqD];exact eqDs_refl xs
theorem eqDs_refl:∀ ds:List Dt,eqDs ds ds=true
 | []=>rfl
 | x :: xs=>by simp only [eqDs,eqD_refl x,eqDs_refl xs,Bool.and_self]
end
theorem Dens.length {K:PySem.W.Frag} {H:Hp}:∀ {ds:List Dt} {xs:List V},Dens K H ds xs→xs.length=ds.length
 | [],_,h=>by simp only [Dens] at h;subst h;rfl
 | d :: ds,_,h=>by
   simp only [Dens] at h
   obtain ⟨x,r,rfl,_,h⟩:=h
   simp [Dens.length h]
section
variable {X:Cx} {pins:List (Addr×Obj)} {σ:St} {H:Hp} {s:Shared}
theorem kinds_apart (I:Inv X pins σ H s) {a:Addr} {xs ys:List V} (h:SqT X.K H a xs) (h':SqL X.K H a ys):False:=by
 obtain ⟨its,_,⟨o,e,c,_⟩,_⟩:=I.tuple h
 obtain ⟨its',_,⟨o',n',e',c',_⟩,_⟩:=I.list h'
 rw [e] at e';cases e'
 rw [c] at c'
 have:("tuple":String)="list":=by injection c'
 exact absurd this (by decide)
mutual
theorem Den.inj (I:Inv X pins σ H s):∀ {d e:Dt} {v:V},Den X.K H d v→Den X.K H e v→d=e
 | .non,e,v,h,h'=>by
   simp only [Den] at h
   subst h
   cases e <;> simp only [Den] at h' <;> first
    | rfl
    | (obtain ⟨_,_,z,_⟩:=h';cases z;done)
    | (cases h';done)
 | .bl b,e,v,h,h'=>by
   simp only [Den] at h
   subst h
   cases e <;> simp only [Den] at h' <;> first
    | (obtain ⟨_,_,z,_⟩:=h';cases z;done)
    | (cases h';rfl)
    | (cases h';done)
 | .int b,e,v,h,h'=>by
   simp only [Den] at h
   subst h
   cases e <;> simp only [Den] at h' <;> first
    | (obtain ⟨_,_,z,_⟩:=h';cases z;done)
    | (cases h';rfl)
    | (cases h';done)
 | .str b,e,v,h,h'=>by
   simp only [Den] at h
   subst h
   cases e <;> simp only [Den] at h' <;> first
    | (obtain ⟨_,_,z,_⟩:=h';cases z;done)
    | (cases h';rfl)
    | (cases h';done)
 | .tup ds,e,v,h,h'=>by
   simp only [Den] at h
   obtain ⟨a,xs,rfl,hx,hd⟩:=h
   cases e with
   | tup es =>
     simp only [Den] at h'
     obtain ⟨b,ys,z,hy,he⟩:=h'
     cases z
     rw [I.tuple_inj hy hx] at he
     rw [Dens.inj I hd he]
   | lst es =>
     simp only [Den] at h'
     obtain ⟨b,ys,z,hy,he⟩:=h'
     cases z
     exact (kinds_apart I hx hy).elim
   | non=>simp only [Den] at h';cases h'
   | bl b=>simp only [Den] at h';cases h'
   | int b=>simp only [Den] at h';cases h'
   | str b=>simp only [Den] at h';cases h'
 | .lst ds,e,v,h,h'=>by
   simp only [Den] at h
   obtain ⟨a,xs,rfl,hx,hd⟩:=h
   cases e with
   | lst es =>
     simp only [Den] at h'
     obtain ⟨b,ys,z,hy,he⟩:=h'
     cases z
     rw [I.list_inj hy hx] at he
     rw [Dens.inj I hd he]
   | tup es =>
     simp only [Den] at h'
     obtain ⟨b,ys,z,hy,he⟩:=h'
     cases z
     exact (kinds_apart I hy hx).elim
   | non=>simp only [Den] at h';cases h'
   | bl b=>simp only [Den] at h';cases h'
   | int b=>simp only [Den] at h';cases h'
   | str b=>simp only [Den] at h';cases h'
theorem Dens.inj (I:Inv X pins σ H s):∀ {ds es:List Dt} {vs:List V},Dens X.K H ds vs→Dens X.K H es vs→ds=es
 | [],[],_,_,_=>rfl
 | [],e :: es,vs,h,h'=>by
   simp only [Dens] at h h'
   subst h
   obtain ⟨_,_,z,_⟩:=h'
   cases z
 | d :: ds,[],vs,h,h'=>by
   simp only [Dens] at h h'
   subst h'
   obtain ⟨_,_,z,_⟩:=h
   cases z
 | d :: ds,e :: es,vs,h,h'=>by
   simp only [Dens] at h h'
   obtain ⟨x,r,rfl,h1,h2⟩:=h
   obtain ⟨y,r',z,h3,h4⟩:=h'
   cases z
   rw [Den.inj I h1 h3,Dens.inj I h2 h4]
end
noncomputable def eqAtD (ds es:List Dt) (j:Nat):Bool:=match ds[j]?,es[j]? with
 | some d,some e=>eqD d e
 | _,_=>true
theorem all_eqAtD:∀ (ds es:List Dt),ds.length=es.length→(List.range ds.length).all (eqAtD ds es)=eqDs ds es
 | [],[],_=>rfl
 | d :: ds,e :: es,h=>by
   have ih:=all_eqAtD ds es (by simpa using h)
   rw [List.length_cons,List.range_succ_eq_map,List.all_cons,List.all_map]
   have e0:eqAtD (d :: ds) (e :: es) 0=eqD d e:=rfl
   have e1:(eqAtD (d :: ds) (e :: es)) ∘ Nat.succ=eqAtD ds es:=by
    funext j
    simp [eqAtD,Function.comp]
   rw [e0,e1,ih]
   rfl
theorem eqDs_len:∀ (ds es:List Dt),ds.length≠es.length→eqDs ds es=false
 | [],[],h=>absurd rfl h
 | [],_ :: _,_=>rfl
 | _ :: _,[],_=>rfl
 | d :: ds,e :: es,h=>by
   simp only [eqDs]
   rw [eqDs_len ds es (by simpa using h),Bool.and_false]
end
end L2

namespace L2
open PySem PySem.Spec PyProof.Rows
section
variable {X:Cx} {pins:List (Addr×Obj)} {σ:St} {H:Hp} {s:Shared}
theorem Dens.get {K:PySem.W.Frag} {H:Hp}:∀ {ds:List Dt} {xs:List V} {j:Nat} {d:Dt},Dens K H ds xs→ds[j]?=some d→∃ x,xs[j]?=some x∧Den K H d x
 | [],_,_,_,_,e=>by simp at e
 | d :: ds,xs,0,d',h,e=>by
   simp only [Dens] at h
   obtain ⟨x,r,rfl,h1,_⟩:=h
   simp at e
   subst e
   exact ⟨x,rfl,h1⟩
 | d :: ds,xs,j+1,d',h,e=>by
   simp only [Dens] at h
   obtain ⟨x,r,rfl,_,h2⟩:=h
   obtain ⟨y,h3,h4⟩:=Dens.get (j:=j) h2 (by simpa using e)
   exact ⟨y,by simpa using h3,h4⟩
theorem depDs_mem:∀ {ds:List Dt} {j:Nat} {d:Dt},ds[j]?=some d→depD d≤depDs ds
 | [],_,_,e=>by simp at e
 | d :: ds,0,d',e=>by simp at e;subst e;simp only [depDs];exact Nat.le_max_left _ _
 | d :: ds,j+1,d',e=>by
   have:=depDs_mem (ds:=ds) (j:=j) (d:=d') (by simpa using e)
   simp only [depDs]
   exact Nat.le_trans this (Nat.le_max_right _ _)
theorem items_eq {A:Around} (n:Nat) (ih:∀ (A:Around) (d e:Dt) (x y:V) (u v:Value),depD d≤n→A.units+n<cLine→Den X.K H d x→Den X.K H e y→RelV x u→RelV y v→SeqAt.EqAt A s u v (eqD d e))
 {ds es:List Dt} {xs ys:List V} {us vs:List Value} (hd:depDs ds≤n) (hu:A.units+n+1<cLine) (h1:Dens X.K H ds xs) (h2:Dens X.K H es ys) (r1:Vals xs us) (r2:Vals ys vs) :
 ∀ j (g1:j<us.toArray.size) (g2:j<vs.toArray.size),SeqAt.EqAt A.in1 s us.toArray[j] vs.toArray[j] (eqAtD ds es j):=by
 intro j g1 g2
 have l1:=h1.length
 have l2:=h2.length
 have l3:=r1.length
 have l4:=r2.length
 have g1':j<us.length:=by simpa using g1
 have g2':j<vs.length:=by simpa using g2
 have j1:j<ds.length:=by rw [← l1,l3];exact g1'
 have j2:j<es.length:=by rw [← l2,l4];exact g2'
 have e1:ds[j]?=some ds[j]:=by simp [j1]
 have e2:es[j]?=some es[j]:=by simp [j2]
 obtain ⟨x,ex,dx⟩:=h1.get e1
 obtain ⟨y,ey,dy⟩:=h2.get e2
 obtain ⟨u,eu,ru⟩:=r1.get ex
 obtain ⟨v,ev,rv⟩:=r2.get ey
 have e3:eqAtD ds es j=eqD ds[j] es[j]:=by unfold eqAtD;rw [e1,e2]
 rw [e3]
 have a1:us.toArray[j]=u:=by
  have:us[j]?=some us[j]:=by simp [g1']
  rw [this] at eu
  simpa using Option.some.inj eu
 have a2:vs.toArray[j]=v:=by
  have:vs[j]?=some vs[j]:=by simp [g2']
  rw [this] at ev
  simpa using Option.some.inj ev
 rw [a1,a2]
 exact ih A.in1 _ _ x y u v (Nat.le_trans (depDs_mem e1) hd) (by show A.units+1+n<cLine;omega) dx dy ru rv
theorem rc_seqT {A:Around} (I:Inv X pins σ H s) (n:Nat) (ih:∀ (A:Around) (d e:Dt) (x y:V) (u v:Value),depD d≤n→A.units+n<cLine→Den X.K H d x→Den X.K H e y→RelV x u→RelV y v→SeqAt.EqAt A s u v (eqD d e))
 {ds es:List Dt} {a b:Addr} {xs ys:List V} (hd:depDs ds≤n) (hu:A.units+n+1<cLine) (ha:SqT X.K H a xs) (hb:SqT X.K H b ys) (h1:Dens X.K H ds xs) (h2:Dens X.K H es ys) :
 SeqAt.RcAt A s (.ref a) (.ref b) (eqDs ds es)∧SeqAt.RcNeAt A s (.ref a) (.ref b) (!eqDs ds es):=by
 obtain ⟨its,r1,p1,_⟩:=I.tuple ha
 obtain ⟨its2,r2,p2,_⟩:=I.tuple hb
 have l1:=h1.length
 have l2:=h2.length
 have l3:=r1.length
 have l4:=r2.length
 have hu':A.units<cLine:=by omega
 have q:=SeqAt.RcAt.tuples (A:=A) (s:=s) (e:=eqAtD ds es) p1 p2 hu' (items_eq n ih hd hu h1 h2 r1 r2)
 have q2:=SeqAt.RcNeAt.tuples (A:=A) (s:=s) (e:=eqAtD ds es) p1 p2 hu' (items_eq n ih hd hu h1 h2 r1 r2)
 have e:((List.range (min its.toArray.size its2.toArray.size)).all (eqAtD ds es) && its.toArray.size == its2.toArray.size)=eqDs ds es:=by
  simp only [List.size_toArray]
  by_cases hl:ds.length=es.length
  · have:its.length=its2.length:=by rw [← l3,← l4,l1,l2,hl]
    rw [this,Nat.min_self,← l4,l2,← hl,all_eqAtD ds es hl]
    simp
  · have:its.length≠its2.length:=by rw [← l3,← l4,l1,l2];exact hl
    rw [eqDs_len ds es hl]
    simp [this]
 rw [e] at q q2
 exact ⟨q,q2⟩
theorem rc_seqL {A:Around} (I:Inv X pins σ H s) (n:Nat) (ih:∀ (A:Around) (d e:Dt) (x y:V) (u v:Value),depD d≤n→A.units+n<cLine→Den X.K H d x→Den X.K H e y→RelV x u→RelV y v→SeqAt.EqAt A s u v (eqD d e))
 {ds es:List Dt} {a b:Addr} {xs ys:List V} (hd:depDs ds≤n) (hu:A.units+n+1<cLine) (ha:SqL X.K H a xs) (hb:SqL X.K H b ys) (h1:Dens X.K H ds xs) (h2:Dens X.K H es ys) :
 SeqAt.RcAt A s (.ref a) (.ref b) (eqDs ds es)∧SeqAt.RcNeAt A s (.ref a) (.ref b) (!eqDs ds es):=by
 obtain ⟨its,r1,p1,_⟩:=I.list ha
 obtain ⟨its2,r2,p2,_⟩:=I.list hb
 have l1:=h1.length
 have l2:=h2.length
 have l3:=r1.length
 have l4:=r2.length
 have hu':A.units<cLine:=by omega
 by_cases hl:ds.length=es.length
 · have hsz:its.toArray.size=its2.toArray.size:=by simp only [List.size_toArray];rw [← l3,← l4,l1,l2,hl]
   have q:=SeqAt.RcAt.lists (A:=A) (s:=s) (e:=eqAtD ds es) p1.isList p2.isList hsz hu' (items_eq n ih hd hu h1 h2 r1 r2)
   have q2:=SeqAt.RcNeAt.lists (A:=A) (s:=s) (e:=eqAtD ds es) p1.isList p2.isList hsz hu' (items_eq n ih hd hu h1 h2 r1 r2)
   have e:(List.range its.toArray.size).all (eqAtD ds es)=eqDs ds es:=by
    simp only [List.size_toArray]
    rw [← l3,l1,all_eqAtD ds es hl]
   rw [e] at q q2
   exact ⟨q,q2⟩
 · have hsz:(its.toArray.size != its2.toArray.size)=true:=by
    simp only [List.size_toArray]
    rw [← l3,← l4,l1,l2]
    simpa using hl
   rw [eqDs_len ds es hl]
   exact ⟨SeqAt.RcAt.lists_lengths p1.isList p2.isList hsz hu',SeqAt.RcNeAt.lists_lengths p1.isList p2.isList hsz hu'⟩
theorem eqAt_D (I:Inv X pins σ H s):∀ (n:Nat) (A:Around) (d e:Dt) (x y:V) (u v:Value),depD d≤n→A.units+n<cLine→Den X.K H d x→Den X.K H e y→RelV x u→RelV y v→SeqAt.EqAt A s u v (eqD d e):=by
 intro n
 induction n with
 | zero =>
   intro A d e x y u v hd hu h1 h2 rx ry
   have hu':A.units<cLine:=by omega
   cases d with
   | tup ds=>simp only [depD] at hd;omega
   | lst ds=>simp only [depD] at hd;omega
   | non =>
     simp only [Den] at h1
     subst h1
     cases e with
     | tup es =>
       simp only [Den] at h2
       obtain ⟨b,ys,rfl,hy,_⟩:=h2
       cases rx;cases ry
       obtain ⟨its,_,p,_⟩:=I.tuple hy
       exact SeqAt.EqAt.none_tuple p hu'
     | lst es =>
       simp only [Den] at h2
       obtain ⟨b,ys,rfl,hy,_⟩:=h2
       cases rx;cases ry
       obtain ⟨its,_,p,_⟩:=I.list hy
       exact SeqAt.EqAt.none_list p.isList hu'
     | _=>simp only [Den] at h2;subst h2;exact eqAt_V rx ry rfl rfl
   | bl i =>
     simp only [Den] at h1
     subst h1
     cases e with
     | tup es =>
       simp only [Den] at h2
       obtain ⟨b,ys,rfl,hy,_⟩:=h2
       cases rx;cases ry
       obtain ⟨its,_,p,_⟩:=I.tuple hy
       exact SeqAt.EqAt.bool_tuple _ p hu'
     | lst es =>
       simp only [Den] at h2
       obtain ⟨b,ys,rfl,hy,_⟩:=h2
       cases rx;cases ry
       obtain ⟨its,_,p,_⟩:=I.list hy
       exact SeqAt.EqAt.bool_list _ p.isList hu'
     | _=>simp only [Den] at h2;subst h2;exact eqAt_V rx ry rfl rfl
   | int i =>
     simp only [Den] at h1
     subst h1
     cases e with
     | tup es =>
       simp only [Den] at h2
       obtain ⟨b,ys,rfl,hy,_⟩:=h2
       obtain ⟨t,rfl⟩:=rx
       cases ry
       obtain ⟨its,_,p,_⟩:=I.tuple hy
       exact SeqAt.EqAt.int_tuple _ _ p hu'
     | lst es =>
       simp only [Den] at h2
       obtain ⟨b,ys,rfl,hy,_⟩:=h2
       obtain ⟨t,rfl⟩:=rx
       cases ry
       obtain ⟨its,_,p,_⟩:=I.list hy
       exact SeqAt.EqAt.int_list _ _ p.isList hu'
     | _=>simp only [Den] at h2;subst h2;exact eqAt_V rx ry rfl rfl
   | str i =>
     simp only [Den] at h1
     subst h1
     cases e with
     | tup es =>
       simp only [Den] at h2
       obtain ⟨b,ys,rfl,hy,_⟩:=h2
       obtain ⟨t,rfl⟩:=rx
       cases ry
       obtain ⟨its,_,p,_⟩:=I.tuple hy
       exact SeqAt.EqAt.str_tuple _ _ p hu'
     | lst es =>
       simp only [Den] at h2
       obtain ⟨b,ys,rfl,hy,_⟩:=h2
       obtain ⟨t,rfl⟩:=rx
       cases ry
       obtain ⟨its,_,p,_⟩:=I.list hy
       exact SeqAt.EqAt.str_list _ _ p.isList hu'
     | _=>simp only [Den] at h2;subst h2;exact eqAt_V rx ry rfl rfl
 | succ n ih =>
   intro A d e x y u v hd hu h1 h2 rx ry
   have hu':A.units<cLine:=by omega
   by_cases hle:depD d≤n
   · exact ih A d e x y u v hle (by omega) h1 h2 rx ry
   cases d with
   | tup ds =>
     simp only [depD] at hd
     have h1':=h1
     simp only [Den] at h1
     obtain ⟨a,xs,rfl,hx,hds⟩:=h1
     cases rx
     have hT:=I.tuple hx
     obtain ⟨its,r1,p1,_⟩:=hT
     cases e with
     | tup es =>
       have h2':=h2
       simp only [Den] at h2
       obtain ⟨b,ys,rfl,hy,hes⟩:=h2
       cases ry
       by_cases hab:a=b
       · subst hab
         rw [Den.inj I h1' h2',eqD_refl]
         exact SeqAt.EqAt.same _
       · simp only [eqD]
         exact SeqAt.EqAt.of_refs hab (rc_seqT I n ih (by omega) (by omega) hx hy hds hes).1
     | lst es =>
       simp only [Den] at h2
       obtain ⟨b,ys,rfl,hy,_⟩:=h2
       cases ry
       obtain ⟨its',_,p,_⟩:=I.list hy
       exact SeqAt.EqAt.tuple_list p1 p.isList hu'
     | non=>simp only [Den] at h2;subst h2;cases ry;exact SeqAt.EqAt.tuple_none p1 hu'
     | bl i=>simp only [Den] at h2;subst h2;cases ry;exact SeqAt.EqAt.tuple_bool _ p1 hu'
     | int i=>simp only [Den] at h2;subst h2;obtain ⟨t,rfl⟩:=ry;exact SeqAt.EqAt.tuple_int _ _ p1 hu'
     | str i=>simp only [Den] at h2;subst h2;obtain ⟨t,rfl⟩:=ry;exact SeqAt.EqAt.tuple_str _ _ p1 hu'
   | lst ds =>
     simp only [depD] at hd
     have h1':=h1
     simp only [Den] at h1
     obtain ⟨a,xs,rfl,hx,hds⟩:=h1
     cases rx
     have hT:=I.list hx
     obtain ⟨its,r1,p1,_⟩:=hT
     cases e with
     | lst es =>
       have h2':=h2
       simp only [Den] at h2
       obtain ⟨b,ys,rfl,hy,hes⟩:=h2
       cases ry
       by_cases hab:a=b
       · subst hab
         rw [Den.inj I h1' h2',eqD_refl]
         exact SeqAt.EqAt.same _
       · simp only [eqD]
         exact SeqAt.EqAt.of_refs hab (rc_seqL I n ih (by omega) (by omega) hx hy hds hes).1
     | tup es =>
       simp only [Den] at h2
       obtain ⟨b,ys,rfl,hy,_⟩:=h2
       cases ry
       obtain ⟨its',_,p,_⟩:=I.tuple hy
       exact SeqAt.EqAt.list_tuple p1.isList p hu'
     | non=>simp only [Den] at h2;subst h2;cases ry;exact SeqAt.EqAt.list_none p1.isList hu'
     | bl i=>simp only [Den] at h2;subst h2;cases ry;exact SeqAt.EqAt.list_bool _ p1.isList hu'
     | int i=>simp only [Den] at h2;subst h2;obtain ⟨t,rfl⟩:=ry;exact SeqAt.EqAt.list_int _ _ p1.isList hu'
     | str i=>simp only [Den] at h2;subst h2;obtain ⟨t,rfl⟩:=ry;exact SeqAt.EqAt.list_str _ _ p1.isList hu'
   | _=>simp only [depD] at hle;omega
end
section
variable {X:Cx}
noncomputable def rEqD (K:PySem.W.Frag) (neg:Bool):R2:=fun x y H Q=>∃ a b xs ys ds es,x=.ref a∧y=.ref b∧((SqT K H a xs∧SqT K H b ys)∨(SqL K H a xs∧SqL K H b ys))∧Dens K H ds xs∧Dens K H es ys∧depDs ds≤20 ∧
 Q (.bl (if neg then !eqDs ds es else eqDs ds es)) H
theorem op_eqD {k:Nat} (hr:Room k X.A):OpR X (compareOp .Eq) (rEqD X.K false):=by
 intro pins s σ H x y v u Q I rx ry h
 obtain ⟨a,b,xs,ys,ds,es,rfl,rfl,hk,h1,h2,hd,q⟩:=h
 cases rx
 cases ry
 have hu:=hr.units
 rcases hk with ⟨ha,hb⟩ | ⟨ha,hb⟩
 · exact (rc_seqT (A:=X.A) I 20 (eqAt_D I 20) hd (by omega) ha hb h1 h2).1 _ _ _ _ ⟨.bl _,H,I,rfl,q⟩
 · exact (rc_seqL (A:=X.A) I 20 (eqAt_D I 20) hd (by omega) ha hb h1 h2).1 _ _ _ _ ⟨.bl _,H,I,rfl,q⟩
theorem op_neD {k:Nat} (hr:Room k X.A):OpR X (compareOp .NotEq) (rEqD X.K true):=by
 intro pins s σ H x y v u Q I rx ry h
 obtain ⟨a,b,xs,ys,ds,es,rfl,rfl,hk,h1,h2,hd,q⟩:=h
 cases rx
 cases ry
 have hu:=hr.units
 rcases hk with ⟨ha,hb⟩ | ⟨ha,hb⟩
 · exact (rc_seqT (A:=X.A) I 20 (eqAt_D I 20) hd (by omega) ha hb h1 h2).2 _ _ _ _ ⟨.bl _,H,I,rfl,q⟩
 · exact (rc_seqL (A:=X.A) I 20 (eqAt_D I 20) hd (by omega) ha hb h1 h2).2 _ _ _ _ ⟨.bl _,H,I,rfl,q⟩

end
end L2

namespace L2
open PySem PySem.Spec PyProof.Rows

section
variable {prog:Program} {w:World} {A:Around} {E:Value→Shared→Prop} {s:Shared}
end
end L2

namespace L2
open PySem PySem.Spec PyProof.Rows
section
variable {X:Cx} {pins:List (Addr×Obj)} {σ:St} {H:Hp} {s:Shared} {h':Heap}
end
end L2

namespace L2
open PySem PySem.Spec PyProof.Rows
section
variable {X:Cx} {pins:List (Addr×Obj)} {σ:St} {H:Hp} {s:Shared}
end
section
variable {X:Cx}
end
end L2

namespace Pw
noncomputable def mk (a b:Int):Int×Int:=if b<0 then (a.fdiv (-(Int.gcd a b:Int)),b.fdiv (-(Int.gcd a b:Int))) else (a.fdiv (Int.gcd a b:Int),b.fdiv (Int.gcd a b:Int))
noncomputable def Canon (p:Int×Int):Prop:=0<p.2∧Int.gcd p.1 p.2=1
theorem gpos {a b:Int} (h:b≠0):0<(Int.gcd a b:Int):=by
 have:0<Int.gcd a b:=Nat.pos_of_ne_zero fun z=>h (Int.gcd_eq_zero_iff.mp z).2
 omega
theorem dvd_left {k m n:Int} (h:k ∣ m * n) (c:Int.gcd m k=1):k ∣ n:=by
 have h1:k.natAbs ∣ m.natAbs * n.natAbs:=by rw [← Int.natAbs_mul];exact Int.natAbs_dvd_natAbs.mpr h
 have h2:Nat.Coprime k.natAbs m.natAbs:=by
  show Nat.gcd _ _=1
  rw [Nat.gcd_comm];exact c
 exact Int.natAbs_dvd_natAbs.mp (Nat.Coprime.dvd_of_dvd_mul_left h2 h1)
theorem mk_spec {a b:Int} (h:b≠0):Canon (mk a b)∧(mk a b).1 * b=a * (mk a b).2:=by
 have hg:=gpos (a:=a) h
 obtain ⟨x,hx⟩:((Int.gcd a b:Nat):Int) ∣ a:=Int.gcd_dvd_left ..
 obtain ⟨y,hy⟩:((Int.gcd a b:Nat):Int) ∣ b:=Int.gcd_dvd_right ..
 generalize hG:(Int.gcd a b:Int)=g at *
 have hgn:g≠0:=by omega
 have cop:Int.gcd x y=1:=by
  have h1:Int.gcd a b=Int.gcd (g * x) (g * y):=by rw [← hx,← hy]
  rw [Int.gcd_mul_left] at h1
  have h2:(g.natAbs:Int)=g:=by omega
  have h3:(Int.gcd a b:Int)=g.natAbs:=by rw [hG,h2]
  have h4:Int.gcd a b=g.natAbs:=by omega
  have h5:g.natAbs * Int.gcd x y=g.natAbs * 1:=by rw [← h1,h4];simp
  exact Nat.eq_of_mul_eq_mul_left (by omega) h5
 have e1:a.fdiv g=x:=by rw [hx];exact Int.mul_fdiv_cancel_left _ hgn
 have e2:b.fdiv g=y:=by rw [hy];exact Int.mul_fdiv_cancel_left _ hgn
 have e3:a.fdiv (-g)=-x:=by
  have:a=(-g) * (-x):=by rw [Int.neg_mul_neg];exact hx
  rw [this];exact Int.mul_fdiv_cancel_left _ (by omega)
 have e4:b.fdiv (-g)=-y:=by
  have:b=(-g) * (-y):=by rw [Int.neg_mul_neg];exact hy
  rw [this];exact Int.mul_fdiv_cancel_left _ (by omega)
 unfold mk
 rw [hG]
 by_cases hb:b<0
 · rw [if_pos hb,e3,e4]
   have hy0:y<0:=by
    refine Int.not_le.mp fun hy0=>?_
    have:=Int.mul_nonneg (Int.le_of_lt hg) hy0
    omega
   refine ⟨⟨by show 0 < -y;omega,by show Int.gcd (-x) (-y)=1;rw [Int.neg_gcd,Int.gcd_neg];exact cop⟩,?_⟩
   show -x * b=a * -y
   rw [hx,hy];grind
 · rw [if_neg hb,e1,e2]
   have hy0:0<y:=by
    refine Int.not_le.mp fun hy0=>?_
    have:=Int.mul_nonneg (Int.le_of_lt hg) (show 0≤-y by omega)
    rw [Int.mul_neg,← hy] at this
    omega
   refine ⟨⟨hy0,cop⟩,?_⟩
   show x * b=a * y
   rw [hx,hy];grind
theorem canon_unique {p q:Int×Int} (hp:Canon p) (hq:Canon q) (h:p.1 * q.2=q.1 * p.2):p=q:=by
 obtain ⟨p1,p2⟩:=p
 obtain ⟨q1,q2⟩:=q
 obtain ⟨a1,a2⟩:=hp
 obtain ⟨b1,b2⟩:=hq
 simp only at *
 have d1:p2 ∣ q2:=by
  have:p2 ∣ p1 * q2:=⟨q1,by rw [h];grind⟩
  exact dvd_left this a2
 have d2:q2 ∣ p2:=by
  have:q2 ∣ q1 * p2:=⟨p1,by rw [← h];grind⟩
  exact dvd_left this b2
 have e:p2=q2:=Int.dvd_antisymm (by omega) (by omega) d1 d2
 subst e
 have:p1=q1:=Int.eq_of_mul_eq_mul_right (by omega) h
 rw [this]
theorem mk_uniq {a b:Int} {p:Int×Int} (h:b≠0) (hp:Canon p) (hw:p.1 * b=a * p.2):mk a b=p:=by
 obtain ⟨c,w⟩:=mk_spec (a:=a) h
 refine canon_unique c hp (Int.eq_of_mul_eq_mul_right h ?_)
 grind
theorem mk_mul {a b m:Int} (h:b≠0) (hm:m≠0):mk (a * m) (b * m)=mk a b:=by
 obtain ⟨c,w⟩:=mk_spec (a:=a) h
 exact mk_uniq (Int.mul_ne_zero h hm) c (by grind)
theorem mk_le {a b:Int} (h:b≠0):(mk a b).1.natAbs≤a.natAbs∧(mk a b).2.natAbs≤b.natAbs:=by
 obtain ⟨⟨c1,c2⟩,w⟩:=mk_spec (a:=a) h
 generalize mk a b=p at *
 obtain ⟨x,y⟩:=p
 simp only at *
 have d1:y ∣ b:=by
  have:y ∣ x * b:=⟨a,by rw [w];grind⟩
  exact dvd_left this c2
 have d2:x ∣ a:=by
  have:x ∣ y * a:=⟨b,by rw [w];grind⟩
  exact dvd_left this (by rw [Int.gcd_comm];exact c2)
 refine ⟨?_,Nat.le_of_dvd (by omega) (Int.natAbs_dvd_natAbs.mpr d1)⟩
 by_cases ha:a=0
 · subst ha
   have:x * b=0:=by rw [w,Int.zero_mul]
   rcases Int.mul_eq_zero.mp this with z | z
   · rw [z];simp
   · exact absurd z h
 · exact Nat.le_of_dvd (by omega) (Int.natAbs_dvd_natAbs.mpr d2)
theorem gcd_turn {x y:Int} (hx:0≤x) (hy:0<y):Int.gcd y (x % y)=Int.gcd x y:=by
 obtain ⟨m,rfl⟩:=Int.eq_ofNat_of_zero_le hx
 obtain ⟨n,rfl⟩:=Int.eq_ofNat_of_zero_le (Int.le_of_lt hy)
 show Nat.gcd n (((m:Int) % (n:Int)).natAbs)=Nat.gcd m n
 have e:((m:Int) % (n:Int)).natAbs=m % n:=by rw [← Int.natCast_emod,Int.natAbs_natCast]
 rw [e,Nat.gcd_comm m n,Nat.gcd_comm n (m % n),← Nat.gcd_rec]
end Pw

namespace L2
open PySem PySem.Spec PyProof.Rows
theorem ifT {b:Bool} {A B:Prop} (e:b=true) (a:A):if b=true then A else B:=by rw [if_pos e];exact a
theorem ifF {b:Bool} {A B:Prop} (e:b=false) (h:B):if b=true then A else B:=by rw [e];exact iteF h
theorem if2 {b:Bool} {A B:Prop} (h1:b=true→A) (h2:b=false→B):if b=true then A else B:=by
 cases b with
 | true=>exact iteT (h1 rfl)
 | false=>exact iteF (h2 rfl)
theorem vne {i j:Int} (h:i≠j):(!decide (V.int i=V.int j))=true:=by
 rw [decide_eq_false (fun z=>h (V.int.inj z))];rfl
theorem veq {i j:Int} (h:i=j):(!decide (V.int i=V.int j))=false:=by
 rw [decide_eq_true (congrArg V.int h)];rfl
theorem sz_of {k:Int} (n:Nat) {m:Nat} (h:k.natAbs<2 ^ n) (l:n≤m:=by decide):Sz m k:=Sz.mono h l

noncomputable def Wt (Pv:Nat→List V→St→Hp→Prop) (n:Nat):Nat→Nat→List V→St→Hp→Prop:=fun i m ys σ H=>m=n - i∧i≤n∧Pv i ys σ H
theorem Wt.next {Pv:Nat→List V→St→Hp→Prop} {n i:Nat} {ys:List V} {σ:St} {H:Hp} (h:i<n) (p:Pv (i+1) ys σ H):∃ m',m'<n - i∧Wt Pv n (i+1) m' ys σ H:=⟨n - (i+1),by omega,rfl,h,p⟩
section
variable {K:PySem.W.Frag} {a D:Addr} {xs:List V} {g:TG} {tt:TT} {te:TE} {σ0:St} {H0:Hp} {Q:VK}
theorem comp_tup (Pv:Nat→List V→St→Hp→Prop) (h0:Pv 0 [] σ0 H0) (hl:∀ i ys σ H,Pv i ys σ H→SqT K H a xs∧H D=some (.lst ys))
 (hs:∀ i x ys σ H,xs[i]?=some x→i<xs.length→Pv i ys σ H→g x σ H fun σ3 H3=>tt σ3 H3 fun b H4=>if b=true then
  te σ3 H4 fun y H5=>H5 D=some (.lst ys)∧ys.length<sizeLine∧∃ m',m'<xs.length - i∧Wt Pv xs.length (i+1) m' (ys ++ [y]) σ3 (upd H5 D (.lst (ys ++ [y]))) else ∃ m',m'<xs.length - i∧Wt Pv xs.length (i+1) m' ys σ3 H4)
 (hd:∀ ys σ H,Pv xs.length ys σ H→Q (.ref D) H) :
 CompW (Itt K a) D g tt te Q σ0 H0:=by
 refine ⟨Wt Pv xs.length,⟨xs.length,rfl,Nat.zero_le _,h0⟩,?_⟩
 rintro i m ys σ' H' ⟨rfl,hi,p⟩
 obtain ⟨hq,hD⟩:=hl i ys σ' H' p
 refine ⟨hD,?_⟩
 by_cases hlt:i<xs.length
 · refine .inr ⟨⟨xs,xs[i],hq,by simp [hlt]⟩,fun x H2 y=>?_⟩
   obtain ⟨e,y⟩:=y
   subst e
   exact hs i x ys σ' _ (y xs hq) hlt p
 · have e:i=xs.length:=by omega
   subst e
   exact .inl ⟨⟨xs,hq,Nat.le_refl _⟩,hd ys σ' H' p⟩
theorem comp_lst (Pv:Nat→List V→St→Hp→Prop) (h0:Pv 0 [] σ0 H0) (hl:∀ i ys σ H,Pv i ys σ H→SqL K H a xs∧H D=some (.lst ys))
 (hs:∀ i x ys σ H,xs[i]?=some x→i<xs.length→Pv i ys σ H→g x σ H fun σ3 H3=>tt σ3 H3 fun b H4=>if b=true then
  te σ3 H4 fun y H5=>H5 D=some (.lst ys)∧ys.length<sizeLine∧∃ m',m'<xs.length - i∧Wt Pv xs.length (i+1) m' (ys ++ [y]) σ3 (upd H5 D (.lst (ys ++ [y]))) else ∃ m',m'<xs.length - i∧Wt Pv xs.length (i+1) m' ys σ3 H4)
 (hd:∀ ys σ H,Pv xs.length ys σ H→Q (.ref D) H) :
 CompW (Itl K a) D g tt te Q σ0 H0:=by
 refine ⟨Wt Pv xs.length,⟨xs.length,rfl,Nat.zero_le _,h0⟩,?_⟩
 rintro i m ys σ' H' ⟨rfl,hi,p⟩
 obtain ⟨hq,hD⟩:=hl i ys σ' H' p
 refine ⟨hD,?_⟩
 by_cases hlt:i<xs.length
 · refine .inr ⟨⟨xs,xs[i],hq,by simp [hlt]⟩,fun x H2 y=>?_⟩
   obtain ⟨e,y⟩:=y
   subst e
   exact hs i x ys σ' _ (y xs hq) hlt p
 · have e:i=xs.length:=by omega
   subst e
   exact .inl ⟨⟨xs,hq,Nat.le_refl _⟩,hd ys σ' H' p⟩
end

section
variable {X:Cx} {K:PySem.W.Frag}
theorem ix_listK (e:X.K=K):IxR X (rIxL K):=e ▸ ix_list
theorem ix_tupK (e:X.K=K):IxR X (rIxT K):=e ▸ ix_tup
theorem op_neDK {k:Nat} (e:X.K=K) (hr:Room k X.A):OpR X (compareOp .NotEq) (rEqD K true):=e ▸ op_neD hr
end

theorem dens_ints (K:PySem.W.Frag) (H:Hp):∀ ns:List Int,Dens K H (ns.map Dt.int) (ns.map V.int)
 | []=>by simp only [List.map_nil,Dens]
 | n :: ns=>by
   simp only [List.map_cons,Dens]
   exact ⟨_,_,rfl,by simp only [Den],dens_ints K H ns⟩
theorem eqDs_ints:∀ ns ms:List Int,eqDs (ns.map Dt.int) (ms.map Dt.int)=decide (ns=ms)
 | [],[]=>rfl
 | [],_ :: _=>rfl
 | _ :: _,[]=>rfl
 | n :: ns,m :: ms=>by
   simp only [List.map_cons,eqDs,eqD]
   rw [eqDs_ints ns ms]
   by_cases h:n=m
   · subst h;simp
   · simp [h]
theorem dens2 (K:PySem.W.Frag) (H:Hp) (x y:Int):Dens K H [Dt.int x,Dt.int y] [V.int x,V.int y]:=dens_ints K H [x,y]
theorem dep2 (x y:Int):depDs [Dt.int x,Dt.int y]≤20:=by simp only [depDs,depD];decide
theorem eqDs2 (x y z u:Int):eqDs [Dt.int x,Dt.int y] [Dt.int z,Dt.int u]=decide ((x,y)=(z,u)):=by
 rw [show ([Dt.int x,Dt.int y]:List Dt)=[x,y].map Dt.int from rfl,show ([Dt.int z,Dt.int u]:List Dt)=[z,u].map Dt.int from rfl,eqDs_ints]
 simp

noncomputable def Kp (p:Addr) (H H':Hp):Prop:=∀ b o,H b=some o→b≠p→H' b=some o
theorem Kp.refl (p:Addr) (H:Hp):Kp p H H:=fun _ _ h _=>h
theorem Kp.trans {p:Addr} {H H1 H2:Hp} (a:Kp p H H1) (b:Kp p H1 H2):Kp p H H2:=fun c o h n=>b c o (a c o h n) n
theorem Kp.new {p q:Addr} {H:Hp} {o:HO} (hq:H q=none):Kp p H (upd H q o):=fun b u h _=>by rw [upd_ne (ne_of_none h hq)];exact h
theorem Kp.set {p:Addr} {H:Hp} {o:HO}:Kp p H (upd H p o):=fun b u h n=>by rw [upd_ne n];exact h
theorem Kp.same {p:Addr} {H H1:Hp} (h:H p=none) (k:Kp p H H1):Same H H1:=fun b o e=>k b o e (ne_of_none e h)
theorem Same.kp {p:Addr} {H H1:Hp} (k:Same H H1):Kp p H H1:=fun b o e _=>k b o e
theorem Same.new {q:Addr} {H:Hp} {o:HO} (hq:H q=none):Same H (upd H q o):=fun b u h=>by rw [upd_ne (ne_of_none h hq)];exact h
theorem Same.seqT {K:PySem.W.Frag} {H H':Hp} {a:Addr} {xs:List V} (e:Same H H') (h:SqT K H a xs):SqT K H' a xs:=by
 rcases h with (h | ⟨o,h⟩) | h
 · exact .inl (.inl (e _ _ h))
 · exact .inl (.inr ⟨o,e _ _ h⟩)
 · exact .inr h
noncomputable def spCommon:Sp:=fun vs H Q _=>∃ x y:Int,vs=[.int x,.int y]∧0≤x∧0≤y∧Q (.int (Int.gcd x y:Int)) H
noncomputable def spMade:Sp:=fun vs H Q _=>∃ x y:Int,vs=[.int x,.int y]∧y≠0∧Sz 8000 x∧Sz 8000 y∧∀ p,H p=none→Q (.ref p) (upd H p (.tup [.int (Pw.mk x y).1,.int (Pw.mk x y).2]))
noncomputable def spLaw (K:PySem.W.Frag):Sp:=fun vs H Q _=>∃ (a:Addr) (ns:List Int),vs=[.ref a]∧SqL K H a (ns.map V.int)∧ns.length≤63∧∀ H',Q (.bl true) H'
end L2

namespace Pw
noncomputable def fplus (p q:Int×Int):Int×Int:=mk (p.1 * q.2+q.1 * p.2) (p.2 * q.2)
noncomputable def fless (p q:Int×Int):Int×Int:=mk (p.1 * q.2 - q.1 * p.2) (p.2 * q.2)
noncomputable def ftimes (p q:Int×Int):Int×Int:=mk (p.1 * q.1) (p.2 * q.2)
noncomputable def fby (p q:Int×Int):Int×Int:=mk (p.1 * q.2) (p.2 * q.1)
structure Fr (A:Int×Int) (n d:Int):Prop where
 canon:Canon A
 ne:d≠0
 w:A.1 * d=n * A.2
theorem Fr.pos {A:Int×Int} {n d:Int} (h:Fr A n d):A.2≠0:=by have:=h.canon.1;omega
theorem Fr.made {n d:Int} (h:d≠0):Fr (Pw.mk n d) n d:=⟨(mk_spec h).1,h,(mk_spec h).2⟩
theorem Fr.of {A:Int×Int} (h:Canon A):Fr A A.1 A.2:=⟨h,by have:=h.1;omega,rfl⟩
end Pw
namespace L2
open PySem PySem.Spec PyProof.Rows
section
variable {X:Cx}
end

noncomputable def tMid (t u:TS):TS:=fun D σ H=>∃ R:St→Hp→Prop,t { D with nx:=R } σ H∧∀ σ' H',R σ' H'→u D σ' H'
theorem pss_mid {X:Cx} {st:Stmt} {rest:List Stmt} {t u:TS} (h1:PS X st t) (h2:PSs X rest u):PSs X (st :: rest) (tMid t u):=by
 intro pins s σ H D I h
 obtain ⟨R,h,hR⟩:=h
 refine wpAny_execs_cons (thn (h1 pins s σ H { D with nx:=R } I h) fun f s1 q=>?_)
 cases f with
 | next =>
   obtain ⟨σ',H',I',q⟩:=q
   exact h2 pins s1 σ' H' D I' (hR σ' H' q)
 | ret v=>exact q
 | brk=>exact q
 | cont=>exact q

noncomputable def tTupS (t:TA):TE:=fun σ H Q=>t σ H fun xs H1=>xs.length≤sizeLine∧∀ (p:Addr) (H':Hp),Same H1 H'→H1 p=none→H' p=some (.tup xs)→Q (.ref p) H'
noncomputable def tLstS (t:TA):TE:=fun σ H Q=>t σ H fun xs H1=>xs.length≤sizeLine∧∀ (p:Addr) (H':Hp),Same H1 H'→H1 p=none→H' p=some (.lst xs)→Q (.ref p) H'
section
variable {X:Cx} {es:List Expr} {t:TA} {pos:Pos}
theorem pe_tupS {x1} (h:PA X es t):PE X (.Tuple es x1 pos) (tTupS t):=by
 intro pins s σ H Q I hq
 refine wpAny_Tuple_spliced (thn (h pos pins s σ H _ I hq) fun us s1 ⟨xs,H1,I1,r,z,q⟩=>⟨by rw [← r.length];exact z,?_⟩)
 have hf:H1 s1.heap.objs.size=none:=I1.hok.fresh (Nat.le_refl _)
 refine ⟨.ref s1.heap.objs.size,upd H1 s1.heap.objs.size (.tup xs),I1.laid (t':=s1.toks) (fun b u e=>Heap.get?_push_of_some _ e) (Nat.le_refl _) ?_,rfl,q _ _ (Same.new hf) hf upd_same⟩
 exact ⟨z,us,r,⟨_,Heap.get?_push_size _ rfl,rfl,_,rfl⟩⟩
theorem pe_lstS (h:PA X es t):PE X (.List es pos) (tLstS t):=by
 intro pins s σ H Q I hq
 refine wpAny_List_spliced (thn (h pos pins s σ H _ I hq) fun us s1 ⟨xs,H1,I1,r,z,q⟩=>⟨by rw [← r.length];exact z,?_⟩)
 have hf:H1 s1.heap.objs.size=none:=I1.hok.fresh (Nat.le_refl _)
 refine ⟨.ref s1.heap.objs.size,upd H1 s1.heap.objs.size (.lst xs),I1.laid (t':=s1.toks) (fun b u e=>Heap.get?_push_of_some _ e) (Nat.le_refl _) ?_,rfl,q _ _ (Same.new hf) hf upd_same⟩
 exact ⟨z,us,0,r,Heap.get?_push_size _ rfl⟩
end
noncomputable def Sz2 (n:Nat) (A:Int×Int):Prop:=Sz n A.1∧Sz n A.2
theorem Sz2.mono {n m:Nat} {A:Int×Int} (h:Sz2 n A) (l:n≤m):Sz2 m A:=⟨h.1.mono l,h.2.mono l⟩
theorem mk_sz {n:Nat} {x y:Int} (hy:y≠0) (sx:Sz n x) (sy:Sz n y):Sz2 n (Pw.mk x y) :=
 ⟨Nat.lt_of_le_of_lt (Pw.mk_le hy).1 sx,Nat.lt_of_le_of_lt (Pw.mk_le hy).2 sy⟩
theorem fplus_sz {n m:Nat} {A B:Int×Int} (a:Sz2 n A) (b:Sz2 m B) (ha:A.2≠0) (hb:B.2≠0):Sz2 (n+m+1) (Pw.fplus A B) :=
 mk_sz (Int.mul_ne_zero ha hb) ((a.1.mul b.2).add ((b.1.mul a.2).mono (by omega))) ((a.2.mul b.2).mono (by omega))
noncomputable abbrev FrA (_:PySem.W.Frag) (H:Hp) (p:Addr) (A:Int×Int):Prop:=H p=some (.tup [.int A.1,.int A.2])
noncomputable def spLess (K:PySem.W.Frag):Sp:=fun vs H Q _=>∃ (p q:Addr) (A B:Int×Int),vs=[.ref p,.ref q]∧FrA K H p A∧FrA K H q B∧Sz2 3000 A∧Sz2 3000 B∧Q (.bl (decide (A.1 * B.2<B.1 * A.2))) H
theorem neF {K:PySem.W.Frag} {H:Hp} {p q:Addr} {A B:Int×Int} {Q:VK} (h1:FrA K H p A) (h2:FrA K H q B) (k:Q (.bl (!decide (A=B))) H):rEqD K true (.ref p) (.ref q) H Q :=
 ⟨p,q,_,_,_,_,rfl,rfl,.inl ⟨SqT.of h1,SqT.of h2⟩,dens2 _ _ _ _,dens2 _ _ _ _,dep2 _ _,by rw [if_pos rfl,eqDs2];exact k⟩
theorem eqF {K:PySem.W.Frag} {H:Hp} {p q:Addr} {A B:Int×Int} {Q:VK} (h1:FrA K H p A) (h2:FrA K H q B) (k:Q (.bl (decide (A=B))) H):rEqD K false (.ref p) (.ref q) H Q :=
 ⟨p,q,_,_,_,_,rfl,rfl,.inl ⟨SqT.of h1,SqT.of h2⟩,dens2 _ _ _ _,dens2 _ _ _ _,dep2 _ _,by rw [if_neg Bool.false_ne_true,eqDs2];exact k⟩
end L2

namespace Srt
open PySem PySem.W PyProof.Rows
noncomputable def run {α:Type} (lt:Nat→Nat→Bool):KasT α→α
 | .ret a=>a
 | .ask i j k=>run lt (k (lt i j))
theorem run_bind {α β:Type} (lt:Nat→Nat→Bool) (f:α→KasT β):∀ t:KasT α,run lt (t.bind f)=run lt (f (run lt t))
 | .ret _=>rfl
 | .ask i j k=>by
   show run lt ((k (lt i j)).bind f)=_
   rw [run_bind lt f (k (lt i j))]
   rfl
noncomputable def e (p:Array Nat) (k:Nat):Nat:=p.getD k 0
theorem e_of {p q:Array Nat} {i k:Nat} (h:p[i]?=q[k]?):e p i=e q k:=by
 have h1:p.getD i 0=(p[i]?).getD 0:=by simp [Array.getD_eq_getD_getElem?]
 have h2:q.getD k 0=(q[k]?).getD 0:=by simp [Array.getD_eq_getD_getElem?]
 show p.getD i 0=q.getD k 0
 rw [h1,h2,h]
theorem e_rev_in {p:Array Nat} {i j k:Nat} (hj:j≤p.size) (h1:i≤k) (h2:k<j):e (kas_rev p i j) k=e p (i+j - 1 - k):=by
 unfold kas_rev
 refine e_of ?_
 rw [getElem?_mirror hj ((j - i) / 2) (by omega) k]
 split
 · rfl
 · rename_i h
   have:i+j - 1 - k=k:=by omega
   rw [this]
theorem e_rev_out {p:Array Nat} {i j k:Nat} (hj:j≤p.size) (h:k<i∨j≤k):e (kas_rev p i j) k=e p k:=by
 unfold kas_rev
 refine e_of ?_
 rw [getElem?_mirror hj ((j - i) / 2) (by omega) k]
 split
 · omega
 · rfl
theorem e_bub {p:Array Nat} {k l i:Nat} (hk:k<p.size) (hl:l≤k):e (bubble p k (k - l)) i=if i=l then e p k else if l<i∧i≤k then e p (i - 1) else e p i:=by
 have h:=getElem?_bubble hk (k - l) (by omega) i
 have h3:k - (k - l)=l:=by omega
 rw [h3] at h
 split
 · rename_i hi
   rw [if_pos hi] at h
   exact e_of h
 · rename_i hi
   rw [if_neg hi] at h
   split
   · rename_i h2
     rw [if_pos h2] at h
     exact e_of h
   · rename_i h2
     rw [if_neg h2] at h
     exact e_of h
theorem rev_size (p:Array Nat) (i j:Nat):(kas_rev p i j).size=p.size:=mirror_size _ _ _ _
theorem rev_perm (p:Array Nat) (i j:Nat):(kas_rev p i j).Perm p:=mirror_perm _ _ _ _
structure Ord (lt:Nat→Nat→Bool):Prop where
 asym:∀ i j,lt i j=true→lt j i=false
 trans:∀ i j k,lt j i=false→lt k j=false→lt k i=false
section
variable {lt:Nat→Nat→Bool} (O:Ord lt)
noncomputable def Up (lt:Nat→Nat→Bool) (p:Array Nat) (b:Nat):Prop:=∀ k,1≤k→k<b→lt (e p k) (e p (k - 1))=false
noncomputable def Down (lt:Nat→Nat→Bool) (p:Array Nat) (b:Nat):Prop:=∀ k,1≤k→k<b→lt (e p (k - 1)) (e p k)=false
noncomputable def Alike (lt:Nat→Nat→Bool) (p:Array Nat) (a b:Nat):Prop:=∀ i j,a≤i→i<b→a≤j→j<b→lt (e p i) (e p j)=false
include O
theorem irr (i:Nat):lt i i=false:=by
 cases h:lt i i with
 | false=>rfl
 | true=>rw [O.asym i i h] at h;cases h
theorem Up.pair {p:Array Nat} {b:Nat} (h:Up lt p b):∀ d i,i+d<b→lt (e p (i+d)) (e p i)=false
 | 0,i,_=>irr O _
 | d+1,i,hb=>O.trans _ _ _ (Up.pair h d i (by omega)) (by
     have:=h (i+(d+1)) (by omega) hb
     rw [show i+(d+1) - 1=i+d by omega] at this
     exact this)
theorem Up.le {p:Array Nat} {b i j:Nat} (h:Up lt p b) (hij:i≤j) (hj:j<b):lt (e p j) (e p i)=false:=by
 have:=Up.pair O h (j - i) i (by omega)
 rw [show i+(j - i)=j by omega] at this
 exact this
theorem asc_ok {p:Array Nat}:∀ (f n:Nat),1≤n→Up lt p n→n≤run lt (kas_asc p f n)∧run lt (kas_asc p f n)≤n+f∧Up lt p (run lt (kas_asc p f n))∧(run lt (kas_asc p f n)<n+f→lt (e p (run lt (kas_asc p f n))) (e p (run lt (kas_asc p f n) - 1))=true)
 | 0,n,h1,h=>⟨Nat.le_refl _,Nat.le_refl _,h,fun z=>absurd z (Nat.lt_irrefl _)⟩
 | f+1,n,h1,h=>by
   have er:run lt (kas_asc p (f+1) n)=run lt (if lt (e p n) (e p (n - 1))=true then KasT.ret n else kas_asc p f (n+1)):=rfl
   cases c:lt (e p n) (e p (n - 1)) with
   | true =>
     rw [er,c,if_pos rfl]
     exact ⟨Nat.le_refl _,Nat.le_add_right _ _,h,fun _=>c⟩
   | false =>
     rw [er,c,if_neg Bool.false_ne_true]
     obtain ⟨a1,a2,a3,a4⟩:=asc_ok (p:=p) f (n+1) (by omega) (fun k k1 k2=>by
      by_cases hk:k<n
      · exact h k k1 hk
      · have:k=n:=by omega
        subst this;exact c)
     exact ⟨by omega,by omega,a3,fun z=>a4 (by omega)⟩
theorem Down.rev {p:Array Nat} {a b n:Nat} (hn:n≤p.size) (hb:b≤n) (h:Down lt p n) (al:Alike lt p a b):Down lt (kas_rev p a b) n:=by
 intro k k1 k2
 have hj:b≤p.size:=Nat.le_trans hb hn
 by_cases i1:a≤k∧k<b
 · by_cases i0:a≤k - 1∧k - 1<b
   · rw [e_rev_in hj i1.1 i1.2,e_rev_in hj i0.1 i0.2]
     exact al _ _ (by omega) (by omega) (by omega) (by omega)
   · rw [e_rev_in (k:=k) hj i1.1 i1.2,e_rev_out (k:=k - 1) hj (by omega)]
     have ek:k=a:=by omega
     have h1:=h k k1 k2
     have h2:=al (a+b - 1 - k) k (by omega) (by omega) i1.1 i1.2
     have h3:=al k (a+b - 1 - k) i1.1 i1.2 (by omega) (by omega)
     exact O.trans _ _ _ h3 h1
 · by_cases i0:a≤k - 1∧k - 1<b
   · rw [e_rev_out (k:=k) hj (by omega),e_rev_in (k:=k - 1) hj i0.1 i0.2]
     have h1:=h k k1 k2
     have h2:=al (a+b - 1 - (k - 1)) (k - 1) (by omega) (by omega) i0.1 i0.2
     exact O.trans _ _ _ h1 h2
   · rw [e_rev_out (k:=k) hj (by omega),e_rev_out (k:=k - 1) hj (by omega)]
     exact h k k1 k2
theorem desc_ok:∀ (f:Nat) (p:Array Nat) (n q:Nat),n+f≤p.size→q+1≤n→Down lt p n→Alike lt p (n - (q+1)) n →
 (run lt (kas_desc f p n q)).1.size=p.size∧(run lt (kas_desc f p n q)).1.Perm p∧n≤(run lt (kas_desc f p n q)).2.1∧(run lt (kas_desc f p n q)).2.1≤n+f∧(run lt (kas_desc f p n q)).2.2+1≤(run lt (kas_desc f p n q)).2.1 ∧
 Down lt (run lt (kas_desc f p n q)).1 (run lt (kas_desc f p n q)).2.1∧Alike lt (run lt (kas_desc f p n q)).1 ((run lt (kas_desc f p n q)).2.1 - ((run lt (kas_desc f p n q)).2.2+1)) (run lt (kas_desc f p n q)).2.1
 | 0,p,n,q,hz,hq,hd,ha=>⟨rfl,Array.Perm.refl _,Nat.le_refl _,Nat.le_refl _,hq,hd,ha⟩
 | f+1,p,n,q,hz,hq,hd,ha=>by
   have er:run lt (kas_desc (f+1) p n q)=run lt (if lt (e p n) (e p (n - 1))=true then (if q > 0 then kas_desc f (kas_rev p (n - (q+1)) n) (n+1) 0 else kas_desc f p (n+1) 0)
    else .ask (e p (n - 1)) (e p n) fun d=>if d=true then .ret (p,n,q) else kas_desc f p (n+1) (q+1)):=rfl
   have one:∀ (p':Array Nat),Alike lt p' (n+1 - (0+1)) (n+1):=fun p' i j i1 i2 j1 j2=>by
    have e1:i=n:=by omega
    have e2:j=n:=by omega
    subst e1 e2;exact irr O _
   cases c:lt (e p n) (e p (n - 1)) with
   | true =>
     rw [er,c,if_pos rfl]
     by_cases q0:q > 0
     · rw [if_pos q0]
       have hs:=rev_size p (n - (q+1)) n
       have d1:Down lt (kas_rev p (n - (q+1)) n) n:=Down.rev O (by omega) (Nat.le_refl _) hd ha
       have d2:Down lt (kas_rev p (n - (q+1)) n) (n+1):=fun k k1 k2=>by
        by_cases hk:k<n
        · exact d1 k k1 hk
        · have ek:k=n:=by omega
          subst ek
          rw [e_rev_out (k:=k) (by omega) (Or.inr (Nat.le_refl _)),e_rev_in (k:=k - 1) (by omega) (by omega) (by omega)]
          have h1:=ha (k - 1) (k - (q+1)+k - 1 - (k - 1)) (by omega) (by omega) (by omega) (by omega)
          have h2:=ha (k - (q+1)+k - 1 - (k - 1)) (k - 1) (by omega) (by omega) (by omega) (by omega)
          exact O.trans _ _ _ (O.asym _ _ c) h2
       obtain ⟨a1,a2,a3,a4,a5,a6,a7⟩:=desc_ok f (kas_rev p (n - (q+1)) n) (n+1) 0 (by omega) (by omega) d2 (one _)
       exact ⟨a1.trans hs,a2.trans (rev_perm ..),by omega,by omega,a5,a6,a7⟩
     · rw [if_neg q0]
       have d2:Down lt p (n+1):=fun k k1 k2=>by
        by_cases hk:k<n
        · exact hd k k1 hk
        · have ek:k=n:=by omega
          subst ek
          exact O.asym _ _ c
       obtain ⟨a1,a2,a3,a4,a5,a6,a7⟩:=desc_ok f p (n+1) 0 (by omega) (by omega) d2 (one _)
       exact ⟨a1,a2,by omega,by omega,a5,a6,a7⟩
   | false =>
     rw [er,c,if_neg Bool.false_ne_true]
     have er2:run lt (KasT.ask (e p (n - 1)) (e p n) fun d=>if d=true then KasT.ret (p,n,q) else kas_desc f p (n+1) (q+1))=run lt (if lt (e p (n - 1)) (e p n)=true then KasT.ret (p,n,q) else kas_desc f p (n+1) (q+1)):=rfl
     rw [er2]
     cases c2:lt (e p (n - 1)) (e p n) with
     | true =>
       rw [if_pos rfl]
       exact ⟨rfl,Array.Perm.refl _,Nat.le_refl _,Nat.le_add_right _ _,hq,hd,ha⟩
     | false =>
       rw [if_neg Bool.false_ne_true]
       have d2:Down lt p (n+1):=fun k k1 k2=>by
        by_cases hk:k<n
        · exact hd k k1 hk
        · have ek:k=n:=by omega
          subst ek
          exact c2
       have al2:Alike lt p (n+1 - (q+1+1)) (n+1):=fun i j i1 i2 j1 j2=>by
        by_cases hi:i<n
        · by_cases hj:j<n
          · exact ha i j (by omega) hi (by omega) hj
          · have ej:j=n:=by omega
            subst ej
            exact O.trans _ _ _ c2 (ha i (j - 1) (by omega) hi (by omega) (by omega))
        · have ei:i=n:=by omega
          subst ei
          by_cases hj:j<i
          · exact O.trans _ _ _ (ha (i - 1) j (by omega) (by omega) (by omega) hj) c
          · have ej:j=i:=by omega
            subst ej;exact irr O _
       obtain ⟨a1,a2,a3,a4,a5,a6,a7⟩:=desc_ok f p (n+1) (q+1) (by omega) (by omega) d2 al2
       exact ⟨a1,a2,by omega,by omega,a5,a6,a7⟩
theorem Down.up {p:Array Nat} {n:Nat} (hn:n≤p.size) (h:Down lt p n):Up lt (kas_rev p 0 n) n:=fun k k1 k2=>by
 rw [e_rev_in (k:=k) hn (Nat.zero_le _) k2,e_rev_in (k:=k - 1) hn (Nat.zero_le _) (by omega)]
 have:=h (0+n - 1 - (k - 1)) (by omega) (by omega)
 rw [show 0+n - 1 - (k - 1) - 1=0+n - 1 - k by omega] at this
 exact this
theorem tail3_ok {p:Array Nat} {n nrem:Nat} (h1:1≤n) (hn:n≤nrem) (hz:nrem≤p.size) (h:Down lt p n) :
 (run lt (kas_tail3 n nrem p)).2.size=p.size∧(run lt (kas_tail3 n nrem p)).2.Perm p∧1≤(run lt (kas_tail3 n nrem p)).1∧(run lt (kas_tail3 n nrem p)).1≤nrem∧Up lt (run lt (kas_tail3 n nrem p)).2 (run lt (kas_tail3 n nrem p)).1:=by
 have er:run lt (kas_tail3 n nrem p)=(run lt (kas_asc (kas_rev p 0 n) (nrem - n) n),kas_rev p 0 n):=by
  unfold kas_tail3
  rw [run_bind];rfl
 rw [er]
 obtain ⟨a1,a2,a3,_⟩:=asc_ok O (p:=kas_rev p 0 n) (nrem - n) n h1 (Down.up O (by omega) h)
 exact ⟨rev_size ..,rev_perm ..,by show 1≤run lt _;omega,by show run lt _≤nrem;omega,a3⟩
theorem descPart_ok {p:Array Nat} {n nrem:Nat} (h1:1≤n) (hn:n+1≤nrem) (hz:nrem≤p.size) (h:Down lt p (n+1)) :
 (run lt (kas_descPart n nrem p)).2.size=p.size∧(run lt (kas_descPart n nrem p)).2.Perm p∧1≤(run lt (kas_descPart n nrem p)).1∧(run lt (kas_descPart n nrem p)).1≤nrem∧Up lt (run lt (kas_descPart n nrem p)).2 (run lt (kas_descPart n nrem p)).1:=by
 have one:Alike lt p (n+1 - (0+1)) (n+1):=fun i j i1 i2 j1 j2=>by
  have e1:i=n:=by omega
  have e2:j=n:=by omega
  subst e1 e2;exact irr O _
 obtain ⟨a1,a2,a3,a4,a5,a6,a7⟩:=desc_ok O (nrem - (n+1)) p (n+1) 0 (by omega) (by omega) h one
 have er:run lt (kas_descPart n nrem p)=run lt (if (run lt (kas_desc (nrem - (n+1)) p (n+1) 0)).2.2 > 0 then kas_tail3 (run lt (kas_desc (nrem - (n+1)) p (n+1) 0)).2.1 nrem (kas_rev (run lt (kas_desc (nrem - (n+1)) p (n+1) 0)).1 ((run lt (kas_desc (nrem - (n+1)) p (n+1) 0)).2.1 - ((run lt (kas_desc (nrem - (n+1)) p (n+1) 0)).2.2+1)) (run lt (kas_desc (nrem - (n+1)) p (n+1) 0)).2.1)
  else kas_tail3 (run lt (kas_desc (nrem - (n+1)) p (n+1) 0)).2.1 nrem (run lt (kas_desc (nrem - (n+1)) p (n+1) 0)).1):=by
  unfold kas_descPart
  rw [run_bind]
 rw [er]
 generalize run lt (kas_desc (nrem - (n+1)) p (n+1) 0)=r at *
 split
 · have hs:=rev_size r.1 (r.2.1 - (r.2.2+1)) r.2.1
   obtain ⟨b1,b2,b3,b4,b5⟩:=tail3_ok O (p:=kas_rev r.1 (r.2.1 - (r.2.2+1)) r.2.1) (n:=r.2.1) (nrem:=nrem) (by omega) (by omega) (by rw [hs,a1];exact hz) (Down.rev O (by omega) (Nat.le_refl _) a6 a7)
   exact ⟨b1.trans (hs.trans a1),b2.trans ((rev_perm ..).trans a2),b3,b4,b5⟩
 · obtain ⟨b1,b2,b3,b4,b5⟩:=tail3_ok O (p:=r.1) (n:=r.2.1) (nrem:=nrem) (by omega) (by omega) (by rw [a1];exact hz) a6
   exact ⟨b1.trans a1,b2.trans a2,b3,b4,b5⟩
theorem count_ok {p:Array Nat} {nrem:Nat} (h2:1≤nrem) (hz:nrem≤p.size) :
 (run lt (kas_count nrem p)).2.size=p.size∧(run lt (kas_count nrem p)).2.Perm p∧1≤(run lt (kas_count nrem p)).1∧(run lt (kas_count nrem p)).1≤nrem∧Up lt (run lt (kas_count nrem p)).2 (run lt (kas_count nrem p)).1:=by
 obtain ⟨a1,a2,a3,a4⟩:=asc_ok O (p:=p) (nrem - 1) 1 (Nat.le_refl _) (fun k k1 k2=>by omega)
 have er:run lt (kas_count nrem p)=run lt (if (run lt (kas_asc p (nrem - 1) 1) == nrem)=true then KasT.ret (run lt (kas_asc p (nrem - 1) 1),p) else if run lt (kas_asc p (nrem - 1) 1) > 1 then
  .ask (e p 0) (e p (run lt (kas_asc p (nrem - 1) 1) - 1)) fun c=>if c=true then .ret (run lt (kas_asc p (nrem - 1) 1),p) else kas_descPart (run lt (kas_asc p (nrem - 1) 1)) nrem (kas_rev p 0 (run lt (kas_asc p (nrem - 1) 1)))
  else kas_descPart (run lt (kas_asc p (nrem - 1) 1)) nrem p):=by
  unfold kas_count
  rw [run_bind]
  rfl
 rw [er]
 generalize run lt (kas_asc p (nrem - 1) 1)=n at *
 split
 · exact ⟨rfl,Array.Perm.refl _,a1,by show n≤nrem;omega,a3⟩
 · rename_i hne
   have hne':n≠nrem:=fun z=>hne (by simp [z])
   have hlt:=a4 (by omega)
   split
   · rename_i hn1
     have er2:run lt (KasT.ask (e p 0) (e p (n - 1)) fun c=>if c=true then KasT.ret (n,p) else kas_descPart n nrem (kas_rev p 0 n))=run lt (if lt (e p 0) (e p (n - 1))=true then KasT.ret (n,p) else kas_descPart n nrem (kas_rev p 0 n)):=rfl
     rw [er2]
     cases c:lt (e p 0) (e p (n - 1)) with
     | true =>
       rw [if_pos rfl]
       exact ⟨rfl,Array.Perm.refl _,a1,by show n≤nrem;omega,a3⟩
     | false =>
       rw [if_neg Bool.false_ne_true]
       have al:Alike lt p 0 n:=fun i j _ i2 _ j2=>by
        have h1:=Up.le O a3 (Nat.zero_le j) j2
        have h2:=Up.le O a3 (show i≤n - 1 by omega) (by omega)
        have h3:=Up.le O a3 (show j≤n - 1 by omega) (by omega)
        have h4:=Up.le O a3 (Nat.zero_le i) i2
        exact O.trans _ _ _ (O.trans _ _ _ h3 c) h4
       have hs:=rev_size p 0 n
       have dn:Down lt p n:=fun k k1 k2=>al _ _ (Nat.zero_le _) (by omega) (Nat.zero_le _) k2
       have d1:Down lt (kas_rev p 0 n) (n+1):=fun k k1 k2=>by
        by_cases hk:k<n
        · exact Down.rev O (by omega) (Nat.le_refl _) dn al k k1 hk
        · have ek:k=n:=by omega
          subst ek
          rw [e_rev_out (k:=k) (by omega) (Or.inr (Nat.le_refl _)),e_rev_in (k:=k - 1) (by omega) (Nat.zero_le _) (by omega)]
          have h1:=al (0+k - 1 - (k - 1)) (k - 1) (Nat.zero_le _) (by omega) (Nat.zero_le _) (by omega)
          exact O.trans _ _ _ (O.asym _ _ hlt) h1
       obtain ⟨b1,b2,b3,b4,b5⟩:=descPart_ok O (p:=kas_rev p 0 n) (n:=n) (nrem:=nrem) a1 (by omega) (by rw [hs];exact hz) d1
       exact ⟨b1.trans hs,b2.trans (rev_perm ..),b3,b4,b5⟩
   · have en:n=1:=by omega
     subst en
     have d1:Down lt p 2:=fun k k1 k2=>by
      have ek:k=1:=by omega
      subst ek
      exact O.asym _ _ hlt
     exact descPart_ok O (p:=p) (n:=1) (nrem:=nrem) (Nat.le_refl _) (by omega) hz d1
theorem place_ok {p:Array Nat} {k:Nat} (h:Up lt p k):∀ (f l r:Nat),r≤l+f→l≤r→r≤k→(∀ i,i<l→lt (e p k) (e p i)=false)→(∀ i,r≤i→i<k→lt (e p k) (e p i)=true) →
 run lt (kas_place p k f l r)≤k∧(∀ i,i<run lt (kas_place p k f l r)→lt (e p k) (e p i)=false)∧(∀ i,run lt (kas_place p k f l r)≤i→i<k→lt (e p k) (e p i)=true)
 | 0,l,r,h1,h2,h3,h4,h5=>by
   have:r=l:=by omega
   subst this
   exact ⟨h3,h4,h5⟩
 | f+1,l,r,h1,h2,h3,h4,h5=>by
   have er:run lt (kas_place p k (f+1) l r)=run lt (if l ≥ r then KasT.ret l else KasT.ask (e p k) (e p ((l+r) / 2)) fun c=>if c=true then kas_place p k f l ((l+r) / 2) else kas_place p k f ((l+r) / 2+1) r):=rfl
   rw [er]
   by_cases hlr:l ≥ r
   · rw [if_pos hlr]
     have:r=l:=by omega
     subst this
     exact ⟨h3,h4,h5⟩
   · rw [if_neg hlr]
     have er2:run lt (KasT.ask (e p k) (e p ((l+r) / 2)) fun c=>if c=true then kas_place p k f l ((l+r) / 2) else kas_place p k f ((l+r) / 2+1) r)=run lt (if lt (e p k) (e p ((l+r) / 2))=true then kas_place p k f l ((l+r) / 2) else kas_place p k f ((l+r) / 2+1) r):=rfl
     rw [er2]
     cases c:lt (e p k) (e p ((l+r) / 2)) with
     | true =>
       rw [if_pos rfl]
       refine place_ok h f l ((l+r) / 2) (by omega) (by omega) (by omega) h4 fun i i1 i2=>?_
       cases d:lt (e p k) (e p i) with
       | true=>rfl
       | false =>
         have:=O.trans _ _ _ (Up.le O h i1 i2) d
         rw [c] at this
         cases this
     | false =>
       rw [if_neg Bool.false_ne_true]
       refine place_ok h f ((l+r) / 2+1) r (by omega) (by omega) h3 (fun i i1=>?_) h5
       exact O.trans _ _ _ (Up.le O h (show i≤(l+r) / 2 by omega) (by omega)) c
theorem bin_ok:∀ (f:Nat) (p:Array Nat) (k:Nat),k+f≤p.size→1≤k→Up lt p k→(run lt (kas_bin f p k)).Perm p∧Up lt (run lt (kas_bin f p k)) (k+f)
 | 0,p,k,_,_,h=>⟨Array.Perm.refl _,h⟩
 | f+1,p,k,hz,h1,h=>by
   have er:run lt (kas_bin (f+1) p k)=run lt (kas_bin f (bubble p k (k - run lt (kas_place p k k 0 k))) (k+1)):=by
    show run lt ((kas_place p k k 0 k).bind fun l=>kas_bin f (bubble p k (k - l)) (k+1))=_
    rw [run_bind]
   rw [er]
   obtain ⟨a1,a2,a3⟩:=place_ok O h k 0 k (by omega) (Nat.zero_le _) (Nat.le_refl _) (fun i hi=>absurd hi (Nat.not_lt_zero _)) (fun i h1 h2=>by omega)
   generalize run lt (kas_place p k k 0 k)=l at *
   have hk:k<p.size:=by omega
   have up:Up lt (bubble p k (k - l)) (k+1):=fun j j1 j2=>by
    rw [e_bub hk a1,e_bub hk a1]
    by_cases c1:j=l
    · rw [if_pos c1,if_neg (by omega),if_neg (by omega)]
      exact a2 _ (by omega)
    · rw [if_neg c1]
      by_cases c2:j - 1=l
      · rw [if_pos c2,if_pos (by omega)]
        exact O.asym _ _ (a3 _ (by omega) (by omega))
      · rw [if_neg c2]
        by_cases c3:l<j - 1∧j - 1≤k
        · rw [if_pos c3,if_pos (by omega)]
          exact h (j - 1) (by omega) (by omega)
        · rw [if_neg c3,if_neg (by omega)]
          exact h j j1 (by omega)
   obtain ⟨b1,b2⟩:=bin_ok f (bubble p k (k - l)) (k+1) (by rw [bubble_size];omega) (by omega) up
   refine ⟨b1.trans (bubble_perm ..),?_⟩
   rw [show k+(f+1)=k+1+f by omega]
   exact b2
theorem sort_ok {n:Nat} (hn:1≤n):(run lt (kas_sort n)).toList.Perm (List.range n)∧Up lt (run lt (kas_sort n)) n:=by
 have hz:n≤(List.toArray (List.range n)).size:=by simp
 obtain ⟨a1,a2,a3,a4,a5⟩:=count_ok O (p:=List.toArray (List.range n)) hn hz
 have er:run lt (kas_sort n)=run lt (if (run lt (kas_count n (List.toArray (List.range n)))).1<n then kas_bin (n - max (run lt (kas_count n (List.toArray (List.range n)))).1 1) (run lt (kas_count n (List.toArray (List.range n)))).2 (max (run lt (kas_count n (List.toArray (List.range n)))).1 1) else .ret (run lt (kas_count n (List.toArray (List.range n)))).2):=by
  unfold kas_sort
  rw [run_bind]
 rw [er]
 generalize run lt (kas_count n (List.toArray (List.range n)))=r at *
 have hm:max r.1 1=r.1:=by omega
 rw [hm]
 have hsz:r.2.size=n:=by rw [a1];simp
 split
 · obtain ⟨b1,b2⟩:=bin_ok O (n - r.1) r.2 r.1 (by omega) a3 a5
   refine ⟨(b1.trans a2).toList,?_⟩
   rw [show r.1+(n - r.1)=n by omega] at b2
   exact b2
 · have e1:r.1=n:=by omega
   refine ⟨a2.toList,?_⟩
   rw [e1] at a5
   exact a5
end
end Srt

namespace Srt
open PySem PySem.W PyProof.Rows
noncomputable def Asks {α:Type} (n:Nat):KasT α→(α→Prop)→Prop
 | .ret a,Q=>Q a
 | .ask i j k,Q=>i<n∧j<n∧∀ b,Asks n (k b) Q
theorem Asks.bind {α β:Type} {n:Nat} {f:α→KasT β} {Q:β→Prop}:∀ {t:KasT α},Asks n t (fun a=>Asks n (f a) Q)→Asks n (t.bind f) Q
 | .ret _,h=>h
 | .ask _ _ _,h=>⟨h.1,h.2.1,fun b=>Asks.bind (h.2.2 b)⟩
theorem run_wp' {α:Type} {n:Nat} (lt:Nat→Nat→Bool) {cmp:Nat→Nat→(Bool→Shared→Prop)→Shared→Prop} {P:Shared→Prop} (h:∀ i j (C:Bool→Shared→Prop) s,i<n→j<n→P s→(∀ s',P s'→C (lt i j) s')→cmp i j C s)
 {Q:α→Shared→Prop} {T:α→Prop}:∀ (t:KasT α) (s:Shared),Asks n t T→P s→(∀ s',P s'→Q (run lt t) s')→t.kasWp cmp Q s
 | .ret a,s,_,p,q=>q s p
 | .ask i j k,s,a,p,q=>h i j _ s a.1 a.2.1 p fun s' p'=>run_wp' lt h (k (lt i j)) s' (a.2.2 _) p' q
noncomputable def AllLt (n:Nat) (p:Array Nat):Prop:=∀ k,p.getD k 0<n
theorem AllLt.perm {n:Nat} {p q:Array Nat} (hn:0<n) (h:AllLt n p) (pm:q.Perm p):AllLt n q:=fun k=>by
 by_cases hk:k<q.size
 · have e1:q.getD k 0=q[k]:=by simp [Array.getD,hk]
   rw [e1]
   have hm:q[k]∈q:=Array.getElem_mem hk
   have hm2:q[k]∈p:=by
    have:=pm.toList.mem_iff (a:=q[k])
    simpa using this.mp (by simpa using hm)
   obtain ⟨j,hj,e2⟩:=Array.mem_iff_getElem.mp hm2
   have:=h j
   have e3:p.getD j 0=p[j]:=by simp [Array.getD,hj]
   rw [e3,e2] at this
   exact this
 · have e1:q.getD k 0=0:=by simp [Array.getD,hk]
   rw [e1];exact hn
section
variable {n:Nat} (hn:0<n)
include hn
theorem asc_asks {p:Array Nat} (h:AllLt n p):∀ f m,Asks n (kas_asc p f m) (fun _=>True)
 | 0,_=>trivial
 | f+1,m=>⟨h _,h _,fun b=>by
     cases b with
     | true=>exact trivial
     | false=>exact asc_asks h f (m+1)⟩
theorem desc_asks:∀ (f:Nat) (p:Array Nat) (m q:Nat),AllLt n p→Asks n (kas_desc f p m q) (fun r=>AllLt n r.1)
 | 0,p,_,_,h=>h
 | f+1,p,m,q,h=>⟨h _,h _,fun b=>by
     cases b with
     | true =>
       show Asks n (if true=true then (if q > 0 then kas_desc f (kas_rev p (m - (q+1)) m) (m+1) 0 else kas_desc f p (m+1) 0) else _) _
       rw [if_pos rfl]
       split
       · exact desc_asks f _ _ _ (h.perm hn (rev_perm ..))
       · exact desc_asks f _ _ _ h
     | false =>
       show Asks n (if false=true then _ else KasT.ask (p.getD (m - 1) 0) (p.getD m 0) fun d=>if d=true then KasT.ret (p,m,q) else kas_desc f p (m+1) (q+1)) _
       rw [if_neg Bool.false_ne_true]
       refine ⟨h _,h _,fun d=>?_⟩
       cases d with
       | true=>exact h
       | false=>exact desc_asks f _ _ _ h⟩
theorem Asks.mono {α:Type} {Q Q':α→Prop} (hq:∀ a,Q a→Q' a):∀ {t:KasT α},Asks n t Q→Asks n t Q'
 | .ret a,h=>hq a h
 | .ask _ _ _,h=>⟨h.1,h.2.1,fun b=>Asks.mono hq (h.2.2 b)⟩
theorem tail3_asks {p:Array Nat} (h:AllLt n p) (m r:Nat):Asks n (kas_tail3 m r p) (fun x=>AllLt n x.2):=by
 have h':=h.perm hn (rev_perm p 0 m)
 exact Asks.bind (Asks.mono hn (fun _ _=>h') (asc_asks hn h' _ _))
theorem descPart_asks {p:Array Nat} (h:AllLt n p) (m r:Nat):Asks n (kas_descPart m r p) (fun x=>AllLt n x.2):=by
 refine Asks.bind (Asks.mono hn (fun x hx=>?_) (desc_asks hn _ _ _ _ h))
 split
 · exact tail3_asks hn (hx.perm hn (rev_perm ..)) _ _
 · exact tail3_asks hn hx _ _
theorem count_asks {p:Array Nat} (h:AllLt n p) (r:Nat):Asks n (kas_count r p) (fun x=>AllLt n x.2):=by
 refine Asks.bind (Asks.mono hn (fun m _=>?_) (asc_asks hn h _ _))
 split
 · exact h
 · split
   · refine ⟨h _,h _,fun b=>?_⟩
     cases b with
     | true=>exact h
     | false=>exact descPart_asks hn (h.perm hn (rev_perm ..)) _ _
   · exact descPart_asks hn h _ _
theorem place_asks {p:Array Nat} (h:AllLt n p) (k:Nat):∀ f l r,Asks n (kas_place p k f l r) (fun _=>True)
 | 0,_,_=>trivial
 | f+1,l,r=>by
   show Asks n (if l ≥ r then KasT.ret l else KasT.ask (p.getD k 0) (p.getD ((l+r) / 2) 0) fun c=>if c=true then kas_place p k f l ((l+r) / 2) else kas_place p k f ((l+r) / 2+1) r) _
   split
   · exact trivial
   · refine ⟨h _,h _,fun b=>?_⟩
     cases b with
     | true=>exact place_asks h k f _ _
     | false=>exact place_asks h k f _ _
theorem bin_asks:∀ (f:Nat) (p:Array Nat) (k:Nat),AllLt n p→Asks n (kas_bin f p k) (fun _=>True)
 | 0,_,_,_=>trivial
 | f+1,p,k,h=>Asks.bind (Asks.mono hn (fun l _=>bin_asks f _ _ (h.perm hn (bubble_perm ..))) (place_asks hn h k _ _ _))
theorem sort_asks:Asks n (kas_sort n) (fun _=>True):=by
 have h0:AllLt n (List.toArray (List.range n)):=fun k=>by
  by_cases hk:k<n
  · simp [Array.getD,hk]
  · simp [Array.getD,hk];exact hn
 refine Asks.bind (Asks.mono hn (fun r hr=>?_) (count_asks hn h0 n))
 split
 · exact bin_asks hn _ _ _ hr
 · exact trivial
end
end Srt
namespace L2
open PySem PySem.Spec PyProof.Rows PySem.W
section
variable {prog:Program} {w:World} {A:Around} {E:Value→Shared→Prop} {s:Shared}
theorem zip_snd (vs:List Value):(vs.toArray.zip vs.toArray).map (·.2)=vs.toArray:=by
 apply Array.toList_inj.mp
 simp [List.map_snd_zip]
set_option maxHeartbeats 2000000 in
theorem sorted_small {l:Addr} {vs:List Value} {Q:Value→Shared→Prop} (hl:s.heap.IsList l vs.toArray) (h2:vs.length<2)
 (h:∀ (h':Heap) (c:Nat),(∀ b o,s.heap.get? b=some o→h'.get? b=some o)→h'.get? (s.heap.objs.size+1)=some (seqObj "list" vs.toArray c)→Q (.ref (s.heap.objs.size+1)) { s with heap:=h' }) :
 wpAny (model prog w) A (call (.builtin "sorted") [.ref l]) Q E s:=by
 refine Calls.call_function_entry kind_sorted plain_sorted entry_sorted (args_sorted1 _) ?_
 unfold Builtin.«sorted»
 refine wpAny_bind (m:=checkCount "sorted" 1 1 _) (wpAny_pure ?_)
 refine wpAny_bind (collect_list hl ?_ (by rw [sizeLine_eq];omega))
 refine wpAny_bind (wpAny_newList ?_ (by rw [sizeLine_eq];omega))
 have hsz:((s.heap.push (seqObj "list" #[] 0)).update s.heap.objs.size (Obj.mapSeq (· ++ vs.toArray))).objs.size=s.heap.objs.size+1:=by
  rw [Heap.size_update,size_push']
 have hoL:(((s.heap.push (seqObj "list" #[] 0)).update s.heap.objs.size (Obj.mapSeq (· ++ vs.toArray))).push (seqObj "list" vs.toArray 0)).get? (s.heap.objs.size+1)=some (seqObj "list" vs.toArray 0):=by
  rw [← hsz];exact Heap.get?_push_size _ rfl
 have keep:∀ b o,s.heap.get? b=some o→(((s.heap.push (seqObj "list" #[] 0)).update s.heap.objs.size (Obj.mapSeq (· ++ vs.toArray))).push (seqObj "list" vs.toArray 0)).get? b=some o:=fun b o q=>by
  have hlt:b<s.heap.objs.size:=Heap.lt_size q
  rw [Heap.get?_push_ne _ _ _ (by rw [hsz];exact Nat.ne_of_lt (Nat.lt_succ_of_lt hlt)),Heap.get?_update_ne _ _ _ _ (Nat.ne_of_lt hlt),Heap.get?_push_ne _ _ _ (Nat.ne_of_lt hlt)]
  exact q
 show wpAny _ _ _ _ _ { s with heap:=((s.heap.push (seqObj "list" #[] 0)).update s.heap.objs.size (Obj.mapSeq (· ++ vs.toArray))).push (seqObj "list" vs.toArray 0) }
 rw [hsz]
 generalize ((s.heap.push (seqObj "list" #[] 0)).update s.heap.objs.size (Obj.mapSeq (· ++ vs.toArray))).push (seqObj "list" vs.toArray 0)=g at *
 generalize hD:s.heap.objs.size+1=D at *
 have hDs:∀ b o,s.heap.get? b=some o→b≠D:=fun b o q=>by rw [← hD];exact Nat.ne_of_lt (Nat.lt_succ_of_lt (Heap.lt_size q))
 refine wpAny_bind (wpAny_holding (wpAny_call_entry slot_list_sort ⟨_,hoL,rfl⟩ entry_list_sort ?body (args_list_sort _)))
 case body =>
  obtain ⟨e1,ho1⟩:∃ e1,(g.update D (Obj.mapSeq fun _=>(#[]:Array Value))).get? D=some (seqObj "list" #[] e1):=⟨_,get?_update_seq hoL fun _=>#[]⟩
  rw [list_sort_plain]
  refine wpAny_bind (listItems_at hoL rfl ?_)
  refine wpAny_bind (listUpdate_at hoL rfl ?_ (by rw [List.size_toArray,sizeLine_eq];omega) (Nat.zero_le _))
  refine wpAny_bind (seqEpoch_at ho1 rfl ?_)
  refine wpAny_bind (wpAny_newTuple ?_ (by show vs.length≤_;rw [sizeLine_eq];omega))
  refine wpAny_bind (wpAny_newList ?_ (Nat.zero_le _))
  refine wpAny_holding ?_
  show wpAny (model prog w) _ _ _ E { s with heap:=((g.update D (Obj.mapSeq fun _=>(#[]:Array Value))).push (seqObj "tuple" vs.toArray 0)).push (seqObj "list" #[] 0) }
  dsimp only
  have hn2:vs.toArray.size<2:=by rw [List.size_toArray];exact h2
  rw [if_pos hn2,if_pos hn2]
  refine wpAny_bind (wpAny_pure ?_)
  refine wpAny_bind (wpAny_pure ?_)
  dsimp only
  have ho6:(((g.update D (Obj.mapSeq fun _=>(#[]:Array Value))).push (seqObj "tuple" vs.toArray 0)).push (seqObj "list" #[] 0)).get? D=some (seqObj "list" #[] e1):=Heap.get?_push_of_some _ (Heap.get?_push_of_some _ ho1)
  have harr:(arrOf (SortSt.mk' general' (vs.toArray.zip vs.toArray) #[] 7 none)).map (·.2)=vs.toArray:=by
   exact zip_snd vs
  rw [harr]
  refine wpAny_bind (seqEpoch_at ho6 rfl ?_)
  refine wpAny_bind (listUpdate_at ho6 rfl ?_ (Nat.zero_le _) (by show vs.toArray.size≤_;rw [List.size_toArray,sizeLine_eq];omega))
  simp only [bne_self_eq_false,Bool.false_eq_true,if_false]
  obtain ⟨c2,hc2⟩:∃ c2,((((g.update D (Obj.mapSeq fun _=>(#[]:Array Value))).push (seqObj "tuple" vs.toArray 0)).push (seqObj "list" #[] 0)).update D (Obj.mapSeq fun _=>vs.toArray)).get? D=some (seqObj "list" vs.toArray c2):=⟨_,get?_update_seq ho6 fun _=>vs.toArray⟩
  refine wpAny_pure ⟨_,rfl,wpAny_pure ⟨_,rfl,?_⟩⟩
  refine h _ c2 (fun b o q=>?_) hc2
  have hb:=hDs b o q
  exact (Heap.get?_update_other _ _ (Ne.symm hb)).trans (Heap.get?_push_of_some _ (Heap.get?_push_of_some _ ((Heap.get?_update_other _ _ (Ne.symm hb)).trans (keep b o q))))
end
end L2

namespace L2
open PySem PySem.Spec PyProof.Rows PySem.W
theorem ns_inj {h:Heap} {a:Addr} {m m':Str→Option Value} (x:h.Ns a m) (y:h.Ns a m'):m=m':=by
 obtain ⟨o,es,ep,ho,hd,_,hm⟩:=x
 obtain ⟨o',es',ep',ho',hd',_,hm'⟩:=y
 rw [ho] at ho';cases ho'
 rw [hd] at hd';cases hd'
 funext z
 rw [← hm z,← hm' z]
theorem ObjOk.there {P:Program} {w:World} {H:Hp} {h:Heap} {a:Addr} {o:HO} (x:ObjOk P w H h a o):∃ u,h.get? a=some u:=by
 cases o with
 | lst xs=>obtain ⟨_,_,_,_,e⟩:=x;exact ⟨_,e⟩
 | tup xs=>obtain ⟨_,_,_,ob,e,_⟩:=x;exact ⟨_,e⟩
 | dK kvs=>obtain ⟨_,_,_,_,o,_,_,e,_⟩:=x;exact ⟨_,e⟩
 | dT kvs=>obtain ⟨_,_,_,_,o,_,_,e,_⟩:=x;exact ⟨_,e⟩
 | set S n=>obtain ⟨o,_,_,_,e,_⟩:=x;exact ⟨_,e⟩
 | ins C dx fs=>obtain ⟨_,_,_,e,_⟩:=x;exact ⟨_,e⟩
 | own y=>obtain ⟨_,e⟩:=x;exact ⟨_,e⟩
 | xd fs=>obtain ⟨_,⟨_,_,_,e,_⟩,_⟩:=x;exact ⟨_,e⟩
 | rng lo hi=>obtain ⟨_,_,_,e⟩:=x;exact ⟨_,e⟩
 | frz ob u=>obtain ⟨e,_⟩:=x;exact ⟨_,e⟩
 | tbl ps=>exact ⟨_,(show h.get? a=some _ from x)⟩
 | met f y=>exact ⟨_,(show h.get? a=some _ from x)⟩
 | ext φ=>obtain ⟨_,⟨_,e⟩,_⟩:=x;exact ⟨_,e⟩
theorem map_small:∀ (xs:List V),xs.length<2→(List.range xs.length).map (fun i=>xs.getD i V.non)=xs
 | [],_=>rfl
 | [_],_=>rfl
 | _ :: _ :: _,h=>by simp at h;omega
section
variable {X:Cx} {pins:List (Addr×Obj)} {σ:St} {H:Hp} {s:Shared}
theorem Inv.byNews {h':Heap} {m:Str→Option Value} {D:Addr} {ws:List V} {out:List Value} {c:Nat} {t':Nat} (I:Inv X pins σ H s) (hn:s.heap.Ns X.env.locals m) (F:Fr X.base X.env.locals h' m)
 (k:∀ b o,b≠X.env.locals→s.heap.get? b=some o→h'.get? b=some o) (hD:H D=none) (hDs:∀ o,s.heap.get? D≠some o) (ho:h'.get? D=some { cls:=.type "list",data:=.seq out.toArray c }) (r:Vals ws out) (hz:ws.length≤sizeLine) :
 Inv X pins σ (upd H D (.lst ws)) { s with heap:=h',toks:=t' }:=by
 have nD:∀ b o,s.heap.get? b=some o→b≠D:=fun b o e z=>by subst z;exact hDs o e
 have nL:∀ b u,H b=some u→b≠X.env.locals:=fun b u e z=>by rw [z,I.free] at e;cases e
 refine I.step (g':=s.gens) (d':=s.drawn) (ch:=[]) (fun _ z=>nomatch z) (fun b o hL _ _ e _=>k b o hL e) (fun b o hL _ _ e _=>⟨o.slots,k b o hL e⟩) (fun b o _ e n=>by rw [upd_ne (nD b o e)];exact n) (fun b o _ e=>?_)
  (fun b xs e=>by rw [upd_ne (ne_of_none e hD)];exact e) (fun b o u e=>by rw [upd_ne (ne_of_none e hD)];exact e) (fun b ps e=>⟨#[],by rw [upd_ne (ne_of_none e hD),e];simp⟩) (fun m' hm=>?_) (fun b u e=>?_) I.bare
 · by_cases hb:b=X.env.locals
   · obtain ⟨o',_,_,e',_⟩:=F.ns
     exact ⟨o',by rw [hb];exact e'⟩
   · exact ⟨o,k b o hb e⟩
 · rw [← ns_inj hn hm];exact F.ns
 · by_cases hb:b=D
   · subst hb
     rw [upd_same] at e;cases e
     exact ⟨hz,out,c,r,ho⟩
   · rw [upd_ne hb] at e
     refine (I.hok b u e).stay (fun x v hx q=>k x v ?_ q) (fun x q=>by rw [upd_ne (ne_of_none q hD)];exact q) fun x xs q=>by rw [upd_ne (ne_of_none q hD)];exact q
     rcases hx with z | z
     · rw [z];exact nL b u e
     · exact nL x _ z
theorem getD_e (p:Array Nat) (j:Nat):p.toList.getD j 0=Srt.e p j:=by
 unfold Srt.e
 simp [List.getD_eq_getElem?_getD]
set_option maxHeartbeats 2000000 in
theorem sorted_ok {l:Addr} {xs:List V} {Q:VK} (I:Inv X pins σ H s) (hl:SqL X.K H l xs) (h64:xs.length<64) (lt:Nat→Nat→Bool) (O:Srt.Ord lt)
 (hkind:∀ (vs:List Value) (s':Shared),Vals xs vs→2≤vs.length→(∀ b o,b≠X.env.locals→s.heap.get? b=some o→s'.heap.get? b=some o)→∃ κ:SortKind,(∀ (R:SortKind→Shared→Prop),R κ s'→wpAny (model X.prog X.w) X.A.in1.in1 (keyKind' vs.toArray) R (fun _ _=>False) s') ∧
  ∀ (i j:Nat) (C:Bool→Shared→Prop) (s2:Shared),i<vs.length→j<vs.length→(∀ b o,b≠X.env.locals→s.heap.get? b=some o→s2.heap.get? b=some o)→C (lt i j) s2→kas_ask X.prog X.w X.A.in1.in1 κ vs i j C s2)
 (q:∀ (p:List Nat) (D:Addr),p.Perm (List.range xs.length)→(∀ k,1≤k→k<xs.length→lt (p.getD k 0) (p.getD (k - 1) 0)=false)→H D=none→Q (.ref D) (upd H D (.lst (p.map fun i=>xs.getD i .non)))) :
 wpAny (model X.prog X.w) X.A (call (.builtin "sorted") [.ref l]) (EP X pins σ Q) X.xe s:=by
 obtain ⟨its,rv,pl,hz⟩:=id (I.list hl)
 have hlen:=rv.length
 by_cases h2:its.length<2
 · refine sorted_small pl.isList h2 fun h' c kp ho=>?_
   have hf:H (s.heap.objs.size+1)=none:=I.hok.fresh (Nat.le_succ _)
   have I':Inv X pins σ (upd H (s.heap.objs.size+1) (.lst xs)) { s with heap:=h' }:=I.laid (t':=s.toks) kp (Nat.le_succ _) ⟨hz,its,c,rv,ho⟩
   have hq:=q (List.range xs.length) (s.heap.objs.size+1) (List.Perm.refl _) (fun k k1 k2=>by omega) hf
   have ex:(List.range xs.length).map (fun i=>xs.getD i .non)=xs:=by
    exact map_small xs (by omega)
   rw [ex] at hq
   exact ⟨.ref (s.heap.objs.size+1),_,I',rfl,hq⟩
 · obtain ⟨m,hn,_⟩:=id I.loc
   have F:Fr X.base X.env.locals s.heap m:=⟨hn,I.bk,Nat.le_trans I.ok.bsz I.ok.above⟩
   have N:News X.base X.env.locals s.heap (allNews X.base s.heap X.env.locals):=news_all
   have keepN:∀ {h':Heap} {r:List (Addr×Obj)},Fr X.base X.env.locals h' m→News X.base X.env.locals h' r→(∀ p∈allNews X.base s.heap X.env.locals,p∈r)→∀ b o,b≠X.env.locals→s.heap.get? b=some o→h'.get? b=some o:=fun {h' r} F' N' sub b o hb e=>by
    cases z:X.base.get? b with
    | some u =>
      have:=I.bk b u z
      rw [e] at this;cases this
      exact F'.keep b _ z
    | none=>exact (N' (b,o) (sub _ (mem_allNews hb z e))).1
   have h2':2≤its.length:=by omega
   refine kat_sorted F N pl.isList h2' (by omega) fun D e1 h' F' N' hD=>?_
   have kp:=keepN F' N' (fun p hp=>List.mem_cons_of_mem _ hp)
   have nDD:=N' (D,seqObj "list" #[] e1) List.mem_cons_self
   have hDs:∀ o,s.heap.get? D≠some o:=fun o e=>Nat.lt_irrefl _ (hD (D,o) (mem_allNews nDD.2.1 nDD.2.2 e))
   have hHD:H D=none:=by
    cases z:H D with
    | none=>rfl
    | some u =>
      obtain ⟨o,e⟩:=ObjOk.there (I.hok D u z)
      exact absurd e (hDs o)
   obtain ⟨κ,hκ,hask⟩:=hkind its { s with heap:=h' } rv h2' kp
   refine hκ _ ?_
   have hn1:0<its.length:=by omega
   refine Srt.run_wp' (n:=its.length) (P:=fun s'=>s'={ s with heap:=h' }) lt (fun i j C s2 hi hj p2 hc=>by subst p2;exact hask i j C _ hi hj kp (hc _ rfl)) (kas_sort its.length) _ (Srt.sort_asks hn1) rfl fun s2 p2=>?_
   subst p2
   obtain ⟨pm,up⟩:=Srt.sort_ok O (n:=its.length) (by omega)
   generalize Srt.run lt (kas_sort its.length)=p at *
   refine KasFin.intro F' N' (.head fun x hx=>Nat.ne_of_lt (hD x hx)) fun h3 c F3 N3=>?_
   have kp3:=keepN F3 N3 (fun p hp=>List.mem_cons_of_mem _ hp)
   have hD3:=(N3 (D,listOf (List.toArray (p.toList.map fun i=>its.getD i Value.none)) c) List.mem_cons_self).1
   have rel:Vals (p.toList.map fun i=>xs.getD i .non) (p.toList.map fun i=>its.getD i Value.none):=by
    have key:∀ (l:List Nat),(∀ i∈l,i<its.length)→Vals (l.map fun i=>xs.getD i .non) (l.map fun i=>its.getD i Value.none):=by
     intro l
     induction l with
     | nil=>intro _;exact .nil
     | cons a l ih =>
       intro hl'
       have ha:=hl' a List.mem_cons_self
       have ha2:a<xs.length:=by omega
       obtain ⟨u,hu,ru⟩:=rv.get (i:=a) (x:=xs[a]) (by simp [ha2])
       have e1:xs.getD a .non=xs[a]:=by simp [ha2]
       have e2:its.getD a Value.none=u:=by rw [List.getD_eq_getElem?_getD,hu];rfl
       rw [List.map_cons,List.map_cons,e1,e2]
       exact .cons ru (ih fun i hi=>hl' i (List.mem_cons_of_mem _ hi))
    exact key _ fun i hi=>List.mem_range.mp (pm.mem_iff.mp hi)
   have hq:=q p.toList D (by rw [hlen];exact pm) (fun k k1 k2=>by
    have:=up k k1 (by omega)
    rw [getD_e,getD_e];exact this) hHD
   refine ⟨.ref D,_,I.byNews (t':=s.toks) hn F3 kp3 hHD hDs hD3 rel ?_,rfl,hq⟩
   rw [List.length_map,pm.length_eq,List.length_range,← hlen]
   exact hz
end
end L2

namespace L2
open PySem PySem.Spec PyProof.Rows PySem.W
theorem pairwise_of_adj {α:Type} {R:α→α→Prop} (tr:∀ a b c,R a b→R b c→R a c):∀ l:List α,(∀ k a b,l[k]?=some a→l[k+1]?=some b→R a b)→l.Pairwise R
 | [],_=>.nil
 | [a],_=>by simp
 | a :: b :: l,h=>by
   have ih:=pairwise_of_adj tr (b :: l) fun k x y hx hy=>h (k+1) x y (by simpa using hx) (by simpa using hy)
   refine List.pairwise_cons.mpr ⟨fun c hc=>?_,ih⟩
   rcases List.mem_cons.mp hc with rfl | hc
   · exact h 0 a c rfl rfl
   · exact tr a b c (h 0 a b rfl rfl) ((List.pairwise_cons.mp ih).1 c hc)
theorem range_getD {α:Type} (l:List α) (d:α):(List.range l.length).map (fun i=>l.getD i d)=l:=by
 refine List.ext_getElem (by simp) fun i h1 h2=>?_
 simp [h2]
theorem perm_getD {α:Type} {l:List α} {d:α} {p:List Nat} (h:p.Perm (List.range l.length)):(p.map fun i=>l.getD i d).Perm l:=by
 have:=h.map (fun i=>l.getD i d)
 rw [range_getD] at this
 exact this
theorem vals_getD {xs:List V} {vs:List Value} (r:Vals xs vs) {i:Nat} (h:i<vs.length):RelV (xs.getD i .non) (vs.getD i Value.none):=by
 have h':i<xs.length:=by rw [r.length];exact h
 obtain ⟨u,hu,ru⟩:=r.get (i:=i) (x:=xs[i]) (by simp [h'])
 have e1:xs.getD i .non=xs[i]:=by simp [h']
 have e2:vs.getD i Value.none=u:=by rw [List.getD_eq_getElem?_getD,hu];rfl
 rw [e1,e2];exact ru
noncomputable def lexB (p q:Int×Int):Bool:=decide (p.1<q.1∨(p.1=q.1∧p.2<q.2))
noncomputable def lexR (p q:Int×Int):Prop:=p.1<q.1∨(p.1=q.1∧p.2≤q.2)
theorem lexR_of {p q:Int×Int} (h:lexB q p=false):lexR p q:=by
 simp only [lexB,lexR,decide_eq_false_iff_not] at *
 omega
theorem lexR_trans (a b c:Int×Int) (h1:lexR a b) (h2:lexR b c):lexR a c:=by
 simp only [lexR] at *
 omega
noncomputable def ltP (ps:List (Int×Int)) (i j:Nat):Bool:=lexB (ps.getD i (0,0)) (ps.getD j (0,0))
theorem ltP_ord (ps:List (Int×Int)):Srt.Ord (ltP ps):=by
 refine ⟨fun i j h=>?_,fun i j k h1 h2=>?_⟩ <;> simp only [ltP,lexB,decide_eq_true_eq,decide_eq_false_iff_not] at * <;> omega
theorem up_pairwise {α:Type} {R:α→α→Prop} (tr:∀ a b c,R a b→R b c→R a c) {l:List α} {d:α} {p:List Nat} (h:p.Perm (List.range l.length)) {lt:Nat→Nat→Bool}
 (up:∀ k,1≤k→k<l.length→lt (p.getD k 0) (p.getD (k - 1) 0)=false) (hR:∀ i j,lt j i=false→R (l.getD i d) (l.getD j d)):(p.map fun i=>l.getD i d).Pairwise R:=by
 refine pairwise_of_adj tr _ fun k a b ha hb=>?_
 have hl:p.length=l.length:=by rw [h.length_eq,List.length_range]
 rw [List.getElem?_map] at ha hb
 cases e1:p[k]? with
 | none=>rw [e1] at ha;cases ha
 | some i =>
   cases e2:p[k+1]? with
   | none=>rw [e2] at hb;cases hb
   | some j =>
     rw [e1] at ha;rw [e2] at hb
     have ha:l.getD i d=a:=Option.some.inj ha
     have hb:l.getD j d=b:=Option.some.inj hb
     subst ha hb
     have hk:k+1<p.length:=(List.getElem?_eq_some_iff.mp e2).1
     have:=up (k+1) (by omega) (by omega)
     have g1:p.getD (k+1) 0=j:=by rw [List.getD_eq_getElem?_getD,e2];rfl
     have g2:p.getD (k+1 - 1) 0=i:=by rw [List.getD_eq_getElem?_getD,Nat.add_sub_cancel,e1];rfl
     rw [g1,g2] at this
     exact hR i j this
noncomputable def dtP (p:Int×Int):Dt:=.tup [.int p.1,.int p.2]
noncomputable def Prs (K:PySem.W.Frag) (H:Hp) (ps:List (Int×Int)) (vs:List V):Prop:=Dens K H (ps.map dtP) vs
theorem dens_pick {K:PySem.W.Frag} {H:Hp} {α:Type} {f:α→Dt} {l:List α} {d:α} {vs:List V} (h:Dens K H (l.map f) vs):∀ {p:List Nat},(∀ i∈p,i<l.length)→Dens K H ((p.map fun i=>l.getD i d).map f) (p.map fun i=>vs.getD i .non)
 | [],_=>by simp only [List.map_nil,Dens]
 | i :: p,hp=>by
   have hi:=hp i List.mem_cons_self
   simp only [List.map_cons,Dens]
   obtain ⟨x,hx,dx⟩:=h.get (j:=i) (d:=f l[i]) (by simp [hi])
   refine ⟨_,_,rfl,?_,dens_pick h fun j hj=>hp j (List.mem_cons_of_mem _ hj)⟩
   have e1:l.getD i d=l[i]:=by simp [hi]
   have e2:vs.getD i .non=x:=by rw [List.getD_eq_getElem?_getD,hx];rfl
   rw [e1,e2];exact dx
theorem prs_at {K:PySem.W.Frag} {H:Hp} {ps:List (Int×Int)} {vs:List V} (h:Prs K H ps vs) {i:Nat} (hi:i<ps.length):∃ a,vs.getD i .non=.ref a∧SqT K H a [.int (ps.getD i (0,0)).1,.int (ps.getD i (0,0)).2]:=by
 obtain ⟨x,hx,dx⟩:=Dens.get (j:=i) (d:=dtP ps[i]) h (by simp [hi])
 have e1:ps.getD i (0,0)=ps[i]:=by simp [hi]
 have e2:vs.getD i .non=x:=by rw [List.getD_eq_getElem?_getD,hx];rfl
 rw [e1,e2]
 simp only [dtP,Den,Dens] at dx
 obtain ⟨a,xs,rfl,hq,y,r,rfl,rfl,y2,r2,rfl,rfl,rfl⟩:=dx
 exact ⟨a,rfl,hq⟩
section
variable {X:Cx} {pins:List (Addr×Obj)} {σ:St} {H:Hp} {s:Shared}
theorem Inv.tupNe {a:Addr} {xs:List V} (I:Inv X pins σ H s) (h:SqT X.K H a xs):a≠X.env.locals:=by
 rintro rfl
 obtain ⟨its,_,⟨o,e,c,n,d⟩,_⟩:=I.tuple h
 obtain ⟨m,⟨o',es,ep,ho,hd,_⟩,_⟩:=I.loc
 rw [e] at ho;cases ho
 rw [d] at hd;cases hd
noncomputable def rSortP (K:PySem.W.Frag):List V→Hp→VK→Prop:=fun xs H Q=>∃ (l:Addr) (vs:List V) (ps:List (Int×Int)),xs=[.ref l]∧SqL K H l vs∧Prs K H ps vs∧ps.length<64∧∀ (us:List V) (ms:List (Int×Int)) (D:Addr),ms.Perm ps→ms.Pairwise lexR→Prs K H ms us→H D=none→Q (.ref D) (upd H D (.lst us))
theorem call_sortedP:CallR X (.builtin "sorted") (rSortP X.K):=by
 intro pins s σ H xs us Q I r h
 obtain ⟨l,xs,ps,rfl,hl,hp,h64,q⟩:=h
 obtain ⟨u,rfl,rfl⟩:=vals1 r
 have hlen:xs.length=ps.length:=by have:=Dens.length hp;rw [List.length_map] at this;exact this
 refine sorted_ok I hl (by omega) (ltP ps) (ltP_ord ps) (fun vs s' rv h2 kp=>?_) fun p D pm up hD=>?_
 · have hv:vs.length=ps.length:=by rw [← rv.length,hlen]
   have tup:∀ {s2:Shared},(∀ b o,b≠X.env.locals→s.heap.get? b=some o→s2.heap.get? b=some o)→∀ {i:Nat},i<vs.length→∃ a o n t1 t2,vs.getD i Value.none=.ref a∧s2.heap.get? a=some o∧o.cls=.type "tuple"∧o.data=.seq #[.int (ps.getD i (0,0)).1 t1,.int (ps.getD i (0,0)).2 t2] n:=fun {s2} k {i} hi=>by
    obtain ⟨a,e,hq⟩:=prs_at hp (show i<ps.length by omega)
    have rr:=vals_getD rv hi
    rw [e] at rr
    obtain ⟨its,ri,⟨o,ho,hc,n,hd⟩,_⟩:=I.tuple hq
    obtain ⟨u1,u2,rfl,⟨t1,rfl⟩,⟨t2,rfl⟩⟩:=vals2 ri
    exact ⟨a,o,n,t1,t2,rr,k a o (I.tupNe hq) ho,hc,by simpa using hd⟩
   refine ⟨tuples' true,fun R hR=>?_,fun i j C s2 hi hj k hc=>?_⟩
   · have build:∀ (ws:List Value),(∀ v∈ws,∃ a o n x t1 y t2,v=.ref a∧s'.heap.get? a=some o∧o.cls=.type "tuple"∧o.data=.seq #[.int x t1,.int y t2] n)→∃ fs:List Value,fs.length=ws.length∧KatTups s'.heap ws fs∧∀ v∈fs,∃ x t,v=.int x t:=by
      intro ws
      induction ws with
      | nil=>intro _;exact ⟨[],rfl,KatTups.nil,fun v h=>by simp at h⟩
      | cons w ws ih =>
        intro h
        obtain ⟨fs,e,t,a⟩:=ih fun v hv=>h v (List.mem_cons_of_mem _ hv)
        obtain ⟨b,o,n,x,t1,y,t2,rfl,ho,hc,hd⟩:=h w List.mem_cons_self
        refine ⟨.int x t1 :: fs,by simp [e],KatTups.cons ho hc hd rfl t,fun v hv=>?_⟩
        rcases List.mem_cons.mp hv with rfl | hv
        · exact ⟨_,_,rfl⟩
        · exact a v hv
     obtain ⟨fs,e,kt,fa⟩:=build vs fun v hv=>by
      obtain ⟨i,hi,rfl⟩:=List.mem_iff_getElem.mp hv
      obtain ⟨a,o,n,t1,t2,e,ho,hc,hd⟩:=tup kp hi
      have:vs.getD i Value.none=vs[i]:=by simp [hi]
      rw [this] at e
      exact ⟨a,o,n,_,t1,_,t2,e,ho,hc,hd⟩
     refine kat_kind (T:=.type "int") kt (by omega) (fun v hv=>?_) (by decide) hR
     obtain ⟨x,t,rfl⟩:=fa v hv
     exact Looks.of_pure rfl
   · unfold kas_ask
     obtain ⟨a,o,n,t1,t2,e,ho,_,hd⟩:=tup k hi
     obtain ⟨a',o',n',t1',t2',e',ho',_,hd'⟩:=tup k hj
     rw [e,e']
     refine kat_lt ho hd ho' hd' (kat_cons ?_)
     have hc':C (lexB (ps.getD i (0,0)) (ps.getD j (0,0))) s2:=hc
     generalize ps.getD i (0,0)=x at *
     generalize ps.getD j (0,0)=y at *
     refine wpAny_eqBool_int ?_
     by_cases h1:x.1=y.1
     · rw [show (x.1 == y.1)=true by simp [h1]]
       refine kat_yes (kat_cons (wpAny_eqBool_int ?_))
       by_cases h2:x.2=y.2
       · rw [show (x.2 == y.2)=true by simp [h2]]
         refine kat_yes (kat_nil ?_)
         have:lexB x y=false:=by simp only [lexB,decide_eq_false_iff_not];omega
         rw [this] at hc'
         simpa using hc'
       · rw [show (x.2 == y.2)=false by simp [h2]]
         refine kat_no (kat_one _ _ ?_)
         have:lexB x y=decide (x.2<y.2):=by simp only [lexB,decide_eq_decide];omega
         rw [this] at hc'
         exact lt_int hc'
     · rw [show (x.1 == y.1)=false by simp [h1]]
       refine kat_no (oneLt_int ?_)
       have:lexB x y=decide (x.1<y.1):=by simp only [lexB,decide_eq_decide];omega
       rw [this] at hc'
       exact hc'
 · rw [hlen] at pm up
   have hb:∀ i∈p,i<ps.length:=fun i hi=>List.mem_range.mp (pm.mem_iff.mp hi)
   exact q _ _ D (perm_getD pm) (up_pairwise lexR_trans pm up fun i j h=>lexR_of h) (dens_pick hp hb) hD
end
end L2

namespace L2
open PySem PySem.Spec PyProof.Rows PySem.W
theorem closure_loop (env:Env):∀ (names:List (Str×NameKind)) (cs:List (Str×Addr)),(∀ y∈names,y.2=.free→∃ c,env.cells.lookup y.1=some c)→(∀ p∈cs,env.cells.lookup p.1=some p.2) →
 ∃ cl:List (Str×Addr),(forIn names cs fun x cs=>(match x with | (name,kind)=>if (kind == .free)=true then do let __do_lift ←cellOf env name;pure (ForInStep.yield ((name,__do_lift) :: cs)) else pure (ForInStep.yield cs):Sem (ForInStep (List (Str×Addr)))))=pure cl ∧
   (∀ p∈cl,env.cells.lookup p.1=some p.2)∧(∀ p∈cs,p∈cl)∧∀ x,(x,NameKind.free)∈names→∃ c,(x,c)∈cl
 | [],cs,_,hc=>⟨cs,by rw [List.forIn_nil],hc,fun _ h=>h,fun x h=>by simp at h⟩
 | (n,k) :: names,cs,h,hc=>by
   have h':=fun y hy=>h y (List.mem_cons_of_mem _ hy)
   rw [List.forIn_cons]
   by_cases hk:k=.free
   · subst hk
     obtain ⟨c,e⟩:=h (n,.free) List.mem_cons_self rfl
     obtain ⟨cl,e1,e2,e3,e4⟩:=closure_loop env names ((n,c) :: cs) h' fun p hp=>by
      rcases List.mem_cons.mp hp with rfl | hp
      · exact e
      · exact hc p hp
     refine ⟨cl,?_,e2,fun p hp=>e3 p (List.mem_cons_of_mem _ hp),fun x hx=>?_⟩
     · have ec:cellOf env n=pure c:=by unfold cellOf;rw [e]
       simp only [ec,beq_self_eq_true,if_true,pure_bind]
       exact e1
     · rcases List.mem_cons.mp hx with z | hx
       · cases z;exact ⟨c,e3 _ List.mem_cons_self⟩
       · exact e4 x hx
   · obtain ⟨cl,e1,e2,e3,e4⟩:=closure_loop env names cs h' hc
     refine ⟨cl,?_,e2,e3,fun x hx=>?_⟩
     · have:(k == NameKind.free)=false:=by simpa using hk
       simp only [this,Bool.false_eq_true,if_false,pure_bind]
       exact e1
     · rcases List.mem_cons.mp hx with z | hx
       · cases z;exact absurd rfl hk
       · exact e4 x hx
theorem lookup_some_of_mem {x:Str} {c:Addr}:∀ {l:List (Str×Addr)},(x,c)∈l→∃ c',l.lookup x=some c'
 | [],h=>by simp at h
 | (n,d) :: l,h=>by
   rw [List.lookup_cons]
   cases e:x == n with
   | true=>exact ⟨d,rfl⟩
   | false =>
     rcases List.mem_cons.mp h with z | h
     · cases z;simp at e
     · exact lookup_some_of_mem h
theorem closure_ok {scope:Scope} {env:Env} (h:∀ y∈scope.names,y.2=.free→∃ c,env.cells.lookup y.1=some c) :
 ∃ cl,closureFor scope env=pure cl∧(∀ x c,cl.lookup x=some c→env.cells.lookup x=some c)∧∀ x,(x,NameKind.free)∈scope.names→∃ c,cl.lookup x=some c:=by
 obtain ⟨cl,e1,e2,_,e4⟩:=closure_loop env scope.names [] h (fun p hp=>by simp at hp)
 refine ⟨cl,?_,fun x c hx=>e2 (x,c) (PySem.mem_of_lookup hx),fun x hx=>?_⟩
 · unfold closureFor
   refine Eq.trans (congrArg (fun t=>t >>= fun cs=>pure cs) ?_) (bind_pure _)
   exact e1
 · obtain ⟨c,hc⟩:=e4 x hx
   exact lookup_some_of_mem hc
section
variable {X:Cx}
theorem pe_compC {tg iter elt:Expr} {ifs:List Expr} {scope:Scope} {pos:Pos} (N':List Str) (ks:List (Option Nat)) {wi:TI} {g:TG} {tt:TT} {te:TE}
 (hcalm:X.calm=true) (hi:PI X tg iter wi) (hfree:∀ y∈scope.names,y.2=.free→X.env.scope.names.lookup y.1=some .cell)
 (hcell:∀ y∈scope.names,y.2≠.cell) (hkind:scope.kind=.function) (hnames:∀ y∈scope.names,y.2=.local→scope.names.lookup y.1=some .local)
 (hcap:Cap X (relabel scope X.env) N' ks)
 (hg:∀ cl C s H fp,PG (compX X N' scope cl C s H fp) tg g) (ht:∀ cl C s H fp,PTs (compX X N' scope cl C s H fp) ifs tt) (he:∀ cl C s H fp,PE (compX X N' scope cl C s H fp) elt te)
 (hs:∀ x,foldedSetIterable iter X.env x=pure x:=by intro _;rfl):PE X (.ListComp elt [⟨tg,iter,ifs,0⟩] scope pos) (tComp wi ks g tt te):=by
 intro pins s σ H Q I h
 obtain ⟨cl,e1,e2,e3⟩:=closure_ok (scope:=scope) (env:=X.env) fun y hy hf=>I.ok.has y.1 (.inl (hfree y hy hf))
 refine pe_comp hcalm hi e1 e2 hcell hkind hnames (fun x hx=>?_) hcap (hg cl) (ht cl) (he cl) hs pins s σ H Q I h
 have key:∀ k,(x,k)∈(relabel scope X.env).names→k=.cell∨k=.free→(x,NameKind.free)∈scope.names:=fun k hm hk=>by
  unfold relabel at hm
  obtain ⟨⟨n,k'⟩,hy,e⟩:=List.mem_map.mp hm
  dsimp only at e
  split at e
  · rename_i hc
    cases e
    have:k'=.free:=by simp at hc;exact hc.1.1
    rw [← this];exact hy
  · cases e
    rcases hk with rfl | rfl
    · exact absurd rfl (hcell _ hy)
    · exact hy
 rcases hx with hx | hx
 · exact e3 x (key _ (PySem.mem_of_lookup hx) (.inl rfl))
 · exact e3 x (key _ (PySem.mem_of_lookup hx) (.inr rfl))
theorem comp_rng {lo:Int} {n:Nat} {D:Addr} {g:TG} {tt:TT} {te:TE} {σ0:St} {H0:Hp} {Q:VK} (Pv:Nat→List V→St→Hp→Prop) (h0:Pv 0 [] σ0 H0) (hl:∀ i ys σ H,Pv i ys σ H→H D=some (.lst ys))
 (hs:∀ i ys σ H,i<n→Pv i ys σ H→g (.int (lo+i)) σ H fun σ3 H3=>tt σ3 H3 fun b H4=>if b=true then
  te σ3 H4 fun y H5=>H5 D=some (.lst ys)∧ys.length<sizeLine∧∃ m',m'<n - i∧Wt Pv n (i+1) m' (ys ++ [y]) σ3 (upd H5 D (.lst (ys ++ [y]))) else ∃ m',m'<n - i∧Wt Pv n (i+1) m' ys σ3 H4)
 (hd:∀ ys σ H,Pv n ys σ H→Q (.ref D) H) :
 CompW (Itr lo n) D g tt te Q σ0 H0:=by
 refine ⟨Wt Pv n,⟨n,rfl,Nat.zero_le _,h0⟩,?_⟩
 rintro i m ys σ' H' ⟨rfl,hi,p⟩
 refine ⟨hl i ys σ' H' p,?_⟩
 by_cases hlt:i<n
 · refine .inr ⟨hlt,fun x H2 y=>?_⟩
   obtain ⟨e,y⟩:=y
   subst e y
   exact hs i ys σ' _ hlt p
 · have e:i=n:=by omega
   subst e
   exact .inl ⟨Nat.le_refl _,hd ys σ' H' p⟩
theorem pg_tupK {K:PySem.W.Frag} {es:List Expr} {k:Nat} {t:TGs} {pos:Pos} (n:Nat) (e:X.K=K) (hc:X.calm=true) (h:PGs X es t)
 (hn:(assignEach es X.env).length=n:=by rfl) (hst:(assignEach es X.env).findIdx? (·.1)=none:=by rfl):PG X (.Tuple es k pos) (gTup K n t):=e ▸ pg_tup hc h hn hst
noncomputable def rSum (K:PySem.W.Frag):List V→Hp→VK→Prop:=fun xs H Q=>∃ (l:Addr) (ns:List Int),xs=[.ref l]∧SqL K H l (ns.map V.int)∧Q (.int ns.sum) H
theorem call_sum (hc:X.calm=true):CallR X (.builtin "sum") (rSum X.K):=by
 intro pins s σ H xs us Q I r h
 obtain ⟨l,ns,rfl,hl,q⟩:=h
 obtain ⟨u,rfl,rfl⟩:=vals1 r
 obtain ⟨its,rv,pl,_⟩:=I.list hl
 have hi:=intsAre_of rv
 obtain ⟨xs,hx⟩:=hi.allInts.items
 have hl':s.heap.IsList l (intItems xs):=hx ▸ pl.isList
 refine sum_intListG (I.ok.hd hc) hl' fun h' tk t' hk=>?_
 have e1:ns=xs.toList.map (·.1):=by
  rw [← nums_intItems,← hx]
  exact (show numsOf its.toArray.toList=ns from hi.numsOf).symm
 have e2:preSum (numAt xs) xs.size=ns.sum:=by
  rw [preSum_eq,List.take_of_length_le (by simp),e1]
 rw [e2]
 exact ⟨.int ns.sum,H,I.kept (t':=tk) hk,⟨_,rfl⟩,q⟩
end

theorem newS {H:Hp} {Q:VK} {o:HO} (h:∀ (p:Addr) (H':Hp),Same H H'→H p=none→H' p=some o→Q (.ref p) H'):∀ p,H p=none→Q (.ref p) (upd H p o):=fun p hp=>h p _ (Same.new hp) hp upd_same
noncomputable def KL (H H':Hp):Prop:=∀ b o,H b=some o→(∀ xs,o≠.lst xs)→H' b=some o
theorem Same.kl {H H':Hp} (s:Same H H'):KL H H':=fun b o h _=>s b o h
theorem KL.set {H:Hp} {l:Addr} {xs ys:List V} (h:H l=some (.lst xs)):KL H (upd H l (.lst ys)):=fun b o e n=>by
 have:b≠l:=by rintro rfl;rw [h] at e;cases e;exact n xs rfl
 rw [upd_ne this];exact e
theorem Kp.kl {H H':Hp} {l:Addr} {xs:List V} (k:Kp l H H') (h:H l=some (.lst xs)):KL H H':=fun b o e n=>k b o e (by rintro rfl;rw [h] at e;cases e;exact n xs rfl)
theorem KL.tup {H H':Hp} {b:Addr} {xs:List V} (k:KL H H') (h:H b=some (.tup xs)):H' b=some (.tup xs):=k b _ h fun _ z=>by cases z
theorem KL.seqT {K:PySem.W.Frag} {H H':Hp} {a:Addr} {xs:List V} (e:KL H H') (h:SqT K H a xs):SqT K H' a xs:=by
 rcases h with (h | ⟨o,h⟩) | h
 · exact .inl (.inl (e _ _ h fun _ z=>by cases z))
 · exact .inl (.inr ⟨o,e _ _ h fun _ z=>by cases z⟩)
 · exact .inr h
theorem prs_nil {K:PySem.W.Frag} {H:Hp}:Prs K H [] []:=by simp only [Prs,List.map_nil,Dens]
theorem prs_cons {K:PySem.W.Frag} {H:Hp} {a:Addr} {p:Int×Int} {ps:List (Int×Int)} {vs:List V} (h:SqT K H a [.int p.1,.int p.2]) (r:Prs K H ps vs):Prs K H (p :: ps) (.ref a :: vs):=by
 simp only [Prs,List.map_cons,Dens,dtP,Den]
 exact ⟨_,_,rfl,⟨a,_,rfl,h,_,_,rfl,rfl,_,_,rfl,rfl,rfl⟩,r⟩
theorem prs_uncons {K:PySem.W.Frag} {H:Hp} {p:Int×Int} {ps:List (Int×Int)} {vs:List V} (h:Prs K H (p :: ps) vs):∃ a r,vs=.ref a :: r∧SqT K H a [.int p.1,.int p.2]∧Prs K H ps r:=by
 simp only [Prs,List.map_cons,Dens,dtP,Den] at h
 obtain ⟨x,r,rfl,⟨a,xs,rfl,hq,y,r1,rfl,rfl,y2,r2,rfl,rfl,rfl⟩,hr⟩:=h
 exact ⟨a,r,rfl,hq,hr⟩
theorem Prs.kl {K:PySem.W.Frag} {H H':Hp} (k:KL H H'):∀ {ps:List (Int×Int)} {vs:List V},Prs K H ps vs→Prs K H' ps vs
 | [],vs,h=>by
   simp only [Prs,List.map_nil,Dens] at h
   subst h
   exact prs_nil
 | p :: ps,vs,h=>by
   obtain ⟨a,r,rfl,hq,hr⟩:=prs_uncons h
   exact prs_cons (k.seqT hq) (Prs.kl k hr)
theorem Prs.snoc {K:PySem.W.Frag} {H:Hp} {a:Addr} {p:Int×Int} (hp:SqT K H a [.int p.1,.int p.2]):∀ {ps:List (Int×Int)} {vs:List V},Prs K H ps vs→Prs K H (ps ++ [p]) (vs ++ [.ref a])
 | [],vs,h=>by
   simp only [Prs,List.map_nil,Dens] at h
   subst h
   exact prs_cons hp prs_nil
 | q :: ps,vs,h=>by
   obtain ⟨b,r,rfl,hq,hr⟩:=prs_uncons h
   exact prs_cons hq (Prs.snoc hp hr)
theorem Prs.append {K:PySem.W.Frag} {H:Hp} {qs:List (Int×Int)} {us:List V} (hq:Prs K H qs us):∀ {ps:List (Int×Int)} {vs:List V},Prs K H ps vs→Prs K H (ps ++ qs) (vs ++ us)
 | [],vs,h=>by
   simp only [Prs,List.map_nil,Dens] at h
   subst h
   exact hq
 | q :: ps,vs,h=>by
   obtain ⟨b,r,rfl,h1,hr⟩:=prs_uncons h
   exact prs_cons h1 (Prs.append hq hr)
theorem Prs.len {K:PySem.W.Frag} {H:Hp} {ps:List (Int×Int)} {vs:List V} (h:Prs K H ps vs):vs.length=ps.length:=by
 have:=Dens.length h
 rw [List.length_map] at this
 exact this
theorem Prs.get {K:PySem.W.Frag} {H:Hp} {ps:List (Int×Int)} {vs:List V} (h:Prs K H ps vs) {i:Nat} {v:V} (hv:vs[i]?=some v):∃ a p,ps[i]?=some p∧v=.ref a∧SqT K H a [.int p.1,.int p.2]:=by
 have hi:i<ps.length:=by rw [← h.len];exact (List.getElem?_eq_some_iff.mp hv).1
 obtain ⟨a,e,q⟩:=prs_at h hi
 have e1:vs.getD i .non=v:=by rw [List.getD_eq_getElem?_getD,hv];rfl
 have e2:ps.getD i (0,0)=ps[i]:=by simp [hi]
 rw [e1] at e
 rw [e2] at q
 exact ⟨a,ps[i],by simp [hi],e,q⟩
theorem eqDs_prs:∀ ps qs:List (Int×Int),eqDs (ps.map dtP) (qs.map dtP)=decide (ps=qs)
 | [],[]=>rfl
 | [],_ :: _=>rfl
 | _ :: _,[]=>rfl
 | p :: ps,q :: qs=>by
   have e:eqD (dtP p) (dtP q)=decide (p=q):=by
    simp only [dtP,eqD]
    exact eqDs2 p.1 p.2 q.1 q.2
   simp only [List.map_cons,eqDs,e,eqDs_prs ps qs]
   by_cases h:p=q <;> simp [h]
noncomputable def rCatS:R2:=fun x y H Q=>∃ l b xs zs,x=.ref l∧y=.ref b∧H l=some (.lst xs)∧H b=some (.lst zs)∧xs.length+zs.length≤sizeLine∧∀ (p:Addr) (H':Hp),Same H H'→H p=none→H' p=some (.lst (xs ++ zs))→Q (.ref p) H'
noncomputable def rRepS:R2:=fun x y H Q=>∃ l k xs,x=.ref l∧y=.int k∧H l=some (.lst xs)∧-(2 ^ 63)≤k∧k<2 ^ 63∧xs.length * k.toNat≤sizeLine ∧
 ∀ (p:Addr) (H':Hp),Same H H'→H p=none→H' p=some (.lst (List.replicate k.toNat xs).flatten)→Q (.ref p) H'
noncomputable def rSortPS (K:PySem.W.Frag):List V→Hp→VK→Prop:=fun xs H Q=>∃ (l:Addr) (vs:List V) (ps:List (Int×Int)),xs=[.ref l]∧SqL K H l vs∧Prs K H ps vs∧ps.length<64∧∀ (us:List V) (ms:List (Int×Int)) (D:Addr) (H':Hp),ms.Perm ps→ms.Pairwise lexR→Prs K H' ms us→Same H H'→H D=none→H' D=some (.lst us)→Q (.ref D) H'
noncomputable def rTupOf (K:PySem.W.Frag):List V→Hp→VK→Prop:=fun xs H Q=>∃ (p:Addr) (ys:List V),xs=[.ref p]∧SqL K H p ys∧∀ (t:Addr) (H':Hp),Same H H'→H t=none→H' t=some (.tup ys)→Q (.ref t) H'
section
variable {X:Cx}
theorem op_catS:OpR X (binaryOp .Add) rCatS:=fun pins s σ H x y v u Q I rx ry ⟨l,b,xs,zs,e1,e2,h1,h2,h3,q⟩=>op_cat pins s σ H x y v u Q I rx ry ⟨l,b,xs,zs,e1,e2,h1,h2,h3,newS q⟩
theorem op_repS:OpR X (binaryOp .Mult) rRepS:=fun pins s σ H x y v u Q I rx ry ⟨l,k,xs,e1,e2,h1,h2,h3,h4,q⟩=>op_rep pins s σ H x y v u Q I rx ry ⟨l,k,xs,e1,e2,h1,h2,h3,h4,newS q⟩
theorem call_sortedPS:CallR X (.builtin "sorted") (rSortPS X.K):=fun pins s σ H xs us Q I r ⟨l,vs,ps,e,h1,h2,h3,q⟩=>call_sortedP pins s σ H xs us Q I r ⟨l,vs,ps,e,h1,h2,h3,fun us ms D a b c hD=>q us ms D _ a b (c.kl (Same.new hD).kl) (Same.new hD) hD upd_same⟩
theorem call_tupOf:CallR X (.type "tuple") (rTupOf X.K):=fun pins s σ H xs us Q I r ⟨p,ys,e,h1,q⟩=>call_tuple_of pins s σ H xs us Q I r ⟨p,ys,e,.inl ⟨h1,newS q⟩⟩
end
end L2

namespace Pw
noncomputable def outs (ps:List (Int×Int)) (page:Int):List Int:=(ps.filter fun p=>decide (p.1=page)).map (·.2)
theorem outs_snoc (ps:List (Int×Int)) (p:Int×Int) (page:Int):outs (ps ++ [p]) page=outs ps page ++ (if p.1=page then [p.2] else []):=by
 unfold outs
 rw [List.filter_append,List.map_append]
 by_cases h:p.1=page <;> simp [h]
theorem outs_len (ps:List (Int×Int)) (page:Int):(outs ps page).length≤ps.length:=by
 unfold outs
 rw [List.length_map]
 exact List.length_filter_le ..
structure WebOk (pages:Int) (ps:List (Int×Int)):Prop where
 lo:1≤pages
 hi:pages≤12
 few:ps.length≤60
 up:ps.Pairwise L2.lexR
 lk:∀ p∈ps,0≤p.1∧p.1<pages∧0≤p.2∧p.2<pages
end Pw
namespace L2
open PySem PySem.Spec PyProof.Rows PySem.W
noncomputable def WebAt (K:PySem.W.Frag) (H:Hp) (w:Addr) (pages:Int) (ps:List (Int×Int)):Prop:=∃ (ws:Addr) (us:List V),H w=some (.tup [.int pages,.ref ws])∧H ws=some (.tup us)∧Prs K H ps us
theorem WebAt.kl {K:PySem.W.Frag} {H H':Hp} {w:Addr} {pages:Int} {ps:List (Int×Int)} (h:WebAt K H w pages ps) (k:KL H H'):WebAt K H' w pages ps:=by
 obtain ⟨ws,us,a,b,c⟩:=h
 exact ⟨ws,us,k.tup a,k.tup b,c.kl k⟩
theorem WebAt.same {K:PySem.W.Frag} {H H':Hp} {w:Addr} {pages:Int} {ps:List (Int×Int)} (h:WebAt K H w pages ps) (k:Same H H'):WebAt K H' w pages ps:=h.kl k.kl
noncomputable def spLinks (K:PySem.W.Frag) (f:List (Int×Int)→Int→List Int):Sp:=fun vs H Q _=>∃ (w:Addr) (pages page:Int) (ps:List (Int×Int)),vs=[.ref w,.int page]∧WebAt K H w pages ps∧ps.length≤100 ∧
 ∀ (p:Addr) (H':Hp),Same H H'→H p=none→H' p=some (.lst ((f ps page).map V.int))→Q (.ref p) H'
end L2

namespace L2
open PySem PySem.Spec PyProof.Rows PySem.W
section
variable {X:Cx}
end
end L2

namespace Pw
theorem mk_pos {a b:Int} (hb:0<b) (ha:0<a):0<(mk a b).1:=by
 obtain ⟨⟨c1,_⟩,w⟩:=mk_spec (a:=a) (b:=b) (by omega)
 have h:0<(mk a b).1 * b:=by rw [w];exact Int.mul_pos ha c1
 exact Int.pos_of_mul_pos_left h hb
theorem mk_nonneg {a b:Int} (hb:0<b) (ha:0≤a):0≤(mk a b).1:=by
 obtain ⟨⟨c1,_⟩,w⟩:=mk_spec (a:=a) (b:=b) (by omega)
 have h:0≤(mk a b).1 * b:=by rw [w];exact Int.mul_nonneg ha (by omega)
 exact Int.nonneg_of_mul_nonneg_left h hb
theorem mk_le1 {a b:Int} (hb:0<b) (ha:a≤b):(mk a b).1≤(mk a b).2:=by
 obtain ⟨⟨c1,_⟩,w⟩:=mk_spec (a:=a) (b:=b) (by omega)
 have h:(mk a b).1 * b≤(mk a b).2 * b:=by
  rw [w,Int.mul_comm (mk a b).2 b]
  exact Int.mul_le_mul_of_nonneg_right ha (by omega)
 exact Int.le_of_mul_le_mul_right h hb
theorem sum_nn:∀ {l:List Int},(∀ n∈l,0≤n)→0≤l.sum
 | [],_=>by simp
 | a :: l,h=>by
   have:=sum_nn fun n hn=>h n (List.mem_cons_of_mem _ hn)
   have:=h a List.mem_cons_self
   rw [List.sum_cons];omega
theorem sum_pos:∀ {l:List Int} {m:Int},(∀ n∈l,0≤n)→m∈l→0<m→0<l.sum
 | a :: l,m,h,hm,p=>by
   have h1:=sum_nn fun n hn=>h n (List.mem_cons_of_mem _ hn)
   have h2:=h a List.mem_cons_self
   rw [List.sum_cons]
   rcases List.mem_cons.mp hm with rfl | hm
   · omega
   · have:=sum_pos (fun n hn=>h n (List.mem_cons_of_mem _ hn)) hm p
     omega
theorem sum_le {B:Int}:∀ {l:List Int},(∀ n∈l,n≤B)→l.sum≤l.length * B
 | [],_=>by simp
 | a :: l,h=>by
   have h1:=sum_le fun n hn=>h n (List.mem_cons_of_mem _ hn)
   have h2:=h a List.mem_cons_self
   rw [List.sum_cons,List.length_cons,Int.natCast_add,Int.add_mul]
   omega
end Pw
namespace L2
open PySem PySem.Spec PyProof.Rows
noncomputable def FrL (K:PySem.W.Frag) (H:Hp):List (Int×Int)→List V→Prop
 | [],vs=>vs=[]
 | A :: As,vs=>∃ p r,vs=.ref p :: r∧FrA K H p A∧FrL K H As r
noncomputable def tupD (A:Int×Int):Dt:=.tup [.int A.1,.int A.2]
theorem FrL.same {K:PySem.W.Frag} {H H':Hp} (s:Same H H'):∀ {As:List (Int×Int)} {vs:List V},FrL K H As vs→FrL K H' As vs
 | [],_,h=>h
 | _ :: _,_,⟨p,r,e,f,h⟩=>⟨p,r,e,s _ _ f,FrL.same s h⟩
theorem FrL.snoc {K:PySem.W.Frag} {H:Hp} {p:Addr} {A:Int×Int} (f:FrA K H p A):∀ {As:List (Int×Int)} {vs:List V},FrL K H As vs→FrL K H (As ++ [A]) (vs ++ [.ref p])
 | [],_,h=>by
   have h:_=([]:List V):=h
   subst h
   exact ⟨p,[],rfl,f,rfl⟩
 | _ :: _,_,⟨q,r,e,g,h⟩=>⟨q,r ++ [.ref p],by rw [e];rfl,g,FrL.snoc f h⟩
theorem FrL.dens {K:PySem.W.Frag} {H:Hp}:∀ {As:List (Int×Int)} {vs:List V},FrL K H As vs→Dens K H (As.map tupD) vs
 | [],_,h=>by simp only [List.map_nil,Dens];exact h
 | A :: As,_,⟨p,r,e,f,h⟩=>by
   simp only [List.map_cons,Dens]
   refine ⟨.ref p,r,e,?_,FrL.dens h⟩
   unfold tupD
   simp only [Den]
   exact ⟨p,_,rfl,SqT.of f,dens2 K H A.1 A.2⟩
theorem FrL.dep:∀ As:List (Int×Int),depDs (As.map tupD)≤20
 | []=>by simp only [List.map_nil,depDs];decide
 | A :: As=>by
   have:=FrL.dep As
   simp only [List.map_cons,depDs,tupD,depD]
   omega
theorem FrL.len {K:PySem.W.Frag} {H:Hp}:∀ {As:List (Int×Int)} {vs:List V},FrL K H As vs→vs.length=As.length
 | [],_,h=>by
   have h:_=([]:List V):=h
   subst h;rfl
 | _ :: _,_,⟨p,r,e,f,h⟩=>by rw [e];simp [FrL.len h]
theorem FrL.kp {K:PySem.W.Frag} {H H':Hp} (k:KL H H'):∀ {As:List (Int×Int)} {vs:List V},FrL K H As vs→FrL K H' As vs
 | [],_,h=>h
 | _ :: _,_,⟨p,r,e,f,h⟩=>⟨p,r,e,k.tup f,FrL.kp k h⟩
theorem FrL.at {K:PySem.W.Frag} {H:Hp} {As:List (Int×Int)} {vs:List V} (h:FrL K H As vs) {j:Nat} {A:Int×Int} (e:As[j]?=some A):∃ p,vs[j]?=some (.ref p)∧FrA K H p A:=by
 induction As generalizing vs j with
 | nil=>simp at e
 | cons B As ih =>
   obtain ⟨p,r,rfl,f,h⟩:=h
   cases j with
   | zero=>simp at e;subst e;exact ⟨p,by simp,f⟩
   | succ j =>
     obtain ⟨q,a,b⟩:=ih h (j:=j) (by simpa using e)
     exact ⟨q,by simpa using a,b⟩
structure Wts (pages:Int) (ws:List Int):Prop where
 len:(ws.length:Int)=pages
 nn:∀ w∈ws,0≤w∧w<2 ^ 37
 pos:0<ws.sum
noncomputable def lps (ws:List Int):List (Int×Int):=ws.map fun w=>Pw.mk w ws.sum
section
variable {X:Cx}
theorem call_sumK {K:PySem.W.Frag} (e:X.K=K) (hc:X.calm=true):CallR X (.builtin "sum") (rSum K):=e ▸ call_sum hc
theorem pa_consX {e:Expr} {es:List Expr} {te:TE} {t:TA} (hs:starEach (e :: es) X.env=(false,eval e X.env) :: starEach es X.env) (h1:PE X e te) (h2:PA X es t):PA X (e :: es) (tCons te t):=pa_cons h1 h2 hs
theorem ps_setX {pos:Pos} {i:Nat} {x:Str} {e:Expr} {te:TE} {pos':Pos} (hs:swapsWith e (some (.Name x pos')) pos.line X.env=pure false) (hf:X.fn x=true∨X.env.scope.names.lookup x=some .local) (hN:X.N.Nodup) (hi:X.N[i]?=some x) (hx:Loc X.env.scope x) (he:PE X e te) :
 PS X (.Assign [.Name x pos'] e pos) (tAsg te (gName i)):=ps_set hN hi hx he hs hf
end
end L2

namespace L2
open PySem PySem.Spec PyProof.Rows PySem.W
noncomputable def rNil (K:PySem.W.Frag) (neg:Bool):R2:=fun x y H Q=>∃ a b xs,x=.ref a∧y=.ref b∧((SqT K H a xs∧SqT K H b [])∨(SqL K H a xs∧SqL K H b []))∧Q (.bl (if neg then !xs.isEmpty else xs.isEmpty)) H
section
variable {X:Cx} {pins:List (Addr×Obj)} {σ:St} {H:Hp} {s:Shared}
theorem rc_nilT {A:Around} {a b:Addr} {xs:List V} (I:Inv X pins σ H s) (hu:A.units<cLine) (ha:SqT X.K H a xs) (hb:SqT X.K H b []) :
 SeqAt.RcAt A s (.ref a) (.ref b) xs.isEmpty∧SeqAt.RcNeAt A s (.ref a) (.ref b) (!xs.isEmpty):=by
 obtain ⟨its,r1,p1,_⟩:=I.tuple ha
 obtain ⟨its2,r2,p2,_⟩:=I.tuple hb
 cases r2
 have l3:=r1.length
 have q:=SeqAt.RcAt.tuples (A:=A) (s:=s) (e:=fun _=>true) p1 p2 hu (fun j h1 h2=>absurd h2 (Nat.not_lt_zero j))
 have q2:=SeqAt.RcNeAt.tuples (A:=A) (s:=s) (e:=fun _=>true) p1 p2 hu (fun j h1 h2=>absurd h2 (Nat.not_lt_zero j))
 have e:((List.range (min its.toArray.size ([]:List Value).toArray.size)).all (fun _=>true) && its.toArray.size == ([]:List Value).toArray.size)=xs.isEmpty:=by
  cases xs <;> cases its <;> simp at l3 ⊢
 rw [e] at q q2
 exact ⟨q,q2⟩
theorem rc_nilL {A:Around} {a b:Addr} {xs:List V} (I:Inv X pins σ H s) (hu:A.units<cLine) (ha:SqL X.K H a xs) (hb:SqL X.K H b []) :
 SeqAt.RcAt A s (.ref a) (.ref b) xs.isEmpty∧SeqAt.RcNeAt A s (.ref a) (.ref b) (!xs.isEmpty):=by
 obtain ⟨its,r1,p1,_⟩:=I.list ha
 obtain ⟨its2,r2,p2,_⟩:=I.list hb
 cases r2
 have l3:=r1.length
 cases xs with
 | nil =>
   cases r1
   exact ⟨SeqAt.RcAt.lists (A:=A) (s:=s) (e:=fun _=>true) p1.isList p2.isList rfl hu (fun j h1 h2=>absurd h2 (Nat.not_lt_zero j)),SeqAt.RcNeAt.lists (A:=A) (s:=s) (e:=fun _=>true) p1.isList p2.isList rfl hu (fun j h1 h2=>absurd h2 (Nat.not_lt_zero j))⟩
 | cons x xs =>
   have hsz:(its.toArray.size != ([]:List Value).toArray.size)=true:=by
    cases its <;> simp at l3 ⊢
   exact ⟨SeqAt.RcAt.lists_lengths p1.isList p2.isList hsz hu,SeqAt.RcNeAt.lists_lengths p1.isList p2.isList hsz hu⟩
end
section
variable {X:Cx}
theorem op_eqNil {k:Nat} (hr:Room k X.A):OpR X (compareOp .Eq) (rNil X.K false):=by
 intro pins s σ H x y v u Q I rx ry h
 obtain ⟨a,b,xs,rfl,rfl,hk,q⟩:=h
 cases rx
 cases ry
 have hu:=hr.units
 rcases hk with ⟨ha,hb⟩ | ⟨ha,hb⟩
 · exact (rc_nilT (A:=X.A) I (by omega) ha hb).1 _ _ _ _ ⟨.bl _,H,I,rfl,q⟩
 · exact (rc_nilL (A:=X.A) I (by omega) ha hb).1 _ _ _ _ ⟨.bl _,H,I,rfl,q⟩
theorem op_neNil {k:Nat} (hr:Room k X.A):OpR X (compareOp .NotEq) (rNil X.K true):=by
 intro pins s σ H x y v u Q I rx ry h
 obtain ⟨a,b,xs,rfl,rfl,hk,q⟩:=h
 cases rx
 cases ry
 have hu:=hr.units
 rcases hk with ⟨ha,hb⟩ | ⟨ha,hb⟩
 · exact (rc_nilT (A:=X.A) I (by omega) ha hb).2 _ _ _ _ ⟨.bl _,H,I,rfl,q⟩
 · exact (rc_nilL (A:=X.A) I (by omega) ha hb).2 _ _ _ _ ⟨.bl _,H,I,rfl,q⟩
end
inductive El where
 | int (z:Int) | bl | oth
inductive Fc where
 | nt | tup (es:List El)
end L2

namespace HT
open PySem PyProof.Rows
section
variable {prog:Program} {w:World} {A:Around} {E:Value→Shared→Prop} {s:Shared}
theorem cat_tup0 {t b:Addr} {ws:List Value} {Q:Value→Shared→Prop} (ht:IsTup s.heap t ([]:List Value).toArray) (hb:IsTup s.heap b ws.toArray) (h:Q (.ref b) s):wpAny (model prog w) A (binaryOp .Add (.ref t) (.ref b)) Q E s:=by
 obtain ⟨⟨cls,dd,data,sl⟩,ho,hc,n,hd⟩:=id ht
 obtain ⟨⟨cls2,dd2,data2,sl2⟩,ho2,hc2,n2,hd2⟩:=id hb
 simp only at hc hd hc2 hd2
 subst hc hd hc2 hd2
 exact concat_meets ⟨_,ho,rfl⟩ ⟨_,ho2,rfl⟩ noFill_tuple_add seq_tuple_add PySem.F.slot_tuple_add PySem.F.entry_tuple_add (PySem.F.args_tuple_add_2 _ _)
  (tuple_addW0 t b _ ws.toArray n n2 dd dd2 sl sl2 rfl) ⟨ho,ho2,h⟩
end
end HT
namespace L2
open PySem PySem.Spec PyProof.Rows PySem.W
section
variable {X:Cx}
noncomputable def rCatTS:R2:=fun x y H Q=>∃ a b xs ys,x=.ref a∧y=.ref b∧H a=some (.tup xs)∧H b=some (.tup ys)∧xs.length+ys.length≤sizeLine∧∀ (p:Addr) (H':Hp),Same H H'→H' p=some (.tup (xs ++ ys))→Q (.ref p) H'
theorem op_catTS:OpR X (binaryOp .Add) rCatTS:=by
 intro pins s σ H x y v u Q I rx ry h
 obtain ⟨a,b,xs,ys,rfl,rfl,ha,hb,hz,q⟩:=h
 cases hx:xs with
 | nil =>
   subst hx
   cases rx
   cases ry
   obtain ⟨_,its,r1,p1⟩:([]:List V).length≤sizeLine∧∃ its:List Value,Vals [] its∧IsTupN s.heap a its.toArray:=I.hok a _ ha
   obtain ⟨_,its2,r2,p2⟩:ys.length≤sizeLine∧∃ its:List Value,Vals ys its∧IsTupN s.heap b its.toArray:=I.hok b _ hb
   cases r1
   exact HT.cat_tup0 p1.tup p2.tup ⟨.ref b,H,I,rfl,q b H (Same.refl _) hb⟩
 | cons z zs =>
   refine op_catT pins s σ H _ _ v u Q I rx ry ⟨a,b,xs,ys,rfl,rfl,SqT.of ha,SqT.of hb,by rw [hx];simp,hz,fun e=>?_,fun _ p hp=>q p _ (Same.new hp) upd_same⟩
   subst e
   exact q a H (Same.refl _) (by rw [List.append_nil];exact ha)
end
end L2

namespace L2
open PySem PySem.Spec PyProof.Rows

section
variable {κ:Type} [DecidableEq κ]
noncomputable def valV (kvs:List (κ×V)) (k:κ):Option V:=(kvs.find? fun kv=>decide (kv.1=k)).map (·.2)
noncomputable def putK (kvs:List (κ×V)) (k:κ) (v:V):List (κ×V) :=
 if (kvs.any fun kv=>decide (kv.1=k))=true then kvs.map (fun kv=>if kv.1=k then (kv.1,v) else kv) else kvs ++ [(k,v)]
theorem valV_nil {k:κ}:valV ([]:List (κ×V)) k=none:=rfl
theorem valV_pos {p:κ×V} {r:List (κ×V)} {k:κ} (e:p.1=k):valV (p :: r) k=some p.2:=by simp [valV,List.find?_cons,e]
theorem valV_neg {p:κ×V} {r:List (κ×V)} {k:κ} (e:¬ p.1=k):valV (p :: r) k=valV r k:=by simp [valV,List.find?_cons,e]
theorem valV_any (k:κ):∀ kvs:List (κ×V),(kvs.any fun kv=>decide (kv.1=k))=(valV kvs k).isSome
 | []=>rfl
 | p :: r=>by
   rw [List.any_cons]
   by_cases e:p.1=k
   · simp only [valV_pos e,decide_eq_true e,Bool.true_or,Option.isSome_some]
   · rw [valV_neg e,decide_eq_false e,Bool.false_or];exact valV_any k r
theorem valV_map (k j:κ) (y:V):∀ kvs:List (κ×V),valV (kvs.map fun kv=>if kv.1=k then (kv.1,y) else kv) j=(valV kvs j).map fun x=>if j=k then y else x
 | []=>rfl
 | p :: r=>by
   have ih:=valV_map k j y r
   rw [List.map_cons]
   by_cases h:p.1=k
   · rw [if_pos h]
     by_cases e:p.1=j
     · rw [valV_pos (p:=(p.1,y)) e,valV_pos e,Option.map_some,if_pos (e.symm.trans h)]
     · rw [valV_neg (p:=(p.1,y)) e,valV_neg e,ih]
   · rw [if_neg h]
     by_cases e:p.1=j
     · rw [valV_pos (p:=p) e,valV_pos e,Option.map_some,if_neg (fun z=>h (e.trans z))]
     · rw [valV_neg (p:=p) e,valV_neg e,ih]
theorem valV_snoc (k j:κ) (y:V):∀ kvs:List (κ×V),valV kvs k=none→valV (kvs ++ [(k,y)]) j=if j=k then some y else valV kvs j
 | [],_=>by
   by_cases e:k=j
   · rw [if_pos e.symm];exact valV_pos (p:=(k,y)) e
   · rw [if_neg (fun z=>e z.symm)];exact valV_neg (p:=(k,y)) e
 | p :: r,hn=>by
   rw [List.cons_append]
   have hk:¬ p.1=k:=fun z=>by rw [valV_pos z] at hn;cases hn
   rw [valV_neg hk] at hn
   have ih:=valV_snoc k j y r hn
   by_cases e:p.1=j
   · rw [valV_pos e,valV_pos e,if_neg (fun z=>hk (e.trans z))]
   · rw [valV_neg e,valV_neg e,ih]
theorem valV_put (kvs:List (κ×V)) (k j:κ) (y:V):valV (putK kvs k y) j=if j=k then some y else valV kvs j:=by
 unfold putK
 by_cases a:(kvs.any fun kv=>decide (kv.1=k))=true
 · rw [if_pos a,valV_map]
   rw [valV_any] at a
   by_cases e:j=k
   · obtain ⟨x,hx⟩:=Option.isSome_iff_exists.mp a
     rw [if_pos e,e,hx,Option.map_some,if_pos rfl]
   · rw [if_neg e]
     cases valV kvs j with
     | none=>rfl
     | some x=>rw [Option.map_some,if_neg e]
 · rw [if_neg a]
   refine valV_snoc k j y kvs ?_
   rw [valV_any] at a
   cases q:valV kvs k with
   | none=>rfl
   | some x=>rw [q] at a;exact (a rfl).elim
theorem length_putK (kvs:List (κ×V)) (k:κ) (v:V):(putK kvs k v).length≤kvs.length+1:=by
 unfold putK
 split
 · rw [List.length_map];omega
 · rw [List.length_append,List.length_cons,List.length_nil];omega
theorem RelO.isSome_eq {o:Option V} {u:Option Value} (r:RelO o u):o.isSome=u.isSome:=by
 cases o with
 | none=>cases u with
   | none=>rfl
   | some _=>exact (show False from r).elim
 | some _=>cases u with
   | none=>exact (show False from r).elim
   | some _=>rfl
theorem KV.val {kvs:List (κ×V)} {vs:List (κ×Value)} (r:KV kvs vs) (k:κ):RelO (valV kvs k) (valueAt vs k):=by
 unfold KV at r
 induction r with
 | nil=>exact True.intro
 | @cons p q ps qs h t ih =>
   obtain ⟨h1,h2⟩:=h
   by_cases e:p.1=k
   · have e':q.1=k:=h1.symm.trans e
     have b:valueAt (q :: qs) k=some q.2:=by simp [valueAt,List.find?_cons,e']
     rw [valV_pos e,b];exact h2
   · have e':¬ q.1=k:=fun z=>e (h1.trans z)
     have b:valueAt (q :: qs) k=valueAt qs k:=by simp [valueAt,List.find?_cons,e']
     rw [valV_neg e,b];exact ih
theorem KV.any {kvs:List (κ×V)} {vs:List (κ×Value)} (r:KV kvs vs) (k:κ):(kvs.any fun kv=>decide (kv.1=k))=vs.any fun kv=>decide (kv.1=k):=by
 unfold KV at r
 induction r with
 | nil=>rfl
 | cons h t ih=>rw [List.any_cons,List.any_cons,ih,h.1]
theorem KV.repl {kvs:List (κ×V)} {vs:List (κ×Value)} (r:KV kvs vs) (k:κ) {y:V} {u:Value} (ry:RelV y u) :
 KV (kvs.map fun kv=>if kv.1=k then (kv.1,y) else kv) (vs.map fun kv=>if kv.1=k then (kv.1,u) else kv):=by
 unfold KV at r ⊢
 induction r with
 | nil=>exact .nil
 | @cons p q ps qs h t ih =>
   rw [List.map_cons,List.map_cons]
   refine .cons ?_ ih
   obtain ⟨h1,h2⟩:=h
   by_cases e:p.1=k
   · rw [if_pos e,if_pos (h1.symm.trans e)];exact ⟨h1,ry⟩
   · rw [if_neg e,if_neg (fun z=>e (h1.trans z))];exact ⟨h1,h2⟩
theorem KV.put {kvs:List (κ×V)} {vs:List (κ×Value)} (r:KV kvs vs) (k:κ) {y:V} {u:Value} (ry:RelV y u):KV (putK kvs k y) (stored vs k u):=by
 unfold putK stored
 rw [r.any k]
 by_cases e:(vs.any fun kv=>decide (kv.1=k))=true
 · rw [if_pos e,if_pos e];exact r.repl k ry
 · rw [if_neg e,if_neg e];exact Paired.snoc r ⟨rfl,ry⟩
end


theorem kV_is {P:Program} {w:World} {k:Key} {u:Value} (r:RelV (kV k) u):(mixKind P w).is k u=true:=by
 cases k with
 | inl i=>obtain ⟨t,e⟩:=(show ∃ t,u=Value.int i t from r);subst e;exact mixKind_int P w i t
 | inr x=>obtain ⟨t,e⟩:=(show ∃ t,u=Value.str x t from r);subst e;exact mixKind_str P w x t
theorem items_are {P:Program} {w:World}:∀ {ks:List Key} {us:List Value},Vals (ks.map kV) us→ItemsAre (mixKind P w) ks us
 | [],_,r=>by rw [List.map_nil] at r;cases r;exact .nil
 | k :: ks,_,r=>by
   rw [List.map_cons] at r
   cases r with
   | cons h t=>exact .cons (kV_is h) (items_are t)

noncomputable abbrev KT (H:Hp):List (List Key×V)→List (List Key×Addr×Value)→Prop:=Paired fun p q=>p.1=q.1∧H q.2.1=some (.tup (p.1.map kV))∧RelV p.2 q.2.2
theorem KT.val {H:Hp} {kvs:List (List Key×V)} {xs:List (List Key×Addr×Value)} (r:KT H kvs xs) (k:List Key):RelO (valV kvs k) ((atKey xs k).map (·.2)):=by
 induction r with
 | nil=>exact True.intro
 | @cons p q ps qs h t ih =>
   obtain ⟨h1,_,h2⟩:=h
   by_cases e:p.1=k
   · have e':q.1=k:=h1.symm.trans e
     have b:atKey (q :: qs) k=some q.2:=by simp [atKey,List.find?_cons,e']
     rw [valV_pos e,b];exact h2
   · have e':¬ q.1=k:=fun z=>e (h1.trans z)
     have b:atKey (q :: qs) k=atKey qs k:=by simp [atKey,List.find?_cons,e']
     rw [valV_neg e,b];exact ih
section
variable {P:Program} {w:World} {H:Hp} {h:Heap} {a:Addr}
theorem rd_of {u:HO} (ok:HOk P w H h) (e:Rd H a u):ObjOk P w H h a u:=e.ok ok
theorem dk_rd {kvs:List (Key×V)} (ok:HOk P w H h) (e:Rd H a (.dK kvs)):kvs.length≤sizeLine∧(a == sysModules)=false∧∃ vs,KV kvs vs∧h.DictOf (mixKind P w) a vs :=
 show ObjOk P w H h a (.dK kvs) from rd_of ok e
theorem dk_of {kvs:List (Key×V)} (ok:HOk P w H h) (e:H a=some (.dK kvs)):kvs.length≤sizeLine∧(a == sysModules)=false∧∃ vs,KV kvs vs∧h.DictOf (mixKind P w) a vs:=dk_rd ok (.inl e)
theorem key_of {ks:List Key} (ok:HOk P w H h) (e:H a=some (.tup (ks.map kV))):(tupleKind (mixKind P w)).is h ks a:=by
 obtain ⟨_,its,r,o,h1,h2,n,h3⟩:=(show ObjOk P w H h a (.tup (ks.map kV)) from ok a _ e)
 exact ⟨o,its.toArray,n,h1,congrArg Prod.fst h2,h3,by simpa using items_are r⟩
theorem dt_rd {kvs:List (List Key×V)} (ok:HOk P w H h) (e:Rd H a (.dT kvs)):kvs.length≤sizeLine∧(a == sysModules)=false ∧
 ∃ xs,KT H kvs xs∧h.DictOfH (tupleKind (mixKind P w)) a xs:=by
 obtain ⟨z,y,xs,r,o,es,ep,h1,h2,h3,h4,h5⟩:=(show ObjOk P w H h a (.dT kvs) from rd_of ok e)
 refine ⟨z,y,xs,r,o,es,ep,h1,h2,h3,h4,fun x hx=>?_,h5⟩
 have all:∀ {l:List (List Key×V)} {m:List (List Key×Addr×Value)},KT H l m→∀ x∈m,(tupleKind (mixKind P w)).is h x.1 x.2.1:=by
  intro l m q
  induction q with
  | nil=>intro x hx;exact nomatch hx
  | @cons p q ps qs hq t ih =>
    intro x hx
    rcases List.mem_cons.mp hx with e | hx
    · subst e
      exact key_of ok (by rw [← hq.1];exact hq.2.1)
    · exact ih x hx
 exact all r x hx
end

noncomputable def DGet (H:Hp) (a:Addr) (y:V) (r:Option V):Prop :=
 (∃ kvs k,Rd H a (.dK kvs)∧y=kV k∧r=valV kvs k)∨∃ kvs k b,Rd H a (.dT kvs)∧y=.ref b∧H b=some (.tup (k.map kV))∧r=valV kvs k
theorem DGet.k {H:Hp} {a:Addr} {kvs:List (Key×V)} {k:Key} (e:H a=some (.dK kvs)):DGet H a (kV k) (valV kvs k):=.inl ⟨kvs,k,.inl e,rfl,rfl⟩
section
variable {X:Cx} {pins:List (Addr×Obj)} {σ:St} {H:Hp} {s:Shared} {a:Addr} {y v:V} {u r:Value} {o:Option V} {A:Around} {E:Value→Shared→Prop}

theorem Inv.big (I:Inv X pins σ H s):sysModules<s.heap.objs.size:=by
 have h:mainGlobals<s.heap.objs.size:=(I.mod.glob.keeps I.bk).lt
 exact Nat.lt_trans (by decide) h

theorem d_getItem {Q:Value→Shared→Prop} (hu:A.units+1<cLine) (I:Inv X pins σ H s) (g:DGet H a y (some v)) (ry:RelV y u) (h:∀ w' s',Inv X pins σ H s'→RelV v w'→Q w' s') :
 wpAny (model X.prog X.w) A (getItem (.ref a) u) Q E s:=by
 rcases g with ⟨kvs,k,e,ey,l⟩ | ⟨kvs,k,b,e,ey,eb,l⟩
 · subst ey
   obtain ⟨z,hd,vs,rel,dd⟩:=dk_rd I.hok e
   obtain ⟨w',hw,rw'⟩:=RelO.some_of (v:=v) (o:=valueAt vs k) (by rw [l];exact rel.val k)
   exact wpAny_getItem_of (kV_is ry) dd.mapOf hw (h w' _ (I.tok _) rw')
 · subst ey
   cases (show u=Value.ref b from ry)
   obtain ⟨z,hd,xs,rel,dd⟩:=dt_rd I.hok e
   obtain ⟨w',hw,rw'⟩:=RelO.some_of (v:=v) (o:=(atKey xs k).map (·.2)) (by rw [l];exact rel.val k)
   obtain ⟨p,hp,hp2⟩:=Option.map_eq_some_iff.mp hw
   refine wpAny_getItem_heap (tupleKind_room_in1 hu) (key_of I.hok eb) dd hp ?_
   rw [hp2]
   exact h w' _ (I.tok _) rw'
theorem d_in {Q:Value→Shared→Prop} (hu:A.units+1<cLine) (I:Inv X pins σ H s) (g:DGet H a y o) (ry:RelV y u) (h:∀ s',Inv X pins σ H s'→Q (.bool o.isSome) s') :
 wpAny (model X.prog X.w) A (compareOp .In u (.ref a)) Q E s:=by
 rcases g with ⟨kvs,k,e,ey,l⟩ | ⟨kvs,k,b,e,ey,eb,l⟩
 · subst ey
   obtain ⟨z,hd,vs,rel,dd⟩:=dk_rd I.hok e
   refine wpAny_in_of (kV_is ry) hd dd.mapOf ?_
   rw [← (rel.val k).isSome_eq,← l]
   exact h _ (I.tok _)
 · subst ey
   cases (show u=Value.ref b from ry)
   obtain ⟨z,hd,xs,rel,dd⟩:=dt_rd I.hok e
   refine wpAny_in_heap (tupleKind_room_in1 hu) (key_of I.hok eb) hd dd ?_
   have q:=(rel.val k).isSome_eq
   rw [Option.isSome_map] at q
   rw [← q,← l]
   exact h _ (I.tok _)
theorem d_write {h':Heap} {t':Nat} {ob:HO} (I:Inv X pins σ H s) (mu:Mut (H a)) (hs:Heap.SameBut a s.heap h') (he:∃ q,h'.get? a=some q) (new:ObjOk X.prog X.w (upd H a ob) h' a ob) :
 Inv X pins σ (upd H a ob) { s with heap:=h',toks:=t' } :=
 I.write (x:=a) (e:=a) mu (.inl rfl) (fun b q hb z=>(hs.2 b hb).trans z) he new
theorem dk_new {P:Program} {w:World} {H':Hp} {h':Heap} {kvs:List (Key×V)} {vs:List (Key×Value)} (z:kvs.length≤sizeLine) (hd:(a == sysModules)=false) (rel:KV kvs vs) (dd:h'.DictOf (mixKind P w) a vs) :
 ObjOk P w H' h' a (.dK kvs):=⟨z,hd,vs,rel,dd⟩
end

section
variable {X:Cx} {pins:List (Addr×Obj)} {σ:St} {H:Hp} {s:Shared} {a:Addr} {kvs:List (Key×V)} {k:Key} {u:Value} {A:Around} {E:Value→Shared→Prop}
end


noncomputable def NoSl (i:Expr):Prop:=∀ ov iv,subscripted i false ov iv=operate [ov,iv] (getItem ov iv)
theorem subD_of {prog:Program} {w:World} {A:Around} {E:Value→Shared→Prop} {s:Shared} {env:Env} {value slice:Expr} {pos:Pos} {T id:String} {Q:Value→Shared→Prop}
 (hl:typeLookup (.type T) "__getitem__"=pure (some (.builtin id))) (hs:NoSl slice)
 (h:wpAny (model prog w) A (eval value env) (fun o s₁=>wpAny (model prog w) A (eval slice env) (fun i s₂=>s₂.TypeIs o T∧wpAny (model prog w) A (getItem o i) Q E s₂) E s₁) E s) :
 wpAny (model prog w) A (eval (.Subscript value slice pos) env) Q E s:=by
 refine Subscript_ (wpAny_mono h (fun o s₁ h₁=>wpAny_mono h₁ (fun i s₂ h₂=>?_) fun _ _ x=>x) fun _ _ x=>x)
 obtain ⟨hT,h₂⟩:=h₂
 unfold subscriptTail
 refine wpAny_bind ?_
 rw [getitemInPython_of_ne hT.not_modules]
 refine wpAny_bind (wpAny_specialOf hT hl ?_)
 have fin:wpAny (model prog w) A (subscripted slice false o i) (fun r s₃=>wpAny (model prog w) A (letTemporaryGo value o r >>= fun _=>pure r) Q E s₃) E s₂:=by
  rw [hs o i]
  exact wpAny_operating (wpAny_mono h₂ (fun r s₃ h₃=>wpAny_bind (wpAny_letTemporaryGo (wpAny_pure h₃))) fun _ _ x=>x)
 first
  | exact wpAny_pure (wpAny_bind fin)
  | exact wpAny_bind (wpAny_pure (wpAny_bind fin))
  | exact wpAny_bind fin

theorem dict_typeIs {X:Cx} {pins:List (Addr×Obj)} {σ:St} {H:Hp} {s:Shared} {a:Addr} {y:V} {o:Option V} (I:Inv X pins σ H s) (g:DGet H a y o):s.TypeIs (.ref a) "dict":=by
 rcases g with ⟨kvs,k,e,_,_⟩ | ⟨kvs,k,b,e,_,_,_⟩
 · obtain ⟨_,_,vs,_,dd⟩:=dk_rd I.hok e
   exact dd.typeIs
 · obtain ⟨_,_,xs,_,dd⟩:=dt_rd I.hok e
   exact dd.typeIs
noncomputable def tDGet (td ty:TE):TE:=fun σ H Q=>td σ H fun x H1=>ty σ H1 fun y H2=>∃ a v,x=.ref a∧DGet H2 a y (some v)∧Q v H2
noncomputable def tDIn (ty td:TE):TE:=fun σ H Q=>ty σ H fun y H1=>td σ H1 fun x H2=>∃ a o,x=.ref a∧DGet H2 a y o∧Q (.bl o.isSome) H2
section
variable {X:Cx} {o i e value:Expr} {pos pos' tpos:Pos} {td ty tv:TE}
theorem pe_dget (hu:X.A.units+1<cLine) (ho:PE X o td) (hi:PE X i ty) (hs:NoSl i):PE X (.Subscript o i pos) (tDGet td ty):=by
 intro pins s σ H Q I h
 refine subD_of PySem.F.slot_dict_getitem.lookup hs (thn (ho pins s σ H _ I h) fun u s1 ⟨x,H1,I1,rx,q1⟩=>thn (hi pins s1 σ H1 _ I1 q1) fun iv s2 ⟨y,H2,I2,ry,a,v,ex,g,q2⟩=>?_)
 subst ex
 obtain rfl:u=Value.ref a:=rx
 exact ⟨dict_typeIs I2 g,d_getItem hu I2 g ry fun w' s3 I3 rw'=>⟨v,H2,I3,rw',q2⟩⟩
theorem pc_din (hu:X.A.units+1<cLine) (hi:PE X i ty) (ho:PE X o td):PC X .In i o (tDIn ty td):=by
 intro pins s σ H Q I h
 refine thn (hi pins s σ H _ I h) fun iv s1 ⟨y,H1,I1,ry,q1⟩=>thn (ho pins s1 σ H1 _ I1 q1) fun u s2 ⟨x,H2,I2,rx,a,ov,ex,g,q2⟩=>?_
 subst ex
 obtain rfl:u=Value.ref a:=rx
 exact d_in hu I2 g ry fun s3 I3=>⟨.bl ov.isSome,H2,I3,rfl,q2⟩
end


theorem dk_empty {P:Program} {w:World} {H:Hp} (h:Heap) (hb:sysModules<h.objs.size):ObjOk P w H (h.push { cls:=.type "dict",data:=.dict #[] }) h.objs.size (.dK []) :=
 ⟨Nat.zero_le _,beq_eq_false_iff_ne.mpr (Ne.symm (Nat.ne_of_lt hb)),[],.nil,Heap.DictOf.new h⟩
section
variable {X:Cx} {pos:Pos}
end

noncomputable def tPairs:List (TE×TE)→St→Hp→(List (V×V)→Hp→Prop)→Prop
 | [],_,H,Q=>Q [] H
 | (tk,tv) :: r,σ,H,Q=>tk σ H fun x H1=>tv σ H1 fun y H2=>tPairs r σ H2 fun ps H3=>Q ((x,y) :: ps) H3
noncomputable abbrev VV:List (V×V)→List (Value×Value)→Prop:=Paired fun p q=>RelV p.1 q.1∧RelV p.2 q.2
noncomputable def PPs (X:Cx) (pos:Pos) (keys:List (Option Expr)) (values:List Expr) (trs:List (TE×TE)):Prop :=
 ∀ (pins:List (Addr×Obj)) (s:Shared) (σ:St) (H:Hp) (Q:List (V×V)→Hp→Prop),Inv X pins σ H s→tPairs trs σ H Q →
   wpAny (model X.prog X.w) X.A (evalPairs (pairTrees keys values X.env pos)) (fun vs s'=>∃ ps H',Inv X pins σ H' s'∧VV ps vs∧Q ps H') X.xe s
theorem pps_nil {X:Cx} {pos:Pos}:PPs X pos [] [] []:=fun pins s σ H Q I h=>pairTrees_nil_walk ⟨[],H,I,.nil,h⟩
theorem pps_cons {X:Cx} {pos:Pos} {k v:Expr} {ks:List (Option Expr)} {vs:List Expr} {tk tv:TE} {trs:List (TE×TE)} (hk:PE X k tk) (hv:PE X v tv) (hr:PPs X pos ks vs trs) :
 PPs X pos (some k :: ks) (v :: vs) ((tk,tv) :: trs):=fun pins s σ H Q I h =>
 pairTrees_cons_walk (thn (hk pins s σ H _ I h) fun u s1 ⟨x,H1,I1,rx,q1⟩=>thn (hv pins s1 σ H1 _ I1 q1) fun w2 s2 ⟨y,H2,I2,ry,q2⟩ =>
  thn (hr pins s2 σ H2 _ I2 q2) fun ws s3 ⟨ps,H3,I3,rel,q3⟩=>⟨(x,y) :: ps,H3,I3,.cons ⟨rx,ry⟩ rel,q3⟩)

noncomputable def mergeK (kvs more:List (Key×V)):List (Key×V):=more.foldl (fun acc kv=>putK acc kv.1 kv.2) kvs
theorem KV.merge:∀ {more:List (Key×V)} {rs:List (Key×Value)} {kvs:List (Key×V)} {vs:List (Key×Value)},KV more rs→KV kvs vs→KV (mergeK kvs more) (merged vs rs):=by
 intro more rs kvs vs r
 unfold KV at r
 induction r generalizing kvs vs with
 | nil=>intro q;exact q
 | @cons p q ps qs h t ih =>
   intro r0
   have e:KV (putK kvs p.1 p.2) (stored vs q.1 q.2):=by
    have:=r0.put p.1 h.2
    rw [← h.1];exact this
   exact ih e
theorem length_mergeK:∀ (more kvs:List (Key×V)),(mergeK kvs more).length≤kvs.length+more.length
 | [],kvs=>by show kvs.length≤kvs.length+0;omega
 | p :: r,kvs=>by
   have h1:=length_mergeK r (putK kvs p.1 p.2)
   have h2:=length_putK kvs p.1 p.2
   show (mergeK (putK kvs p.1 p.2) r).length≤_
   rw [List.length_cons];omega
theorem carries_of {P:Program} {w:World}:∀ {kvs:List (Key×V)} {ws:List (Value×Value)},VV (kvs.map fun kv=>(kV kv.1,kv.2)) ws→∃ rs,Carries (mixKind P w) ws rs∧KV kvs rs
 | [],_,r=>by rw [List.map_nil] at r;cases r;exact ⟨[],True.intro,.nil⟩
 | p :: kvs,_,r=>by
   rw [List.map_cons] at r
   cases r with
   | @cons a b as bs h t =>
     obtain ⟨rs,c,q⟩:=carries_of (P:=P) (w:=w) t
     obtain ⟨b1,b2⟩:=b
     exact ⟨(p.1,b2) :: rs,⟨kV_is h.1,rfl,c⟩,.cons ⟨rfl,h.2⟩ q⟩
noncomputable def tDisp (trs:List (TE×TE)):TE:=fun σ H Q=>∀ p,H p=none→tPairs trs σ (upd H p (.dK [])) fun ps H2=>H2 p=some (.dK [])∧∃ kvs:List (Key×V),ps=kvs.map (fun kv=>(kV kv.1,kv.2))∧kvs.length≤15∧Q (.ref p) (upd H2 p (.dK (mergeK [] kvs)))
theorem pe_disp {X:Cx} {pos:Pos} {keys:List (Option Expr)} {values:List Expr} {trs:List (TE×TE)} (h:PPs X pos keys values trs) (hall:keys.all (·.isSome)=true) (hl:keys.length=values.length) (h0:keys≠[])
 (h15:keys.length≤15):PE X (.Dict keys values pos) (tDisp trs):=by
 intro pins s σ H Q I q
 have hn:=I.hok.fresh (Nat.le_refl s.heap.objs.size)
 have I1:=I.laid (a:=s.heap.objs.size) (o:=.dK []) (h':=s.heap.push { cls:=.type "dict",data:=.dict #[] }) (t':=s.toks) (fun _ _ q=>Heap.get?_push_of_some _ q) (Nat.le_refl _) (dk_empty s.heap I.big)
 refine wpAny_Dict_walk (knd:=mixKind X.prog X.w) hall hl h0 h15 (thn (h pins _ σ _ _ I1 (q _ hn)) fun ws s2 ⟨ps,H2,I2,rel,e,kvs,ep,lk,q2⟩=>?_)
 subst ep
 obtain ⟨rs,c,rk⟩:=carries_of (P:=X.prog) (w:=X.w) rel
 obtain ⟨z,hd,vs0,r0,dd⟩:=dk_of I2.hok e
 cases r0
 refine ⟨rs,c,dd,fun h' dd' hs=>⟨.ref s.heap.objs.size,_,?_,rfl,q2⟩⟩
 have hz:(mergeK [] kvs).length≤sizeLine:=by
  have h1:=length_mergeK kvs []
  rw [List.length_nil] at h1
  rw [sizeLine_eq];omega
 have he:∃ q,h'.get? s.heap.objs.size=some q:=let ⟨q,_,_,hq,_⟩:=dd';⟨q,hq⟩
 exact d_write I2 (by rw [e];exact True.intro) hs he (dk_new hz hd (rk.merge .nil) dd')


end L2

namespace L2
open PySem PySem.Spec PyProof.Rows PySem.W
theorem pe_neg1 {X:Cx} {j:Nat} {pos pos':Pos}:PE X (.UnaryOp .USub (.Constant (.int 1) j pos') pos) (tC (.int (-1))):=fun pins s σ H Q I h=>pe_un un_neg pe_int pins s σ H Q I ⟨_,rfl,h⟩
section
variable {K:PySem.W.Frag} {H H':Hp} {n m:Nat} {v:V}
end
end L2

namespace L2
open PySem PySem.Spec PyProof.Rows PySem.W
section
variable {X:Cx}
theorem ps_forX {tg iter:Expr} {body:List Stmt} {wi:TI} {g:TG} {tb:TS} {pos:Pos} (hs:∀ x:Value,foldedSetIterable iter X.env x=pure x) (h1:PassesOwn (model X.prog X.w) X.A X.env X.xe) (h2:X.calm=true) (hi:PI X tg iter wi) (hg:PG X tg g) (hb:PSs X body tb) :
 PS X (.For tg iter body [] pos) (tFor wi g tb):=ps_for h1 h2 hi hg hb hs
end
end L2

namespace Pw
noncomputable def qs:Nat→(Nat→Rat)→Rat
 | 0,_=>0
 | n+1,f=>qs n f+f n
theorem qs_congr {f g:Nat→Rat}:∀ {n:Nat},(∀ i,i<n→f i=g i)→qs n f=qs n g
 | 0,_=>rfl
 | n+1,h=>by
   show qs n f+f n=qs n g+g n
   rw [qs_congr (n:=n) fun i hi=>h i (by omega),h n (by omega)]
theorem qs_add (f g:Nat→Rat):∀ n,qs n (fun i=>f i+g i)=qs n f+qs n g
 | 0=>by show (0:Rat)=0+0;grind
 | n+1=>by
   show qs n _+(f n+g n)=(qs n f+f n)+(qs n g+g n)
   rw [qs_add f g n];grind
theorem qs_mul (c:Rat) (f:Nat→Rat):∀ n,qs n (fun i=>c * f i)=c * qs n f
 | 0=>by show (0:Rat)=c * 0;grind
 | n+1=>by
   show qs n _+c * f n=c * (qs n f+f n)
   rw [qs_mul c f n];grind
theorem qs_zero:∀ n,qs n (fun _=>0)=0
 | 0=>rfl
 | n+1=>by show qs n _+0=(0:Rat);rw [qs_zero n];grind
theorem qs_swap (f:Nat→Nat→Rat) (m:Nat):∀ n,qs n (fun i=>qs m (fun j=>f i j))=qs m (fun j=>qs n (fun i=>f i j))
 | 0=>(qs_zero m).symm
 | n+1=>by
   show qs n _+qs m _=qs m (fun j=>qs n (fun i=>f i j)+f n j)
   rw [qs_add,qs_swap f m n]
theorem qs_nonneg {f:Nat→Rat}:∀ {n:Nat},(∀ i,i<n→0≤f i)→0≤qs n f
 | 0,_=>by show (0:Rat)≤0;grind
 | n+1,h=>by
   have h1:=qs_nonneg (n:=n) fun i hi=>h i (by omega)
   have h2:=h n (by omega)
   show 0≤qs n f+f n
   grind
theorem qs_le {f g:Nat→Rat}:∀ {n:Nat},(∀ i,i<n→f i≤g i)→qs n f≤qs n g
 | 0,_=>by show (0:Rat)≤0;grind
 | n+1,h=>by
   have h1:=qs_le (n:=n) fun i hi=>h i (by omega)
   have h2:=h n (by omega)
   show qs n f+f n≤qs n g+g n
   grind
theorem qs_single {f:Nat→Rat} {k:Nat}:∀ {n:Nat},k<n→(∀ i,i<n→i≠k→f i=0)→qs n f=f k
 | n+1,hk,h=>by
   show qs n f+f n=f k
   by_cases e:k=n
   · subst e
     rw [qs_congr (g:=fun _=>0) fun i hi=>h i (by omega) (by omega),qs_zero];grind
   · rw [qs_single (n:=n) (by omega) fun i hi hn=>h i (by omega) hn,h n (by omega) (by omega)];grind
noncomputable def val (A:Int×Int):Rat:=(A.1:Rat) / (A.2:Rat)
theorem castne {d:Int} (h:d≠0):(d:Rat)≠0:=by simpa using h
theorem div_eq {a b c d:Rat} (hb:b≠0) (hd:d≠0):a / b=c / d ↔ a * d=c * b:=by
 constructor
 · intro h;grind
 · intro h;grind
end Pw

namespace Pw
theorem val_fr {A:Int×Int} {n d:Int} (h:Fr A n d):val A=(n:Rat) / (d:Rat):=by
 unfold val
 rw [div_eq (castne h.pos) (castne h.ne)]
 exact_mod_cast h.w
theorem val_inj {A B:Int×Int} (a:Canon A) (b:Canon B) (h:val A=val B):A=B:=by
 have ha:=(Fr.of a).pos
 have hb:=(Fr.of b).pos
 unfold val at h
 rw [div_eq (castne ha) (castne hb)] at h
 exact canon_unique a b (by exact_mod_cast h)
theorem val_mk {a b:Int} (h:b≠0):val (mk a b)=(a:Rat) / (b:Rat):=val_fr (Fr.made h)
theorem canon_mk {a b:Int} (h:b≠0):Canon (mk a b):=(mk_spec h).1
theorem val_fplus {A B:Int×Int} (ha:A.2≠0) (hb:B.2≠0):val (fplus A B)=val A+val B:=by
 unfold fplus
 rw [val_mk (Int.mul_ne_zero ha hb)]
 unfold val
 have h1:=castne ha
 have h2:=castne hb
 rw [Rat.intCast_add,Rat.intCast_mul,Rat.intCast_mul,Rat.intCast_mul]
 grind
theorem val_fless {A B:Int×Int} (ha:A.2≠0) (hb:B.2≠0):val (fless A B)=val A - val B:=by
 unfold fless
 rw [val_mk (Int.mul_ne_zero ha hb)]
 unfold val
 have h1:=castne ha
 have h2:=castne hb
 rw [Rat.intCast_sub,Rat.intCast_mul,Rat.intCast_mul,Rat.intCast_mul]
 grind
theorem val_ftimes {A B:Int×Int} (ha:A.2≠0) (hb:B.2≠0):val (ftimes A B)=val A * val B:=by
 unfold ftimes
 rw [val_mk (Int.mul_ne_zero ha hb)]
 unfold val
 have h1:=castne ha
 have h2:=castne hb
 rw [Rat.intCast_mul,Rat.intCast_mul]
 grind
theorem canon_fplus {A B:Int×Int} (ha:A.2≠0) (hb:B.2≠0):Canon (fplus A B):=canon_mk (Int.mul_ne_zero ha hb)
theorem canon_fless {A B:Int×Int} (ha:A.2≠0) (hb:B.2≠0):Canon (fless A B):=canon_mk (Int.mul_ne_zero ha hb)
theorem canon_ftimes {A B:Int×Int} (ha:A.2≠0) (hb:B.2≠0):Canon (ftimes A B):=canon_mk (Int.mul_ne_zero ha hb)
theorem canon_ne {A:Int×Int} (h:Canon A):A.2≠0:=by have:=h.1;omega
theorem canon01:Canon (0,1):=⟨by decide,by decide⟩
theorem val01:val (0,1)=0:=by unfold val;simp [Rat.div_def]
theorem val11:val (1,1)=1:=by unfold val;show ((1:Int):Rat) / ((1:Int):Rat)=1;rw [Rat.intCast_one];grind
noncomputable def wayF (A B:Int×Int) (c m:Int):Int×Int:=fplus (ftimes A B) (ftimes (fless (1,1) A) (mk c m))
theorem val_wayF {A B:Int×Int} {c m:Int} (a:Canon A) (b:Canon B) (hm:m≠0):val (wayF A B c m)=val A * val B+(1 - val A) * ((c:Rat) / (m:Rat)):=by
 have ha:=canon_ne a
 have hb:=canon_ne b
 unfold wayF
 rw [val_fplus (canon_ne (canon_ftimes ha hb)) (canon_ne (canon_ftimes (canon_ne (canon_fless (by decide) ha)) (canon_ne (canon_mk hm)))),val_ftimes ha hb,val_ftimes (canon_ne (canon_fless (by decide) ha)) (canon_ne (canon_mk hm)),val_fless (by decide) ha,val11,val_mk hm]
noncomputable def waysL (ps:List (Int×Int)) (A:Int×Int) (Bs:List (Int×Int)) (page:Int):List (Int×Int) :=
 if outs ps page=[] then Bs else (List.range Bs.length).map fun t=>wayF A (Bs.getD t (0,1)) ((outs ps page).count (t:Int):Nat) ((outs ps page).length:Nat)
noncomputable def Canons (Bs:List (Int×Int)):Prop:=∀ B∈Bs,Canon B
theorem Canons.getD {Bs:List (Int×Int)} (h:Canons Bs) (t:Nat):Canon (Bs.getD t (0,1)):=by
 rw [List.getD_eq_getElem?_getD]
 cases e:Bs[t]? with
 | none=>exact canon01
 | some B=>exact h B (List.mem_of_getElem? e)
theorem outs_len_ne {ps:List (Int×Int)} {page:Int} (h:outs ps page≠[]):(((outs ps page).length:Nat):Int)≠0:=by
 have:=List.length_pos_iff.mpr h
 omega
theorem sum_count {n:Nat}:∀ {l:List Int},(∀ x∈l,0≤x∧x<n)→qs n (fun t=>((l.count (t:Int):Nat):Rat))=((l.length:Nat):Rat)
 | [],_=>by
   rw [qs_congr (g:=fun _=>0) fun i _=>by simp,qs_zero];simp
 | x :: l,h=>by
   have ih:=sum_count (n:=n) (l:=l) fun y hy=>h y (List.mem_cons_of_mem _ hy)
   have hx:=h x List.mem_cons_self
   rw [qs_congr (g:=fun t=>((l.count (t:Int):Nat):Rat)+(if (t:Int)=x then 1 else 0)) fun t _=>?_,qs_add,ih,qs_single (k:=x.toNat) (by omega) fun i _ hi=>?_]
   · rw [if_pos (by omega)]
     simp
   · rw [if_neg (by omega)]
   · rw [List.count_cons]
     by_cases c:(t:Int)=x
     · rw [if_pos c,if_pos (by simp [c])];simp
     · rw [if_neg c,if_neg (by simpa using fun z=>c z.symm)];simp;grind
theorem getD_map_range {n t:Nat} {f:Nat→Int×Int} {d:Int×Int} (h:t<n):((List.range n).map f).getD t d=f t:=by
 rw [List.getD_eq_getElem?_getD,List.getElem?_map,List.getElem?_range h];rfl
theorem outs_mem {pages:Int} {ps:List (Int×Int)} (ok:∀ p∈ps,0≤p.2∧p.2<pages) {page x:Int} (h:x∈outs ps page):0≤x∧x<pages:=by
 unfold outs at h
 obtain ⟨p,hp,rfl⟩:=List.mem_map.mp h
 exact ok p (List.mem_filter.mp hp).1
theorem ways_sum {n:Nat} {ps:List (Int×Int)} {A:Int×Int} {Bs:List (Int×Int)} {page:Int} (ok:∀ p∈ps,0≤p.2∧p.2<(n:Int)) (a:Canon A) (b:Canons Bs) (hn:Bs.length=n) (h1:qs n (fun t=>val (Bs.getD t (0,1)))=1) :
 qs n (fun t=>val ((waysL ps A Bs page).getD t (0,1)))=1:=by
 unfold waysL
 split
 · exact h1
 · rename_i h
   have hm:=outs_len_ne h
   have hs:=sum_count (n:=n) (l:=outs ps page) fun x hx=>outs_mem ok hx
   have hm':=castne hm
   rw [qs_congr (g:=fun t=>val A * val (Bs.getD t (0,1))+((1 - val A) / ((((outs ps page).length:Nat):Int):Rat)) * (((outs ps page).count (t:Int):Nat):Rat)) fun t ht=>?_,qs_add,qs_mul,qs_mul,hs,h1]
   · have e:((((outs ps page).length:Nat):Int):Rat)=(((outs ps page).length:Nat):Rat):=rfl
     rw [e] at hm' ⊢
     grind
   · rw [getD_map_range (by omega),val_wayF a (b.getD t) hm]
     have e:((((outs ps page).count (t:Int):Nat):Int):Rat)=(((outs ps page).count (t:Int):Nat):Rat):=rfl
     rw [e]
     grind
theorem qs_list:∀ ws:List Int,qs ws.length (fun t=>((ws.getD t 0:Int):Rat))=((ws.sum:Int):Rat):=by
 intro ws
 have key:∀ k,k≤ws.length→qs k (fun t=>((ws.getD t 0:Int):Rat))=(((ws.take k).sum:Int):Rat):=by
  intro k
  induction k with
  | zero=>intro _;simp [qs]
  | succ k ih =>
    intro hk
    show qs k _+_=_
    have e:ws[k]?=some ws[k]:=by simp
    rw [ih (by omega),List.take_succ,List.sum_append,Rat.intCast_add,e]
    show _+((ws.getD k 0:Int):Rat)=_
    rw [List.getD_eq_getElem?_getD,e]
    simp
 have:=key ws.length (Nat.le_refl _)
 rwa [List.take_of_length_le (Nat.le_refl _)] at this
end Pw
namespace L2
theorem lps_len (ws:List Int):(lps ws).length=ws.length:=by unfold lps;simp
theorem lps_canon {pages:Int} {ws:List Int} (h:Wts pages ws):Pw.Canons (lps ws):=by
 intro B hB
 obtain ⟨x,_,rfl⟩:=List.mem_map.mp hB
 have:=h.pos
 exact Pw.canon_mk (by omega)
theorem lps_nn {pages:Int} {ws:List Int} (h:Wts pages ws):∀ B∈lps ws,0≤B.1:=by
 intro B hB
 obtain ⟨x,hx,rfl⟩:=List.mem_map.mp hB
 exact Pw.mk_nonneg h.pos (h.nn x hx).1
theorem lps_sum {pages:Int} {ws:List Int} (h:Wts pages ws):Pw.qs ws.length (fun t=>Pw.val ((lps ws).getD t (0,1)))=1:=by
 have hp:=h.pos
 have h0:ws.sum≠0:=by omega
 have h0':=Pw.castne h0
 rw [Pw.qs_congr (g:=fun t=>(1 / (ws.sum:Rat)) * ((ws.getD t 0:Int):Rat)) fun t ht=>?_,Pw.qs_mul,Pw.qs_list]
 · grind
 · have e:ws[t]?=some ws[t]:=by simp
   rw [List.getD_eq_getElem?_getD,List.getD_eq_getElem?_getD]
   unfold lps
   rw [List.getElem?_map,e]
   show Pw.val (Pw.mk ws[t] ws.sum)=_
   rw [Pw.val_mk h0]
   simp only [Option.getD_some]
   grind
end L2

namespace L2
open PySem PySem.Spec PyProof.Rows
section
variable {X:Cx} {pins:List (Addr×Obj)} {σ:St} {H:Hp} {s:Shared} {h':Heap}
theorem Inv.turnedL {ch:List Addr} {t':Nat} (I:Inv X pins σ H s) (k:∀ b ob,b ∉ ch→s.heap.get? b=some ob→h'.get? b=some ob) (fe:∀ b∈ch,FpOk X pins H b):Inv X pins σ H { s with heap:=h',toks:=t' }:=by
 have nit:∀ b u,H b=some u→b ∉ ch:=fun b u q z=>by rw [(fe b z).1] at q;cases q
 refine I.step (g':=s.gens) (d':=s.drawn) (ch:=ch) (fun b hb=>?_) (fun b ob _ _ hc q _=>k b ob hc q) (fun b ob _ _ hc q _=>⟨ob.slots,k b ob hc q⟩) (fun _ _ _ _ n=>n)
  (fun b ob hc q=>⟨ob,k b ob hc q⟩) (fun _ _ q=>q) (fun _ _ _ q=>q) (fun b ps q=>⟨#[],by rw [q];simp⟩) (fun m hm=>?_) (fun b u q=>?_) I.bare
 · have z:=fe b hb
   exact ⟨z.2.2.2.1,z.2.1,z.2.2.2.2.1,z.2.2.2.2.2⟩
 · obtain ⟨ob,es,ep,ho,r⟩:=hm
   exact ⟨ob,es,ep,k _ ob (fun z=>(fe _ z).2.1 rfl) ho,r⟩
 · refine (I.hok b u q).stay (fun c v hc z=>k c v ?_ z) (fun _ z=>z) fun _ _ z=>z
   rcases hc with z | z
   · rw [z];exact nit b u q
   · exact nit c _ z
theorem Inv.turnedNewL {ch:List Addr} {T:Addr} {o:HO} {t':Nat} (I:Inv X pins σ H s) (k:∀ b ob,b ∉ ch→s.heap.get? b=some ob→h'.get? b=some ob) (fe:∀ b∈ch,FpOk X pins H b)
 (hT:s.heap.objs.size≤T) (new:ObjOk X.prog X.w (upd H T o) h' T o):Inv X pins σ (upd H T o) { s with heap:=h',toks:=t' }:=by
 have hn:H T=none:=I.hok.fresh hT
 have neT:∀ b ob,s.heap.get? b=some ob→b≠T:=fun b ob q=>Nat.ne_of_lt (Nat.lt_of_lt_of_le (Heap.lt_size q) hT)
 have nit:∀ b u,H b=some u→b ∉ ch:=fun b u q z=>by rw [(fe b z).1] at q;cases q
 refine I.step (g':=s.gens) (d':=s.drawn) (ch:=ch) (fun b hb=>?_) (fun b ob _ _ hc q _=>k b ob hc q) (fun b ob _ _ hc q _=>⟨ob.slots,k b ob hc q⟩)
  (fun b ob _ q n=>by rw [upd_ne (neT b ob q)];exact n) (fun b ob hc q=>⟨ob,k b ob hc q⟩)
  (fun b xs q=>by rw [upd_ne (ne_of_none q hn)];exact q) (fun b ob u q=>by rw [upd_ne (ne_of_none q hn)];exact q) (fun b ps q=>⟨#[],by rw [upd_ne (ne_of_none q hn),q];simp⟩) (fun m hm=>?_) (fun b u q=>?_) I.bare
 · have z:=fe b hb
   exact ⟨z.2.2.2.1,z.2.1,z.2.2.2.2.1,z.2.2.2.2.2⟩
 · obtain ⟨ob,es,ep,ho,r⟩:=hm
   exact ⟨ob,es,ep,k _ ob (fun z=>(fe _ z).2.1 rfl) ho,r⟩
 · by_cases hb:b=T
   · subst hb;rw [upd_same] at q;cases q;exact new
   · rw [upd_ne hb] at q
     refine (I.hok b u q).stay (fun c v hc z=>?_) (fun c z=>by rw [upd_ne (ne_of_none z hn)];exact z) fun c xs z=>by rw [upd_ne (ne_of_none z hn)];exact z
     rcases hc with e1 | e1
     · subst e1;exact k _ v (nit _ u q) z
     · exact k c v (nit c _ e1) z
end
noncomputable def ItemN (prog:Program) (w:World) (A:Around) (I:Addr) (wr:List Addr) (n:Nat) (Pt:Nat→Array Value→Prop) (St:Nat→Heap→Prop) (Mid:Nat→Addr→Heap→Prop):Prop :=
 ∀ (i:Nat) (s:Shared) (Q:Option Value→Shared→Prop) (E:Value→Shared→Prop),i<n→St i s.heap →
   (∀ (T:Addr) (x y:Value) (h':Heap) (tk:Nat),Pt i #[x,y]→s.heap.objs.size≤T→h'.get? T=some { cls:=.type "tuple",data:=.seq #[x,y] }→Mid i T h'→(∀ b o,b ∉ wr→s.heap.get? b=some o→h'.get? b=some o)→Q (some (.ref T)) { s with heap:=h',toks:=tk }) →
   wpAny (model prog w) A (pyNext (.ref I)) Q E s
theorem itemN_enum {prog:Program} {w:World} {A:Around} {it:Addr} {fp:List Addr} {n:Nat} {Pp:Nat→Value→Prop} {St:Nat→Heap→Prop} (D:Draws prog w A.in1 it fp n Pp St) (e:Addr) (hei:e≠it) (hef:e ∉ fp) :
 ItemN prog w A e [e,it] n (fun i vals=>∃ t x,Pp i x∧vals=#[.int i t,x]) (fun i h=>(∃ old,IsEnum h e it i old)∧St i h) (fun i T h=>(∃ x,IsEnumOut h e it ((i:Int)+1) x T)∧St (i+1) h∧T≠e∧T≠it):=fun i s Q E hi hst q=>by
 obtain ⟨⟨old,he⟩,hs⟩:=hst
 refine wpAny_pyNext_enum_itemD D he hs hi hei hef fun x hp tk hP ho hs' hT hsz hk=>?_
 have l1:e<s.heap.objs.size:=Heap.lt_size he
 have l2:it<s.heap.objs.size:=by obtain ⟨_,y⟩:=D.live _ _ hs;exact Heap.lt_size y
 exact q _ _ _ hp (tk+1) ⟨_,_,hP,rfl⟩ (Nat.le_refl _) hT ⟨⟨_,ho⟩,hs',Nat.ne_of_gt l1,Nat.ne_of_gt l2⟩ fun b o hb y=>hk b o (fun z=>hb (by simp [z])) (fun z=>hb (by simp [z])) y
theorem itemN_zip {prog:Program} {w:World} {A:Around} (z TI TO i1 i2 l1 l2:Addr) (D:ZipApart z TI TO i1 i2 l1 l2) (xs ys:Array Value) :
 ItemN prog w A z [z,TO,i1,i2] (min xs.size ys.size) (fun i vals=>∃ x y,xs[i]?=some x∧ys[i]?=some y∧vals=#[x,y])
  (fun i h=>IsZip h z TI TO .none∧IsPair h TI (.ref i1) (.ref i2)∧(∃ a b,IsPair h TO a b)∧h.IsListIter i1 l1 i∧h.IsListIter i2 l2 i∧h.IsList l1 xs∧h.IsList l2 ys)
  (fun i T h=>IsZip h z TI TO (rawInt T)∧IsPair h TI (.ref i1) (.ref i2)∧(∃ a b,IsPair h TO a b)∧h.IsListIter i1 l1 (i+1)∧h.IsListIter i2 l2 (i+1)∧h.IsList l1 xs∧h.IsList l2 ys ∧
   T≠z∧T≠TO∧T≠i1∧T≠i2):=fun i s Q E hi hst q=>by
 obtain ⟨g1,g2,⟨a,b,g3⟩,g4,g5,g6,g7⟩:=hst
 have e1:i<xs.size:=Nat.lt_of_lt_of_le hi (Nat.min_le_left ..)
 have e2:i<ys.size:=Nat.lt_of_lt_of_le hi (Nat.min_le_right ..)
 refine wpAny_pyNext_zip_item D g1 g2 g3 g4 g5 g6 g7 (Array.getElem?_eq_getElem e1) (Array.getElem?_eq_getElem e2) fun hp a1 a2 a3 a4 a5 a6 hk=>?_
 have gt:∀ {c:Addr} {o:Obj},s.heap.get? c=some o→s.heap.objs.size≠c:=fun e=>Nat.ne_of_gt (Heap.lt_size e)
 exact q _ _ _ hp s.toks ⟨_,_,Array.getElem?_eq_getElem e1,Array.getElem?_eq_getElem e2,rfl⟩ (Nat.le_refl _) a5
  ⟨a1,hk _ _ D.TIz D.TITO D.TIi1 D.TIi2 g2,⟨_,_,a2⟩,a3,a4,g6.at fun o e=>hk _ o D.l1z D.l1TO D.l1i1 D.l1i2 e,g7.at fun o e=>hk _ o D.l2z D.l2TO D.l2i1 D.l2i2 e,gt g1,gt g3,(by obtain ⟨_,e,_⟩:=g4;exact gt e),(by obtain ⟨_,e,_⟩:=g5;exact gt e)⟩
  fun c o hc e=>hk c o (fun y=>hc (by simp [y])) (fun y=>hc (by simp [y])) (fun y=>hc (by simp [y])) (fun y=>hc (by simp [y])) e
noncomputable def ItP (go:Nat→Hp→Prop) (pr:Nat→Hp→V→V→Prop) (stop:Nat→Hp→Prop):It:=⟨go,fun i H x H'=>∃ T u v,x=.ref T∧H T=none∧H'=upd H T (.tup [u,v])∧pr i H u v,stop⟩
section
variable {P:Program} {w:World} {K:PySem.W.Frag}
theorem turn_pairs {elts:List Expr} {ek:Nat} {epos:Pos} {go:Nat→Hp→Prop} {pr:Nat→Hp→V→V→Prop} {stop:Nat→Hp→Prop} {I:Addr} {fp wr:List Addr} {tn:Nat→Heap→Prop}
 (hI:I∈fp) (hw:∀ b∈wr,b∈fp) (obj:∀ i h,tn i h→∀ b∈fp,∃ o,h.get? b=some o∧∀ v,o.data≠.cell v)
 (keep:∀ i h h',tn i h→(∀ b∈fp,∀ o,h.get? b=some o→h'.get? b=some o)→tn i h')
 (self:∀ (A:Around) (i:Nat) (s:Shared) (Q:Value→Shared→Prop) (E:Value→Shared→Prop),tn i s.heap→Q (.ref I) s→wpAny (model P w) A (pyIter (.ref I)) Q E s)
 (it:∀ (X:Cx),X.prog=P→X.w=w→X.K=K→X.calm=true→∀ (i:Nat) (pins:List (Addr×Obj)) (s:Shared) (σ:St) (H:Hp),Inv X pins σ H s→(∀ b∈fp,FpOk X pins H b)→tn i s.heap→go i H →
  ∃ fp' n Pt St Mid,(WalksT P w X.A I fp' wr n Pt St Mid∧ItemN P w X.A I wr n Pt St Mid)∧i<n∧St i s.heap∧(∀ h',St (i+1) h'→tn (i+1) h')∧∀ vals,Pt i vals→∃ u v x y,vals=#[x,y]∧RelV u x∧RelV v y∧pr i H u v)
 (dn:∀ (X:Cx),X.prog=P→X.w=w→X.K=K→X.calm=true→∀ (i:Nat) (pins:List (Addr×Obj)) (s:Shared) (σ:St) (H:Hp),Inv X pins σ H s→(∀ b∈fp,FpOk X pins H b)→tn i s.heap→stop i H →
  ∃ fp' n Pt St Mid,WalksT P w X.A I fp' wr n Pt St Mid∧St n s.heap) :
 Turn P w K (.Tuple elts ek epos) (ItP go pr stop) fp I tn where
 mem:=hI
 obj:=obj
 keep:=keep
 self:=self
 item:=by
  intro X hP hw' hK hc i pins s σ H E I0 hf st hg
  obtain ⟨fp',n,Pt,St,Mid,⟨W,WN⟩,hi,hst,hnx,hpt⟩:=it X hP hw' hK hc i pins s σ H I0 hf st hg
  subst hP hw' hK
  refine WN i s _ _ hi hst fun T x0 y0 h1 tk hv hT hIT hmid hk1=>⟨.ref T,rfl,?_⟩
  refine W.go elts ek epos i T _ _ _ hmid fun h2 hs2 hk2=>?_
  obtain ⟨u,v,x,y,exy,ru,rv,hpr⟩:=hpt _ hv
  cases exy
  have fe:∀ b∈wr,FpOk X pins H b:=fun b hb=>hf b (hw b hb)
  have hTw:T ∉ wr:=W.apart i T _ hmid
  have hn:H T=none:=I0.hok.fresh hT
  have I2:Inv X pins σ (upd H T (.tup [u,v])) { s with heap:=h2,toks:=tk } :=
   I0.turnedNewL (ch:=wr) (fun b ob hb q=>hk2 b ob hb (hk1 b ob hb q)) fe hT ⟨by show 2≤sizeLine;decide,[x0,y0],.cons ru (.cons rv .nil),⟨_,hk2 T _ hTw hIT,rfl,_,rfl⟩⟩
  refine ⟨.ref T,_,I2,rfl,⟨T,u,v,rfl,hn,rfl,hpr⟩,hnx _ hs2,fun b hb=>?_⟩
  obtain ⟨ob,eb,_⟩:=obj i _ st b hb
  rw [upd_ne (Nat.ne_of_lt (Nat.lt_of_lt_of_le (Heap.lt_size eb) hT))]
  exact (hf b hb).1
 done:=by
  intro X hP hw' hK hc i pins s σ H E I0 hf st hg
  obtain ⟨fp',n,Pt,St,Mid,W,hst⟩:=dn X hP hw' hK hc i pins s σ H I0 hf st hg
  subst hP hw' hK
  exact W.done s _ _ hst fun h1 tk hk=>⟨rfl,I0.turnedL hk fun b hb=>hf b (hw b hb)⟩
end

section
variable {prog:Program} {w:World} {A:Around}
theorem nextT_some {j t:Addr} {i:Nat} {its:Array Value} {y:Value} {s:Shared} {E Q:Value→Shared→Prop} (hj:s.heap.IsTupleIter j t i) (hs:s.heap.IsTuple t its) (hy:its[i]?=some y) (q:∀ hp,hp.IsTupleIter j t (i+1)→Heap.SameBut j s.heap hp→Q y { s with heap:=hp }):wpAny (model prog w) A (Builtin.SmallTypes.nextOf (.ref j)) Q E s:=by
 obtain ⟨oj,gj,cj,dj⟩:=id hj
 obtain ⟨ot,gt,ct,nt,dt⟩:=hs
 unfold Builtin.SmallTypes.nextOf;refine wpAny_bind (wpAny_callSpecial?_slot (name:=Str.ofString "__next__") hj.typeIs slot_tupleiter_next (wpAny_call_entry slot_tupleiter_next hj.typeIs entry_tupleiter_next ?_ (args_tupleiter_next _)))
 show wpAny _ _ (field (.ref j) 0 >>= _) _ _ s;refine wpAny_bind (wpAny_field gj dj (x:=.ref t) rfl ?_)
 show wpAny _ _ (if (Value.ref t == Value.none)=true then _ else _) _ _ s;rw [if_neg (show ¬ ((Value.ref t == Value.none)=true) from Bool.false_ne_true)]
 show wpAny _ _ (field (.ref j) 1 >>= _) _ _ s;refine wpAny_bind (wpAny_field gj dj (x:=.int i 0) rfl ?_)
 show wpAny _ _ (seqItems? (.ref t) >>= _) _ _ s;refine wpAny_bind (wpAny_seqItems gt dt ?_)
 simp only [Int.toNat_natCast,hy];refine wpAny_bind (wpAny_setField gj dj (by simp) (wpAny_pure ⟨y,rfl,wpAny_pure (q _ ?_ (Heap.SameBut.update ..))⟩))
 exact ⟨_,Heap.get?_update_self _ gj (Obj.isFreed_of_fields (Obj.data_mapFields dj _)),(Obj.cls_mapFields ..).trans cj,by rw [Obj.data_mapFields dj];simp [rawInt]⟩
theorem nextT_none {j t:Addr} {i:Nat} {its:Array Value} {s:Shared} {E Q:Value→Shared→Prop} (hh:A.handled=none) (hj:s.heap.IsTupleIter j t i) (hs:s.heap.IsTuple t its) (hy:its[i]?=none) (q:∀ hp e,Heap.ExtBut j s.heap hp→(∃ o,hp.get? e=some o∧o.cls=.type "StopIteration")→E (.ref e) { s with heap:=hp }):wpAny (model prog w) A (Builtin.SmallTypes.nextOf (.ref j)) Q E s:=by
 obtain ⟨oj,gj,cj,dj⟩:=id hj
 obtain ⟨ot,gt,ct,nt,dt⟩:=hs
 unfold Builtin.SmallTypes.nextOf;refine wpAny_bind (wpAny_callSpecial?_slot (name:=Str.ofString "__next__") hj.typeIs slot_tupleiter_next (wpAny_call_entry slot_tupleiter_next hj.typeIs entry_tupleiter_next ?_ (args_tupleiter_next _)))
 show wpAny _ _ (field (.ref j) 0 >>= _) _ _ s;refine wpAny_bind (wpAny_field gj dj (x:=.ref t) rfl ?_)
 show wpAny _ _ (if (Value.ref t == Value.none)=true then _ else _) _ _ s;rw [if_neg (show ¬ ((Value.ref t == Value.none)=true) from Bool.false_ne_true)]
 show wpAny _ _ (field (.ref j) 1 >>= _) _ _ s;refine wpAny_bind (wpAny_field gj dj (x:=.int i 0) rfl ?_)
 show wpAny _ _ (seqItems? (.ref t) >>= _) _ _ s;refine wpAny_bind (wpAny_seqItems gt dt ?_)
 simp only [Int.toNat_natCast,hy];refine wpAny_bind (wpAny_rule (wpAny_bind (wpAny_setField gj dj (by simp) ?_)))
 show wpAny _ _ (newExc (.type "StopIteration") [] >>= _) _ _ _;refine wpAny_bind ?_;simp only [newExc,newTuple]
 refine wpAny_bind (wpAny_newObj_type ?_ (by size_fits));refine wpAny_bind (m:=firstArgMember _ _) (wpAny_of_eq (a:=Value.none) (by first | rfl | (simp only [firstArgMember];rfl)) ?_)
 refine wpAny_newObj_type ?_ (by size_fits);simp only [raiseNew];refine wpAny_bind (wpAny_handled ?_)
 first | rw [show A.in1.handled=none from hh] | rw [hh]
 refine wpAny_bind (wpAny_pure (wpAny_throw ?_));exact q _ _ (((Heap.SameBut.update ..).extBut.push _).push _) ⟨_,Heap.get?_push_size _ rfl,rfl⟩
theorem drawsT (hh:A.handled=none) (it l:Addr) (hne:l≠it) (its:Array Value) :
 Draws prog w A it [it,l] its.size (fun i v=>its[i]?=some v) (fun i h=>h.IsTupleIter it l i∧h.IsTuple l its) where
 live:=fun _ _ st=>by
  obtain ⟨o,ho,_⟩:=st.1
  exact ⟨o,ho⟩
 frame:=fun _ _ _ st hk=>by
  obtain ⟨o,ho,r⟩:=st.2
  exact ⟨st.1.at fun o e=>hk it (by simp) o e,o,hk l (by simp) o ho,r⟩
 item:=fun i s Q E hi st hQ=>by
  obtain ⟨s1,o,ho,r⟩:=st
  exact nextT_some s1 ⟨o,ho,r⟩ (y:=its[i]) (by simp [hi]) fun hp a b=>hQ _ hp s.toks (by simp [hi]) ⟨a,o,b.extBut l o hne ho,r⟩ b
 done:=fun s Q E st hE=>nextT_none hh st.1 st.2 (by simp) hE
end

noncomputable def ItEL (K:PySem.W.Frag) (a:Addr):It:=ItP (fun i H=>∃ xs x,SqL K H a xs∧xs[i]?=some x) (fun i H u v=>u=.int i∧∀ xs,SqL K H a xs→xs[i]?=some v) (fun i H=>∃ xs,SqL K H a xs∧xs.length=i)
noncomputable def ItZ (K:PySem.W.Frag) (a b:Addr):It:=ItP (fun i H=>∃ xs ys x y,SqL K H a xs∧SqL K H b ys∧xs[i]?=some x∧ys[i]?=some y) (fun i H u v=>(∀ xs,SqL K H a xs→xs[i]?=some u)∧∀ ys,SqL K H b ys→ys[i]?=some v) (fun i H=>∃ xs ys,SqL K H a xs∧SqL K H b ys∧xs.length=i∧ys.length=i)
section
variable {P:Program} {w:World} {K:PySem.W.Frag} {elts:List Expr} {ek:Nat} {epos:Pos}
theorem turn_enumL {a e it:Addr} (hei:e≠it) (hae:a≠e) (hai:a≠it):Turn P w K (.Tuple elts ek epos) (ItEL K a) [e,it] e (fun i h=>(∃ old,IsEnum h e it i old)∧h.IsListIter it a i):=by
 have hef:e ∉ [it,a]:=fun z=>by
  rcases List.mem_cons.mp z with z | z
  · exact hei z
  · exact hae (List.mem_singleton.mp z).symm
 refine turn_pairs (wr:=[e,it]) (by simp) (fun b hb=>hb) (fun i h st b hb=>?_) (fun i h h' st k=>?_) (fun A i s Q E st q=>?_) ?_ ?_
 · obtain ⟨⟨old,g⟩,o,ho,oc,od⟩:=st
   rcases List.mem_cons.mp hb with z | z
   · subst z;exact ⟨_,g,fun v z=>by cases z⟩
   · have z:=List.mem_singleton.mp z
     subst z;exact ⟨o,ho,fun v z=>by rw [od] at z;cases z⟩
 · obtain ⟨⟨old,g⟩,g2⟩:=st
   exact ⟨⟨old,k e (by simp) _ g⟩,g2.at fun o z=>k it (by simp) o z⟩
 · obtain ⟨⟨old,g⟩,g2⟩:=st
   exact wpAny_pyIter_enum g q
 · intro X hP hw' hK hc i pins s σ H I0 hf st hg
   obtain ⟨xs,x,hq,hx⟩:=hg
   rw [← hK] at hq
   obtain ⟨its,rv,p,hz⟩:=I0.list hq
   obtain ⟨u,hu,ru⟩:=rv.get hx
   have hl:=rv.length
   have hix:i<xs.length:=(List.getElem?_eq_some_iff.mp hx).1
   refine ⟨_,_,_,_,_,⟨WalksT.enumerateD (Draws.list (prog:=P) (w:=w) (A:=X.A.in1) (I0.ok.hd hc) it a hai its.toArray) e hei hef (by simp),itemN_enum (Draws.list (prog:=P) (w:=w) (A:=X.A.in1) (I0.ok.hd hc) it a hai its.toArray) e hei hef⟩,by rw [List.size_toArray];omega,⟨st.1,st.2,p.isList⟩,fun h' z=>⟨z.1,z.2.1⟩,?_⟩
   rintro vals ⟨t,y,hy,rfl⟩
   refine ⟨.int i,x,_,y,rfl,⟨t,rfl⟩,?_,rfl,fun ys hys=>?_⟩
   · have:its[i]?=some y:=by simpa using hy
     rw [hu] at this
     cases this
     exact ru
   · have hys':SqL X.K H a ys:=by rw [hK];exact hys
     rw [I0.list_inj hys' hq];exact hx
 · intro X hP hw' hK hc i pins s σ H I0 hf st hg
   obtain ⟨xs,hq,hx⟩:=hg
   rw [← hK] at hq
   obtain ⟨its,rv,p,hz⟩:=I0.list hq
   have hl:=rv.length
   have e1:its.toArray.size=i:=by rw [List.size_toArray];omega
   refine ⟨_,_,_,_,_,WalksT.enumerateD (Draws.list (prog:=P) (w:=w) (A:=X.A.in1) (I0.ok.hd hc) it a hai its.toArray) e hei hef (by simp),?_⟩
   rw [e1]
   exact ⟨st.1,st.2,p.isList⟩
theorem turn_zip {z TI TO i1 i2 l1 l2:Addr} (D:ZipApart z TI TO i1 i2 l1 l2):Turn P w K (.Tuple elts ek epos) (ItZ K l1 l2) [z,TI,TO,i1,i2] z (fun i h=>IsZip h z TI TO .none∧IsPair h TI (.ref i1) (.ref i2)∧(∃ a b,IsPair h TO a b)∧h.IsListIter i1 l1 i∧h.IsListIter i2 l2 i):=by
 refine turn_pairs (wr:=[z,TO,i1,i2]) (by simp) (fun b hb=>?_) (fun i h st b hb=>?_) (fun i h h' st k=>?_) (fun A i s Q E st q=>?_) ?_ ?_
 · simp at hb ⊢
   rcases hb with rfl | rfl | rfl | rfl <;> simp
 · obtain ⟨g1,g2,⟨x,y,g3⟩,⟨o1,h1,c1,d1⟩,⟨o2,h2,c2,d2⟩⟩:=st
   simp at hb
   rcases hb with rfl | rfl | rfl | rfl | rfl
   · exact ⟨_,g1,fun v z=>by cases z⟩
   · exact ⟨_,g2,fun v z=>by cases z⟩
   · exact ⟨_,g3,fun v z=>by cases z⟩
   · exact ⟨_,h1,fun v z=>by rw [d1] at z;cases z⟩
   · exact ⟨_,h2,fun v z=>by rw [d2] at z;cases z⟩
 · obtain ⟨g1,g2,⟨x,y,g3⟩,g4,g5⟩:=st
   exact ⟨k z (by simp) _ g1,k TI (by simp) _ g2,⟨x,y,k TO (by simp) _ g3⟩,g4.at fun o e=>k i1 (by simp) o e,g5.at fun o e=>k i2 (by simp) o e⟩
 · exact wpAny_pyIter_zip st.1 q
 · intro X hP hw' hK hc i pins s σ H I0 hf st hg
   obtain ⟨xs,ys,x,y,hq,hq',hx,hy⟩:=hg
   rw [← hK] at hq hq'
   obtain ⟨its,rv,p,hz⟩:=I0.list hq
   obtain ⟨its',rv',p',hz'⟩:=I0.list hq'
   obtain ⟨u,hu,ru⟩:=rv.get hx
   obtain ⟨u',hu',ru'⟩:=rv'.get hy
   have hl:=rv.length
   have hl':=rv'.length
   have hix:i<xs.length:=(List.getElem?_eq_some_iff.mp hx).1
   have hiy:i<ys.length:=(List.getElem?_eq_some_iff.mp hy).1
   obtain ⟨g1,g2,g3,g4,g5⟩:=st
   refine ⟨_,_,_,_,_,⟨WalksT.zip2 (prog:=P) (w:=w) (A:=X.A) (I0.ok.hd hc) z TI TO i1 i2 l1 l2 D its.toArray its'.toArray,itemN_zip z TI TO i1 i2 l1 l2 D its.toArray its'.toArray⟩,by rw [List.size_toArray,List.size_toArray];omega,⟨g1,g2,g3,g4,g5,p.isList,p'.isList⟩,fun h' q=>⟨q.1,q.2.1,q.2.2.1,q.2.2.2.1,q.2.2.2.2.1⟩,?_⟩
   rintro vals ⟨v,v',hv,hv',rfl⟩
   have e1:its[i]?=some v:=by simpa using hv
   have e2:its'[i]?=some v':=by simpa using hv'
   rw [hu] at e1
   rw [hu'] at e2
   cases e1
   cases e2
   exact ⟨x,y,_,_,rfl,ru,ru',fun ys hys=>by
    have hys':SqL X.K H l1 ys:=by rw [hK];exact hys
    rw [I0.list_inj hys' hq];exact hx,fun ys hys=>by
    have hys':SqL X.K H l2 ys:=by rw [hK];exact hys
    rw [I0.list_inj hys' hq'];exact hy⟩
 · intro X hP hw' hK hc i pins s σ H I0 hf st hg
   obtain ⟨xs,ys,hq,hq',hx,hy⟩:=hg
   rw [← hK] at hq hq'
   obtain ⟨its,rv,p,hz⟩:=I0.list hq
   obtain ⟨its',rv',p',hz'⟩:=I0.list hq'
   have hl:=rv.length
   have hl':=rv'.length
   obtain ⟨g1,g2,g3,g4,g5⟩:=st
   have e1:min its.toArray.size its'.toArray.size=i:=by rw [List.size_toArray,List.size_toArray];omega
   refine ⟨_,_,_,_,_,WalksT.zip2 (prog:=P) (w:=w) (A:=X.A) (I0.ok.hd hc) z TI TO i1 i2 l1 l2 D its.toArray its'.toArray,?_⟩
   rw [e1]
   exact ⟨g1,g2,g3,g4,g5,p.isList,p'.isList⟩
end
section
variable {X:Cx} {elts:List Expr} {ek:Nat} {epos:Pos}
noncomputable def iEnL (K:PySem.W.Frag) (ta:TA):TI:=fun σ H R=>ta σ H fun vs H1=>∃ a xs,vs=[.ref a]∧SqL K H1 a xs∧R (ItEL K a) H1
noncomputable def iZip (K:PySem.W.Frag) (ta:TA):TI:=fun σ H R=>ta σ H fun vs H1=>∃ a b xs ys,vs=[.ref a,.ref b]∧SqL K H1 a xs∧SqL K H1 b ys∧R (ItZ K a b) H1
theorem pi_enL {a:Expr} {ta:TA} {p pos:Pos} (hg:Gl X "enumerate") (hm:X.mg "enumerate"=none) (ha:PA X [a] ta) (hs:starEach [a] X.env=[(false,eval a X.env)]:=by rfl):PI X (.Tuple elts ek epos) (.Call (.Name "enumerate" p) [a] [] pos) (iEnL X.K ta):=by
 intro pins s σ H R I h
 refine Call_ (ld_blt I hg hm boot_enumerate (PyProof.Rows.callWith_type1 (thn (ha pos pins s σ H _ I h) fun us s1 ⟨vs,H1,I1,r1,q1⟩=>?_) hs rfl))
 obtain ⟨l,xs,rfl,hl,q⟩:=q1
 obtain ⟨u,rfl,ru⟩:=vals1 r1
 cases ru
 obtain ⟨its,rv,pl,hz⟩:=id (I1.list hl)
 have hll:l<s1.heap.objs.size:=by obtain ⟨o,z,_⟩:=pl.isList;exact Heap.lt_size z
 refine call_enumerate_list pl.isList fun hp he hit hsz hk=>?_
 have I2:Inv X pins σ H1 { s1 with heap:=hp }:=I1.kept (t':=s1.toks) hk
 have nx:∀ b,s1.heap.objs.size≤b→FpOk X pins H1 b:=fun b hb=>I1.fpOk hb (I1.hok.fresh hb)
 refine wpAny_pyIter_enum he ⟨_,[s1.heap.objs.size+1,s1.heap.objs.size],_,_,H1,rfl,I2,turn_enumL (Nat.succ_ne_self _) (Nat.ne_of_lt (Nat.lt_succ_of_lt hll)) (Nat.ne_of_lt hll),⟨⟨_,he⟩,hit⟩,fun b hb=>?_,q⟩
 rcases List.mem_cons.mp hb with z | z
 · subst z;exact nx _ (Nat.le_succ _)
 · have z:=List.mem_singleton.mp z
   subst z;exact nx _ (Nat.le_refl _)
theorem pi_zip {a b:Expr} {ta:TA} {p pos:Pos} (hg:Gl X "zip") (hm:X.mg "zip"=none) (ha:PA X [a,b] ta) (hs:starEach [a,b] X.env=[(false,eval a X.env),(false,eval b X.env)]:=by rfl) (hs2:starEach [b] X.env=[(false,eval b X.env)]:=by rfl) :
 PI X (.Tuple elts ek epos) (.Call (.Name "zip" p) [a,b] [] pos) (iZip X.K ta):=by
 intro pins s σ H R I h
 refine Call_ (ld_blt I hg hm boot_zip (PyProof.Rows.callWith_type1 (thn (ha pos pins s σ H _ I h) fun us s1 ⟨vs,H1,I1,r1,q1⟩=>?_) (by rw [hs,hs2]) (by rw [hs2];rfl)))
 obtain ⟨l,l',xs,ys,rfl,hl,hl',q⟩:=q1
 obtain ⟨u,v,rfl,ru,rv'⟩:=vals2 r1
 cases ru
 cases rv'
 obtain ⟨its,rv,pl,hz⟩:=id (I1.list hl)
 obtain ⟨its',rv',pl',hz'⟩:=id (I1.list hl')
 have hll:l<s1.heap.objs.size:=by obtain ⟨o,z,_⟩:=pl.isList;exact Heap.lt_size z
 have hll':l'<s1.heap.objs.size:=by obtain ⟨o,z,_⟩:=pl'.isList;exact Heap.lt_size z
 refine call_zip_2 pl.isList pl'.isList fun hp g1 g2 g3 g4 g5 hsz hk=>?_
 have I2:Inv X pins σ H1 { s1 with heap:=hp }:=I1.kept (t':=s1.toks) hk
 have nx:∀ b,s1.heap.objs.size≤b→FpOk X pins H1 b:=fun b hb=>I1.fpOk hb (I1.hok.fresh hb)
 generalize s1.heap.objs.size=n at *
 have D:ZipApart (n+4) (n+2) (n+3) n (n+1) l l':=zipApart_new hll hll'
 refine wpAny_pyIter_zip g1 ⟨_,[n+4,n+2,n+3,n,n+1],_,_,H1,rfl,I2,turn_zip D,⟨g1,g2,⟨_,_,g3⟩,g4,g5⟩,fun b hb=>?_,q⟩
 have le:∀ m,n≤n+m:=fun m=>Nat.le_add_right n m
 simp at hb
 rcases hb with rfl | rfl | rfl | rfl | rfl
 · exact nx _ (le 4)
 · exact nx _ (le 2)
 · exact nx _ (le 3)
 · exact nx _ (Nat.le_refl _)
 · exact nx _ (le 1)
end
section
variable {X:Cx}
end
end L2

namespace L2
open PySem PySem.Spec PyProof.Rows
noncomputable def Fnd (K:PySem.W.Frag) (mg:Str→Option Value) (nm:Str) (st:Stmt) (ps:List Str):Prop:=∃ (f:Addr) (fd:FuncData),Fun K nm nm st f fd∧mg nm=some (.ref f)∧Binds K fd ps []
noncomputable def Def (P:Program) (w:World) (K:PySem.W.Frag) (mg:Str→Option Value) (base:Heap) (k:Nat) (nm:Str) (ps:List Str) (sp:Sp):Prop :=
 ∃ (f:Addr) (fd:FuncData),PySem.W.keepIn K (.ref f)=true∧mg nm=some (.ref f)∧Binds K fd ps []∧FnOk P w K mg base CX0 k f fd ps sp
theorem Fnd.def {P:Program} {w:World} {K:PySem.W.Frag} {mg:Str→Option Value} {base:Heap} {k:Nat} {nm:Str} {st:Stmt} {ps:List Str} {sp:Sp} (S:Fnd K mg nm st ps) (h:∀ f fd,Fun K nm nm st f fd→FnOk P w K mg base CX0 k f fd ps sp):Def P w K mg base k nm ps sp:=by
 obtain ⟨f,fd,F,m,b⟩:=S
 exact ⟨f,fd,F.kp,m,b,h f fd F⟩
theorem Def.imp {P:Program} {w:World} {K:PySem.W.Frag} {mg:Str→Option Value} {base:Heap} {k:Nat} {nm:Str} {ps:List Str} {sp sp':Sp} (D:Def P w K mg base k nm ps sp) (h:∀ vs H Q E,sp' vs H Q E→sp vs H Q E):Def P w K mg base k nm ps sp':=by
 obtain ⟨f,fd,a,b,c,F⟩:=D
 exact ⟨f,fd,a,b,c,F.imp h⟩
section
variable {X:Cx}
theorem pe_def {k:Nat} {nm:Str} {ps:List Str} {sp:Sp} {e:Expr} {es:List Expr} {t:TA} {p pos:Pos} (hg:Gl X nm) (he:starEach (e :: es) X.env=(false,eval e X.env) :: starEach es X.env) (hpl:(backTo pos (starEach es X.env)).any (·.1)=false) (hdb:(nm == ("__debug__":Str))=false)
 (D:Def X.prog X.w X.K X.mg X.base k nm ps sp) (hr:Room k X.A) (ha:PA X (e :: es) t) :
 PE X (.Call (.Name nm p) (e :: es) [] pos) (tCall sp [] E0 t):=by
 obtain ⟨f,fd,a,b,c,F⟩:=D
 exact pe_call F hr hg b a c .nil pass0 ha hdb he hpl
theorem pi_enLK {K:PySem.W.Frag} {elts:List Expr} {ek:Nat} {epos:Pos} {a:Expr} {ta:TA} {p pos:Pos} (hg:Gl X "enumerate") (hs:starEach [a] X.env=[(false,eval a X.env)]) (e:X.K=K) (hm:X.mg "enumerate"=none) (ha:PA X [a] ta):PI X (.Tuple elts ek epos) (.Call (.Name "enumerate" p) [a] [] pos) (iEnL K ta):=e ▸ pi_enL hg hm ha hs
theorem pi_zipK {K:PySem.W.Frag} {elts:List Expr} {ek:Nat} {epos:Pos} {a b:Expr} {ta:TA} {p pos:Pos} (hg:Gl X "zip") (hs:starEach [a,b] X.env=[(false,eval a X.env),(false,eval b X.env)]) (hs2:starEach [b] X.env=[(false,eval b X.env)]) (e:X.K=K) (hm:X.mg "zip"=none) (ha:PA X [a,b] ta) :
 PI X (.Tuple elts ek epos) (.Call (.Name "zip" p) [a,b] [] pos) (iZip K ta):=e ▸ pi_zip hg hm ha hs hs2
end
section
variable {K:PySem.W.Frag} {a b D:Addr} {xs zs:List V} {g:TG} {tt:TT} {te:TE} {σ0:St} {H0:Hp} {Q:VK}
theorem comp_enL (Pv:Nat→List V→St→Hp→Prop) (h0:Pv 0 [] σ0 H0) (hl:∀ i ys σ H,Pv i ys σ H→SqL K H a xs∧H D=some (.lst ys))
 (hs:∀ i x ys σ H T G,xs[i]?=some x→i<xs.length→Pv i ys σ H→H T=none→Same H G→G T=some (.tup [.int i,x])→g (.ref T) σ G fun σ3 H3=>tt σ3 H3 fun b H4=>if b=true then
  te σ3 H4 fun y H5=>H5 D=some (.lst ys)∧ys.length<sizeLine∧∃ m',m'<xs.length - i∧Wt Pv xs.length (i+1) m' (ys ++ [y]) σ3 (upd H5 D (.lst (ys ++ [y]))) else ∃ m',m'<xs.length - i∧Wt Pv xs.length (i+1) m' ys σ3 H4)
 (hd:∀ ys σ H,Pv xs.length ys σ H→Q (.ref D) H):CompW (ItEL K a) D g tt te Q σ0 H0:=by
 refine ⟨Wt Pv xs.length,⟨xs.length,rfl,Nat.zero_le _,h0⟩,?_⟩
 rintro i m ys σ' H' ⟨rfl,hi,p⟩
 obtain ⟨hq,hD⟩:=hl i ys σ' H' p
 refine ⟨hD,?_⟩
 by_cases hlt:i<xs.length
 · refine .inr ⟨⟨xs,xs[i],hq,by simp [hlt]⟩,fun x H2 y=>?_⟩
   obtain ⟨T,u,v,rfl,hT,rfl,rfl,hv⟩:=y
   exact hs i v ys σ' H' T _ (hv xs hq) hlt p hT (Same.new hT) upd_same
 · have e:i=xs.length:=by omega
   subst e
   exact .inl ⟨⟨xs,hq,rfl⟩,hd ys σ' H' p⟩
theorem comp_zip (hlen:zs.length=xs.length) (Pv:Nat→List V→St→Hp→Prop) (h0:Pv 0 [] σ0 H0) (hl:∀ i ys σ H,Pv i ys σ H→SqL K H a xs∧SqL K H b zs∧H D=some (.lst ys))
 (hs:∀ i x z ys σ H T G,xs[i]?=some x→zs[i]?=some z→i<xs.length→Pv i ys σ H→H T=none→Same H G→G T=some (.tup [x,z])→g (.ref T) σ G fun σ3 H3=>tt σ3 H3 fun b H4=>if b=true then
  te σ3 H4 fun y H5=>H5 D=some (.lst ys)∧ys.length<sizeLine∧∃ m',m'<xs.length - i∧Wt Pv xs.length (i+1) m' (ys ++ [y]) σ3 (upd H5 D (.lst (ys ++ [y]))) else ∃ m',m'<xs.length - i∧Wt Pv xs.length (i+1) m' ys σ3 H4)
 (hd:∀ ys σ H,Pv xs.length ys σ H→Q (.ref D) H):CompW (ItZ K a b) D g tt te Q σ0 H0:=by
 refine ⟨Wt Pv xs.length,⟨xs.length,rfl,Nat.zero_le _,h0⟩,?_⟩
 rintro i m ys σ' H' ⟨rfl,hi,p⟩
 obtain ⟨hq,hq',hD⟩:=hl i ys σ' H' p
 refine ⟨hD,?_⟩
 by_cases hlt:i<xs.length
 · refine .inr ⟨⟨xs,zs,xs[i],zs[i],hq,hq',by simp [hlt],by simp [hlt,hlen]⟩,fun x H2 y=>?_⟩
   obtain ⟨T,u,v,rfl,hT,rfl,hu,hv⟩:=y
   exact hs i u v ys σ' H' T _ (hu xs hq) (hv zs hq') hlt p hT (Same.new hT) upd_same
 · have e:i=xs.length:=by omega
   subst e
   exact .inl ⟨⟨xs,zs,hq,hq',rfl,hlen⟩,hd ys σ' H' p⟩
end
structure Txt (mg:Str→Option Value):Prop where
 abs:mg "abs"=none
 isi:mg "isinstance"=none
 tup:mg "tuple"=none
 int:mg "int"=none
 bool:mg "bool"=none
 lst:mg "list"=none
 enu:mg "enumerate"=none
 len:mg "len"=none
 range:mg "range"=none
 srt:mg "sorted"=none
 sum:mg "sum"=none
 zip:mg "zip"=none
 max:mg "max"=none
noncomputable def SqF (K:PySem.W.Frag) (H:Hp) (p:Addr) (A:Int×Int):Prop:=SqT K H p [.int A.1,.int A.2]
theorem SqF.of {K:PySem.W.Frag} {H:Hp} {p:Addr} {A:Int×Int} (h:FrA K H p A):SqF K H p A:=SqT.of h
noncomputable def spF2G (K:PySem.W.Frag) (op:Int×Int→Int×Int→Int×Int):Sp:=fun vs H Q _=>∃ (p q:Addr) (A B:Int×Int),vs=[.ref p,.ref q]∧SqF K H p A∧SqF K H q B∧0<A.2∧0<B.2∧Sz2 3000 A∧Sz2 3000 B∧∀ (r:Addr) (H':Hp),Same H H'→FrA K H' r (op A B)→Q (.ref r) H'
noncomputable def spMadeS:Sp:=fun vs H Q _=>∃ x y:Int,vs=[.int x,.int y]∧y≠0∧Sz 8000 x∧Sz 8000 y∧∀ (p:Addr) (H':Hp),Same H H'→H' p=some (.tup [.int (Pw.mk x y).1,.int (Pw.mk x y).2])→Q (.ref p) H'
set_option genInjectivity false in
structure Gv (K:PySem.W.Frag) (H:Hp) (w lp ls:Addr) (pages:Int) (ps:List (Int×Int)) (A:Int×Int) (Bs:List (Int×Int)) (us:List V):Prop where
 web:WebAt K H w pages ps
 few:ps.length≤100
 lk:∀ p∈ps,0≤p.1∧p.1<pages∧0≤p.2∧p.2<pages
 leap:FrA K H lp A
 ca:Pw.Canon A
 sa:Sz2 100 A
 leaps:H ls=some (.tup us)
 row:FrL K H Bs us
 cb:Pw.Canons Bs
 sb:∀ B∈Bs,Sz2 600 B
 len:(Bs.length:Int)=pages
 plo:1≤pages
 phi:pages≤13
theorem Gv.same {K:PySem.W.Frag} {H H':Hp} {w lp ls:Addr} {pages:Int} {ps:List (Int×Int)} {A:Int×Int} {Bs:List (Int×Int)} {us:List V} (g:Gv K H w lp ls pages ps A Bs us) (s:Same H H'):Gv K H' w lp ls pages ps A Bs us :=
 { g with web:=g.web.same s,leap:=s _ _ g.leap,leaps:=s _ _ g.leaps,row:=g.row.same s }
theorem Gv.kl {K:PySem.W.Frag} {H H':Hp} {w lp ls:Addr} {pages:Int} {ps:List (Int×Int)} {A:Int×Int} {Bs:List (Int×Int)} {us:List V} (g:Gv K H w lp ls pages ps A Bs us) (s:KL H H'):Gv K H' w lp ls pages ps A Bs us :=
 { g with web:=g.web.kl s,leap:=s.tup g.leap,leaps:=s.tup g.leaps,row:=g.row.kp s }
end L2

namespace L2
open PySem PySem.Spec PyProof.Rows
section
variable {X:Cx}
theorem ps_compSet {i:Nat} {x:Str} {pos' pos2:Pos} {tg iter elt:Expr} {ifs:List Expr} {scope:Scope} {pos:Pos} {N':List Str} {ks:List (Option Nat)} {cl:List (Str×Addr)} {wi:TI} {g:TG} {tt:TT} {te:TE}
 (hsw:swapsWith (.ListComp elt [⟨tg,iter,ifs,0⟩] scope pos) (some (.Name x pos')) pos2.line X.env=pure true) (hN:X.N.Nodup) (hxi:X.N[i]?=some x) (hxl:X.env.scope.names.lookup x=some .local)
 (hcalm:X.calm=true) (hi:PI X tg iter wi) (hclos:closureFor scope X.env=pure cl) (hcl:∀ x c,cl.lookup x=some c→X.env.cells.lookup x=some c)
 (hcell:∀ y∈scope.names,y.2≠.cell) (hkind:scope.kind=.function) (hnames:∀ y∈scope.names,y.2=.local→scope.names.lookup y.1=some .local)
 (hhas:∀ x,((relabel scope X.env).names.lookup x=some .cell∨(relabel scope X.env).names.lookup x=some .free)→∃ c,cl.lookup x=some c)
 (hcap:Cap X (relabel scope X.env) N' ks)
 (hg:∀ C s H fp,PG (compX X N' scope cl C s H fp) tg g) (ht:∀ C s H fp,PTs (compX X N' scope cl C s H fp) ifs tt) (he:∀ C s H fp,PE (compX X N' scope cl C s H fp) elt te)
 (hs:∀ x,foldedSetIterable iter X.env x=pure x:=by intro _;rfl):PS X (.Assign [.Name x pos'] (.ListComp elt [⟨tg,iter,ifs,0⟩] scope pos) pos2) (tAsg (tComp wi ks g tt te) (gName i)):=by
 intro pins s σ H DD I h
 let Q:VK:=fun v H1=>DD.nx (σ.set i (some v)) H1
 have h:tComp wi ks g tt te σ H Q:=h
 rw [exec_Assign_Name_used _ _ _ _ hsw]
 refine wpAny_bind (wpAny_standAt (wpAny_bind ?_))
 show wpAny _ _ (do let _ ←comprehension (.ListComp elt [⟨tg,iter,ifs,0⟩] scope pos) scope X.env _ (newList []) false (eval iter X.env) (some (assign (.Name x pos') X.env))) _ _ s
 refine wpAny_bind (wpAny_mono (wpAny_comprehension_free (use:=some (assign (.Name x pos') X.env)) (Q:=fun _ s'=>SP X pins DD .next s') rfl hs hclos hkind hnames (thn (hi pins s σ H _ I h) fun v s1 h1=>thn h1 fun itv s2 h2=>?_)) (fun _ s' hq=>wpAny_pure (wpAny_pure hq)) fun _ _ z=>z)
 obtain ⟨it,fp,tn,J,H2,e,I2,T,st2,f2,R⟩:=h2
 subst e
 refine wpAny_newObj_type (wpAny_newFunctionEnv hcell (by intro y hy;simp at hy) (fun h₁ hns₁ hsb₁=>?_) hkind)
 dsimp only at hns₁ hsb₁ ⊢
 have hD:H2 s2.heap.objs.size=none:=I2.hok.fresh (Nat.le_refl _)
 obtain ⟨W,⟨m0,w0⟩,turn⟩:=R _ hD
 generalize hs3:({ s2 with heap:=s2.heap.push { cls:=.type "list",dict:=none,data:=.seq ([]:List Value).toArray } }:Shared)=s3
 have e3:s3.heap=s2.heap.push { cls:=.type "list",dict:=none,data:=.seq ([]:List Value).toArray }:=by rw [← hs3]
 have I3:Inv X pins σ (upd H2 s2.heap.objs.size (.lst [])) s3:=by
  rw [← hs3]
  exact I2.laid (t':=s2.toks) (fun b o e=>Heap.get?_push_of_some _ e) (Nat.le_refl _) ⟨Nat.zero_le _,[],0,.nil,Heap.get?_push_size _ rfl⟩
 generalize hD0:s2.heap.objs.size=D at *
 generalize hH3:upd H2 D (.lst [])=H3 at *
 rw [← e3] at hns₁ hsb₁ ⊢
 have kp:∀ b o,s3.heap.get? b=some o→h₁.get? b=some o:=fun b o e=>hsb₁.extBut b o (Nat.ne_of_lt (Heap.lt_size e)) (Heap.get?_push_of_some _ e)
 have f3:∀ b∈fp,FpOk X pins H3 b∧b<s3.heap.objs.size:=fun b hb=>by
  obtain ⟨o,ho,_⟩:=T.obj 0 _ st2 b hb
  have hlt:b<D:=by rw [← hD0];exact Heap.lt_size ho
  refine ⟨⟨?_,(f2 b hb).2⟩,?_⟩
  · rw [← hH3,upd_ne (Nat.ne_of_lt hlt)];exact (f2 b hb).1
  · rw [e3,Heap.size_push,hD0];exact Nat.lt_succ_of_lt hlt
 have st3:tn 0 h₁:=T.keep 0 s2.heap h₁ st2 fun b hb o e=>kp b o (by rw [e3];exact Heap.get?_push_of_some _ e)
 have capK:∀ x c,cl.lookup x=some c→X.env.cells.lookup x=some c:=hcl
 have stkne:∀ b∈fp,b ∉ frs X.stack:=fun b hb z=>by
  rcases List.mem_cons.mp (I3.stkSub b z) with e | e
  · exact (f3 b hb).1.2.1 e
  · exact (f3 b hb).1.2.2.1 e
 have Cfresh:H3 s3.heap.objs.size=none:=I3.hok.fresh (Nat.le_refl _)
 have ok':(compX X N' scope cl s3.heap.objs.size s3 H3 fp).Ok:=by
  refine ⟨I3.ok.mod,hkind,I3.ok.glob,I3.ok.blt,Nat.le_refl _,fun x y c h1 h2=>I3.ok.inj x y c (capK x c h1) (capK y c h2),fun x hx=>hhas x hx,fun x c hf _=>absurd (show false=true from hf) Bool.false_ne_true,fun z=>I3.ok.hd z,I3.ok.frames,.inl rfl,
   fun b hb=>⟨Nat.ne_of_lt (f3 b hb).2,fun x c e=>(f3 b hb).1.2.2.2.2.1 x c (capK x c e)⟩,I3.bs,Nat.le_trans I3.ok.bsz I3.sz,fun b o e hb=>?_,fun b hb=>stkne b hb,I3.stack,I3.stkFree⟩
  rcases (f3 b hb).1.2.2.2.1 with z | z
  · exact I3.ok.noex b o e z
  · exact absurd (Nat.lt_of_lt_of_le (Heap.lt_size e) (Nat.le_trans I3.ok.bsz z)) (Nat.lt_irrefl _)
 have I4:Inv (compX X N' scope cl s3.heap.objs.size s3 H3 fp) [] (capt ks σ) H3 { s3 with heap:=h₁,toks:=s3.toks+([]:List (Str×Value)).length }:=by
  refine ⟨ok',rfl,I3.bare,Un.kept kp,⟨_,hns₁,fun i x v e1 e2 e3'=>?_⟩,fun x c e=>?_,Cfresh,fun x c e=>I3.freeC x c (capK x c e),fun p hp=>absurd (show p∈([]:List (Addr×Obj)) from hp) (by simp),I3.hok.kept kp,?_⟩
  · have e2':(capt ks σ)[i]?=some (some v):=e2
    unfold capt at e2'
    rw [List.getElem?_map] at e2'
    cases hk:ks[i]? with
    | none=>rw [hk] at e2';cases e2'
    | some o =>
      rw [hk] at e2'
      cases o with
      | none=>cases e2'
      | some k =>
        have ev:σ.getD k none=some v:=Option.some.inj e2'
        obtain ⟨c1,c2,c3⟩:=hcap.get e1 hk
        obtain ⟨m,hn,hl⟩:=I3.loc
        have es:σ[k]?=some (some v):=by
         rw [List.getD_eq_getElem?_getD] at ev
         cases q:σ[k]? with
         | none=>rw [q] at ev;cases ev
         | some z=>rw [q] at ev;exact congrArg some ev
        obtain ⟨u,r,l⟩:=hl k x v c1 es (.inr (.inl c2))
        refine ⟨u,r,.inr ⟨c3,?_⟩⟩
        rcases l with ⟨l1,_⟩ | ⟨_,c,l2,l3⟩
        · have l1':X.env.scope.names.lookup x=some .local:=l1
          rw [c2] at l1';cases l1'
        · obtain ⟨c',hc'⟩:=hhas x c3
          have:X.env.cells.lookup x=some c':=capK x c' hc'
          rw [l2] at this
          cases this
          refine ⟨c,hc',?_⟩
          obtain ⟨o,ho,hd⟩:=l3
          exact ⟨o,kp c o ho,hd⟩
  · obtain ⟨v,o,ho,hd⟩:=I3.cell x c (capK x c e)
    exact ⟨v,o,kp c o ho,hd⟩
  · show (capt ks σ).length=N'.length
    unfold capt
    rw [List.length_map,hcap.len]
 have Cne:∀ p∈X.pn ++ pins,p.1≠s3.heap.objs.size:=fun p hp=>Nat.ne_of_lt (Heap.lt_size (I3.pin p hp).1)
 have back:∀ {σ':St} {H':Hp} {s':Shared},Inv (compX X N' scope cl s3.heap.objs.size s3 H3 fp) [] σ' H' s'→∀ h'':Heap,Heap.SameBut s3.heap.objs.size s'.heap h''→Inv X pins σ H' { s' with heap:=h'' }:=fun {σ' H' s'} I' h'' sb=>by
  have J1:Inv X pins σ H' s':=I3.call' (ch:=fp) I'.os I'.base I'.hok I'.bare fun b hb=>⟨(f3 b hb).1.2.2.2.1,(f3 b hb).1.2.1,(f3 b hb).1.2.2.2.2.1,(f3 b hb).1.2.2.2.2.2⟩
  refine J1.turned (t':=s'.toks) (it:=s3.heap.objs.size) (fun b o hb e=>(sb.2 b hb).trans e) I'.free (Nat.ne_of_gt I3.lt) (.inr I3.sz) (fun x c e=>?_) Cne
  obtain ⟨v,q⟩:=I3.cell x c e
  exact Nat.ne_of_lt q.lt
 have fpok:∀ {H':Hp},(∀ b∈fp,H' b=none)→∀ b∈fp,FpOk (compX X N' scope cl s3.heap.objs.size s3 H3 fp) [] H' b:=fun hn b hb =>
  ⟨hn b hb,Nat.ne_of_lt (f3 b hb).2,stkne b hb,.inl hb,fun x c e=>(f3 b hb).1.2.2.2.2.1 x c (capK x c e),fun p hp=>absurd (show p∈([]:List (Addr×Obj)) from hp) (by simp)⟩
 have loop:codeAny (model X.prog X.w) X.A (.compLoop (.ListComp elt [⟨tg,iter,ifs,0⟩] scope pos) 0 (.ref it) (.ref D) (compEnvC scope cl s3.heap.objs.size X.env))
  (compPost (model X.prog X.w) X.A X.xe (some (assign (.Name x pos') X.env)) (fun _ s'=>SP X pins DD .next s') (.ref D) s3.heap.objs.size) { s3 with heap:=h₁,toks:=s3.toks+([]:List (Str×Value)).length }:=by
  refine compLoop_any (fun n s'=>∃ i ys σ' H',Inv (compX X N' scope cl s3.heap.objs.size s3 H3 fp) [] σ' H' s'∧tn i s'.heap∧(∀ b∈fp,H' b=none)∧W i n ys σ' H') ?_ m0 ⟨0,[],_,_,I4,st3,fun b hb=>(f3 b hb).1.1,w0⟩
  rintro n s5 ⟨i,ys,σ5,H5,I5,st5,fr5,w5⟩
  obtain ⟨hD5,tq⟩:=turn i n ys σ5 H5 w5
  rcases tq with ⟨stop,q⟩ | ⟨go,step⟩
  · refine thn (T.done (compX X N' scope cl s3.heap.objs.size s3 H3 fp) rfl rfl rfl hcalm i [] s5 σ5 H5 _ I5 (fpok fr5) st5 stop) fun r s6 ⟨hr,I6⟩=>?_
    subst hr
    obtain ⟨m,hn,_⟩:=I6.loc
    have J1:Inv X pins σ H5 s6:=I3.call' (ch:=fp) I6.os I6.base I6.hok I6.bare fun b hb=>⟨(f3 b hb).1.2.2.2.1,(f3 b hb).1.2.1,(f3 b hb).1.2.2.2.2.1,(f3 b hb).1.2.2.2.2.2⟩
    have cL:∀ y c,X.env.cells.lookup y=some c→c≠s3.heap.objs.size:=fun y c e=>by
     obtain ⟨v,q⟩:=I3.cell y c e
     exact Nat.ne_of_lt q.lt
    refine wpAny_assign_Name (store_ok2 (v:=.ref D) J1 hN hxi (.inl hxl) rfl (fun s7 I7 sb7=>?_) (.inr hxl))
    obtain ⟨a,sba,ha⟩:=sb7
    have nC:s3.heap.objs.size≠a:=fun z=>by
     rcases ha with e | e
     · exact Nat.ne_of_gt I3.lt (z.trans e)
     · exact cL _ _ e z.symm
    refine ⟨m,hn.at' fun o e=>(sba.2 _ nC).trans e,fun h'' sb=>⟨_,H5,?_,q⟩⟩
    exact I7.turned (t':=s7.toks) (it:=s3.heap.objs.size) (fun b o hb e=>(sb.2 b hb).trans e) I6.free (Nat.ne_of_gt I3.lt) (.inr I3.sz) cL Cne
  · refine thn (T.item (compX X N' scope cl s3.heap.objs.size s3 H3 fp) rfl rfl rfl hcalm i [] s5 σ5 H5 _ I5 (fpok fr5) st5 go) fun r s6 ⟨u,hr,h6⟩=>?_
    subst hr
    refine thn h6 fun _ s7 ⟨x,H7,I7,r7,y7,st7,fr7⟩=>?_
    have I7':=I7.pinned (fpok fr7) (T.obj _ _ st7)
    refine thn (hg _ _ _ _ _ s7 σ5 H7 x u _ I7' r7 (step x H7 y7)) fun _ s8 ⟨σ8,H8,I8,q8⟩=>?_
    refine thn (ht _ _ _ _ _ s8 σ8 H8 _ I8 q8) fun ok s9 ⟨H9,I9,q9⟩=>?_
    have again:∀ {σ':St} {H':Hp} {s':Shared} {ys':List V},Inv (compX X N' scope cl s3.heap.objs.size s3 H3 fp) ([] ++ pinsAt fp s7.heap) σ' H' s'→(∃ m',m'<n∧W (i+1) m' ys' σ' H') →
     ∃ m',m'<n∧∃ i ys σ' H',Inv (compX X N' scope cl s3.heap.objs.size s3 H3 fp) [] σ' H' s'∧tn i s'.heap∧(∀ b∈fp,H' b=none)∧W i m' ys σ' H':=fun {σ' H' s' ys'} I' hw=>by
     obtain ⟨m',hm,w'⟩:=hw
     refine ⟨m',hm,i+1,ys',σ',H',I'.unpinned,T.keep _ _ _ st7 fun b hb o e=>(I'.pin (b,o) (List.mem_append_right _ (List.mem_append_right _ (mem_pinsAt hb e)))).1,fun b hb=>?_,w'⟩
     obtain ⟨o,e,d⟩:=T.obj _ _ st7 b hb
     exact (I'.pin (b,o) (List.mem_append_right _ (List.mem_append_right _ (mem_pinsAt hb e)))).2.1
    cases ok with
    | false =>
      rw [if_neg Bool.false_ne_true] at q9 ⊢
      exact again I9 q9
    | true =>
      rw [if_pos rfl] at q9 ⊢
      refine thn (he _ _ _ _ _ s9 σ8 H9 _ I9 q9) fun y s10 ⟨yv,H10,I10,r10,q10,z10,w10⟩=>?_
      refine thn (mt_append _ s10 σ8 H10 (.ref D) [yv] (.ref D) [y] (fun v H'=>v=.non∧H'=upd H10 D (.lst (ys ++ [yv]))) I10 rfl (.cons r10 .nil) ⟨D,ys,yv,rfl,rfl,q10,z10,rfl,rfl⟩) fun _ s11 ⟨_,H11,I11,_,_,e11⟩=>?_
      subst e11
      exact again I11 w10
 have es:({ s3 with heap:=h₁,toks:=s3.toks+([]:List (Str×Value)).length }:Shared)={ s2 with heap:=h₁,toks:=s2.toks+([]:List (Str×Value)).length }:=by rw [← hs3]
 rw [es] at loop
 exact codeAny_compStart_list loop (T.self _ 0 _ _ _ st3 loop)
theorem ps_setC {x:Str} {pos' pos2:Pos} (i:Nat) {tg iter elt:Expr} {ifs:List Expr} {scope:Scope} {pos:Pos} (N':List Str) (ks:List (Option Nat)) {wi:TI} {g:TG} {tt:TT} {te:TE}
 (hsw:swapsWith (.ListComp elt [⟨tg,iter,ifs,0⟩] scope pos) (some (.Name x pos')) pos2.line X.env=pure true) (hN:X.N.Nodup) (hxi:X.N[i]?=some x) (hxl:X.env.scope.names.lookup x=some .local)
 (hcalm:X.calm=true) (hi:PI X tg iter wi) (hfree:∀ y∈scope.names,y.2=.free→X.env.scope.names.lookup y.1=some .cell)
 (hcell:∀ y∈scope.names,y.2≠.cell) (hkind:scope.kind=.function) (hnames:∀ y∈scope.names,y.2=.local→scope.names.lookup y.1=some .local)
 (hcap:Cap X (relabel scope X.env) N' ks)
 (hg:∀ cl C s H fp,PG (compX X N' scope cl C s H fp) tg g) (ht:∀ cl C s H fp,PTs (compX X N' scope cl C s H fp) ifs tt) (he:∀ cl C s H fp,PE (compX X N' scope cl C s H fp) elt te)
 (hs:∀ x,foldedSetIterable iter X.env x=pure x:=by intro _;rfl):PS X (.Assign [.Name x pos'] (.ListComp elt [⟨tg,iter,ifs,0⟩] scope pos) pos2) (tAsg (tComp wi ks g tt te) (gName i)):=by
 intro pins s σ H D I h
 obtain ⟨cl,e1,e2,e3⟩:=closure_ok (scope:=scope) (env:=X.env) fun y hy hf=>I.ok.has y.1 (.inl (hfree y hy hf))
 refine ps_compSet hsw hN hxi hxl hcalm hi e1 e2 hcell hkind hnames (fun x hx=>?_) hcap (hg cl) (ht cl) (he cl) hs pins s σ H D I h
 have key:∀ k,(x,k)∈(relabel scope X.env).names→k=.cell∨k=.free→(x,NameKind.free)∈scope.names:=fun k hm hk=>by
  unfold relabel at hm
  obtain ⟨⟨n,k'⟩,hy,e⟩:=List.mem_map.mp hm
  dsimp only at e
  split at e
  · rename_i hc
    cases e
    have:k'=.free:=by simp at hc;exact hc.1.1
    rw [← this];exact hy
  · cases e
    rcases hk with rfl | rfl
    · exact absurd rfl (hcell _ hy)
    · exact hy
 rcases hx with hx | hx
 · exact e3 x (key _ (PySem.mem_of_lookup hx) (.inl rfl))
 · exact e3 x (key _ (PySem.mem_of_lookup hx) (.inr rfl))
end
end L2

namespace L2
open PySem PySem.Spec PyProof.Rows
theorem tupD_refl (As:List (Int×Int)):eqDs (As.map tupD) (As.map tupD)=true:=(eqDs_prs As As).trans (by simp)
section
variable {K:PySem.W.Frag} {H:Hp} {p q:Addr} {W V':List (Int×Int)} {xs ys:List V} {Q:VK}
theorem neTT (h1:SqT K H p xs) (h2:SqT K H q ys) (f1:FrL K H W xs) (f2:FrL K H W ys) (k:Q (.bl false) H):rEqD K true (.ref p) (.ref q) H Q :=
 ⟨p,q,_,_,_,_,rfl,rfl,.inl ⟨h1,h2⟩,f1.dens,f2.dens,FrL.dep _,by rw [if_pos rfl,tupD_refl];exact k⟩
end
theorem mem_getD {Bs:List (Int×Int)} {t:Nat} (h:t<Bs.length):Bs.getD t (0,1)∈Bs:=by
 rw [List.getD_eq_getElem?_getD,List.getElem?_eq_getElem h]
 exact List.getElem_mem h
end L2

namespace Pw
noncomputable def ofQ (q:Rat):Int×Int:=(q.num,(q.den:Int))
theorem ofQ_canon (q:Rat):Canon (ofQ q):=⟨by show (0:Int)<(q.den:Int);have:=q.den_nz;omega,by show Int.gcd q.num (q.den:Int)=1;have:=q.reduced;unfold Int.gcd;simpa [Nat.Coprime] using this⟩
theorem val_ofQ (q:Rat):val (ofQ q)=q:=by
 unfold val ofQ
 show ((q.num:Int):Rat) / (((q.den:Nat):Int):Rat)=q
 rw [← Rat.divInt_eq_div,Rat.num_divInt_den]
theorem ofQ_val {A:Int×Int} (h:Canon A):ofQ (val A)=A:=val_inj (ofQ_canon _) h (val_ofQ _)
theorem fplus_ofQ {A B:Int×Int} (ha:A.2≠0) (hb:B.2≠0):fplus A B=ofQ (val A+val B):=val_inj (canon_fplus ha hb) (ofQ_canon _) (by rw [val_fplus ha hb,val_ofQ])
theorem cpos {d:Int} (h:0<d):(0:Rat)<(d:Rat):=by
 have:((0:Int):Rat)<(d:Rat):=Rat.intCast_lt_intCast.mpr h
 simpa using this
theorem cnn {d:Int} (h:0≤d):(0:Rat)≤(d:Rat):=by
 have:((0:Int):Rat)≤(d:Rat):=Rat.intCast_le_intCast.mpr h
 simpa using this
theorem mul_le_r {a b c:Rat} (h:a≤b) (hc:0≤c):a * c≤b * c:=Rat.mul_le_mul_of_nonneg_right h hc
theorem mul_nn {a b:Rat} (ha:0≤a) (hb:0≤b):0≤a * b:=by
 have:=mul_le_r ha hb
 grind
theorem div_nn {a b:Rat} (ha:0≤a) (hb:0<b):0≤a / b:=by
 rw [Rat.div_def]
 exact mul_nn ha (Rat.le_of_lt (Rat.inv_pos.mpr hb))
theorem le_of_mul {a b c:Rat} (hc:0<c) (h:a * c≤b * c):a≤b:=Rat.le_of_mul_le_mul_right h hc
theorem val_nn {A:Int×Int} (h:0<A.2) (h1:0≤A.1):0≤val A:=div_nn (cnn h1) (cpos h)
theorem val_le1 {A:Int×Int} (h:0<A.2) (h1:A.1≤A.2):val A≤1:=by
 have hp:=cpos h
 refine le_of_mul hp ?_
 unfold val
 have:(A.1:Rat)≤(A.2:Rat):=Rat.intCast_le_intCast.mpr h1
 have e:(A.1:Rat) / (A.2:Rat) * (A.2:Rat)=A.1:=by have:=castne (d:=A.2) (by omega);grind
 rw [e]
 grind
structure Bd (D:Int) (C:Rat) (q:Rat):Prop where
 int:∃ n:Int,q * (D:Rat)=(n:Rat)
 lo:-C≤q
 hi:q≤C
theorem Bd.zero {D:Int}:Bd D 0 0:=⟨⟨0,by simp⟩,by grind,by grind⟩
theorem Bd.add {D:Int} {C C' p q:Rat} (a:Bd D C p) (b:Bd D C' q):Bd D (C+C') (p+q):=by
 obtain ⟨⟨n,hn⟩,l1,h1⟩:=a
 obtain ⟨⟨m,hm⟩,l2,h2⟩:=b
 refine ⟨⟨n+m,?_⟩,by grind,by grind⟩
 rw [Rat.intCast_add];grind
theorem Bd.mul01 {D E:Int} {C p q:Rat} (a:Bd D C p) (h:∃ m:Int,q * (E:Rat)=(m:Rat)) (h0:0≤q) (h1:q≤1) (hC:0≤C):Bd (D * E) C (p * q):=by
 obtain ⟨⟨n,hn⟩,lo,hi⟩:=a
 obtain ⟨m,hm⟩:=h
 refine ⟨⟨n * m,?_⟩,?_,?_⟩
 · rw [Rat.intCast_mul,Rat.intCast_mul,← hn,← hm];grind
 · have h4:=mul_le_r lo h0
   have h5:=Rat.mul_le_mul_of_nonneg_left h1 hC
   grind
 · have h4:=mul_le_r hi h0
   have h5:=Rat.mul_le_mul_of_nonneg_left h1 hC
   grind
theorem Bd.mono {D:Int} {C C' q:Rat} (a:Bd D C q) (h:C≤C'):Bd D C' q:=⟨a.int,by have:=a.lo;grind,by have:=a.hi;grind⟩
theorem Bd.qs {D:Int} {C:Rat} {f:Nat→Rat}:∀ {n:Nat},(∀ i,i<n→Bd D C (f i))→Bd D ((n:Nat) * C) (qs n f)
 | 0,_=>by
   have:(((0:Nat):Rat)) * C=0:=by simp
   rw [this];exact Bd.zero
 | n+1,h=>by
   have h1:=(Bd.qs (n:=n) fun i hi=>h i (by omega)).add (h n (by omega))
   have e:(((n+1:Nat):Rat)) * C=((n:Nat):Rat) * C+C:=by
    have:((n+1:Nat):Rat)=((n:Nat):Rat)+1:=by push_cast;rfl
    rw [this];grind
   rw [e]
   exact h1
theorem den_dvd {q:Rat} {D n:Int} (hD:D≠0) (h:q * (D:Rat)=(n:Rat)):(q.den:Int) ∣ D:=by
 have hq:Fr (ofQ q) n D:=by
  refine ⟨ofQ_canon q,hD,?_⟩
  have e:=val_ofQ q
  unfold val at e
  have hd:=castne (canon_ne (ofQ_canon q))
  have:((ofQ q).1:Rat) * (D:Rat)=(n:Rat) * ((ofQ q).2:Rat):=by rw [← h];rw [← e];grind
  exact_mod_cast this
 have w:=hq.w
 have:(ofQ q).2 ∣ (ofQ q).1 * D:=⟨n,by rw [w];exact Int.mul_comm ..⟩
 exact dvd_left this hq.canon.2
theorem Bd.sz {D:Int} {C:Int} {q:Rat} {k:Nat} (a:Bd D (C:Rat) q) (hD:0<D) (hC:1≤C) (z:L2.Sz k (C * D)):L2.Sz2 k (ofQ q):=by
 obtain ⟨⟨n,hn⟩,lo,hi⟩:=a
 have hd:=den_dvd (by omega) hn
 have hle:(q.den:Int)≤D:=Int.le_of_dvd hD hd
 have hp:(0:Int)<(q.den:Int):=(ofQ_canon q).1
 have hz:(C * D).natAbs<2 ^ k:=z
 have hCD:D≤C * D:=by
  have:=Int.mul_le_mul_of_nonneg_right hC (Int.le_of_lt hD)
  omega
 refine ⟨?_,?_⟩
 · show q.num.natAbs<2 ^ k
   have e:=val_ofQ q
   unfold val at e
   have hpq:=cpos hp
   have hne:=castne (d:=(q.den:Int)) (by omega)
   have en:(q.num:Rat)=q * ((q.den:Int):Rat):=by
    have:((ofQ q).1:Rat) / ((ofQ q).2:Rat)=q:=e
    have e2:(q.num:Rat) / ((q.den:Int):Rat)=q:=this
    grind
   have u1:(q.num:Rat)≤((C * (q.den:Int):Int):Rat):=by
    rw [en,Rat.intCast_mul];exact mul_le_r hi (Rat.le_of_lt hpq)
   have u2:((-(C * (q.den:Int)):Int):Rat)≤(q.num:Rat):=by
    rw [en,Rat.intCast_neg,Rat.intCast_mul]
    have:=mul_le_r lo (Rat.le_of_lt hpq)
    grind
   have v1:q.num≤C * (q.den:Int):=Rat.intCast_le_intCast.mp u1
   have v2:-(C * (q.den:Int))≤q.num:=Rat.intCast_le_intCast.mp u2
   have v3:C * (q.den:Int)≤C * D:=Int.mul_le_mul_of_nonneg_left hle (by omega)
   omega
 · show (q.den:Int).natAbs<2 ^ k
   omega
noncomputable def lcmI (w d:Int):Int:=(w.fdiv (Int.gcd w d:Int)) * d
theorem lcmI_eq {w d:Int} (hw:0<w) (hd:0<d):lcmI w d=(Int.lcm w d:Int):=by
 unfold lcmI
 have hg:=gpos (a:=w) (b:=d) (by omega)
 obtain ⟨u,hu⟩:=Int.gcd_dvd_left w d
 have e1:w.fdiv (Int.gcd w d:Int)=u:=by
  conv=>lhs;lhs;rw [hu]
  rw [Int.fdiv_eq_ediv_of_nonneg _ (by omega),Int.mul_ediv_cancel_left _ (by omega)]
 rw [e1]
 have key:(Int.gcd w d:Int) * (Int.lcm w d:Int)=w * d:=by
  have:=Int.gcd_mul_lcm w d
  have h2:((Int.gcd w d * Int.lcm w d:Nat):Int)=(((w * d).natAbs:Nat):Int):=by rw [this,Int.natAbs_mul]
  have h3:(((w * d).natAbs:Nat):Int)=w * d:=Int.natAbs_of_nonneg (Int.le_of_lt (Int.mul_pos hw hd))
  rw [← h3,← h2];push_cast;rfl
 refine Int.eq_of_mul_eq_mul_left (a:=(Int.gcd w d:Int)) (by omega) ?_
 rw [key]
 conv=>rhs;rw [hu]
 rw [Int.mul_assoc]
structure IsLcm (As:List (Int×Int)) (L:Int):Prop where
 pos:0<L
 dvd:∀ A∈As,A.2 ∣ L
 least:∀ M:Int,0<M→(∀ A∈As,A.2 ∣ M)→L ∣ M
theorem IsLcm.nil:IsLcm [] 1:=⟨by decide,by simp,fun M _ _=>Int.one_dvd M⟩
theorem IsLcm.snoc {As:List (Int×Int)} {L:Int} {A:Int×Int} (h:IsLcm As L) (hA:0<A.2):IsLcm (As ++ [A]) (lcmI L A.2):=by
 rw [lcmI_eq h.pos hA]
 refine ⟨?_,fun B hB=>?_,fun M hM hd=>?_⟩
 · have:=Int.lcm_pos (m:=L) (n:=A.2) (by have:=h.pos;omega) (by omega)
   omega
 · rcases List.mem_append.mp hB with hB | hB
   · exact Int.dvd_trans (h.dvd B hB) (Int.dvd_lcm_left _ _)
   · rw [List.mem_singleton.mp hB];exact Int.dvd_lcm_right _ _
 · have h1:=h.least M hM fun B hB=>hd B (List.mem_append_left _ hB)
   have h2:=hd A (by simp)
   obtain ⟨m,rfl⟩:∃ m:Nat,M=m:=⟨M.toNat,by omega⟩
   exact Int.natCast_dvd_natCast.mpr (Int.lcm_dvd h1 h2)
theorem IsLcm.le {As:List (Int×Int)} {L M:Int} (h:IsLcm As L) (hM:0<M) (hd:∀ A∈As,A.2 ∣ M):L≤M:=Int.le_of_dvd hM (h.least M hM hd)
noncomputable def abv (As:List (Int×Int)) (L:Int):List Int:=As.map fun A=>A.1 * (L.fdiv A.2)
theorem abv_val {A:Int×Int} {L:Int} (hA:0<A.2) (hL:0<L) (h:A.2 ∣ L):((A.1 * (L.fdiv A.2):Int):Rat)=val A * (L:Rat):=by
 obtain ⟨u,rfl⟩:=h
 have e:(A.2 * u).fdiv A.2=u:=by rw [Int.fdiv_eq_ediv_of_nonneg _ (by omega),Int.mul_ediv_cancel_left _ (by omega)]
 rw [e]
 unfold val
 have:=castne (d:=A.2) (by omega)
 rw [Rat.intCast_mul,Rat.intCast_mul]
 grind
theorem qs_ints {f:Nat→Int}:∀ n,qs n (fun i=>((f i:Int):Rat))=((((List.range n).map f).sum:Int):Rat)
 | 0=>by simp [qs]
 | n+1=>by
   show qs n _+_=_
   rw [qs_ints n,List.range_succ,List.map_append,List.sum_append,Rat.intCast_add]
   simp
end Pw

namespace L2
open PySem PySem.Spec PyProof.Rows
noncomputable def Sq (b:Bool) (K:PySem.W.Frag) (H:Hp) (a:Addr) (xs:List V):Prop:=if b=true then SqL K H a xs else SqT K H a xs
noncomputable def ItB (b:Bool) (K:PySem.W.Frag) (a:Addr):It:=if b=true then Itl K a else Itt K a
noncomputable def iSeq (K:PySem.W.Frag) (tl:TE):TI:=fun σ H R=>tl σ H fun x H1=>∃ (b:Bool) (a:Addr),x=.ref a∧(∃ xs,Sq b K H1 a xs)∧R (ItB b K a) H1
theorem Sq.same {b:Bool} {K:PySem.W.Frag} {H H':Hp} {a:Addr} {xs:List V} (h:Sq b K H a xs) (s:Same H H'):Sq b K H' a xs:=by
 cases b
 · exact s.seqT h
 · exact s.seq h
theorem pi_seq {X:Cx} {tg l:Expr} {tl:TE} (hl:PE X l tl):PI X tg l (iSeq X.K tl):=by
 intro pins s σ H R I h
 refine thn (hl pins s σ H _ I h) fun v s1 ⟨x,H1,I1,r1,q1⟩=>?_
 obtain ⟨b,a,e,⟨xs,hq⟩,q⟩:=q1
 subst e
 cases r1
 cases b with
 | true =>
   have hq:SqL X.K H1 a xs:=hq
   have q:R (Itl X.K a) H1:=q
   obtain ⟨its,rv,p,hz⟩:=I1.list hq
   refine wpAny_pyIter_list p.isList ?_
   refine ⟨s1.heap.objs.size,[s1.heap.objs.size],_,_,H1,rfl,I1.kept (t':=s1.toks) fun b o e=>Heap.get?_push_of_some _ e,turn_list a _,⟨_,Heap.get?_push_size _ rfl,rfl,rfl⟩,fun b hb=>?_,q⟩
   have e:b=s1.heap.objs.size:=by simpa using hb
   subst e
   exact I1.fpOk (Nat.le_refl _) (I1.hok.fresh (Nat.le_refl _))
 | false =>
   have hq:SqT X.K H1 a xs:=hq
   have q:R (Itt X.K a) H1:=q
   obtain ⟨its,rv,p,hz⟩:=I1.tuple hq
   refine wpAny_pyIter_tuple (show s1.heap.IsTuple a its.toArray from p) ?_
   refine ⟨s1.heap.objs.size,[s1.heap.objs.size],_,_,H1,rfl,I1.kept (t':=s1.toks) fun b o e=>Heap.get?_push_of_some _ e,turn_tuple a _,⟨_,Heap.get?_push_size _ rfl,rfl,rfl⟩,fun b hb=>?_,q⟩
   have e:b=s1.heap.objs.size:=by simpa using hb
   subst e
   exact I1.fpOk (Nat.le_refl _) (I1.hok.fresh (Nat.le_refl _))
section
variable {b:Bool} {K:PySem.W.Frag} {a D:Addr} {xs:List V} {g:TG} {tt:TT} {te:TE} {σ0:St} {H0:Hp} {Q:VK}
theorem comp_seq (Pv:Nat→List V→St→Hp→Prop) (h0:Pv 0 [] σ0 H0) (hl:∀ i ys σ H,Pv i ys σ H→Sq b K H a xs∧H D=some (.lst ys))
 (hs:∀ i x ys σ H,xs[i]?=some x→i<xs.length→Pv i ys σ H→g x σ H fun σ3 H3=>tt σ3 H3 fun b H4=>if b=true then
  te σ3 H4 fun y H5=>H5 D=some (.lst ys)∧ys.length<sizeLine∧∃ m',m'<xs.length - i∧Wt Pv xs.length (i+1) m' (ys ++ [y]) σ3 (upd H5 D (.lst (ys ++ [y]))) else ∃ m',m'<xs.length - i∧Wt Pv xs.length (i+1) m' ys σ3 H4)
 (hd:∀ ys σ H,Pv xs.length ys σ H→Q (.ref D) H):CompW (ItB b K a) D g tt te Q σ0 H0:=by
 cases b
 · exact comp_tup Pv h0 hl hs hd
 · exact comp_lst Pv h0 hl hs hd
end
theorem for_seq {b:Bool} {K:PySem.W.Frag} {a:Addr} {xs:List V} {g:TG} {tb:TS} {D:Ends} {σ:St} {H:Hp} (Pv:Nat→St→Hp→Prop) (h0:Pv 0 σ H) (hl:∀ i σ H,i≤xs.length→Pv i σ H→Sq b K H a xs)
 (hs:∀ i x σ H,xs[i]?=some x→Pv i σ H→g x σ H fun σ2 H2=>tb { D with nx:=Pv (i+1),ct:=Pv (i+1),bk:=D.nx } σ2 H2) (hd:∀ σ H,Pv xs.length σ H→D.nx σ H) :
 ∃ W:Nat→Nat→St→Hp→Prop,(∃ m,W 0 m σ H)∧∀ i m σ H,W i m σ H →
   ((ItB b K a).stop i H∧D.nx σ H)∨((ItB b K a).go i H∧∃ N:St→Hp→Prop,(∀ σ' H',N σ' H'→∃ m',m'<m∧W (i+1) m' σ' H')∧∀ x H',(ItB b K a).yld i H x H'→g x σ H' fun σ2 H2=>tb { D with nx:=N,ct:=N,bk:=D.nx } σ2 H2):=by
 cases b
 · exact for_tup Pv h0 hl hs hd
 · exact for_list Pv h0 hl hs hd
set_option genInjectivity false in
structure Rw (Rs:List (Int×Int)) (n:Nat) (D C:Int):Prop where
 len:Rs.length=n
 canon:Pw.Canons Rs
 dpos:0<D
 cpos:1≤C
 dvd:∀ R∈Rs,R.2 ∣ D
 bnd:∀ R∈Rs,-(C * R.2)≤R.1∧R.1≤C * R.2
 sz:Sz 2000 (C * D)
theorem Rw.bd {Rs:List (Int×Int)} {n:Nat} {D C:Int} (h:Rw Rs n D C) {R:Int×Int} (hR:R∈Rs):Pw.Bd D (C:Rat) (Pw.val R):=by
 have c:=h.canon R hR
 have hp:=Pw.cpos c.1
 have hne:=Pw.castne (Pw.canon_ne c)
 obtain ⟨u,hu⟩:=h.dvd R hR
 obtain ⟨b1,b2⟩:=h.bnd R hR
 have e:Pw.val R * (R.2:Rat)=(R.1:Rat):=by unfold Pw.val;grind
 refine ⟨⟨R.1 * u,?_⟩,?_,?_⟩
 · rw [hu,Rat.intCast_mul,Rat.intCast_mul,← e];grind
 · refine Pw.le_of_mul hp ?_
   rw [e]
   have:((-(C * R.2):Int):Rat)≤(R.1:Rat):=Rat.intCast_le_intCast.mpr b1
   rw [Rat.intCast_neg,Rat.intCast_mul] at this
   grind
 · refine Pw.le_of_mul hp ?_
   rw [e]
   have:(R.1:Rat)≤((C * R.2:Int):Rat):=Rat.intCast_le_intCast.mpr b2
   rw [Rat.intCast_mul] at this
   exact this
theorem Rw.sz2 {Rs:List (Int×Int)} {n:Nat} {D C:Int} (h:Rw Rs n D C) {R:Int×Int} (hR:R∈Rs):Sz2 2000 R:=by
 have:=(h.bd hR).sz h.dpos h.cpos h.sz
 rwa [Pw.ofQ_val (h.canon R hR)] at this
set_option genInjectivity false in
structure Pr (A:Int×Int) (Bs:List (Int×Int)) (S:Int):Prop where
 a0:0<A.1
 a1:A.1≤A.2
 nn:∀ B∈Bs,0≤B.1
 one:Pw.qs Bs.length (fun t=>Pw.val (Bs.getD t (0,1)))=1
 spos:0<S
 ssz:Sz 700 S
 sdvd:∀ B∈Bs,B.2 ∣ S
end L2
namespace Pw
noncomputable def prodN:Nat→(Nat→Int)→Int
 | 0,_=>1
 | n+1,f=>prodN n f * f n
theorem prodN_pos {f:Nat→Int}:∀ {n:Nat},(∀ i,i<n→0<f i)→0<prodN n f
 | 0,_=>by show (0:Int)<1;decide
 | n+1,h=>Int.mul_pos (prodN_pos fun i hi=>h i (by omega)) (h n (by omega))
theorem prodN_dvd {f:Nat→Int}:∀ {n i:Nat},i<n→f i ∣ prodN n f
 | n+1,i,h=>by
   by_cases e:i=n
   · subst e;exact Int.dvd_mul_left ..
   · exact Int.dvd_trans (prodN_dvd (n:=n) (by omega)) (Int.dvd_mul_right ..)
theorem prodN_sz {f:Nat→Int} {k:Nat}:∀ {n:Nat},(∀ i,i<n→L2.Sz k (f i))→L2.Sz (k * n+1) (prodN n f)
 | 0,_=>by show (1:Int).natAbs<2 ^ (k * 0+1);simp
 | n+1,h=>(L2.Sz.mul (prodN_sz fun i hi=>h i (by omega)) (h n (by omega))).mono (by rw [Nat.mul_add];omega)
theorem fr_dvd {A:Int×Int} {n d:Int} (h:Fr A n d):A.2 ∣ d:=by
 have w:=h.w
 have:A.2 ∣ A.1 * d:=⟨n,by rw [w];exact Int.mul_comm ..⟩
 exact dvd_left this h.canon.2
theorem qs_ge {f:Nat→Rat}:∀ {n k:Nat},k<n→(∀ i,i<n→0≤f i)→f k≤qs n f
 | n+1,k,hk,h=>by
   show f k≤qs n f+f n
   by_cases e:k=n
   · subst e
     have:=qs_nonneg (n:=k) (f:=f) fun i hi=>h i (by omega)
     grind
   · have h1:=qs_ge (n:=n) (k:=k) (by omega) fun i hi=>h i (by omega)
     have h2:=h n (by omega)
     grind
noncomputable def behQ (ps:List (Int×Int)) (A:Int×Int) (Bs Rs:List (Int×Int)) (n t:Nat):Rat:=qs n (fun i=>val (Rs.getD i (0,1)) * val ((waysL ps A Bs i).getD t (0,1)))
end Pw

namespace L2
open PySem PySem.Spec PyProof.Rows
section
variable {X:Cx}
end
end L2

namespace L2
open PySem PySem.Spec PyProof.Rows
theorem fdiv_sz {k:Nat} {L g:Int} (hL:0<L) (hg:0<g) (z:Sz k L):Sz k (L.fdiv g):=by
 have z':L.natAbs<2 ^ k:=z
 show (L.fdiv g).natAbs<2 ^ k
 rw [Int.fdiv_eq_ediv_of_nonneg _ (by omega)]
 have h1:0≤L / g:=Int.ediv_nonneg (by omega) (by omega)
 have h2:L / g≤L:=Int.ediv_le_self _ (by omega)
 omega
theorem le_sz {k:Nat} {x y:Int} (h0:0≤x) (h:x≤y) (z:Sz k y):Sz k x:=by
 have z':y.natAbs<2 ^ k:=z
 show x.natAbs<2 ^ k
 omega
theorem gcd_le {x y:Int} (hy:0<y):0<(Int.gcd x y:Int)∧(Int.gcd x y:Int)≤y :=
 ⟨Pw.gpos (by omega),Int.le_of_dvd hy (Int.gcd_dvd_right ..)⟩
noncomputable def spBelow (K:PySem.W.Frag):Sp:=fun vs H Q _=>∃ (b:Bool) (a:Addr) (us:List V) (As:List (Int×Int)) (M:Int),vs=[.ref a]∧Sq b K H a us∧FrL K H As us∧(∀ A∈As,0<A.2)∧0<M∧Sz 8000 M∧(∀ A∈As,A.2 ∣ M)∧∀ L,Pw.IsLcm As L→Q (.int L) H
noncomputable def spAboves (K:PySem.W.Frag):Sp:=fun vs H Q _=>∃ (b:Bool) (a:Addr) (us:List V) (As:List (Int×Int)) (L:Int),vs=[.ref a,.int L]∧Sq b K H a us∧FrL K H As us∧As.length≤100∧(∀ A∈As,0<A.2∧Sz2 8000 A)∧0<L∧Sz 8000 L ∧
 ∀ (p:Addr) (H':Hp),Same H H'→H p=none→H' p=some (.lst ((Pw.abv As L).map V.int))→Q (.ref p) H'
theorem IsLcm.takeM {As:List (Int×Int)} {L M:Int} (h:Pw.IsLcm As L) (hM:0<M) (hd:∀ A∈As,A.2 ∣ M) {k:Nat} (z:Sz k M):Sz k L:=le_sz (Int.le_of_lt h.pos) (h.le hM hd) z
theorem sum_sz {k:Nat}:∀ {ns:List Int},(∀ n∈ns,Sz k n)→Sz (k+ns.length) ns.sum
 | [],_=>by show (0:Int).natAbs<2 ^ (k+0);exact Nat.two_pow_pos _
 | n :: ns,h=>by
   have h1:=sum_sz (ns:=ns) fun m hm=>h m (List.mem_cons_of_mem _ hm)
   have h2:=h n List.mem_cons_self
   rw [List.sum_cons]
   exact ((h2.mono (by omega)).add h1).mono (by rw [List.length_cons];omega)
theorem getD_mapI {ns:List Int} {i:Nat} (h:i<ns.length):ns[i]?=some (ns.getD i 0):=by
 rw [List.getD_eq_getElem?_getD,List.getElem?_eq_getElem h];rfl
theorem Canons.pos {As:List (Int×Int)} (h:Pw.Canons As):∀ A∈As,0<A.2:=fun A hA=>(h A hA).1
end L2

namespace L2
open PySem PySem.Spec PyProof.Rows
end L2
namespace Pw
end Pw

namespace L2
open PySem PySem.Spec PyProof.Rows
section
variable {ps:List (Int×Int)} {A:Int×Int} {Bs Rs:List (Int×Int)} {S D C:Int} {n:Nat}
end
end L2

namespace L2
open PySem PySem.Spec PyProof.Rows
theorem Pr.drawn {pages:Int} {A:Int×Int} {ws:List Int} (a0:0<A.1) (a1:A.1≤A.2) (hp:pages≤12) (wt:Wts pages ws):Pr A (lps ws) ws.sum where
 a0:=a0
 a1:=a1
 nn:=lps_nn wt
 one:=by rw [lps_len];exact lps_sum wt
 spos:=wt.pos
 ssz:=by
  have hl:=wt.len
  have h1:=Pw.sum_le (B:=2 ^ 37) fun n hn=>Int.le_of_lt (wt.nn n hn).2
  have h2:(ws.length:Int) * 2 ^ 37≤12 * 2 ^ 37:=Int.mul_le_mul_of_nonneg_right (by omega) (by decide)
  have:=wt.pos
  exact (sz_of (m:=700) 41 (by omega))
 sdvd:=fun B hB=>by
  obtain ⟨x,hx,rfl⟩:=List.mem_map.mp hB
  have:=wt.pos
  exact Pw.fr_dvd (Pw.Fr.made (by omega))
end L2

namespace Pw
noncomputable abbrev Vec:=Nat→Rat
noncomputable def expand (r:Vec) (D:List Nat→Rat):List Nat→Rat
 | []=>0
 | c :: cs=>r c * D cs - expand r (fun l=>D (c :: l)) cs
noncomputable def det:List Vec→List Nat→Rat
 | [],_=>1
 | r :: rs,cols=>expand r (det rs) cols
theorem expand_congrD {r:Vec} {D E:List Nat→Rat} (h:∀ l,D l=E l):∀ cs,expand r D cs=expand r E cs:=fun cs=>by
 have:D=E:=funext h
 rw [this]
theorem expand_zeroD (r:Vec):∀ cs,expand r (fun _=>0) cs=0
 | []=>rfl
 | c :: cs=>by
   show r c * 0 - expand r (fun l=>0) cs=0
   rw [expand_zeroD r cs];grind
theorem expand_linD (r:Vec) (a b:Rat):∀ (cs:List Nat) (D E:List Nat→Rat),expand r (fun l=>a * D l+b * E l) cs=a * expand r D cs+b * expand r E cs
 | [],D,E=>by show (0:Rat)=a * 0+b * 0;grind
 | c :: cs,D,E=>by
   show r c * (a * D cs+b * E cs) - expand r (fun l=>a * D (c :: l)+b * E (c :: l)) cs=a * (r c * D cs - expand r (fun l=>D (c :: l)) cs)+b * (r c * E cs - expand r (fun l=>E (c :: l)) cs)
   rw [expand_linD r a b cs];grind
theorem expand_linR (r s:Vec) (a b:Rat):∀ (cs:List Nat) (D:List Nat→Rat),expand (fun c=>a * r c+b * s c) D cs=a * expand r D cs+b * expand s D cs
 | [],D=>by show (0:Rat)=a * 0+b * 0;grind
 | c :: cs,D=>by
   show (a * r c+b * s c) * D cs - expand _ (fun l=>D (c :: l)) cs=a * (r c * D cs - expand r (fun l=>D (c :: l)) cs)+b * (s c * D cs - expand s (fun l=>D (c :: l)) cs)
   rw [expand_linR r s a b cs];grind
theorem expand_self (r:Vec):∀ (cs:List Nat) (D:List Nat→Rat),expand r (expand r D) cs=0
 | [],D=>rfl
 | c :: cs,D=>by
   show r c * expand r D cs - expand r (fun l=>r c * D l - expand r (fun l=>D (c :: l)) l) cs=0
   have e:expand r (fun l=>r c * D l - expand r (fun l=>D (c :: l)) l) cs=r c * expand r D cs+(-1) * expand r (expand r (fun l=>D (c :: l))) cs:=by
    rw [← expand_linD]
    exact expand_congrD (fun l=>by grind) cs
   rw [e,expand_self r cs];grind
theorem expand_swap (r s:Vec) (cs:List Nat) (D:List Nat→Rat):expand r (expand s D) cs=-expand s (expand r D) cs:=by
 have h:=expand_self (fun c=>1 * r c+1 * s c) cs D
 have e:expand (fun c=>1 * r c+1 * s c) (expand (fun c=>1 * r c+1 * s c) D) cs=expand (fun c=>1 * r c+1 * s c) (fun l=>1 * expand r D l+1 * expand s D l) cs:=expand_congrD (fun l=>expand_linR r s 1 1 l D) cs
 rw [e,expand_linR,expand_linD,expand_linD,expand_self,expand_self] at h
 grind
theorem expand_congrR {r s:Vec}:∀ {cs:List Nat} {D:List Nat→Rat},(∀ c∈cs,r c=s c)→expand r D cs=expand s D cs
 | [],D,_=>rfl
 | c :: cs,D,h=>by
   show r c * D cs - expand r _ cs=s c * D cs - expand s _ cs
   rw [h c List.mem_cons_self,expand_congrR fun x hx=>h x (List.mem_cons_of_mem _ hx)]
theorem expand_zeroR {r:Vec}:∀ {cs:List Nat} {D:List Nat→Rat},(∀ c∈cs,r c=0)→expand r D cs=0
 | [],D,_=>rfl
 | c :: cs,D,h=>by
   show r c * D cs - expand r _ cs=0
   rw [h c List.mem_cons_self,expand_zeroR fun x hx=>h x (List.mem_cons_of_mem _ hx)];grind
noncomputable def Nul (rs:List Vec) (u:Vec):Prop:=∀ cols,det (u :: rs) cols=0
theorem Nul.mem:∀ {rs:List Vec} {r:Vec},r∈rs→Nul rs r
 | s :: rs,r,h=>fun cols=>by
   rcases List.mem_cons.mp h with rfl | h
   · exact expand_self _ _ _
   · show expand r (expand s (det rs)) cols=0
     rw [expand_swap]
     have:expand s (expand r (det rs)) cols=expand s (fun _=>0) cols:=expand_congrD (Nul.mem h) cols
     rw [this,expand_zeroD];grind
theorem Nul.cons {rs:List Vec} {u s:Vec} (h:Nul rs u):Nul (s :: rs) u:=fun cols=>by
 show expand u (expand s (det rs)) cols=0
 rw [expand_swap]
 have:expand s (expand u (det rs)) cols=expand s (fun _=>0) cols:=expand_congrD h cols
 rw [this,expand_zeroD];grind
theorem Nul.lin {rs:List Vec} {u v:Vec} (a b:Rat) (hu:Nul rs u) (hv:Nul rs v):Nul rs (fun c=>a * u c+b * v c):=fun cols=>by
 have h1:expand u (det rs) cols=0:=hu cols
 have h2:expand v (det rs) cols=0:=hv cols
 show expand _ (det rs) cols=0
 rw [expand_linR,h1,h2];grind
section
variable (A:Nat→Vec)
noncomputable def Rk:Nat→List Vec
 | 0=>[]
 | k+1=>A k :: Rk k
noncomputable def Kk:Nat→List Nat
 | 0=>[]
 | k+1=>k :: Kk k
noncomputable def dd (k:Nat):Rat:=det (Rk A k) (Kk k)
noncomputable def BB (k:Nat) (v:Vec) (j:Nat):Rat:=det (v :: Rk A k) (j :: Kk k)
theorem dd_next (k:Nat):dd A (k+1)=BB A k (A k) k:=rfl
theorem dd_zero:dd A 0=1:=rfl
theorem mem_Kk:∀ {k c:Nat},c∈Kk k ↔ c<k
 | 0,c=>by simp [Kk]
 | k+1,c=>by
   show c∈k :: Kk k ↔ _
   rw [List.mem_cons,mem_Kk];omega
theorem mem_Rk:∀ {k i:Nat},i<k→A i∈Rk A k
 | k+1,i,h=>by
   show A i∈A k :: Rk A k
   by_cases e:i=k
   · subst e;exact List.mem_cons_self
   · exact List.mem_cons_of_mem _ (mem_Rk (by omega))
theorem BB_lin (k:Nat) (u v:Vec) (a b:Rat) (j:Nat):BB A k (fun c=>a * u c+b * v c) j=a * BB A k u j+b * BB A k v j:=expand_linR u v a b _ _
theorem BB_congr {k:Nat} {u v:Vec} {j:Nat} (hj:u j=v j) (h:∀ c,c<k→u c=v c):BB A k u j=BB A k v j:=expand_congrR fun c hc=>by
 rcases List.mem_cons.mp hc with rfl | hc
 · exact hj
 · exact h c (mem_Kk.mp hc)
theorem BB_low {k:Nat} {w:Vec} (h:∀ c,c<k→w c=0) (j:Nat):BB A k w j=w j * dd A k:=by
 show w j * det (Rk A k) (Kk k) - expand w _ (Kk k)=w j * dd A k
 rw [expand_zeroR fun c hc=>h c (mem_Kk.mp hc)]
 unfold dd;grind
theorem BB_row {k i:Nat} (h:i<k) (j:Nat):BB A k (A i) j=0:=Nul.mem (mem_Rk A h) _
theorem reduced (k:Nat) (hd:∀ l,l≤k→dd A l≠0):∀ v:Vec,∃ w:Vec,Nul (Rk A k) (fun c=>v c - w c)∧∀ c,c<k→w c=0:=by
 induction k with
 | zero =>
   intro v
   refine ⟨v,fun cols=>?_,fun c hc=>by omega⟩
   exact expand_zeroR fun c _=>by grind
 | succ k ih =>
   intro v
   have ih:=ih fun l hl=>hd l (by omega)
   obtain ⟨x,nx,zx⟩:=ih v
   obtain ⟨y,ny,zy⟩:=ih (A k)
   have hdk:=hd k (by omega)
   have hdk1:=hd (k+1) (by omega)
   have ey:dd A (k+1)=y k * dd A k:=by
    have e1:BB A k (A k) k=BB A k y k:=by
     have:=ny (k :: Kk k)
     have e2:BB A k (fun c=>1 * A k c+(-1) * y c) k=0:=by
      rw [BB_congr A (v:=fun c=>A k c - y c) (by grind) (fun c _=>by grind)]
      exact this
     rw [BB_lin] at e2
     grind
    rw [dd_next,e1,BB_low A zy]
   have hy:y k≠0:=fun z=>hdk1 (by rw [ey,z];grind)
   refine ⟨fun c=>x c - x k / y k * y c,?_,fun c hc=>?_⟩
   · have n1:Nul (Rk A (k+1)) (fun c=>v c - x c):=nx.cons
     have n2:Nul (Rk A (k+1)) (fun c=>A k c - y c):=ny.cons
     have n3:Nul (Rk A (k+1)) (A k):=Nul.mem (mem_Rk A (by omega))
     have n4:=Nul.lin 1 (-1) n3 n2
     have n5:=Nul.lin 1 (x k / y k) n1 n4
     intro cols
     have:=n5 cols
     rw [← this]
     exact expand_congrR fun c _=>by grind
   · show x c - x k / y k * y c=0
     by_cases e:c=k
     · subst e;grind
     · rw [zx c (by omega),zy c (by omega)];grind
theorem BB_red {k:Nat} {v w:Vec} (hn:Nul (Rk A k) (fun c=>v c - w c)) (hz:∀ c,c<k→w c=0) (j:Nat):BB A k v j=w j * dd A k:=by
 have e2:BB A k (fun c=>1 * v c+(-1) * w c) j=0:=by
  rw [BB_congr A (v:=fun c=>v c - w c) (by grind) (fun c _=>by grind)]
  exact hn _
 rw [BB_lin,BB_low A hz] at e2
 grind
theorem BB_step {k:Nat} (hd:∀ l,l≤k+1→dd A l≠0) (v:Vec) (j:Nat):BB A (k+1) v j * dd A k=dd A (k+1) * BB A k v j - BB A k v k * BB A k (A k) j:=by
 obtain ⟨x,nx,zx⟩:=reduced A k (fun l hl=>hd l (by omega)) v
 obtain ⟨y,ny,zy⟩:=reduced A k (fun l hl=>hd l (by omega)) (A k)
 have hdk:=hd k (by omega)
 have hdk1:=hd (k+1) (by omega)
 have ey:dd A (k+1)=y k * dd A k:=by rw [dd_next];exact BB_red A ny zy k
 have hy:y k≠0:=fun z=>hdk1 (by rw [ey,z];grind)
 have n1:Nul (Rk A (k+1)) (fun c=>v c - x c):=nx.cons
 have n2:Nul (Rk A (k+1)) (fun c=>A k c - y c):=ny.cons
 have n3:Nul (Rk A (k+1)) (A k):=Nul.mem (mem_Rk A (by omega))
 have n4:=Nul.lin 1 (-1) n3 n2
 have n5:=Nul.lin 1 (x k / y k) n1 n4
 have n6:Nul (Rk A (k+1)) (fun c=>v c - (x c - x k / y k * y c)):=fun cols=>by
  have:=n5 cols
  rw [← this]
  exact expand_congrR fun c _=>by grind
 have z6:∀ c,c<k+1→x c - x k / y k * y c=0:=fun c hc=>by
  by_cases e:c=k
  · subst e;grind
  · rw [zx c (by omega),zy c (by omega)];grind
 rw [BB_red A n6 z6 j,BB_red A nx zx j,BB_red A nx zx k,BB_red A ny zy j,ey]
 grind
end
noncomputable def IsInt (q:Rat):Prop:=∃ n:Int,q=(n:Rat)
theorem IsInt.mul {p q:Rat} (a:IsInt p) (b:IsInt q):IsInt (p * q):=by
 obtain ⟨x,rfl⟩:=a
 obtain ⟨y,rfl⟩:=b
 exact ⟨x * y,by rw [Rat.intCast_mul]⟩
theorem IsInt.sub {p q:Rat} (a:IsInt p) (b:IsInt q):IsInt (p - q):=by
 obtain ⟨x,rfl⟩:=a
 obtain ⟨y,rfl⟩:=b
 exact ⟨x - y,by rw [Rat.intCast_sub]⟩
theorem expand_int {r:Vec}:∀ {cs:List Nat} {D:List Nat→Rat},(∀ c∈cs,IsInt (r c))→(∀ l,IsInt (D l))→IsInt (expand r D cs)
 | [],D,_,_=>⟨0,rfl⟩
 | c :: cs,D,h,hD=>((h c List.mem_cons_self).mul (hD cs)).sub (expand_int (fun x hx=>h x (List.mem_cons_of_mem _ hx)) fun l=>hD (c :: l))
theorem det_int:∀ {rs:List Vec},(∀ r∈rs,∀ c,IsInt (r c))→∀ cols,IsInt (det rs cols)
 | [],_,_=>⟨1,rfl⟩
 | r :: rs,h,cols=>expand_int (fun c _=>h r List.mem_cons_self c) (det_int fun x hx=>h x (List.mem_cons_of_mem _ hx))
theorem expand_bd {r:Vec} {U V:Rat} (hU:0≤U) (hV:0≤V) (hr:∀ c,-U≤r c∧r c≤U):∀ {cs:List Nat} {D:List Nat→Rat},(∀ l,l.length+1=cs.length→-V≤D l∧D l≤V)→-(((cs.length:Nat):Rat) * (U * V))≤expand r D cs∧expand r D cs≤((cs.length:Nat):Rat) * (U * V)
 | [],D,_=>by
   show -(((0:Nat):Rat) * (U * V))≤0∧(0:Rat)≤((0:Nat):Rat) * (U * V)
   simp
 | c :: cs,D,hD=>by
   obtain ⟨i1,i2⟩:=expand_bd hU hV hr (cs:=cs) (D:=fun l=>D (c :: l)) fun l hl=>hD (c :: l) (by simp only [List.length_cons];omega)
   obtain ⟨r1,r2⟩:=hr c
   obtain ⟨d1,d2⟩:=hD cs (by simp only [List.length_cons])
   have key:-(U * V)≤r c * D cs∧r c * D cs≤U * V:=by
    have p1:=mul_nn (a:=U - r c) (b:=V - D cs) (by grind) (by grind)
    have p2:=mul_nn (a:=U+r c) (b:=V+D cs) (by grind) (by grind)
    have p3:=mul_nn (a:=U - r c) (b:=V+D cs) (by grind) (by grind)
    have p4:=mul_nn (a:=U+r c) (b:=V - D cs) (by grind) (by grind)
    constructor <;> grind
   have e:(((c :: cs).length:Nat):Rat)=((cs.length:Nat):Rat)+1:=by rw [List.length_cons];push_cast;rfl
   show -_≤r c * D cs - expand r _ cs∧r c * D cs - expand r _ cs≤_
   rw [e]
   grind
theorem pow_succ' (Y:Nat) (m:Nat):((Y ^ (m+1):Nat):Rat)=((Y ^ m:Nat):Rat) * (Y:Rat):=by rw [Nat.pow_succ];push_cast;rfl
theorem natnn (m:Nat):(0:Rat)≤((m:Nat):Rat):=by
 have:=cnn (d:=(m:Int)) (by omega)
 exact this
theorem natle {a b:Nat} (h:a≤b):((a:Nat):Rat)≤((b:Nat):Rat):=by
 have:((a:Int):Rat)≤((b:Int):Rat):=Rat.intCast_le_intCast.mpr (by omega)
 exact this
theorem det_bd {U Y:Nat} (hY:13 * U≤Y):∀ {rs:List Vec},(∀ r∈rs,∀ c,-((U:Nat):Rat)≤r c∧r c≤((U:Nat):Rat))→∀ cols:List Nat,cols.length≤13→-((Y ^ rs.length:Nat):Rat)≤det rs cols∧det rs cols≤((Y ^ rs.length:Nat):Rat)
 | [],_,cols,_=>by
   show -(((Y ^ 0:Nat)):Rat)≤1∧(1:Rat)≤((Y ^ 0:Nat):Rat)
   rw [Nat.pow_zero]
   exact ⟨by decide,by decide⟩
 | r :: rs,h,cols,hc=>by
   have ih:=det_bd hY (rs:=rs) fun x hx=>h x (List.mem_cons_of_mem _ hx)
   have hV:=natnn (Y ^ rs.length)
   have hU:=natnn U
   obtain ⟨b1,b2⟩:=expand_bd (r:=r) hU hV (h r List.mem_cons_self) (cs:=cols) (D:=det rs) fun l hl=>ih l (by omega)
   have k1:((cols.length:Nat):Rat) * (((U:Nat):Rat) * ((Y ^ rs.length:Nat):Rat))≤((Y ^ (rs.length+1):Nat):Rat):=by
    rw [pow_succ']
    have e1:((cols.length:Nat):Rat) * ((U:Nat):Rat)≤((Y:Nat):Rat):=by
     have:((cols.length * U:Nat):Rat)≤((Y:Nat):Rat):=natle (Nat.le_trans (Nat.mul_le_mul_right U hc) hY)
     have e2:((cols.length * U:Nat):Rat)=((cols.length:Nat):Rat) * ((U:Nat):Rat):=by push_cast;rfl
     rw [← e2];exact this
    have e3:=mul_le_r e1 hV
    grind
   show -(((Y ^ (rs.length+1):Nat)):Rat)≤expand r (det rs) cols∧expand r (det rs) cols≤((Y ^ (rs.length+1):Nat):Rat)
   grind
end Pw

namespace Pw
noncomputable def eV (i:Nat):Vec:=fun c=>if c=i then -1 else 0
noncomputable def vv (A:Nat→Vec) (k i:Nat):Vec:=if i<k then eV i else A i
noncomputable def stepF (f:Nat→Nat→Int) (k:Nat) (d:Int) (i j:Nat):Int:=if i=k then f k j else (f k k * f i j - f i k * f k j).fdiv d
structure Stg (A:Nat→Vec) (n k:Nat) (f:Nat→Nat→Int) (d:Int):Prop where
 d:(d:Rat)=dd A k
 f:∀ i j,i<n→j≤n→(f i j:Rat)=if j<k then (if i=j then dd A k else 0) else BB A k (vv A k i) j
theorem eV_low {k:Nat}:∀ c,c<k→eV k c=0:=fun c hc=>by unfold eV;rw [if_neg (by omega)]
theorem fdiv_of {m d:Int} (hd:d≠0):(m * d).fdiv d=m:=Int.mul_fdiv_cancel _ hd
theorem vv_int {A:Nat→Vec} (hA:∀ i c,IsInt (A i c)) (k i:Nat):∀ c,IsInt (vv A k i c):=fun c=>by
 unfold vv
 split
 · unfold eV
   split
   · exact ⟨-1,rfl⟩
   · exact ⟨0,rfl⟩
 · exact hA i c
theorem Rk_all {A:Nat→Vec} {p:Vec→Prop} (h:∀ i,p (A i)):∀ k,∀ r∈Rk A k,p r
 | 0,r,hr=>by simp [Rk] at hr
 | k+1,r,hr=>by
   rcases List.mem_cons.mp hr with rfl | hr
   · exact h k
   · exact Rk_all h k r hr
theorem BB_int {A:Nat→Vec} (hA:∀ i c,IsInt (A i c)) {k:Nat} {v:Vec} (hv:∀ c,IsInt (v c)) (j:Nat):IsInt (BB A k v j) :=
 det_int (fun r hr=>by
  rcases List.mem_cons.mp hr with rfl | hr
  · exact hv
  · exact Rk_all (p:=fun r=>∀ c,IsInt (r c)) hA k r hr) _
theorem Stg.exact {A:Nat→Vec} {n k:Nat} {f:Nat→Nat→Int} {d:Int} (h:Stg A n k f d) (hA:∀ i c,IsInt (A i c)) (hk:k<n) (hd:∀ l,l≤k+1→dd A l≠0) {i j:Nat} (hi:i<n) (hj:j≤n) (hik:i≠k) :
 ∃ m:Int,f k k * f i j - f i k * f k j=m * d∧(m:Rat)=if j<k+1 then (if i=j then dd A (k+1) else 0) else BB A (k+1) (vv A (k+1) i) j:=by
 have hkk:=h.f k k hk (by omega)
 have hij:=h.f i j hi hj
 have hik':=h.f i k hi (by omega)
 have hkj:=h.f k j hk hj
 have hvk:vv A k k=A k:=by unfold vv;rw [if_neg (by omega)]
 have hvi:vv A (k+1) i=vv A k i:=by
  unfold vv
  by_cases e:i<k
  · rw [if_pos e,if_pos (by omega)]
  · rw [if_neg e,if_neg (by omega)]
 rw [if_neg (by omega),hvk] at hkk
 rw [if_neg (by omega)] at hik'
 have ekk:(f k k:Rat)=dd A (k+1):=by rw [dd_next];exact hkk
 rw [hvk] at hkj
 have hdk:=hd k (by omega)
 have fin:∀ m:Int,(((f k k * f i j - f i k * f k j:Int)):Rat)=(m:Rat) * (d:Rat)→f k k * f i j - f i k * f k j=m * d:=fun m e=>by
  have:(((f k k * f i j - f i k * f k j:Int)):Rat)=((m * d:Int):Rat):=by rw [e,Rat.intCast_mul]
  exact_mod_cast this
 by_cases c1:j<k
 · rw [if_pos c1,if_neg (by omega)] at hkj
   rw [if_pos c1] at hij
   rw [if_pos (by omega:j<k+1)]
   by_cases e:i=j
   · rw [if_pos e] at hij ⊢
     refine ⟨f k k,fin _ ?_,ekk⟩
     rw [Rat.intCast_sub,Rat.intCast_mul,Rat.intCast_mul,hkj,hij,h.d];grind
   · rw [if_neg e] at hij ⊢
     refine ⟨0,fin _ ?_,by simp⟩
     rw [Rat.intCast_sub,Rat.intCast_mul,Rat.intCast_mul,hkj,hij,Rat.intCast_zero];grind
 · by_cases c2:j=k
   · subst c2
     rw [if_pos (by omega:j<j+1),if_neg hik]
     exact ⟨0,by rw [Int.mul_comm (f i j)];omega,by simp⟩
   · rw [if_neg c1] at hij hkj
     rw [if_neg (by omega:¬ j<k+1),hvi]
     obtain ⟨m,hm⟩:=BB_int hA (k:=k+1) (vv_int hA k i) j
     refine ⟨m,fin m ?_,hm.symm⟩
     rw [Rat.intCast_sub,Rat.intCast_mul,Rat.intCast_mul,ekk,hij,hik',hkj,h.d,← hm]
     exact (BB_step A hd (vv A k i) j).symm
theorem Stg.next {A:Nat→Vec} {n k:Nat} {f:Nat→Nat→Int} {d:Int} (h:Stg A n k f d) (hA:∀ i c,IsInt (A i c)) (hk:k<n) (hd:∀ l,l≤k+1→dd A l≠0):Stg A n (k+1) (stepF f k d) (f k k):=by
 have hkk:=h.f k k hk (by omega)
 have hvk:vv A k k=A k:=by unfold vv;rw [if_neg (by omega)]
 rw [if_neg (by omega),hvk] at hkk
 have hdk:=hd k (by omega)
 have hd0:d≠0:=fun z=>hdk (by rw [← h.d,z];rfl)
 refine ⟨by rw [dd_next];exact hkk,fun i j hi hj=>?_⟩
 unfold stepF
 by_cases e:i=k
 · subst e
   rw [if_pos rfl]
   have hij:=h.f i j hi hj
   rw [hvk] at hij
   by_cases c1:j<i
   · rw [if_pos c1,if_neg (by omega)] at hij
     rw [if_pos (by omega),if_neg (by omega),hij]
   · rw [if_neg c1] at hij
     by_cases c2:j=i
     · subst c2
       rw [if_pos (by omega),if_pos rfl,hij,dd_next]
     · rw [if_neg (by omega),hij]
       have hv1:vv A (i+1) i=eV i:=by unfold vv;rw [if_pos (by omega)]
       rw [hv1]
       have:=BB_step A hd (eV i) j
       rw [BB_low A eV_low,BB_low A eV_low] at this
       have e1:eV i j=0:=by unfold eV;rw [if_neg c2]
       have e2:eV i i=-1:=by unfold eV;rw [if_pos rfl]
       rw [e1,e2] at this
       generalize BB A (i+1) (eV i) j=x at *
       generalize BB A i (A i) j=y at *
       generalize dd A (i+1)=z at *
       have h3:(x - y) * dd A i=0:=by grind
       grind
 · rw [if_neg e]
   obtain ⟨m,e1,e2⟩:=h.exact hA hk hd hi hj e
   rw [e1,fdiv_of hd0]
   exact e2
structure Sgn (n k:Nat) (f:Nat→Nat→Int):Prop where
 off:∀ i j,i<n→k≤j→j<n→i≠j→f i j≤0
 col:∀ j,k≤j→j<n→0<qs n (fun i=>if k≤i then (f i j:Rat) else 0)
 rhs:∀ i,i<n→0≤f i n
theorem qs_split {g:Nat→Rat}:∀ {n k:Nat},k<n→qs n (fun i=>if k≤i then g i else 0)=g k+qs n (fun i=>if k+1≤i then g i else 0)
 | n+1,k,h=>by
   show qs n _+(if k≤n then g n else 0)=g k+(qs n _+(if k+1≤n then g n else 0))
   by_cases e:k=n
   · subst e
     rw [if_pos (by omega),if_neg (by omega),qs_congr (g:=fun _=>0) fun i hi=>by rw [if_neg (by omega)],qs_congr (f:=fun i=>if k+1≤i then g i else 0) (g:=fun _=>0) fun i hi=>by rw [if_neg (by omega)]]
     grind
   · rw [if_pos (by omega),if_pos (by omega),qs_split (n:=n) (by omega)];grind
theorem Sgn.pivot {n k:Nat} {f:Nat→Nat→Int} (h:Sgn n k f) (hk:k<n):0<f k k:=by
 have h1:=h.col k (by omega) hk
 rw [qs_split hk] at h1
 have h2:qs n (fun i=>if k+1≤i then (f i k:Rat) else 0)≤qs n (fun _=>0):=qs_le fun i hi=>by
  split
  · have:=h.off i k hi (by omega) hk (by omega)
    have:(f i k:Rat)≤((0:Int):Rat):=Rat.intCast_le_intCast.mpr this
    simpa using this
  · grind
 rw [qs_zero] at h2
 have h3:(0:Rat)<(f k k:Rat):=by grind
 have:((0:Int):Rat)<(f k k:Rat):=by simpa using h3
 exact Rat.intCast_lt_intCast.mp this
theorem neg_of_mul {x d:Int} (hd:0<d) (h:x * d≤0):x≤0:=by
 refine Int.not_lt.mp fun z=>?_
 have:=Int.mul_pos z hd
 omega
theorem Sgn.next {n k:Nat} {f:Nat→Nat→Int} {d:Int} (h:Sgn n k f) (hk:k<n) (hd:0<d) (ex:∀ i j,i<n→j≤n→i≠k→f k k * f i j - f i k * f k j=stepF f k d i j * d):Sgn n (k+1) (stepF f k d):=by
 have hp:=h.pivot hk
 refine ⟨fun i j hi hkj hj hij=>?_,fun j hkj hj=>?_,fun i hi=>?_⟩
 · by_cases e:i=k
   · subst e
     unfold stepF
     rw [if_pos rfl]
     exact h.off i j hi (by omega) hj hij
   · refine neg_of_mul hd ?_
     rw [← ex i j hi (by omega) e]
     have a1:=h.off i j hi (by omega) hj hij
     have a2:=h.off i k hi (by omega) hk e
     have a3:=h.off k j hk (by omega) hj (by omega)
     have b1:f k k * f i j≤0:=Int.mul_nonpos_of_nonneg_of_nonpos (Int.le_of_lt hp) a1
     have b2:0≤f i k * f k j:=Int.mul_nonneg_of_nonpos_of_nonpos a2 a3
     omega
 · have hdq:=cpos hd
   have e:qs n (fun i=>if k+1≤i then (stepF f k d i j:Rat) else 0) * (d:Rat)=(f k k:Rat) * qs n (fun i=>if k≤i then (f i j:Rat) else 0) - (f k j:Rat) * qs n (fun i=>if k≤i then (f i k:Rat) else 0):=by
    rw [qs_split (g:=fun i=>(f i j:Rat)) hk,qs_split (g:=fun i=>(f i k:Rat)) hk,Rat.mul_comm,← qs_mul,Rat.mul_add,Rat.mul_add,← qs_mul,← qs_mul]
    have e2:qs n (fun i=>(d:Rat) * (if k+1≤i then (stepF f k d i j:Rat) else 0))=qs n (fun i=>(f k k:Rat) * (if k+1≤i then (f i j:Rat) else 0)+(-1) * ((f k j:Rat) * (if k+1≤i then (f i k:Rat) else 0))):=qs_congr fun i hi=>by
     split
     · have:=ex i j hi (by omega) (by omega)
       have:((f k k * f i j - f i k * f k j:Int):Rat)=((stepF f k d i j * d:Int):Rat):=by rw [this]
       rw [Rat.intCast_sub,Rat.intCast_mul,Rat.intCast_mul,Rat.intCast_mul] at this
       grind
     · grind
    rw [e2,qs_add,qs_mul (-1)]
    grind
   have a3:=h.off k j hk (by omega) hj (by omega)
   have a3':(f k j:Rat)≤0:=by
    have:(f k j:Rat)≤((0:Int):Rat):=Rat.intCast_le_intCast.mpr a3
    simpa using this
   have s1:=h.col j (by omega) hj
   have s2:=h.col k (by omega) hk
   have p1:=Rat.mul_pos (cpos hp) s1
   have p2:=mul_nn (a:=-(f k j:Rat)) (by grind) (Rat.le_of_lt s2)
   have:0<qs n (fun i=>if k+1≤i then (stepF f k d i j:Rat) else 0) * (d:Rat):=by rw [e];grind
   refine Rat.not_le.mp fun z=>?_
   have:=mul_le_r z (Rat.le_of_lt hdq)
   grind
 · by_cases e:i=k
   · subst e
     unfold stepF
     rw [if_pos rfl]
     exact h.rhs i hi
   · have a2:=h.off i k hi (by omega) hk e
     have a1:=h.rhs i hi
     have a3:=h.rhs k hk
     have b1:0≤f k k * f i n:=Int.mul_nonneg (Int.le_of_lt hp) a1
     have b2:f i k * f k n≤0:=Int.mul_nonpos_of_nonpos_of_nonneg a2 a3
     have:=ex i n hi (Nat.le_refl _) e
     refine Int.not_lt.mp fun z=>?_
     have:=Int.mul_neg_of_neg_of_pos z hd
     omega
noncomputable def fF (f0:Nat→Nat→Int):Nat→(Nat→Nat→Int)×Int
 | 0=>(f0,1)
 | k+1=>(stepF (fF f0 k).1 k (fF f0 k).2,(fF f0 k).1 k k)
noncomputable def aV (f0:Nat→Nat→Int) (i:Nat):Vec:=fun c=>(f0 i c:Rat)
theorem aV_int (f0:Nat→Nat→Int):∀ i c,IsInt (aV f0 i c):=fun i c=>⟨f0 i c,rfl⟩
theorem fF_ok {f0:Nat→Nat→Int} {n:Nat} (s0:Sgn n 0 f0):∀ k,k≤n→Stg (aV f0) n k (fF f0 k).1 (fF f0 k).2∧Sgn n k (fF f0 k).1∧0<(fF f0 k).2∧∀ l,l≤k→0<dd (aV f0) l
 | 0,_=>by
   refine ⟨⟨rfl,fun i j hi hj=>?_⟩,s0,by show (0:Int)<1;decide,fun l hl=>?_⟩
   · rw [if_neg (by omega)]
     have e:vv (aV f0) 0 i=aV f0 i:=by unfold vv;rw [if_neg (by omega)]
     rw [e,BB_low _ (fun c hc=>by omega),dd_zero]
     show (f0 i j:Rat)=(f0 i j:Rat) * 1
     grind
   · rw [show l=0 by omega,dd_zero];decide
 | k+1,hk=>by
   obtain ⟨st,sg,dp,dl⟩:=fF_ok s0 k (by omega)
   have pv:=sg.pivot (by omega)
   have hkk:((fF f0 k).1 k k:Rat)=dd (aV f0) (k+1):=by
    have:=st.f k k (by omega) (by omega)
    rw [if_neg (by omega)] at this
    have e:vv (aV f0) k k=aV f0 k:=by unfold vv;rw [if_neg (by omega)]
    rw [e] at this
    rw [dd_next];exact this
   have dl':∀ l,l≤k+1→0<dd (aV f0) l:=fun l hl=>by
    by_cases e:l=k+1
    · subst e;rw [← hkk];exact cpos pv
    · exact dl l (by omega)
   have hne:∀ l,l≤k+1→dd (aV f0) l≠0:=fun l hl z=>by
    have:=dl' l hl
    rw [z] at this
    exact absurd this (by decide)
   refine ⟨st.next (aV_int f0) (by omega) hne,sg.next (by omega) dp fun i j hi hj hik=>?_,pv,dl'⟩
   obtain ⟨m,e1,_⟩:=st.exact (aV_int f0) (by omega) hne hi hj hik
   rw [e1]
   unfold stepF
   rw [if_neg hik,e1,fdiv_of (by omega)]
theorem fF_solves {f0:Nat→Nat→Int} {n:Nat} (s0:Sgn n 0 f0) {i:Nat} (hi:i<n):qs n (fun j=>(f0 i j:Rat) * ((fF f0 n).1 j n:Rat))=((fF f0 n).2:Rat) * (f0 i n:Rat):=by
 obtain ⟨st,sg,dp,dl⟩:=fF_ok s0 n (Nat.le_refl _)
 have hx:∀ j,j<n→((fF f0 n).1 j n:Rat)=BB (aV f0) n (eV j) n:=fun j hj=>by
  have:=st.f j n hj (Nat.le_refl _)
  rw [if_neg (by omega)] at this
  have e:vv (aV f0) n j=eV j:=by unfold vv;rw [if_pos hj]
  rw [e] at this
  exact this
 have h0:=BB_row (aV f0) hi n
 have part:∀ m,m≤n→BB (aV f0) n (fun c=>if c<m then aV f0 i c else 0) n=(-1) * qs m (fun j=>(f0 i j:Rat) * BB (aV f0) n (eV j) n):=by
  intro m
  induction m with
  | zero =>
    intro _
    rw [BB_low _ (fun c hc=>by simp)]
    simp [qs]
  | succ m ih =>
    intro hm
    have e:BB (aV f0) n (fun c=>if c<m+1 then aV f0 i c else 0) n=BB (aV f0) n (fun c=>1 * (if c<m then aV f0 i c else 0)+(-(f0 i m:Rat)) * eV m c) n:=by
     have pt:∀ c:Nat,(if c<m+1 then aV f0 i c else 0)=1 * (if c<m then aV f0 i c else 0)+(-(f0 i m:Rat)) * eV m c:=fun c=>by
      unfold eV
      by_cases c1:c<m
      · rw [if_pos (by omega),if_pos c1,if_neg (by omega)];grind
      · by_cases c2:c=m
        · subst c2
          rw [if_pos (by omega),if_neg (by omega),if_pos rfl]
          show (f0 i c:Rat)=_
          grind
        · rw [if_neg (by omega),if_neg c1,if_neg c2];grind
     exact BB_congr _ (pt n) fun c _=>pt c
    rw [e,BB_lin,ih (by omega)]
    show _=(-1) * (qs m _+_)
    grind
 have split:BB (aV f0) n (aV f0 i) n=BB (aV f0) n (fun c=>1 * (if c<n then aV f0 i c else 0)+(-(f0 i n:Rat)) * eV n c) n:=by
  have pt:∀ c:Nat,c≤n→aV f0 i c=1 * (if c<n then aV f0 i c else 0)+(-(f0 i n:Rat)) * eV n c:=fun c hc=>by
   unfold eV
   by_cases c1:c<n
   · rw [if_pos c1,if_neg (by omega)];grind
   · have c2:c=n:=by omega
     subst c2
     rw [if_neg (by omega),if_pos rfl]
     show (f0 i c:Rat)=_
     grind
  exact BB_congr _ (pt n (Nat.le_refl _)) fun c hc=>pt c (by omega)
 rw [split,BB_lin,part n (Nat.le_refl _),BB_low _ eV_low] at h0
 have e2:eV n n=-1:=by unfold eV;rw [if_pos rfl]
 rw [e2,← st.d] at h0
 rw [qs_congr fun j hj=>by rw [hx j hj]]
 grind
end Pw

namespace Pw
theorem le_pow {Y m k:Nat} (hY:1≤Y) (h:m≤k):Y ^ m≤Y ^ k:=Nat.pow_le_pow_right hY h
theorem Kk_len:∀ k,(Kk k).length=k
 | 0=>rfl
 | k+1=>by show (k :: Kk k).length=_;rw [List.length_cons,Kk_len k]
theorem Rk_len (A:Nat→Vec):∀ k,(Rk A k).length=k
 | 0=>rfl
 | k+1=>by show (A k :: Rk A k).length=_;rw [List.length_cons,Rk_len A k]
theorem fF_bd {f0:Nat→Nat→Int} {n U Y:Nat} (s0:Sgn n 0 f0) (hn:n≤12) (hU:1≤U) (hY:13 * U≤Y) (hb:∀ i j,(f0 i j).natAbs≤U) {k:Nat} (hk:k≤n):(∀ i j,i<n→j≤n→((fF f0 k).1 i j).natAbs≤Y ^ 13)∧(fF f0 k).2.natAbs≤Y ^ 13:=by
 obtain ⟨st,sg,dp,dl⟩:=fF_ok s0 k hk
 have hA:∀ i c,-((U:Nat):Rat)≤aV f0 i c∧aV f0 i c≤((U:Nat):Rat):=fun i c=>by
  have h:=hb i c
  have h1:((-(U:Int):Int):Rat)≤(f0 i c:Rat):=Rat.intCast_le_intCast.mpr (by omega)
  have h2:(f0 i c:Rat)≤(((U:Int)):Rat):=Rat.intCast_le_intCast.mpr (by omega)
  rw [Rat.intCast_neg] at h1
  exact ⟨h1,h2⟩
 have one:(1:Rat)≤((U:Nat):Rat):=natle hU
 have hE:∀ i c,-((U:Nat):Rat)≤eV i c∧eV i c≤((U:Nat):Rat):=fun i c=>by
  unfold eV
  split <;> grind
 have hY1:1≤Y:=by omega
 have toInt:∀ {x:Int} {m:Nat},m≤13→-((Y ^ m:Nat):Rat)≤(x:Rat)∧(x:Rat)≤((Y ^ m:Nat):Rat)→x.natAbs≤Y ^ 13:=fun {x m} hm h=>by
  have hp:=le_pow hY1 hm
  obtain ⟨h1,h2⟩:=h
  have h1':((-((Y ^ m:Nat):Int):Int):Rat)≤(x:Rat):=by rw [Rat.intCast_neg];exact h1
  have h2':(x:Rat)≤((((Y ^ m:Nat):Int)):Rat):=h2
  have a1:=Rat.intCast_le_intCast.mp h1'
  have a2:=Rat.intCast_le_intCast.mp h2'
  generalize Y ^ 13=z at *
  generalize Y ^ m=y at *
  omega
 have dB:-((Y ^ k:Nat):Rat)≤dd (aV f0) k∧dd (aV f0) k≤((Y ^ k:Nat):Rat):=by
  have:=det_bd hY (rs:=Rk (aV f0) k) (fun r hr=>Rk_all (p:=fun r=>∀ c,-((U:Nat):Rat)≤r c∧r c≤((U:Nat):Rat)) hA k r hr) (Kk k) (by rw [Kk_len];omega)
  rwa [Rk_len] at this
 refine ⟨fun i j hi hj=>?_,toInt (m:=k) (by omega) (by rw [st.d];exact dB)⟩
 have e:=st.f i j hi hj
 split at e
 · split at e
   · exact toInt (m:=k) (by omega) (by rw [e];exact dB)
   · have hz:(fF f0 k).1 i j=0:=by exact_mod_cast e
     rw [hz];simp
 · refine toInt (m:=k+1) (by omega) ?_
   rw [e]
   have:=det_bd hY (rs:=vv (aV f0) k i :: Rk (aV f0) k) (fun r hr=>by
    rcases List.mem_cons.mp hr with rfl | hr
    · unfold vv
      split
      · exact hE i
      · exact hA i
    · exact Rk_all (p:=fun r=>∀ c,-((U:Nat):Rat)≤r c∧r c≤((U:Nat):Rat)) hA k r hr) (j :: Kk k) (by rw [List.length_cons,Kk_len];omega)
   rwa [List.length_cons,Rk_len] at this
noncomputable def qabs (x:Rat):Rat:=if x<0 then -x else x
theorem qabs_nn (x:Rat):0≤qabs x:=by unfold qabs;split <;> grind
theorem qabs_add (x y:Rat):qabs (x+y)≤qabs x+qabs y:=by unfold qabs;split <;> split <;> split <;> grind
theorem qabs_zero {x:Rat} (h:qabs x≤0):x=0:=by unfold qabs at h;split at h <;> grind
theorem qabs_mul {x c:Rat} (hc:0≤c):qabs (x * c)≤qabs x * c:=by
 unfold qabs
 split <;> split
 · grind
 · rename_i h1 h2
   have:=mul_nn (a:=x) (b:=c) (by grind) hc
   grind
 · rename_i h1 h2
   have:=mul_nn (a:=-x) (b:=c) (by grind) hc
   grind
 · grind
theorem qabs_qs (f:Nat→Rat):∀ n,qabs (qs n f)≤qs n (fun i=>qabs (f i))
 | 0=>by show qabs 0≤0;unfold qabs;grind
 | n+1=>by
   have h1:=qabs_qs f n
   have h2:=qabs_add (qs n f) (f n)
   show qabs (qs n f+f n)≤qs n _+qabs (f n)
   grind
theorem contract {n:Nat} {W:Nat→Nat→Rat} {B:Nat→Rat} {a:Rat} (hW:∀ i t,i<n→t<n→a * B t≤W i t) (hs:∀ i,i<n→qs n (fun t=>W i t)=1) (hB:qs n B=1) {x y:Nat→Rat} (hxy:qs n x=qs n y) :
 qs n (fun t=>qabs (qs n (fun i=>x i * W i t) - qs n (fun i=>y i * W i t)))≤(1 - a) * qs n (fun i=>qabs (x i - y i)):=by
 have h1:∀ t,t<n→qabs (qs n (fun i=>x i * W i t) - qs n (fun i=>y i * W i t))≤qs n (fun i=>qabs (x i - y i) * (W i t - a * B t)):=fun t ht=>by
  have e:qs n (fun i=>x i * W i t) - qs n (fun i=>y i * W i t)=qs n (fun i=>(x i - y i) * (W i t - a * B t)):=by
   have e1:qs n (fun i=>(x i - y i) * (W i t - a * B t))=qs n (fun i=>(x i * W i t+(-1) * (y i * W i t))+((-(a * B t)) * x i+(a * B t) * y i)):=qs_congr fun i _=>by grind
   rw [e1,qs_add,qs_add,qs_add,qs_mul,qs_mul,qs_mul,hxy]
   grind
  rw [e]
  have h2:=qabs_qs (fun i=>(x i - y i) * (W i t - a * B t)) n
  have h3:qs n (fun i=>qabs ((x i - y i) * (W i t - a * B t)))≤qs n (fun i=>qabs (x i - y i) * (W i t - a * B t)):=qs_le fun i hi=>qabs_mul (by have:=hW i t hi ht;grind)
  grind
 have h4:=qs_le h1
 rw [qs_swap (fun t i=>qabs (x i - y i) * (W i t - a * B t))] at h4
 have e2:qs n (fun i=>qs n (fun t=>qabs (x i - y i) * (W i t - a * B t)))=qs n (fun i=>(1 - a) * qabs (x i - y i)):=qs_congr fun i hi=>by
  rw [qs_mul]
  have e3:qs n (fun t=>W i t - a * B t)=1 - a:=by
   have:qs n (fun t=>W i t - a * B t)=qs n (fun t=>W i t+(-a) * B t):=qs_congr fun t _=>by grind
   rw [this,qs_add,qs_mul,hs i hi,hB];grind
  rw [e3];grind
 rw [e2,qs_mul] at h4
 exact h4
theorem unique {n:Nat} {W:Nat→Nat→Rat} {B:Nat→Rat} {a:Rat} (ha:0<a) (hW:∀ i t,i<n→t<n→a * B t≤W i t) (hs:∀ i,i<n→qs n (fun t=>W i t)=1) (hB:qs n B=1) {x y:Nat→Rat} (hxy:qs n x=qs n y)
 (sx:∀ t,t<n→qs n (fun i=>x i * W i t)=x t) (sy:∀ t,t<n→qs n (fun i=>y i * W i t)=y t):∀ t,t<n→x t=y t:=by
 have h:=contract hW hs hB hxy
 rw [qs_congr (g:=fun t=>qabs (x t - y t)) fun t ht=>by rw [sx t ht,sy t ht]] at h
 have h0:0≤qs n (fun t=>qabs (x t - y t)):=qs_nonneg fun t _=>qabs_nn _
 have h1:qs n (fun t=>qabs (x t - y t))≤0:=by
  refine Rat.not_lt.mp fun z=>?_
  have:=Rat.mul_pos ha z
  grind
 intro t ht
 have h2:=qs_ge (f:=fun t=>qabs (x t - y t)) ht fun i _=>qabs_nn _
 have:=qabs_zero (x:=x t - y t) (Rat.le_trans h2 h1)
 grind
noncomputable def mp (ps:List (Int×Int)) (j:Nat):Int:=(max 1 (outs ps (j:Int)).length:Nat)
noncomputable def cn (ps:List (Int×Int)) (j i:Nat):Int:=((outs ps (j:Int)).count (i:Int):Nat)
noncomputable def fac (ps:List (Int×Int)) (A:Int×Int) (j i:Nat):Int:=if j=i then A.2 * mp ps j - (A.2 - A.1) * cn ps j i else -((A.2 - A.1) * cn ps j i)
noncomputable def eqF (ps:List (Int×Int)) (A:Int×Int) (ss:List Int) (n i j:Nat):Int:=if i<n then (if j<n then fac ps A j i else if j=n then ss.getD i 0 else 0) else 0
theorem cn_count (ps:List (Int×Int)) (j i:Nat):((ps.count ((j:Int),(i:Int)):Nat):Int)=cn ps j i:=by
 unfold cn outs
 congr 1
 induction ps with
 | nil=>rfl
 | cons p ps ih =>
   obtain ⟨a,b⟩:=p
   rw [List.count_cons]
   by_cases h:a=(j:Int)
   · subst h
     rw [List.filter_cons_of_pos (by simp),List.map_cons,List.count_cons,ih]
     simp
   · rw [List.filter_cons_of_neg (by simpa using h),ih]
     simp [h]
theorem cn_sum {n:Nat} {ps:List (Int×Int)} (lk:∀ p∈ps,0≤p.2∧p.2<(n:Int)) (j:Nat):qs n (fun i=>(cn ps j i:Rat))=(((outs ps (j:Int)).length:Nat):Rat):=sum_count fun x hx=>outs_mem lk hx
structure EqOk (ps:List (Int×Int)) (A:Int×Int) (ss:List Int) (n:Nat):Prop where
 lk:∀ p∈ps,0≤p.2∧p.2<(n:Int)
 a0:0<A.1
 a1:A.1≤A.2
 len:ss.length=n
 nn:∀ s∈ss,0≤s
 pos:0<ss.sum
theorem fac_cast (ps:List (Int×Int)) (A:Int×Int) (j i:Nat):(fac ps A j i:Rat)=(if i=j then (A.2:Rat) * (mp ps j:Rat) else 0)+(-((A.2:Rat) - (A.1:Rat))) * (cn ps j i:Rat):=by
 unfold fac
 by_cases e:j=i
 · subst e
   rw [if_pos rfl,if_pos rfl,Rat.intCast_sub,Rat.intCast_mul,Rat.intCast_mul,Rat.intCast_sub];grind
 · rw [if_neg e,if_neg (fun z=>e z.symm),Rat.intCast_neg,Rat.intCast_mul,Rat.intCast_sub];grind
theorem mp_ge (ps:List (Int×Int)) (j:Nat):1≤mp ps j∧(((outs ps (j:Int)).length:Nat):Int)≤mp ps j:=by unfold mp;omega
theorem EqOk.sgn {ps:List (Int×Int)} {A:Int×Int} {ss:List Int} {n:Nat} (h:EqOk ps A ss n):Sgn n 0 (eqF ps A ss n):=by
 refine ⟨fun i j hi _ hj hij=>?_,fun j _ hj=>?_,fun i hi=>?_⟩
 · unfold eqF fac
   rw [if_pos hi,if_pos hj,if_neg (fun z=>hij z.symm)]
   have:0≤(A.2 - A.1) * cn ps j i:=Int.mul_nonneg (by have:=h.a1;omega) (by unfold cn;omega)
   omega
 · rw [qs_congr (g:=fun i=>(if i=j then (A.2:Rat) * (mp ps j:Rat) else 0)+(-((A.2:Rat) - (A.1:Rat))) * (cn ps j i:Rat)) fun i hi=>?_,qs_add,qs_mul,cn_sum h.lk,qs_single hj fun i _ hi=>by rw [if_neg hi]]
   · rw [if_pos rfl]
     obtain ⟨m1,m2⟩:=mp_ge ps j
     have m2':(((outs ps (j:Int)).length:Nat):Rat)≤(mp ps j:Rat):=by
      have:((((outs ps (j:Int)).length:Nat):Int):Rat)≤(mp ps j:Rat):=Rat.intCast_le_intCast.mpr m2
      exact this
     have a1:(A.1:Rat)≤(A.2:Rat):=Rat.intCast_le_intCast.mpr h.a1
     have p1:=Rat.mul_pos (cpos h.a0) (cpos (show (0:Int)<mp ps j by omega))
     have p2:=mul_nn (a:=(A.2:Rat) - (A.1:Rat)) (b:=(mp ps j:Rat) - (((outs ps (j:Int)).length:Nat):Rat)) (by grind) (by grind)
     grind
   · rw [if_pos (Nat.zero_le _)]
     unfold eqF
     rw [if_pos hi,if_pos hj]
     exact fac_cast ps A j i
 · unfold eqF
   rw [if_pos hi,if_neg (by omega),if_pos rfl]
   exact h.nn _ (List.mem_of_getElem? (L2.getD_mapI (by have:=h.len;omega)))
end Pw

namespace Pw
section
variable (ps:List (Int×Int)) (A:Int×Int) (ss:List Int) (n:Nat)
noncomputable def xS (j:Nat):Int:=(fF (eqF ps A ss n) n).1 j n
noncomputable def dS:Int:=(fF (eqF ps A ss n) n).2
noncomputable def vS (j:Nat):Int:=mp ps j * xS ps A ss n j
noncomputable def VS:Int:=((List.range n).map (vS ps A ss n)).sum
noncomputable def shL:List (Int×Int):=(List.range n).map fun j=>mk (vS ps A ss n j) (VS ps A ss n)
end
section
variable {ps:List (Int×Int)} {A:Int×Int} {ss:List Int} {n:Nat}
theorem EqOk.x_nn (h:EqOk ps A ss n) {j:Nat} (hj:j<n):0≤xS ps A ss n j:=((fF_ok h.sgn n (Nat.le_refl _)).2.1).rhs j hj
theorem EqOk.d_pos (h:EqOk ps A ss n):0<dS ps A ss n:=(fF_ok h.sgn n (Nat.le_refl _)).2.2.1
theorem EqOk.v_nn (h:EqOk ps A ss n) {j:Nat} (hj:j<n):0≤vS ps A ss n j:=Int.mul_nonneg (by have:=(mp_ge ps j).1;omega) (h.x_nn hj)
theorem EqOk.row (h:EqOk ps A ss n) {i:Nat} (hi:i<n):(A.2:Rat) * (vS ps A ss n i:Rat)=((A.2:Rat) - (A.1:Rat)) * qs n (fun j=>(cn ps j i:Rat) * (xS ps A ss n j:Rat))+(dS ps A ss n:Rat) * (ss.getD i 0:Rat):=by
 have h1:=fF_solves h.sgn hi
 have e0:eqF ps A ss n i n=ss.getD i 0:=by unfold eqF;rw [if_pos hi,if_neg (by omega),if_pos rfl]
 rw [e0] at h1
 have e1:qs n (fun j=>(eqF ps A ss n i j:Rat) * ((fF (eqF ps A ss n) n).1 j n:Rat))=qs n (fun j=>(if j=i then (A.2:Rat) * (vS ps A ss n i:Rat) else 0)+(-((A.2:Rat) - (A.1:Rat))) * ((cn ps j i:Rat) * (xS ps A ss n j:Rat))):=qs_congr fun j hj=>by
  have e2:eqF ps A ss n i j=fac ps A j i:=by unfold eqF;rw [if_pos hi,if_pos hj]
  rw [e2,fac_cast]
  show _ * (xS ps A ss n j:Rat)=_
  by_cases e:j=i
  · subst e
    rw [if_pos rfl,if_pos rfl]
    unfold vS
    rw [Rat.intCast_mul];grind
  · rw [if_neg e,if_neg (fun z=>e z.symm)];grind
 rw [e1,qs_add,qs_mul,qs_single hi fun j _ hj=>by rw [if_neg hj],if_pos rfl] at h1
 have e3:((fF (eqF ps A ss n) n).2:Rat)=(dS ps A ss n:Rat):=rfl
 rw [e3] at h1
 grind
theorem VS_qs:(VS ps A ss n:Rat)=qs n (fun j=>(vS ps A ss n j:Rat)):=(qs_ints n).symm
noncomputable def dg (ps:List (Int×Int)) (A:Int×Int) (ss:List Int) (n j:Nat):Rat:=if outs ps (j:Int)=[] then (vS ps A ss n j:Rat) else 0
theorem len_x (j:Nat):(((outs ps (j:Int)).length:Nat):Rat) * (xS ps A ss n j:Rat)=(vS ps A ss n j:Rat)+(-1) * dg ps A ss n j:=by
 unfold dg vS
 by_cases e:outs ps (j:Int)=[]
 · rw [if_pos e,e]
   simp
   grind
 · rw [if_neg e]
   have:mp ps j=(((outs ps (j:Int)).length:Nat):Int):=by
    unfold mp
    have:=List.length_pos_iff.mpr e
    omega
   rw [this,Rat.intCast_mul]
   have e2:((((outs ps (j:Int)).length:Nat):Int):Rat)=(((outs ps (j:Int)).length:Nat):Rat):=rfl
   rw [e2];grind
theorem EqOk.all (h:EqOk ps A ss n):(A.1:Rat) * (VS ps A ss n:Rat)+((A.2:Rat) - (A.1:Rat)) * qs n (fun j=>dg ps A ss n j)=(dS ps A ss n:Rat) * (ss.sum:Rat):=by
 have h1:qs n (fun i=>(A.2:Rat) * (vS ps A ss n i:Rat))=qs n (fun i=>((A.2:Rat) - (A.1:Rat)) * qs n (fun j=>(cn ps j i:Rat) * (xS ps A ss n j:Rat))+(dS ps A ss n:Rat) * (ss.getD i 0:Rat)):=qs_congr fun i hi=>h.row hi
 rw [qs_mul,qs_add,qs_mul,qs_mul,qs_swap (fun i j=>(cn ps j i:Rat) * (xS ps A ss n j:Rat)),← VS_qs] at h1
 have h2:qs n (fun j=>qs n (fun i=>(cn ps j i:Rat) * (xS ps A ss n j:Rat)))=qs n (fun j=>(vS ps A ss n j:Rat)+(-1) * dg ps A ss n j):=qs_congr fun j hj=>by
  have:qs n (fun i=>(cn ps j i:Rat) * (xS ps A ss n j:Rat))=qs n (fun i=>(xS ps A ss n j:Rat) * (cn ps j i:Rat)):=qs_congr fun i _=>Rat.mul_comm ..
  rw [this,qs_mul,cn_sum h.lk,← len_x];grind
 have h3:qs n (fun i=>(ss.getD i 0:Rat))=(ss.sum:Rat):=by
  have:=qs_list ss
  rwa [h.len] at this
 rw [h2,h3,qs_add,qs_mul,← VS_qs] at h1
 grind
theorem dg_le (h:EqOk ps A ss n) {j:Nat} (hj:j<n):0≤dg ps A ss n j∧dg ps A ss n j≤(vS ps A ss n j:Rat):=by
 have:=cnn (h.v_nn hj)
 unfold dg
 split <;> grind
theorem EqOk.V_pos (h:EqOk ps A ss n):0<VS ps A ss n:=by
 have h1:=h.all
 have h2:=qs_le fun j hj=>(dg_le h (j:=j) hj).2
 rw [← VS_qs] at h2
 have a1:(A.1:Rat)≤(A.2:Rat):=Rat.intCast_le_intCast.mpr h.a1
 have p1:=Rat.mul_pos (cpos h.d_pos) (cpos h.pos)
 have p2:=mul_nn (a:=(A.2:Rat) - (A.1:Rat)) (b:=(VS ps A ss n:Rat) - qs n (fun j=>dg ps A ss n j)) (by grind) (by grind)
 have a2:=cpos (show 0<A.2 by have:=h.a0;have:=h.a1;omega)
 have h3:0<(A.2:Rat) * (VS ps A ss n:Rat):=by grind
 have h4:(0:Rat)<(VS ps A ss n:Rat):=by
  refine Rat.not_le.mp fun z=>?_
  have:=mul_le_r z (Rat.le_of_lt a2)
  grind
 have:((0:Int):Rat)<(VS ps A ss n:Rat):=by simpa using h4
 exact Rat.intCast_lt_intCast.mp this
end
structure ShOk (ps:List (Int×Int)) (A:Int×Int) (Bs:List (Int×Int)) (n:Nat) (Ss:List (Int×Int)):Prop where
 len:Ss.length=n
 canon:Canons Ss
 nn:∀ S∈Ss,0≤S.1
 one:qs n (fun t=>val (Ss.getD t (0,1)))=1
 stay:∀ t,t<n→behQ ps A Bs Ss n t=val (Ss.getD t (0,1))
theorem way_val {ps:List (Int×Int)} {A:Int×Int} {Bs:List (Int×Int)} {n j t:Nat} (ca:Canon A) (cb:Canons Bs) (hn:Bs.length=n) (ht:t<n):val ((waysL ps A Bs (j:Nat)).getD t (0,1))=if outs ps (j:Int)=[] then val (Bs.getD t (0,1)) else val A * val (Bs.getD t (0,1))+(1 - val A) * ((cn ps j t:Rat) / (((outs ps (j:Int)).length:Nat):Rat)):=by
 unfold waysL
 split
 · rfl
 · rename_i h
   rw [getD_map_range (by omega),val_wayF ca (cb.getD t) (outs_len_ne h)]
   rfl
theorem shL_ok {ps:List (Int×Int)} {A:Int×Int} {Bs:List (Int×Int)} {ss:List Int} {n:Nat} {L:Int} (h:EqOk ps A ss n) (ca:Canon A) (cb:Canons Bs) (hn:Bs.length=n) (hL:0<L) (hB:∀ t,t<n→(ss.getD t 0:Rat)=val (Bs.getD t (0,1)) * (L:Rat)) (one:qs n (fun t=>val (Bs.getD t (0,1)))=1):ShOk ps A Bs n (shL ps A ss n):=by
 have hV:=h.V_pos
 have hVq:=cpos hV
 have hVn:=castne (d:=VS ps A ss n) (by omega)
 have vs:∀ t,t<n→val ((shL ps A ss n).getD t (0,1))=(vS ps A ss n t:Rat) / (VS ps A ss n:Rat):=fun t ht=>by
  unfold shL
  rw [getD_map_range ht,val_mk (by omega)]
 refine ⟨by unfold shL;simp,fun S hS=>?_,fun S hS=>?_,?_,fun t ht=>?_⟩
 · obtain ⟨t,_,rfl⟩:=List.mem_map.mp hS
   exact canon_mk (by omega)
 · obtain ⟨t,ht,rfl⟩:=List.mem_map.mp hS
   exact mk_nonneg hV (h.v_nn (List.mem_range.mp ht))
 · rw [qs_congr (g:=fun t=>(1 / (VS ps A ss n:Rat)) * (vS ps A ss n t:Rat)) fun t ht=>by rw [vs t ht];grind,qs_mul,← VS_qs]
   grind
 · rw [vs t ht]
   unfold behQ
   have ha2:0<A.2:=ca.1
   have haq:=castne (canon_ne ca)
   have eα:val A * (A.2:Rat)=(A.1:Rat):=by unfold val;grind
   have sumS:(ss.sum:Rat)=(L:Rat):=by
    have h3:qs n (fun i=>(ss.getD i 0:Rat))=(ss.sum:Rat):=by
     have:=qs_list ss
     rwa [h.len] at this
    rw [← h3,qs_congr (g:=fun t=>(L:Rat) * val (Bs.getD t (0,1))) fun t ht=>by rw [hB t ht];grind,qs_mul,one];grind
   have hall:=h.all
   rw [sumS] at hall
   have hrow:=h.row ht
   rw [hB t ht] at hrow
   have key:qs n (fun j=>(vS ps A ss n j:Rat) * val ((waysL ps A Bs (j:Nat)).getD t (0,1)))=(val A * val (Bs.getD t (0,1))) * (VS ps A ss n:Rat)+(1 - val A) * qs n (fun j=>(cn ps j t:Rat) * (xS ps A ss n j:Rat))+((1 - val A) * val (Bs.getD t (0,1))) * qs n (fun j=>dg ps A ss n j):=by
    have e1:qs n (fun j=>(vS ps A ss n j:Rat) * val ((waysL ps A Bs (j:Nat)).getD t (0,1)))=qs n (fun j=>((val A * val (Bs.getD t (0,1))) * (vS ps A ss n j:Rat)+(1 - val A) * ((cn ps j t:Rat) * (xS ps A ss n j:Rat)))+((1 - val A) * val (Bs.getD t (0,1))) * dg ps A ss n j):=qs_congr fun j hj=>by
     rw [way_val ca cb hn ht]
     have hlx:=len_x (ps:=ps) (A:=A) (ss:=ss) (n:=n) j
     unfold dg at hlx ⊢
     by_cases e:outs ps (j:Int)=[]
     · rw [if_pos e,if_pos e]
       have:cn ps j t=0:=by unfold cn;rw [e];rfl
       rw [this]
       simp
       grind
     · rw [if_neg e] at hlx ⊢
       rw [if_neg e]
       have hl:(((outs ps (j:Int)).length:Nat):Rat)≠0:=castne (outs_len_ne e)
       generalize (((outs ps (j:Int)).length:Nat):Rat)=l at *
       have:(vS ps A ss n j:Rat)=l * (xS ps A ss n j:Rat):=by grind
       rw [this]
       grind
    rw [e1,qs_add,qs_add,qs_mul,qs_mul,qs_mul,← VS_qs]
   have e2:qs n (fun i=>val ((shL ps A ss n).getD i (0,1)) * val ((waysL ps A Bs (i:Nat)).getD t (0,1)))=(1 / (VS ps A ss n:Rat)) * qs n (fun j=>(vS ps A ss n j:Rat) * val ((waysL ps A Bs (j:Nat)).getD t (0,1))):=by
    rw [← qs_mul]
    exact qs_congr fun j hj=>by rw [vs j hj];grind
   rw [e2,key]
   generalize qs n (fun j=>(cn ps j t:Rat) * (xS ps A ss n j:Rat))=Cq at *
   generalize qs n (fun j=>dg ps A ss n j)=Dq at *
   generalize val (Bs.getD t (0,1))=b at *
   generalize (vS ps A ss n t:Rat)=v at *
   generalize (VS ps A ss n:Rat)=V at *
   generalize (dS ps A ss n:Rat)=d at *
   generalize val A=α at *
   generalize (A.2:Rat)=a2 at *
   generalize (A.1:Rat)=a1 at *
   subst eα
   have k1:a2 * v=a2 * ((1 - α) * Cq+(α * V+(1 - α) * Dq) * b):=by grind
   have k2:v=(1 - α) * Cq+(α * V+(1 - α) * Dq) * b:=by grind
   rw [k2]
   grind
end Pw

namespace L2
open PySem PySem.Spec PyProof.Rows
section
variable {X:Cx}
noncomputable def tBMT (r:V→List V→Hp→VK→Prop) (to:TE) (t:TA):TE:=fun σ H Q=>to σ H fun x H1=>(∃ (p:Addr) (xs:List V),x=.ref p∧H1 p=some (.tup xs))∧t σ H1 fun xs H2=>r x xs H2 Q
theorem pe_bmT {o e:Expr} {es:List Expr} {to:TE} {t:TA} {name:Str} {apos cpos:Pos} {id:String} {r:V→List V→Hp→VK→Prop} (hbase:attributeBase o name X.env (eval o X.env)=eval o X.env)
 (hfew:((backTo cpos (starEach (e :: es) X.env)).all (fun x=>!x.1) && (backToKw cpos (keywordEach [] X.env)).all (fun x=>x.1.isSome) && decide ((e :: es).length+([]:List Keyword).length+(if ([]:List Keyword).isEmpty then 0 else 1)<30))=true)
 (hline:(apos.endLine == cpos.line)=true) (hs:starEach (e :: es) X.env=(false,eval e X.env) :: starEach es X.env) (hplain:(backTo cpos (starEach es X.env)).any (·.1)=false)
 (pa:PlainAttrs "tuple") (slot:Slot "tuple" name id) (hty:typeOf (.builtin id)=pure (.type "method_descriptor")) (hm:MtM X id r) (ho:PE X o to) (ha:PA X (e :: es) t):PE X (.Call (.Attribute o name apos) (e :: es) [] cpos) (tBMT r to t):=by
 intro pins s σ H Q I h
 refine wpAny_Call_method_late hbase hfew hline rfl (thn (ho pins s σ H _ I h) fun v s1 ⟨x,H1,I1,r1,ty,q1⟩=>?_)
 obtain ⟨p,xs,rfl,hp⟩:=ty
 cases r1
 obtain ⟨_,its,_,ob,e1,c1,n1,d1⟩:xs.length≤sizeLine∧∃ its:List Value,Vals xs its∧IsTupN s1.heap p its.toArray:=I1.hok p _ hp
 refine ⟨"tuple",id,pa,slot,hty,⟨ob,e1,congrArg Prod.fst c1⟩,fun a ea=>by cases ea;exact ⟨ob,e1,congrArg Prod.snd c1⟩,?_⟩
 have hA:=ha cpos pins s1 σ H1 _ I1 q1
 rw [hs] at hA ⊢
 refine Calls.callWith_builtin (by show (false || (backTo cpos (starEach es X.env)).any (·.1))=false;rw [hplain] <;> rfl) (Calls.evalArgs_plain ?_)
 exact thn hA fun us s2 ⟨vs,H2,I2,r2,q2⟩=>hm pins s2 σ H2 (.ref p) vs (.ref p) us Q I2 rfl r2 q2
noncomputable def rCntT (K:PySem.W.Frag):V→List V→Hp→VK→Prop:=fun o xs H Q=>∃ (t q:Addr) (us:List V) (ps:List (Int×Int)) (p:Int×Int),o=.ref t∧xs=[.ref q]∧H t=some (.tup us)∧Prs K H ps us∧SqT K H q [.int p.1,.int p.2]∧Q (.int ((ps.count p:Nat):Int)) H
open Classical in
theorem mt_countT {k:Nat} (hr:Room k X.A):MtM X "tuple.count" (rCntT X.K):=by
 intro pins s σ H x vs v us' Q I rx rv h
 obtain ⟨t,q,us,ps,p,rfl,rfl,ht,hp,hq,k⟩:=h
 cases rx
 obtain ⟨u,rfl,ru⟩:=rv.one
 cases ru
 obtain ⟨its,r,pl,hz⟩:=I.tuple (SqT.of ht)
 obtain ⟨⟨c,dd,dt,sl⟩,e,hc,n,hd⟩:=pl
 have hc:c=.type "tuple":=hc
 have hd:dt=.seq its.toArray n:=hd
 subst hc hd
 have hu:=hr.units
 have hu0:X.A.in1.units≤X.A.units+8:=by
  first | exact Nat.le_add_right _ _ | (simp [Around.in1]) | (unfold Around.in1;simp)
 have hu1:X.A.in1.units+20<cLine:=by omega
 refine call_meets F.slot_tuple_count ⟨_,e,rfl⟩ F.entry_tuple_count (F.args_tuple_count_2 _ _) (SeqAt.tuple_countAt t its.toArray n dd sl (.ref q) (fun y=>decide (∃ a,y=.ref a∧SqT X.K H a [.int p.1,.int p.2]))) ⟨e,fun y hy=>?_,?_⟩
 · have hy:y∈its:=by simpa using hy
   obtain ⟨i,hi,rfl⟩:=List.getElem_of_mem hy
   have hl:=r.length
   obtain ⟨a,p',e1,e2,e3⟩:=hp.get (i:=i) (v:=us[i]) (by simp)
   obtain ⟨w,ew,rw'⟩:=r.get (i:=i) (x:=us[i]) (by simp)
   rw [e2] at rw'
   cases rw'
   have ew:its[i]=.ref a:=by
    have:=ew
    rw [List.getElem?_eq_getElem hi] at this
    exact Option.some.inj this
   rw [ew]
   have key:=eqAt_D I 20 (X.A.in1) (tupD p') (tupD p) (.ref a) (.ref q) (.ref a) (.ref q) (by unfold tupD;simp only [depD,depDs];decide) hu1 (by unfold tupD;simp only [Den];exact ⟨a,_,rfl,e3,dens2 _ _ _ _⟩) (by unfold tupD;simp only [Den];exact ⟨q,_,rfl,hq,dens2 _ _ _ _⟩) rfl rfl
   have e4:eqD (tupD p') (tupD p)=decide (∃ b,Value.ref a=.ref b∧SqT X.K H b [.int p.1,.int p.2]):=by
    unfold tupD
    simp only [eqD]
    rw [eqDs2]
    by_cases hh:p'=p
    · subst hh
      rw [decide_eq_true (show (p'.1,p'.2)=(p'.1,p'.2) from rfl),decide_eq_true ⟨a,rfl,e3⟩]
    · rw [decide_eq_false (fun z=>hh z),decide_eq_false]
      rintro ⟨b,hb,hs⟩
      cases hb
      have:=I.tuple_inj e3 hs
      simp at this
      exact hh (Prod.ext this.1 this.2)
   rw [← e4]
   exact key
 · refine ⟨.int _,H,I.tok _,⟨_,rfl⟩,?_⟩
   have cnt:∀ {ps:List (Int×Int)} {us:List V} {its:List Value},Prs X.K H ps us→Vals us its→its.countP (fun y=>decide (∃ a,y=.ref a∧SqT X.K H a [.int p.1,.int p.2]))=ps.count p:=by
    intro ps
    induction ps with
    | nil =>
      intro us its hp r
      have hl:=hp.len
      have:us=[]:=List.length_eq_zero_iff.mp hl
      subst this
      cases r
      rfl
    | cons p' ps ih =>
      intro us its hp r
      obtain ⟨a,us',rfl,e3,hp'⟩:=prs_uncons hp
      cases r with
      | cons ra rr =>
        cases ra
        rw [List.countP_cons,List.count_cons,ih hp' rr]
        congr 1
        by_cases hh:p'=p
        · subst hh
          rw [if_pos (decide_eq_true ⟨a,rfl,e3⟩),if_pos (by simp)]
        · rw [if_neg,if_neg (by simpa using hh)]
          intro z
          obtain ⟨b,hb,hs⟩:=of_decide_eq_true z
          cases hb
          have:=I.tuple_inj e3 hs
          simp at this
          exact hh (Prod.ext this.1 this.2)
   show Q (.int ((List.countP _ its.toArray.toList:Nat):Int)) H
   rw [List.toList_toArray,cnt hp r]
   exact k
end
end L2

namespace L2
open PySem PySem.Spec PyProof.Rows
noncomputable def rowI (f:Nat→Int) (m:Nat):List V:=((List.range m).map f).map V.int
theorem rowI_len (f:Nat→Int) (m:Nat):(rowI f m).length=m:=by unfold rowI;simp
theorem rowI_get {f:Nat→Int} {m j:Nat} (h:j<m):(rowI f m)[j]?=some (.int (f j)):=by
 unfold rowI
 rw [List.getElem?_map,List.getElem?_map,List.getElem?_range h];rfl
theorem rowI_succ (f:Nat→Int) (m:Nat):rowI f (m+1)=rowI f m ++ [.int (f m)]:=by
 unfold rowI
 rw [List.range_succ,List.map_append,List.map_append];rfl
theorem rowI_congr {f g:Nat→Int} {m:Nat} (h:∀ j,j<m→f j=g j):rowI f m=rowI g m:=by
 unfold rowI
 congr 1
 exact List.map_congr_left fun j hj=>h j (List.mem_range.mp hj)
noncomputable def MatL (H:Hp) (n m:Nat) (f:Nat→Nat→Int) (us:List V):Prop:=us.length=n∧∀ i,i<n→∃ q,us[i]?=some (.ref q)∧H q=some (.lst (rowI (f i) m))
theorem MatL.same {H H':Hp} {n m:Nat} {f:Nat→Nat→Int} {us:List V} (h:MatL H n m f us) (s:Same H H'):MatL H' n m f us :=
 ⟨h.1,fun i hi=>by
  obtain ⟨q,a,b⟩:=h.2 i hi
  exact ⟨q,a,s _ _ b⟩⟩
theorem MatL.snoc {H:Hp} {n m:Nat} {f:Nat→Nat→Int} {us:List V} (h:MatL H n m f us) {q:Addr} (hq:H q=some (.lst (rowI (f n) m))):MatL H (n+1) m f (us ++ [.ref q]):=by
 refine ⟨by rw [List.length_append,h.1];rfl,fun i hi=>?_⟩
 by_cases e:i=n
 · subst e
   exact ⟨q,by rw [← h.1];simp,hq⟩
 · obtain ⟨q',a,b⟩:=h.2 i (by omega)
   exact ⟨q',by rw [List.getElem?_append_left (by rw [h.1];omega)];exact a,b⟩
theorem MatL.put {H:Hp} {n m:Nat} {f:Nat→Nat→Int} {us xs:List V} {D:Addr} {o:HO} (h:MatL H n m f us) (hD:∀ i,i<n→us[i]?≠some (.ref D)):MatL (upd H D o) n m f us :=
 ⟨h.1,fun i hi=>by
  obtain ⟨q,a,b⟩:=h.2 i hi
  exact ⟨q,a,by rw [upd_ne (fun z=>hD i hi (by rw [a,z]))];exact b⟩⟩
noncomputable def spParts (K:PySem.W.Frag):Sp:=fun vs H Q _=>∃ (w:Addr) (pages:Int) (j:Nat) (ps:List (Int×Int)),vs=[.ref w,.int j]∧WebAt K H w pages ps∧ps.length≤100∧∀ H',Same H H'→Q (.int (Pw.mp ps j)) H'
noncomputable def spFactor (K:PySem.W.Frag):Sp:=fun vs H Q _=>∃ (w lp:Addr) (pages:Int) (j i:Nat) (ps:List (Int×Int)) (A:Int×Int),vs=[.ref w,.ref lp,.int j,.int i]∧WebAt K H w pages ps∧ps.length≤100∧FrA K H lp A∧Sz2 150 A∧∀ H',Same H H'→Q (.int (Pw.fac ps A j i)) H'
noncomputable def spEquation (K:PySem.W.Frag):Sp:=fun vs H Q _=>∃ (w lp:Addr) (pages:Int) (i:Nat) (st:Int) (ps:List (Int×Int)) (A:Int×Int),vs=[.ref w,.ref lp,.int i,.int st]∧WebAt K H w pages ps∧1≤pages∧pages≤13∧ps.length≤100∧FrA K H lp A∧Sz2 150 A ∧
 ∀ (p:Addr) (H':Hp),Same H H'→H p=none→H' p=some (.lst (rowI (fun j=>Pw.fac ps A j i) pages.toNat ++ [.int st]))→Q (.ref p) H'
noncomputable def spCleared (K:PySem.W.Frag):Sp:=fun vs H Q _=>∃ (e c:Addr) (k m:Nat) (d:Int) (f g:Nat→Int),vs=[.ref e,.ref c,.int k,.int d]∧H e=some (.lst (rowI f m))∧H c=some (.lst (rowI g m))∧k<m∧m≤20∧d≠0∧Sz 8000 d∧(∀ j,j<m→Sz 8000 (f j)∧Sz 8000 (g j)) ∧
 ∀ (p:Addr) (H':Hp),Same H H'→H p=none→H' p=some (.lst (rowI (fun j=>(g k * f j - f k * g j).fdiv d) m))→Q (.ref p) H'
noncomputable def spSolved (K:PySem.W.Frag):Sp:=fun vs H Q _=>∃ (e:Addr) (us:List V) (n z:Nat) (f0:Nat→Nat→Int),vs=[.ref e]∧H e=some (.lst us)∧MatL H n (n+1) f0 us∧Pw.Sgn n 0 f0∧1≤n∧n≤12∧z≤150∧(∀ i j,(f0 i j).natAbs≤2 ^ z) ∧
 ∀ (t l:Addr) (H':Hp),Same H H'→H' t=some (.tup [.ref l,.int (Pw.fF f0 n).2])→H' l=some (.lst (rowI (fun i=>(Pw.fF f0 n).1 i n) n))→Q (.ref t) H'
theorem fF_sz {f0:Nat→Nat→Int} {n z:Nat} (s0:Pw.Sgn n 0 f0) (hn:n≤12) (hb:∀ i j,(f0 i j).natAbs≤2 ^ z) {k:Nat} (hk:k≤n):(∀ i j,i<n→j≤n→Sz ((z+4) * 13+1) ((Pw.fF f0 k).1 i j))∧Sz ((z+4) * 13+1) (Pw.fF f0 k).2:=by
 obtain ⟨h1,h2⟩:=Pw.fF_bd (U:=2 ^ z) (Y:=2 ^ (z+4)) s0 hn (Nat.two_pow_pos _) (by rw [Nat.pow_add];omega) hb hk
 have e:(2 ^ (z+4)) ^ 13=2 ^ ((z+4) * 13):=(Nat.pow_mul ..).symm
 rw [e] at h2
 have lt:2 ^ ((z+4) * 13)<2 ^ ((z+4) * 13+1):=Nat.pow_lt_pow_right (by decide) (by omega)
 refine ⟨fun i j hi hj=>?_,Nat.lt_of_le_of_lt h2 lt⟩
 have:=h1 i j hi hj
 rw [e] at this
 exact Nat.lt_of_le_of_lt this lt
theorem eqF_sz {ps:List (Int×Int)} {A:Int×Int} {ss:List Int} {n z:Nat} (few:ps.length≤100) (h:Pw.EqOk ps A ss n) (sa:Sz z A.2) (hs:∀ s∈ss,s≤2 ^ z):∀ i j,(Pw.eqF ps A ss n i j).natAbs≤2 ^ (z+7):=by
 intro i j
 have a0:=h.a0
 have a1:=h.a1
 have sa':A.2.natAbs<2 ^ z:=sa
 have ep:(2:Nat) ^ (z+7)=2 ^ z * 128:=by rw [Nat.pow_add]
 unfold Pw.eqF
 split
 · split
   · have hl:=Pw.outs_len ps (j:Int)
     have hc:=List.count_le_length (a:=(i:Int)) (l:=Pw.outs ps (j:Int))
     have hm:1≤Pw.mp ps j∧Pw.mp ps j≤100:=by unfold Pw.mp;omega
     have hcn:0≤Pw.cn ps j i∧Pw.cn ps j i≤100:=by unfold Pw.cn;omega
     have k1:0≤A.2 * Pw.mp ps j:=Int.mul_nonneg (by omega) (by omega)
     have k2:A.2 * Pw.mp ps j≤A.2 * 100:=Int.mul_le_mul_of_nonneg_left hm.2 (by omega)
     have k3:0≤(A.2 - A.1) * Pw.cn ps j i:=Int.mul_nonneg (by omega) hcn.1
     have k4:(A.2 - A.1) * Pw.cn ps j i≤(A.2 - A.1) * 100:=Int.mul_le_mul_of_nonneg_left hcn.2 (by omega)
     unfold Pw.fac
     split <;> omega
   · split
     · have hs':Pw.EqOk ps A ss n:=h
       by_cases hi:i<ss.length
       · have hm:ss.getD i 0∈ss:=List.mem_of_getElem? (getD_mapI hi)
         have b1:=hs _ hm
         have b2:=h.nn _ hm
         have:((2:Int) ^ z)=((2 ^ z:Nat):Int):=by push_cast;rfl
         rw [this] at b1
         omega
       · rw [List.getD_eq_getElem?_getD,List.getElem?_eq_none (by omega)]
         simp
     · simp
 · simp
noncomputable def spVisits (K:PySem.W.Frag):Sp:=fun vs H Q _=>∃ (w lp ls:Addr) (pages:Int) (ps:List (Int×Int)) (A:Int×Int) (Bs:List (Int×Int)) (us:List V) (S:Int) (z:Nat),vs=[.ref w,.ref lp,.ref ls]∧Gv K H w lp ls pages ps A Bs us∧Pr A Bs S∧pages≤12∧z≤140∧Sz2 z A∧Sz z S ∧
 ∀ (p:Addr) (H':Hp) (ss:List Int) (L:Int),Pw.EqOk ps A ss pages.toNat→0<L→(∀ t,t<pages.toNat→(ss.getD t 0:Rat)=Pw.val (Bs.getD t (0,1)) * (L:Rat))→(∀ j,j<pages.toNat→Sz ((z+11) * 13+8) (Pw.vS ps A ss pages.toNat j))→Same H H'→H' p=some (.lst (rowI (Pw.vS ps A ss pages.toNat) pages.toNat))→Q (.ref p) H'
noncomputable def spShares (K:PySem.W.Frag):Sp:=fun vs H Q _=>∃ (w lp ls:Addr) (pages:Int) (ps:List (Int×Int)) (A:Int×Int) (Bs:List (Int×Int)) (us:List V) (S:Int) (z:Nat),vs=[.ref w,.ref lp,.ref ls]∧Gv K H w lp ls pages ps A Bs us∧Pr A Bs S∧pages≤12∧z≤140∧Sz2 z A∧Sz z S ∧
 ∀ (t:Addr) (H':Hp) (Ss:List (Int×Int)) (V':Int) (ys:List V),Pw.ShOk ps A Bs pages.toNat Ss→0<V'→Sz ((z+11) * 13+20) V'→(∀ S∈Ss,S.2 ∣ V')→Same H H'→H' t=some (.tup ys)→FrL K H' Ss ys→Q (.ref t) H'
end L2

namespace Pw
theorem way_ge {ps:List (Int×Int)} {A:Int×Int} {Bs:List (Int×Int)} {S:Int} {n j t:Nat} (ca:Canon A) (cb:Canons Bs) (hn:Bs.length=n) (pr:L2.Pr A Bs S) (ht:t<n):val A * val (Bs.getD t (0,1))≤val ((waysL ps A Bs (j:Nat)).getD t (0,1)):=by
 rw [way_val ca cb hn ht]
 have a0:=val_nn ca.1 (by have:=pr.a0;omega)
 have a1:=val_le1 ca.1 pr.a1
 have hB:=L2.mem_getD (Bs:=Bs) (t:=t) (by omega)
 have b0:=val_nn (cb _ hB).1 (pr.nn _ hB)
 split
 · have:=mul_nn (a:=1 - val A) (by grind) b0
   grind
 · rename_i h
   have l0:(0:Rat)<(((outs ps (j:Int)).length:Nat):Rat):=cpos (d:=(((outs ps (j:Int)).length:Nat):Int)) (by have:=List.length_pos_iff.mpr h;omega)
   have c0:=div_nn (cnn (d:=cn ps j t) (by unfold cn;omega)) l0
   have:=mul_nn (a:=1 - val A) (by grind) c0
   grind
theorem ShOk.unique {ps:List (Int×Int)} {A:Int×Int} {Bs:List (Int×Int)} {S:Int} {n:Nat} {Ss Ts:List (Int×Int)} (lk:∀ p∈ps,0≤p.2∧p.2<(n:Int)) (ca:Canon A) (cb:Canons Bs) (hn:Bs.length=n) (pr:L2.Pr A Bs S) (h:ShOk ps A Bs n Ss) (h':ShOk ps A Bs n Ts):Ss=Ts:=by
 have one:=pr.one
 rw [hn] at one
 have u:=Pw.unique (n:=n) (W:=fun i t=>val ((waysL ps A Bs i).getD t (0,1))) (B:=fun t=>val (Bs.getD t (0,1))) (a:=val A) (x:=fun t=>val (Ss.getD t (0,1))) (y:=fun t=>val (Ts.getD t (0,1)))
  (by
   have hp:=cpos ca.1
   have h1:=cpos pr.a0
   unfold val
   rw [Rat.div_def]
   exact Rat.mul_pos h1 (Rat.inv_pos.mpr hp))
  (fun i t _ ht=>way_ge ca cb hn pr ht) (fun i _=>ways_sum lk ca cb hn one) one (by rw [h.one,h'.one]) (fun t ht=>h.stay t ht) (fun t ht=>h'.stay t ht)
 refine List.ext_getElem (by rw [h.len,h'.len]) fun i h1 h2=>?_
 have:=u i (by have:=h.len;omega)
 rw [List.getD_eq_getElem?_getD,List.getElem?_eq_getElem h1,List.getD_eq_getElem?_getD,List.getElem?_eq_getElem h2] at this
 exact val_inj (h.canon _ (List.getElem_mem h1)) (h'.canon _ (List.getElem_mem h2)) this
theorem ShOk.le1 {ps:List (Int×Int)} {A:Int×Int} {Bs:List (Int×Int)} {n:Nat} {Ss:List (Int×Int)} (h:ShOk ps A Bs n Ss):∀ S∈Ss,S.1≤S.2:=by
 intro S hS
 obtain ⟨i,hi,rfl⟩:=List.getElem_of_mem hS
 have c:=h.canon _ (List.getElem_mem hi)
 have h1:=qs_ge (n:=n) (k:=i) (f:=fun t=>val (Ss.getD t (0,1))) (by have:=h.len;omega) fun t ht=>by
  have:=L2.mem_getD (Bs:=Ss) (t:=t) (by have:=h.len;omega)
  exact val_nn (h.canon _ this).1 (h.nn _ this)
 rw [h.one] at h1
 rw [List.getD_eq_getElem?_getD,List.getElem?_eq_getElem hi] at h1
 have h1:val Ss[i]≤1:=h1
 have hp:=cpos c.1
 have h2:=mul_le_r h1 (Rat.le_of_lt hp)
 have hne:=castne (canon_ne c)
 have e:val Ss[i] * (Ss[i].2:Rat)=(Ss[i].1:Rat):=by unfold val;grind
 rw [e] at h2
 have h3:(Ss[i].1:Rat)≤(Ss[i].2:Rat):=by grind
 exact Rat.intCast_le_intCast.mp h3
end Pw
namespace L2
open PySem PySem.Spec PyProof.Rows
theorem le_sum:∀ {ns:List Int} {s:Int},(∀ n∈ns,0≤n)→s∈ns→s≤ns.sum
 | n :: ns,s,h,hs=>by
   have h1:=Pw.sum_nn fun m hm=>h m (List.mem_cons_of_mem _ hm)
   have h2:=h n List.mem_cons_self
   rw [List.sum_cons]
   rcases List.mem_cons.mp hs with rfl | hs
   · omega
   · have:=le_sum (fun m hm=>h m (List.mem_cons_of_mem _ hm)) hs
     omega
theorem Rw.ofSh {ps:List (Int×Int)} {A:Int×Int} {Bs Ss:List (Int×Int)} {n z:Nat} {V':Int} (h:Pw.ShOk ps A Bs n Ss) (hV:0<V') (hz:z≤140) (zV:Sz ((z+11) * 13+20) V') (dv:∀ S∈Ss,S.2 ∣ V'):Rw Ss n V' 1 where
 len:=h.len
 canon:=h.canon
 dpos:=hV
 cpos:=by decide
 dvd:=dv
 bnd:=fun R hR=>by
  have h1:=h.nn R hR
  have h2:=h.le1 R hR
  have h3:=(h.canon R hR).1
  omega
 sz:=by rw [Int.one_mul];exact zV.mono (by omega)
end L2

namespace L2
theorem Wts.sz {pages:Int} {ws:List Int} (wt:Wts pages ws) (hp:pages≤12):Sz 41 ws.sum:=by
 have hl:=wt.len
 have h1:=Pw.sum_le (B:=2 ^ 37) fun n hn=>Int.le_of_lt (wt.nn n hn).2
 have h2:(ws.length:Int) * 2 ^ 37≤12 * 2 ^ 37:=Int.mul_le_mul_of_nonneg_right (by omega) (by decide)
 have:=wt.pos
 exact sz_of 41 (by omega)
end L2

namespace Pw
section
variable {ps:List (Int×Int)} {A:Int×Int} {Bs:List (Int×Int)} {S:Int} {n:Nat} {Ss:List (Int×Int)}
theorem val_pos {A:Int×Int} (h:0<A.2) (h1:0<A.1):0<val A:=by
 unfold val
 rw [Rat.div_def]
 exact Rat.mul_pos (cpos h1) (Rat.inv_pos.mpr (cpos h))
theorem ShOk.v_nn (h:ShOk ps A Bs n Ss) {t:Nat} (ht:t<n):0≤val (Ss.getD t (0,1)):=by
 have hm:=L2.mem_getD (Bs:=Ss) (t:=t) (by have:=h.len;omega)
 exact val_nn (h.canon _ hm).1 (h.nn _ hm)
end
end Pw

namespace L2
open PySem PySem.Spec PyProof.Rows
end L2

namespace L2
end L2

namespace L2
open PySem PySem.Spec PyProof.Rows
theorem eqFS {K:PySem.W.Frag} {H:Hp} {p q:Addr} {A B:Int×Int} {Q:VK} (h1:SqF K H p A) (h2:SqF K H q B) (k:Q (.bl (decide (A=B))) H):rEqD K false (.ref p) (.ref q) H Q :=
 ⟨p,q,_,_,_,_,rfl,rfl,.inl ⟨h1,h2⟩,dens2 _ _ _ _,dens2 _ _ _ _,dep2 _ _,by rw [if_neg Bool.false_ne_true,eqDs2];exact k⟩
end L2
namespace Pw
section
variable {ps:List (Int×Int)} {A:Int×Int} {Bs Ds:List (Int×Int)} {n:Nat}
theorem way_cn (ca:Canon A) (cb:Canons Bs) (hn:Bs.length=n) (lk:∀ p∈ps,0≤p.2∧p.2<(n:Int)) {j t:Nat} (ht:t<n) {m:Rat} (hm:qs n (fun i=>(cn ps j i:Rat))=m) (hm0:m≠0):val ((waysL ps A Bs (j:Nat)).getD t (0,1))=val A * val (Bs.getD t (0,1))+(1 - val A) * ((cn ps j t:Rat) / m):=by
 rw [cn_sum lk] at hm
 rw [way_val ca cb hn ht,← hm]
 rw [if_neg]
 intro z
 rw [z] at hm
 exact hm0 (by rw [← hm];rfl)
end
end Pw

namespace Pw
theorem cn_perm {ms ps:List (Int×Int)} (h:ms.Perm ps) (j i:Nat):cn ms j i=cn ps j i:=by
 rw [← cn_count,← cn_count,h.count_eq]
end Pw

namespace Pw
section
variable {Bs:List (Int×Int)} {A:Int×Int} {c n:Nat}
end
end Pw
namespace L2
open PySem PySem.Spec PyProof.Rows
end L2

namespace L2
open PySem PySem.Spec PyProof.Rows
theorem sh_ex {ps:List (Int×Int)} {A:Int×Int} {Bs:List (Int×Int)} {S:Int} {n z:Nat} (few:ps.length≤100) (lk:∀ p∈ps,0≤p.2∧p.2<(n:Int)) (ca:Pw.Canon A) (cb:Pw.Canons Bs) (hn:Bs.length=n) (n12:n≤12) (pr:Pr A Bs S) (sz:Sz z A.2) (sS:Sz z S) :
 ∃ (Ss:List (Int×Int)) (V':Int),Pw.ShOk ps A Bs n Ss∧0<V'∧Sz ((z+11) * 13+20) V'∧∀ R∈Ss,R.2 ∣ V':=by
 have hss:(Pw.abv Bs S).length=n:=by unfold Pw.abv;rw [List.length_map];exact hn
 have hB:∀ t,t<n→((Pw.abv Bs S).getD t 0:Rat)=Pw.val (Bs.getD t (0,1)) * (S:Rat):=fun t ht=>by
  have hi':t<Bs.length:=by omega
  have hR:Bs[t]?=some Bs[t]:=by simp
  have e1:(Pw.abv Bs S).getD t 0=Bs[t].1 * (S.fdiv Bs[t].2):=by
   unfold Pw.abv
   rw [List.getD_eq_getElem?_getD,List.getElem?_map,hR];rfl
  have e2:Bs.getD t (0,1)=Bs[t]:=by rw [List.getD_eq_getElem?_getD,hR];rfl
  have mR:=List.getElem_mem hi'
  rw [e1,e2,Pw.abv_val (cb _ mR).1 pr.spos (pr.sdvd _ mR)]
 have one:=pr.one
 rw [hn] at one
 have snn:∀ s∈Pw.abv Bs S,0≤s:=fun s hs=>by
  obtain ⟨B,hB',rfl⟩:=List.mem_map.mp hs
  have c:=(cb B hB').1
  exact Int.mul_nonneg (pr.nn B hB') (by rw [Int.fdiv_eq_ediv_of_nonneg _ (by omega)];exact Int.ediv_nonneg (Int.le_of_lt pr.spos) (by omega))
 have ssum:(Pw.abv Bs S).sum=S:=by
  have h3:=Pw.qs_list (Pw.abv Bs S)
  rw [hss,Pw.qs_congr (g:=fun t=>(S:Rat) * Pw.val (Bs.getD t (0,1))) fun t ht=>by rw [hB t ht];grind,Pw.qs_mul,one] at h3
  have:(S:Rat)=((Pw.abv Bs S).sum:Rat):=by rw [← h3];grind
  exact_mod_cast this.symm
 have eo:Pw.EqOk ps A (Pw.abv Bs S) n:=⟨lk,pr.a0,pr.a1,hss,snn,by rw [ssum];exact pr.spos⟩
 have sle:∀ s∈Pw.abv Bs S,s≤2 ^ z:=fun s hs=>by
  have h1:s≤(Pw.abv Bs S).sum:=le_sum snn hs
  have h2:S.natAbs<2 ^ z:=sS
  have:((2:Int) ^ z)=((2 ^ z:Nat):Int):=by push_cast;rfl
  rw [this]
  omega
 have ez:=eqF_sz few eo sz sle
 obtain ⟨zf,zd⟩:=fF_sz eo.sgn (by omega) ez (k:=n) (Nat.le_refl _)
 have zv:∀ j,j<n→Sz ((z+11) * 13+8) (Pw.vS ps A (Pw.abv Bs S) n j):=fun j hj=>by
  have hol:=Pw.outs_len ps (j:Int)
  have zm:Sz 7 (Pw.mp ps j):=sz_of 7 (by unfold Pw.mp;omega)
  exact (zm.mul (zf j _ hj (Nat.le_refl _))).mono (by omega)
 refine ⟨Pw.shL ps A (Pw.abv Bs S) n,Pw.VS ps A (Pw.abv Bs S) n,Pw.shL_ok eo ca cb hn pr.spos hB one,eo.V_pos,?_,fun R hR=>?_⟩
 · refine (sum_sz (k:=(z+11) * 13+8) fun m hm=>?_).mono (by rw [List.length_map,List.length_range];omega)
   obtain ⟨t,ht,rfl⟩:=List.mem_map.mp hm
   exact zv t (List.mem_range.mp ht)
 · obtain ⟨t,_,rfl⟩:=List.mem_map.mp hR
   exact Pw.fr_dvd (Pw.Fr.made (by have:=eo.V_pos;omega))
end L2
namespace Pw
section
variable {P:Int×Int} {Bs Cs:List (Int×Int)}
section
variable {n m:Nat} {ps qs':List (Int×Int)} {A:Int×Int} {P:Int×Int} {Bs Cs Ss Ts:List (Int×Int)}
end
end
end Pw
namespace L2
open PySem PySem.Spec PyProof.Rows
end L2

namespace L2
open PySem PySem.Spec PyProof.Rows
end L2

namespace L2
open PySem PySem.Spec PyProof.Rows
end L2

namespace L2
open PySem PySem.Spec PyProof.Rows
structure ZFar (z TI TO i1 i2:Addr) (f1 f2:List Addr):Prop where
 a1:TI≠z
 a2:TO≠z
 a3:i1≠z
 a4:i2≠z
 a5:TI≠TO
 a6:TI≠i1
 a7:TI≠i2
 a8:TO≠i1
 a9:TO≠i2
 b0:i1≠i2
 b1:z ∉ f1
 b2:z ∉ f2
 b3:TO ∉ f1
 b4:TO ∉ f2
 b5:i2 ∉ f1
 b6:i1 ∉ f2
section
variable {prog:Program} {w:World} {A:Around} {E:Value→Shared→Prop} {s:Shared} {z TI TO i1 i2:Addr} {f1 f2:List Addr} {n1 n2 k:Nat} {P1 P2:Nat→Value→Prop} {S1 S2:Nat→Heap→Prop} {a b:Value}
theorem Draws.but {it c:Addr} {f:List Addr} {n i:Nat} {Pp:Nat→Value→Prop} {St:Nat→Heap→Prop} {h h':Heap} (D:Draws prog w A it f n Pp St) (nc:c ∉ f) (x:Heap.ExtBut c h h') (st:St i h):St i h' :=
 D.frame i h h' st fun b hb o e=>x b o (fun y=>nc (y ▸ hb)) e
theorem zipD_item {Q:Value→Shared→Prop} (D1:Draws prog w A i1 f1 n1 P1 S1) (D2:Draws prog w A i2 f2 n2 P2 S2) (Z:ZFar z TI TO i1 i2 f1 f2)
 (gz:IsZip s.heap z TI TO .none) (gI:IsPair s.heap TI (.ref i1) (.ref i2)) (gO:IsPair s.heap TO a b) (g1:S1 k s.heap) (g2:S2 k s.heap) (l1:k<n1) (l2:k<n2)
 (q:∀ x y hp tk,P1 k x→P2 k y→IsZip hp z TI TO (rawInt s.heap.objs.size)→IsPair hp TO x y→S1 (k+1) hp→S2 (k+1) hp→IsPair hp s.heap.objs.size x y →
  (∀ c o,c≠z→c≠TO→c≠i1→c≠i2→s.heap.get? c=some o→hp.get? c=some o)→Q (.ref s.heap.objs.size) { s with heap:=hp,toks:=tk }) :
 wpAny (model prog w) A (Builtin.«zip.__next__» ⟨[.ref z],[]⟩) (fun fin s'=>∃ v,fin=.done (.ret v)∧Q v s') E s:=by
 show wpAny _ _ (field (.ref z) 2 >>= _) _ _ _;refine wpAny_bind (wpAny_field gz rfl (x:=.bool false) rfl ?_)
 show wpAny _ _ (field (.ref z) 3 >>= _) _ _ _;refine wpAny_bind (wpAny_field gz rfl (x:=.ref TI) rfl (wpAny_bind (wpAny_seqItems gI rfl ?_)))
 show wpAny _ _ (Builtin.SmallTypes.ownedTupleIsFree (.ref z) >>= _) _ _ _;refine wpAny_bind ?_;unfold Builtin.SmallTypes.ownedTupleIsFree
 refine wpAny_bind (wpAny_field gz rfl (x:=.none) rfl (wpAny_pure ?_));simp only [if_true]
 refine wpAny_bind (wpAny_rule (wpAny_bind (wpAny_field gz rfl (x:=.ref TO) rfl (wpAny_bind (wpAny_setField_rec gz (by simp) fun p1 gz1 t1=>?_)))))
 replace gz1:IsZip p1 z TI TO .ellipsis:=gz1;refine wpAny_bind ?_;simp only [List.zipIdx_cons,List.zipIdx_nil,List.forIn_cons,List.forIn_nil]
 refine wpAny_bind (wpAny_bind (wpAny_onRaise ?_));show wpAny _ _ (Builtin.SmallTypes.nextOf (.ref i1) >>= _) _ _ _
 refine wpAny_bind (D1.item k _ _ _ l1 (Draws.but D1 Z.b1 t1.extBut g1) fun x p2 tk2 px g12 t2=>wpAny_pure ?_)
 have gO2:IsPair p2 TO a b:=t2.extBut _ _ Z.a8 (t1.extBut _ _ Z.a2 gO)
 refine wpAny_bind (wpAny_seqItems gO2 rfl (wpAny_bind (wpAny_updateSeq_pair gO2 fun p3 gO3 t3=>?_)))
 replace gO3:IsPair p3 TO x b:=gO3;refine wpAny_bind (wpAny_letGo (wpAny_pure ?_))
 refine wpAny_bind (wpAny_bind (wpAny_onRaise ?_));show wpAny _ _ (Builtin.SmallTypes.nextOf (.ref i2) >>= _) _ _ _
 refine wpAny_bind (D2.item k _ _ _ l2 (Draws.but D2 Z.b4 t3.extBut (Draws.but D2 Z.b6 t2.extBut (Draws.but D2 Z.b2 t1.extBut g2))) fun y p4 tk4 py g24 t4=>wpAny_pure ?_)
 have gO4:IsPair p4 TO x b:=t4.extBut _ _ Z.a9 gO3
 refine wpAny_bind (wpAny_seqItems gO4 rfl (wpAny_bind (wpAny_updateSeq_pair gO4 fun p5 gO5 t5=>?_)))
 replace gO5:IsPair p5 TO x y:=gO5;refine wpAny_bind (wpAny_letGo (wpAny_pure (wpAny_pure ?_)))
 refine wpAny_bind (wpAny_seqItems gO5 rfl (wpAny_bind (wpAny_newTuple ?_)))
 have sz:p5.objs.size=s.heap.objs.size:=by rw [t5.1,t4.1,t3.1,t2.1,t1.1]
 have gz5:IsZip p5 z TI TO .ellipsis:=t5.extBut _ _ Z.a2.symm (t4.extBut _ _ Z.a4.symm (t3.extBut _ _ Z.a2.symm (t2.extBut _ _ Z.a3.symm gz1)))
 have kp5:∀ c o,c≠z→c≠TO→c≠i1→c≠i2→s.heap.get? c=some o→p5.get? c=some o:=fun c o c1 c2 c3 c4 e=>t5.extBut _ _ c2 (t4.extBut _ _ c4 (t3.extBut _ _ c2 (t2.extBut _ _ c3 (t1.extBut _ _ c1 e))))
 have g15:S1 (k+1) p5:=Draws.but D1 Z.b3 t5.extBut (Draws.but D1 Z.b5 t4.extBut (Draws.but D1 Z.b3 t3.extBut g12))
 have g25:S2 (k+1) p5:=Draws.but D2 Z.b4 t5.extBut g24
 have lz:z<p5.objs.size:=Heap.lt_size gz5
 show wpAny _ _ (Builtin.SmallTypes.ownedTupleHandOut (.ref z) (.ref p5.objs.size) >>= _) _ _ _;refine wpAny_bind ?_;unfold Builtin.SmallTypes.ownedTupleHandOut
 have gz6:IsZip (p5.push { cls:=.type "tuple",data:=.seq #[x,y] }) z TI TO .ellipsis:=Heap.get?_push_of_some _ gz5
 refine wpAny_bind (wpAny_setField_rec gz6 (by simp) fun p7 gz7 t7=>?_);replace gz7:IsZip p7 z TI TO (rawInt p5.objs.size):=gz7
 refine wpAny_setField_rec gz7 (by simp) fun p8 gz8 t8=>?_;replace gz8:IsZip p8 z TI TO (rawInt p5.objs.size):=gz8
 have up:∀ c o,c≠z→p5.get? c=some o→p8.get? c=some o:=fun c o c1 e=>t8.extBut _ _ c1 (t7.extBut _ _ c1 (Heap.get?_push_of_some _ e))
 have gT8:IsPair p8 p5.objs.size x y:=t8.extBut _ _ (Nat.ne_of_gt lz) (t7.extBut _ _ (Nat.ne_of_gt lz) (Heap.get?_push_size _ rfl))
 rw [sz] at gz8 gT8
 refine wpAny_pure ⟨_,rfl,?_⟩;show Q (.ref p5.objs.size) _;rw [sz]
 exact q x y p8 tk4 px py gz8 (up _ _ Z.a2 gO5) (D1.frame _ _ _ g15 fun b hb o e=>up _ o (fun y=>Z.b1 (y ▸ hb)) e) (D2.frame _ _ _ g25 fun b hb o e=>up _ o (fun y=>Z.b2 (y ▸ hb)) e) gT8 fun c o c1 c2 c3 c4 e=>up c o c1 (kp5 c o c1 c2 c3 c4 e)
theorem zipD_end {Q:Fin→Shared→Prop} (D1:Draws prog w A i1 f1 n1 P1 S1) (D2:Draws prog w A i2 f2 n2 P2 S2) (Z:ZFar z TI TO i1 i2 f1 f2) (gz:IsZip s.heap z TI TO .none) (gI:IsPair s.heap TI (.ref i1) (.ref i2)) (gO:IsPair s.heap TO a b) (g1:S1 k s.heap) (g2:S2 k s.heap) (hk:k=n1∨(k<n1∧k=n2))
 (q:∀ hp e tk,(∀ c o,c≠z→c≠TO→c≠i1→c≠i2→s.heap.get? c=some o→hp.get? c=some o)→(∃ o,hp.get? e=some o∧o.cls=.type "StopIteration")→E (.ref e) { s with heap:=hp,toks:=tk }) :
 wpAny (model prog w) A (Builtin.«zip.__next__» ⟨[.ref z],[]⟩) Q E s:=by
 show wpAny _ _ (field (.ref z) 2 >>= _) _ _ _;refine wpAny_bind (wpAny_field gz rfl (x:=.bool false) rfl ?_)
 show wpAny _ _ (field (.ref z) 3 >>= _) _ _ _;refine wpAny_bind (wpAny_field gz rfl (x:=.ref TI) rfl (wpAny_bind (wpAny_seqItems gI rfl ?_)))
 show wpAny _ _ (Builtin.SmallTypes.ownedTupleIsFree (.ref z) >>= _) _ _ _;refine wpAny_bind ?_;unfold Builtin.SmallTypes.ownedTupleIsFree
 refine wpAny_bind (wpAny_field gz rfl (x:=.none) rfl (wpAny_pure ?_));simp only [if_true]
 refine wpAny_bind (wpAny_rule (wpAny_bind (wpAny_field gz rfl (x:=.ref TO) rfl (wpAny_bind (wpAny_setField_rec gz (by simp) fun p1 gz1 t1=>?_)))))
 replace gz1:IsZip p1 z TI TO .ellipsis:=gz1;refine wpAny_bind ?_;simp only [List.zipIdx_cons,List.zipIdx_nil,List.forIn_cons,List.forIn_nil]
 refine wpAny_bind (wpAny_bind (wpAny_onRaise ?_));show wpAny _ _ (Builtin.SmallTypes.nextOf (.ref i1) >>= _) _ _ _
 rcases hk with e | ⟨hlt,e⟩
 · subst e
   refine wpAny_bind (D1.done _ _ _ (Draws.but D1 Z.b1 t1.extBut g1) fun p2 e t2 he=>?_)
   obtain ⟨oe,hoe,hce⟩:=he
   have gz2:IsZip p2 z TI TO .ellipsis:=t2 _ _ Z.a3.symm gz1
   have ez:e≠z:=fun x=>by subst x;rw [gz2] at hoe;cases hoe;simp at hce
   exact wpAny_setField_rec gz2 (by simp) fun p3 _ t3=>q p3 e _ (fun c o c1 _ c3 _ x=>t3.extBut _ _ c1 (t2 _ _ c3 (t1.extBut _ _ c1 x))) ⟨oe,t3.extBut _ _ ez hoe,hce⟩
 · subst e
   refine wpAny_bind (D1.item k _ _ _ hlt (Draws.but D1 Z.b1 t1.extBut g1) fun x p2 tk2 px g12 t2=>wpAny_pure ?_)
   have gO2:IsPair p2 TO a b:=t2.extBut _ _ Z.a8 (t1.extBut _ _ Z.a2 gO)
   refine wpAny_bind (wpAny_seqItems gO2 rfl (wpAny_bind (wpAny_updateSeq_pair gO2 fun p3 gO3 t3=>?_)))
   refine wpAny_bind (wpAny_letGo (wpAny_pure (wpAny_bind (wpAny_bind (wpAny_onRaise ?_)))));show wpAny _ _ (Builtin.SmallTypes.nextOf (.ref i2) >>= _) _ _ _
   refine wpAny_bind (D2.done _ _ _ (Draws.but D2 Z.b4 t3.extBut (Draws.but D2 Z.b6 t2.extBut (Draws.but D2 Z.b2 t1.extBut g2))) fun p4 e t4 he=>?_)
   obtain ⟨oe,hoe,hce⟩:=he
   have gz4:IsZip p4 z TI TO .ellipsis:=t4 _ _ Z.a4.symm (t3.extBut _ _ Z.a2.symm (t2.extBut _ _ Z.a3.symm gz1))
   have ez:e≠z:=fun x=>by subst x;rw [gz4] at hoe;cases hoe;simp at hce
   exact wpAny_setField_rec gz4 (by simp) fun p5 _ t5=>q p5 e _ (fun c o c1 c2 c3 c4 x=>t5.extBut _ _ c1 (t4 _ _ c4 (t3.extBut _ _ c2 (t2.extBut _ _ c3 (t1.extBut _ _ c1 x))))) ⟨oe,t5.extBut _ _ ez hoe,hce⟩
end
section
variable {prog:Program} {w:World} {A:Around} {z TI TO i1 i2:Addr} {f1 f2:List Addr} {n1 n2:Nat} {P1 P2:Nat→Value→Prop} {S1 S2:Nat→Heap→Prop}
noncomputable def ZSt (z TI TO i1 i2:Addr) (S1 S2:Nat→Heap→Prop) (i:Nat) (h:Heap):Prop:=IsZip h z TI TO .none∧IsPair h TI (.ref i1) (.ref i2)∧(∃ a b,IsPair h TO a b)∧S1 i h∧S2 i h
noncomputable def ZMid (z TI TO i1 i2:Addr) (S1 S2:Nat→Heap→Prop) (i:Nat) (T:Addr) (h:Heap):Prop:=IsZip h z TI TO (rawInt T)∧IsPair h TI (.ref i1) (.ref i2)∧(∃ a b,IsPair h TO a b)∧S1 (i+1) h∧S2 (i+1) h∧T≠z∧T≠TO∧T≠i1∧T≠i2
theorem itemZ (D1:Draws prog w A.in1 i1 f1 n1 P1 S1) (D2:Draws prog w A.in1 i2 f2 n2 P2 S2) (Z:ZFar z TI TO i1 i2 f1 f2) :
 ItemN prog w A z [z,TO,i1,i2] (min n1 n2) (fun i vals=>∃ x y,P1 i x∧P2 i y∧vals=#[x,y]) (ZSt z TI TO i1 i2 S1 S2) (ZMid z TI TO i1 i2 S1 S2):=fun i s Q E hi st q=>by
 obtain ⟨gz,gI,⟨a,b,gO⟩,g1,g2⟩:=st
 have hT:s.TypeIs (.ref z) "zip":=⟨_,gz,rfl⟩
 have gt:∀ {c:Addr} {o:Obj},s.heap.get? c=some o→s.heap.objs.size≠c:=fun e=>Nat.ne_of_gt (Heap.lt_size e)
 unfold pyNext
 refine wpAny_bind (wpAny_attempt (wpAny_callSpecial?_slot (name:=Str.ofString "__next__") hT F.slot_zip_next (wpAny_call_entry F.slot_zip_next hT F.entry_zip_next
  (zipD_item D1 D2 Z gz gI gO g1 g2 (Nat.lt_of_lt_of_le hi (Nat.min_le_left ..)) (Nat.lt_of_lt_of_le hi (Nat.min_le_right ..)) fun x y hp tk px py a1 a2 a3 a4 a5 kp=>wpAny_pure ?_) (F.args_zip_next_1 _))))
 exact q _ _ _ hp tk ⟨_,_,px,py,rfl⟩ (Nat.le_refl _) a5 ⟨a1,kp _ _ Z.a1 Z.a5 Z.a6 Z.a7 gI,⟨_,_,a2⟩,a3,a4,gt gz,gt gO,(by obtain ⟨_,e⟩:=D1.live _ _ g1;exact gt e),(by obtain ⟨_,e⟩:=D2.live _ _ g2;exact gt e)⟩
  fun c o hc e=>kp c o (fun y=>hc (by simp [y])) (fun y=>hc (by simp [y])) (fun y=>hc (by simp [y])) (fun y=>hc (by simp [y])) e
theorem walkZ (D1:Draws prog w A.in1 i1 f1 n1 P1 S1) (D2:Draws prog w A.in1 i2 f2 n2 P2 S2) (Z:ZFar z TI TO i1 i2 f1 f2) :
 WalksT prog w A z ([z,TI,TO,i1,i2] ++ (f1 ++ f2)) [z,TO,i1,i2] (min n1 n2) (fun i vals=>∃ x y,P1 i x∧P2 i y∧vals=#[x,y]) (ZSt z TI TO i1 i2 S1 S2) (ZMid z TI TO i1 i2 S1 S2) where
 sub:=fun c hc=>by
  simp at hc ⊢
  rcases hc with rfl | rfl | rfl | rfl <;> simp
 frame:=fun i h h' st hk=>by
  obtain ⟨gz,gI,⟨a,b,gO⟩,g1,g2⟩:=st
  exact ⟨hk z (by simp) _ gz,hk TI (by simp) _ gI,⟨a,b,hk TO (by simp) _ gO⟩,D1.frame _ _ _ g1 fun b hb o e=>hk b (by simp [hb]) o e,D2.frame _ _ _ g2 fun b hb o e=>hk b (by simp [hb]) o e⟩
 item:=fun i s Q E hi st hQ=>itemZ D1 D2 Z i s Q E hi st fun T x y h' tk pt hT gT mid kp=>hQ T #[x,y] h' tk pt hT ⟨_,gT,rfl,_,rfl⟩ mid kp
 go:=fun elts k pos i T s Q E hm hQ=>by
  obtain ⟨gz,gI,⟨a,b,gO⟩,g1,g2,_⟩:=hm
  exact wpAny_letOwnedTupleGo_zip gz fun h' gz' t=>hQ h' ⟨gz',t.extBut _ _ Z.a1 gI,⟨a,b,t.extBut _ _ Z.a2 gO⟩,Draws.but D1 Z.b1 t.extBut g1,Draws.but D2 Z.b2 t.extBut g2⟩ fun c o hc e=>t.extBut _ _ (fun x=>hc (by simp [x])) e
 apart:=fun i T h hm hT=>by
  obtain ⟨_,_,_,_,_,t1,t2,t3,t4⟩:=hm
  simp at hT
  rcases hT with y | y | y | y
  · exact t1 y
  · exact t2 y
  · exact t3 y
  · exact t4 y
 done:=fun s Q E st hQ=>by
  obtain ⟨gz,gI,⟨a,b,gO⟩,g1,g2⟩:=st
  have hT:s.TypeIs (.ref z) "zip":=⟨_,gz,rfl⟩
  unfold pyNext
  refine wpAny_bind (wpAny_attempt (wpAny_callSpecial?_slot (name:=Str.ofString "__next__") hT F.slot_zip_next (wpAny_call_entry F.slot_zip_next hT F.entry_zip_next (zipD_end D1 D2 Z gz gI gO g1 g2 (by omega) fun h' e tk hk he=>?_) (F.args_zip_next_1 _))))
  obtain ⟨o,ho,hc⟩:=he
  refine wpAny_bind (wpAny_isInstance (T:="StopIteration") (b:=true) ⟨o,ho,hc⟩ isSubtype_stop (wpAny_pure ?_))
  exact hQ _ _ fun c o hc e=>hk c o (fun x=>hc (by simp [x])) (fun x=>hc (by simp [x])) (fun x=>hc (by simp [x])) (fun x=>hc (by simp [x])) e
 self:=fun i s Q E st hQ=>wpAny_pyIter_zip st.1 hQ
end

noncomputable def IterB (b:Bool) (h:Heap) (it a:Addr) (i:Nat):Prop:=if b=true then h.IsListIter it a i else h.IsTupleIter it a i
noncomputable def SeqB (b:Bool) (h:Heap) (a:Addr) (its:Array Value):Prop:=if b=true then h.IsList a its else h.IsTuple a its
theorem drawsB {prog:Program} {w:World} {A:Around} (b:Bool) (hh:A.handled=none) (it l:Addr) (hne:l≠it) (its:Array Value) :
 Draws prog w A it [it,l] its.size (fun i v=>its[i]?=some v) (fun i h=>IterB b h it l i∧SeqB b h l its):=by
 cases b
 · exact drawsT hh it l hne its
 · exact Draws.list hh it l hne its
theorem Inv.seqB {X:Cx} {pins:List (Addr×Obj)} {σ:St} {H:Hp} {s:Shared} {b:Bool} {a:Addr} {xs:List V} (I:Inv X pins σ H s) (h:Sq b X.K H a xs):∃ its:List Value,Vals xs its∧SeqB b s.heap a its.toArray:=by
 cases b
 · obtain ⟨its,r,p,_⟩:=I.tuple h;exact ⟨its,r,p⟩
 · obtain ⟨its,r,p,_⟩:=I.list h;exact ⟨its,r,p.isList⟩
theorem Inv.seqB_inj {X:Cx} {pins:List (Addr×Obj)} {σ:St} {H:Hp} {s:Shared} {b:Bool} {a:Addr} {xs ys:List V} (I:Inv X pins σ H s) (h:Sq b X.K H a xs) (h':Sq b X.K H a ys):xs=ys:=by
 cases b
 · exact I.tuple_inj h h'
 · exact I.list_inj h h'
theorem IterB.at {b:Bool} {h h':Heap} {it a:Addr} {i:Nat} (x:IterB b h it a i) (k:∀ o,h.get? it=some o→h'.get? it=some o):IterB b h' it a i:=by
 cases b
 · obtain ⟨o,e,r⟩:=x;exact ⟨o,k o e,r⟩
 · obtain ⟨o,e,r⟩:=x;exact ⟨o,k o e,r⟩
theorem IterB.obj {b:Bool} {h:Heap} {it a:Addr} {i:Nat} (x:IterB b h it a i):∃ o,h.get? it=some o∧∀ v,o.data≠.cell v:=by
 cases b
 · obtain ⟨o,e,c,d⟩:=x;exact ⟨o,e,fun v z=>by rw [d] at z;cases z⟩
 · obtain ⟨o,e,c,d⟩:=x;exact ⟨o,e,fun v z=>by rw [d] at z;cases z⟩
noncomputable def ItZS (b1 b2:Bool) (K:PySem.W.Frag) (a b:Addr):It:=ItP (fun i H=>∃ xs ys x y,Sq b1 K H a xs∧Sq b2 K H b ys∧xs[i]?=some x∧ys[i]?=some y) (fun i H u v=>(∀ xs,Sq b1 K H a xs→xs[i]?=some u)∧∀ ys,Sq b2 K H b ys→ys[i]?=some v) (fun i H=>∃ xs ys,Sq b1 K H a xs∧Sq b2 K H b ys∧min xs.length ys.length=i)
noncomputable def ZApart (z TI TO i1 i2 l1 l2:Addr):Prop:=ZFar z TI TO i1 i2 [i1,l1] [i2,l2]∧l1≠i1∧l2≠i2
section
variable {P:Program} {w:World} {K:PySem.W.Frag} {elts:List Expr} {ek:Nat} {epos:Pos} {b1 b2:Bool}
theorem turn_zipS {z TI TO i1 i2 l1 l2:Addr} (Z:ZApart z TI TO i1 i2 l1 l2):Turn P w K (.Tuple elts ek epos) (ItZS b1 b2 K l1 l2) [z,TI,TO,i1,i2] z (fun i h=>IsZip h z TI TO .none∧IsPair h TI (.ref i1) (.ref i2)∧(∃ a b,IsPair h TO a b)∧IterB b1 h i1 l1 i∧IterB b2 h i2 l2 i):=by
 obtain ⟨Z,n1,n2⟩:=Z
 refine turn_pairs (wr:=[z,TO,i1,i2]) (by simp) (fun b hb=>?_) (fun i h st b hb=>?_) (fun i h h' st k=>?_) (fun A i s Q E st q=>?_) ?_ ?_
 · simp at hb ⊢
   rcases hb with y | y | y | y <;> simp [y]
 · obtain ⟨g1,g2,⟨x,y,g3⟩,g4,g5⟩:=st
   simp at hb
   rcases hb with y | y | y | y | y
   · exact ⟨_,y ▸ g1,fun v z=>by cases z⟩
   · exact ⟨_,y ▸ g2,fun v z=>by cases z⟩
   · exact ⟨_,y ▸ g3,fun v z=>by cases z⟩
   · rw [y];exact g4.obj
   · rw [y];exact g5.obj
 · obtain ⟨g1,g2,⟨x,y,g3⟩,g4,g5⟩:=st
   exact ⟨k z (by simp) _ g1,k TI (by simp) _ g2,⟨x,y,k TO (by simp) _ g3⟩,g4.at fun o e=>k i1 (by simp) o e,g5.at fun o e=>k i2 (by simp) o e⟩
 · exact wpAny_pyIter_zip st.1 q
 · intro X hP hw' hK hc i pins s σ H I0 hf st hg
   obtain ⟨xs,ys,x,y,hq,hq',hx,hy⟩:=hg
   rw [← hK] at hq hq'
   obtain ⟨its,rv,p⟩:=I0.seqB hq
   obtain ⟨its',rv',p'⟩:=I0.seqB hq'
   obtain ⟨u,hu,ru⟩:=rv.get hx
   obtain ⟨u',hu',ru'⟩:=rv'.get hy
   have hl:=rv.length
   have hl':=rv'.length
   have hix:i<xs.length:=(List.getElem?_eq_some_iff.mp hx).1
   have hiy:i<ys.length:=(List.getElem?_eq_some_iff.mp hy).1
   obtain ⟨g1,g2,g3,g4,g5⟩:=st
   have D1:=drawsB (prog:=P) (w:=w) (A:=X.A.in1) b1 (I0.ok.hd hc) i1 l1 n1 its.toArray
   have D2:=drawsB (prog:=P) (w:=w) (A:=X.A.in1) b2 (I0.ok.hd hc) i2 l2 n2 its'.toArray
   refine ⟨_,_,_,_,_,⟨walkZ D1 D2 Z,itemZ D1 D2 Z⟩,by rw [List.size_toArray,List.size_toArray];omega,⟨g1,g2,g3,⟨g4,p⟩,⟨g5,p'⟩⟩,fun h' q=>⟨q.1,q.2.1,q.2.2.1,q.2.2.2.1.1,q.2.2.2.2.1⟩,?_⟩
   rintro vals ⟨v,v',hv,hv',rfl⟩
   have e1:its[i]?=some v:=by simpa using hv
   have e2:its'[i]?=some v':=by simpa using hv'
   rw [hu] at e1;rw [hu'] at e2;cases e1;cases e2
   exact ⟨x,y,_,_,rfl,ru,ru',fun ys hys=>by rw [← hK] at hys;rw [I0.seqB_inj hys hq];exact hx,fun ys hys=>by rw [← hK] at hys;rw [I0.seqB_inj hys hq'];exact hy⟩
 · intro X hP hw' hK hc i pins s σ H I0 hf st hg
   obtain ⟨xs,ys,hq,hq',hx⟩:=hg
   rw [← hK] at hq hq'
   obtain ⟨its,rv,p⟩:=I0.seqB hq
   obtain ⟨its',rv',p'⟩:=I0.seqB hq'
   have hl:=rv.length
   have hl':=rv'.length
   obtain ⟨g1,g2,g3,g4,g5⟩:=st
   have e1:min its.toArray.size its'.toArray.size=i:=by rw [List.size_toArray,List.size_toArray];omega
   refine ⟨_,_,_,_,_,walkZ (drawsB (prog:=P) (w:=w) (A:=X.A.in1) b1 (I0.ok.hd hc) i1 l1 n1 its.toArray) (drawsB (prog:=P) (w:=w) (A:=X.A.in1) b2 (I0.ok.hd hc) i2 l2 n2 its'.toArray) Z,?_⟩
   rw [e1]
   exact ⟨g1,g2,g3,⟨g4,p⟩,⟨g5,p'⟩⟩
end
noncomputable def itO (b:Bool) (l:Addr):Obj:=if b=true then { cls:=.type "list_iterator",data:=.fields #[.ref l,.int 0 0] } else { cls:=.type "tuple_iterator",data:=.fields #[.ref l,.int 0 0] }
noncomputable def zH (b1 b2:Bool) (h:Heap) (l1 l2:Addr):Heap:=((((h.push (itO b1 l1)).push (itO b2 l2)).push { cls:=.type "tuple",data:=.seq #[.ref h.objs.size,.ref (h.objs.size+1)] }).push { cls:=.type "tuple",data:=.seq #[.none,.none] }).push { cls:=.type "zip",data:=.fields #[.none,.bool false,.bool false,.ref (h.objs.size+2),.ref (h.objs.size+3)] }
theorem iter_seqB {prog:Program} {w:World} {A:Around} {E:Value→Shared→Prop} {s:Shared} {b:Bool} {l:Addr} {its:Array Value} {Q:Value→Shared→Prop} (hl:SeqB b s.heap l its) (q:Q (.ref s.heap.objs.size) { s with heap:=s.heap.push (itO b l) }):wpAny (model prog w) A (pyIter (.ref l)) Q E s:=by
 cases b
 · exact wpAny_pyIter_tuple hl q
 · exact wpAny_pyIter_list hl q
theorem SeqB.push {b:Bool} {h:Heap} {l:Addr} {its:Array Value} (x:SeqB b h l its) (o:Obj):SeqB b (h.push o) l its:=by
 cases b
 · obtain ⟨u,e,r⟩:=x;exact ⟨u,Heap.get?_push_of_some _ e,r⟩
 · obtain ⟨u,e,r⟩:=x;exact ⟨u,Heap.get?_push_of_some _ e,r⟩
theorem zip_newS (b1 b2:Bool) (l1 l2:Addr) (xs ys:Array Value) :
 Meets (Builtin.«zip.__new__» ⟨[.type "zip",.ref l1,.ref l2],[]⟩) (fun _ R s=>SeqB b1 s.heap l1 xs∧SeqB b2 s.heap l2 ys∧R (.ok (.ret (.ref (s.heap.objs.size+4)))) { s with heap:=zH b1 b2 s.heap l1 l2 }) :=
 .of_wp fun prog w A R s h=>by
  obtain ⟨hp,g,d,tk,os⟩:=s;obtain ⟨hl1,hl2,h⟩:=h;have hsub:=sub_zip
  have hL1:SeqB b1 (Shared.heap ⟨hp,g,d,tk,os⟩) l1 xs:=hl1
  have hL2:SeqB b2 (Shared.heap ⟨hp.push (itO b1 l1),g,d,tk,os⟩) l2 ys:=hl2.push _
  wp_walk using iter_seqB hL1,iter_seqB hL2
  refine ⟨_,rfl,?_⟩
  simp only [Heap.size_push]
  exact h
theorem call_zipS {prog:Program} {w:World} {A:Around} {E:Value→Shared→Prop} {s:Shared} {b1 b2:Bool} {l1 l2:Addr} {xs ys:Array Value} {Q:Value→Shared→Prop} (hl1:SeqB b1 s.heap l1 xs) (hl2:SeqB b2 s.heap l2 ys)
 (q:∀ hp,IsZip hp (s.heap.objs.size+4) (s.heap.objs.size+2) (s.heap.objs.size+3) .none→IsPair hp (s.heap.objs.size+2) (.ref s.heap.objs.size) (.ref (s.heap.objs.size+1))→IsPair hp (s.heap.objs.size+3) .none .none→IterB b1 hp s.heap.objs.size l1 0→IterB b2 hp (s.heap.objs.size+1) l2 0 →
  (∀ c o,s.heap.get? c=some o→hp.get? c=some o)→Q (.ref (s.heap.objs.size+4)) { s with heap:=hp }):wpAny (model prog w) A (call (.type "zip") [.ref l1,.ref l2]) Q E s:=by
 refine callType_new F.called_zip (by decide) (F.typeCall_zip_2 _ _) (F.newCall_zip_2 _ _) (fun obj=>F.args_object_init_3 obj _ _) F.entry_zip_new (zip_newS b1 b2 l1 l2 xs ys) ⟨hl1,hl2,?_⟩
 generalize hn:s.heap.objs.size=n at q
 have z1:(s.heap.push (itO b1 l1)).objs.size=n+1:=by rw [Heap.size_push,hn]
 have z2:((s.heap.push (itO b1 l1)).push (itO b2 l2)).objs.size=n+2:=by rw [Heap.size_push,z1]
 have z3:(((s.heap.push (itO b1 l1)).push (itO b2 l2)).push { cls:=.type "tuple",data:=.seq #[.ref s.heap.objs.size,.ref (s.heap.objs.size+1)] }).objs.size=n+3:=by rw [Heap.size_push,z2]
 have z4:((((s.heap.push (itO b1 l1)).push (itO b2 l2)).push { cls:=.type "tuple",data:=.seq #[.ref s.heap.objs.size,.ref (s.heap.objs.size+1)] }).push { cls:=.type "tuple",data:=.seq #[.none,.none] }).objs.size=n+4:=by rw [Heap.size_push,z3]
 have itf:∀ b l,(itO b l).isFreed=false:=fun b l=>by cases b <;> rfl
 have g5:(zH b1 b2 s.heap l1 l2).get? (n+4)=some { cls:=.type "zip",data:=.fields #[.none,.bool false,.bool false,.ref (s.heap.objs.size+2),.ref (s.heap.objs.size+3)] }:=by rw [← z4];exact Heap.get?_push_size _ rfl
 have g4:(zH b1 b2 s.heap l1 l2).get? (n+3)=some { cls:=.type "tuple",data:=.seq #[.none,.none] }:=by rw [← z3];exact Heap.get?_push_of_some _ (Heap.get?_push_size _ rfl)
 have g3:(zH b1 b2 s.heap l1 l2).get? (n+2)=some { cls:=.type "tuple",data:=.seq #[.ref s.heap.objs.size,.ref (s.heap.objs.size+1)] }:=by rw [← z2];exact Heap.get?_push_of_some _ (Heap.get?_push_of_some _ (Heap.get?_push_size _ rfl))
 have g2:(zH b1 b2 s.heap l1 l2).get? (n+1)=some (itO b2 l2):=by rw [← z1];exact Heap.get?_push_of_some _ (Heap.get?_push_of_some _ (Heap.get?_push_of_some _ (Heap.get?_push_size _ (itf _ _))))
 have g1:(zH b1 b2 s.heap l1 l2).get? n=some (itO b1 l1):=by rw [← hn];exact Heap.get?_push_of_some _ (Heap.get?_push_of_some _ (Heap.get?_push_of_some _ (Heap.get?_push_of_some _ (Heap.get?_push_size _ (itf _ _)))))
 rw [hn] at g5 g3
 have i1:IterB b1 (zH b1 b2 s.heap l1 l2) n l1 0:=by
  cases b1
  · exact ⟨_,g1,rfl,rfl⟩
  · exact ⟨_,g1,rfl,rfl⟩
 have i2:IterB b2 (zH b1 b2 s.heap l1 l2) (n+1) l2 0:=by
  cases b2
  · exact ⟨_,g2,rfl,rfl⟩
  · exact ⟨_,g2,rfl,rfl⟩
 show _∧_
 exact ⟨⟨_,g5,rfl⟩,q _ g5 g3 g4 i1 i2 fun c o x=>Heap.get?_push_of_some _ (Heap.get?_push_of_some _ (Heap.get?_push_of_some _ (Heap.get?_push_of_some _ (Heap.get?_push_of_some _ x))))⟩
section
variable {X:Cx} {elts:List Expr} {ek:Nat} {epos:Pos}
noncomputable def iZipS (K:PySem.W.Frag) (ta:TA):TI:=fun σ H R=>ta σ H fun vs H1=>∃ b1 b2 a b xs ys,vs=[.ref a,.ref b]∧Sq b1 K H1 a xs∧Sq b2 K H1 b ys∧R (ItZS b1 b2 K a b) H1
theorem zApart_new {n l1 l2:Addr} (h1:l1<n) (h2:l2<n):ZApart (n+4) (n+2) (n+3) n (n+1) l1 l2:=by
 have m:∀ c x y:Addr,c≠x→c≠y→c ∉ [x,y]:=fun c x y a b h=>by
  rcases List.mem_cons.mp h with h | h
  · exact a h
  · exact b (List.mem_singleton.mp h)
 have ne:∀ n i j:Nat,i≠j→n+i≠n+j:=fun n i j h e=>h (Nat.add_left_cancel e)
 have nl:∀ n l i:Nat,l<n→n+i≠l:=fun n l i h e=>by omega
 have nr:∀ n l i:Nat,l<n→l≠n+i:=fun n l i h e=>by omega
 exact ⟨⟨ne n 2 4 (by decide),ne n 3 4 (by decide),ne n 0 4 (by decide),ne n 1 4 (by decide),ne n 2 3 (by decide),ne n 2 0 (by decide),ne n 2 1 (by decide),ne n 3 0 (by decide),ne n 3 1 (by decide),ne n 0 1 (by decide),
  m _ _ _ (ne n 4 0 (by decide)) (nl n l1 4 h1),m _ _ _ (ne n 4 1 (by decide)) (nl n l2 4 h2),m _ _ _ (ne n 3 0 (by decide)) (nl n l1 3 h1),m _ _ _ (ne n 3 1 (by decide)) (nl n l2 3 h2),m _ _ _ (ne n 1 0 (by decide)) (nl n l1 1 h1),m _ _ _ (ne n 0 1 (by decide)) (nl n l2 0 h2)⟩,nr n l1 0 h1,nr n l2 1 h2⟩
theorem pi_zipSK {K:PySem.W.Frag} {a b:Expr} {ta:TA} {p pos:Pos} (hg:Gl X "zip") (hs:starEach [a,b] X.env=[(false,eval a X.env),(false,eval b X.env)]) (hs2:starEach [b] X.env=[(false,eval b X.env)]) (eK:X.K=K) (hm:X.mg "zip"=none) (ha:PA X [a,b] ta) :
 PI X (.Tuple elts ek epos) (.Call (.Name "zip" p) [a,b] [] pos) (iZipS K ta):=by
 subst eK
 intro pins s σ H R I h
 refine Call_ (ld_blt I hg hm boot_zip (PyProof.Rows.callWith_type1 (thn (ha pos pins s σ H _ I h) fun us s1 ⟨vs,H1,I1,r1,q1⟩=>?_) (by rw [hs,hs2]) (by rw [hs2];rfl)))
 obtain ⟨b1,b2,l,l',xs,ys,rfl,hl,hl',q⟩:=q1
 obtain ⟨u,v,rfl,ru,rv'⟩:=vals2 r1
 cases ru;cases rv'
 obtain ⟨its,rv,pl⟩:=I1.seqB hl
 obtain ⟨its',rv',pl'⟩:=I1.seqB hl'
 have lt:∀ {b:Bool} {l:Addr} {its:Array Value},SeqB b s1.heap l its→l<s1.heap.objs.size:=fun {b l its} x=>by
  cases b
  · obtain ⟨o,z,_⟩:=x;exact Heap.lt_size z
  · obtain ⟨o,z,_⟩:=x;exact Heap.lt_size z
 have hll:=lt pl
 have hll':=lt pl'
 refine call_zipS pl pl' fun hp g1 g2 g3 g4 g5 hk=>?_
 have I2:Inv X pins σ H1 { s1 with heap:=hp }:=I1.kept (t':=s1.toks) hk
 have nx:∀ b,s1.heap.objs.size≤b→FpOk X pins H1 b:=fun b hb=>I1.fpOk hb (I1.hok.fresh hb)
 generalize s1.heap.objs.size=n at *
 refine wpAny_pyIter_zip g1 ⟨_,[n+4,n+2,n+3,n,n+1],_,_,H1,rfl,I2,turn_zipS (zApart_new hll hll'),⟨g1,g2,⟨_,_,g3⟩,g4,g5⟩,fun b hb=>?_,q⟩
 simp at hb
 rcases hb with rfl | rfl | rfl | rfl | rfl <;> exact nx _ (by first | exact Nat.le_add_right _ _ | exact Nat.le_refl _)
end
section
variable {K:PySem.W.Frag} {b1 b2:Bool} {a b D:Addr} {xs zs:List V} {g:TG} {tt:TT} {te:TE} {σ0:St} {H0:Hp} {Q:VK}
theorem comp_zipS (hlen:zs.length=xs.length) (Pv:Nat→List V→St→Hp→Prop) (h0:Pv 0 [] σ0 H0) (hl:∀ i ys σ H,Pv i ys σ H→Sq b1 K H a xs∧Sq b2 K H b zs∧H D=some (.lst ys))
 (hs:∀ i x z ys σ H T G,xs[i]?=some x→zs[i]?=some z→i<xs.length→Pv i ys σ H→H T=none→Same H G→G T=some (.tup [x,z])→g (.ref T) σ G fun σ3 H3=>tt σ3 H3 fun b H4=>if b=true then
  te σ3 H4 fun y H5=>H5 D=some (.lst ys)∧ys.length<sizeLine∧∃ m',m'<xs.length - i∧Wt Pv xs.length (i+1) m' (ys ++ [y]) σ3 (upd H5 D (.lst (ys ++ [y]))) else ∃ m',m'<xs.length - i∧Wt Pv xs.length (i+1) m' ys σ3 H4)
 (hd:∀ ys σ H,Pv xs.length ys σ H→Q (.ref D) H):CompW (ItZS b1 b2 K a b) D g tt te Q σ0 H0:=by
 refine ⟨Wt Pv xs.length,⟨xs.length,rfl,Nat.zero_le _,h0⟩,?_⟩
 rintro i m ys σ' H' ⟨rfl,hi,p⟩
 obtain ⟨hq,hq',hD⟩:=hl i ys σ' H' p
 refine ⟨hD,?_⟩
 by_cases hlt:i<xs.length
 · refine .inr ⟨⟨xs,zs,xs[i],zs[i],hq,hq',by simp [hlt],by simp [hlt,hlen]⟩,fun x H2 y=>?_⟩
   obtain ⟨T,u,v,rfl,hT,rfl,hu,hv⟩:=y
   exact hs i u v ys σ' H' T _ (hu xs hq) (hv zs hq') hlt p hT (Same.new hT) upd_same
 · have e:i=xs.length:=by omega
   subst e
   exact .inl ⟨⟨xs,zs,hq,hq',by rw [hlen];exact Nat.min_self _⟩,hd ys σ' H' p⟩
theorem for_zipS {tb:TS} {DD:Ends} {σ:St} {H:Hp} (hlen:zs.length=xs.length) (Pv:Nat→St→Hp→Prop) (h0:Pv 0 σ H) (hl:∀ i σ H,Pv i σ H→Sq b1 K H a xs∧Sq b2 K H b zs)
 (hs:∀ i x z σ H T G,xs[i]?=some x→zs[i]?=some z→i<xs.length→Pv i σ H→H T=none→Same H G→G T=some (.tup [x,z])→g (.ref T) σ G fun σ2 H2=>tb { DD with nx:=Pv (i+1),ct:=Pv (i+1),bk:=DD.nx } σ2 H2) (hd:∀ σ H,Pv xs.length σ H→DD.nx σ H) :
 ∃ W:Nat→Nat→St→Hp→Prop,(∃ m,W 0 m σ H)∧∀ i m σ H,W i m σ H →
   ((ItZS b1 b2 K a b).stop i H∧DD.nx σ H)∨((ItZS b1 b2 K a b).go i H∧∃ N:St→Hp→Prop,(∀ σ' H',N σ' H'→∃ m',m'<m∧W (i+1) m' σ' H')∧∀ x H',(ItZS b1 b2 K a b).yld i H x H'→g x σ H' fun σ2 H2=>tb { DD with nx:=N,ct:=N,bk:=DD.nx } σ2 H2):=by
 refine ⟨fun i m σ H=>m=xs.length - i∧i≤xs.length∧Pv i σ H,⟨xs.length,by simp,Nat.zero_le _,h0⟩,?_⟩
 rintro i m σ H ⟨rfl,hi,p⟩
 obtain ⟨hq,hq'⟩:=hl i σ H p
 by_cases hlt:i<xs.length
 · refine .inr ⟨⟨xs,zs,xs[i],zs[i],hq,hq',by simp [hlt],by simp [hlt,hlen]⟩,Pv (i+1),fun σ' H' p'=>⟨xs.length - (i+1),by omega,rfl,hlt,p'⟩,fun x H' y=>?_⟩
   obtain ⟨T,u,v,rfl,hT,rfl,hu,hv⟩:=y
   exact hs i u v σ H T _ (hu xs hq) (hv zs hq') hlt p hT (Same.new hT) upd_same
 · have e:i=xs.length:=by omega
   subst e
   exact .inl ⟨⟨xs,zs,hq,hq',by rw [hlen];exact Nat.min_self _⟩,hd σ H p⟩
end
end L2

namespace L2
open PySem PySem.Spec PyProof.Rows
noncomputable def DrawsAt (H:Hp) (d:Addr):Prop:=∃ ns:List Int,H d=some (.lst (ns.map V.int))∧ns.length≤240
noncomputable def spDraws (K:PySem.W.Frag):Sp:=fun vs H Q _=>∃ (a:Addr) (ns:List Int),vs=[.ref a]∧SqL K H a (ns.map V.int)∧ns.length≤63∧∀ (d:Addr) (H':Hp),Same H H'→H d=none→DrawsAt H' d→Q (.ref d) H'
noncomputable def spTake:Sp:=fun vs H Q _=>∃ (d:Addr) (m:Int),vs=[.ref d,.int m]∧0<m∧DrawsAt H d∧∀ (v:Int) (H':Hp),0≤v→v<m→DrawsAt H' d→Kp d H H'→Q (.int v) H'
theorem DrawsAt.kl {H H':Hp} {l:Addr} (h:DrawsAt H l) (k:Kp l H H'):KL H H':=by
 obtain ⟨ns,e,_⟩:=h
 exact k.kl e
theorem DrawsAt.same {H H':Hp} {l:Addr} (h:DrawsAt H l) (k:Same H H'):DrawsAt H' l:=by
 obtain ⟨ns,e,z⟩:=h
 exact ⟨ns,k _ _ e,z⟩
theorem DrawsAt.ne {H:Hp} {l p:Addr} (h:DrawsAt H l) (e:H p=none):p≠l:=by
 obtain ⟨ns,e',z⟩:=h
 rintro rfl
 rw [e] at e';cases e'
theorem DrawsAt.neT {H:Hp} {l p:Addr} {us:List V} (h:DrawsAt H l) (e:H p=some (.tup us)):p≠l:=by
 obtain ⟨ns,e',z⟩:=h
 exact ne_of e e' (by intro z;cases z)
theorem Same.kpd {H H':Hp} {l:Addr} (k:Same H H'):Kp l H H':=fun b o e _=>k b o e
theorem Kp.freeD {H H':Hp} {p l:Addr} (k:Kp p H H') (h:DrawsAt H' p) (hl:H' l=none):H l=none:=by
 cases e:H l with
 | none=>rfl
 | some o =>
   by_cases n:l=p
   · subst n;obtain ⟨ns,e',_⟩:=h;rw [hl] at e';cases e'
   · rw [k _ _ e n] at hl;cases hl
end L2
namespace Pw
end Pw
namespace L2
open PySem PySem.Spec PyProof.Rows
theorem small16 {n:Nat} (h:n≤10000):n<sizeLine:=Nat.lt_of_le_of_lt h (by decide)
theorem cut240 (ds:List Int):∃ es:List Int,cutV (ds.map V.int) none (some 240)=es.map V.int∧es.length≤240:=by
 have e:HT.sIx (ds.map V.int).length (ds.map V.int).length (some 240)=min 240 (ds.map V.int).length:=HT.sIx_nat _ _ 240
 refine ⟨ds.take (min 240 (ds.map V.int).length),?_,by rw [List.length_take];omega⟩
 unfold cutV
 rw [e,HT.sIx_none,List.drop_zero,Nat.sub_zero,List.map_take]
theorem while_in {c:TT} {tb:TS} {D:Ends} {σ:St} {H:Hp} (Pv:St→Hp→Prop) (μ:St→Hp→Nat) (h0:Pv σ H)
 (hs:∀ σ H,Pv σ H→c σ H fun b H1=>if b=true then ∃ N:St→Hp→Prop,(∀ σ' H',N σ' H'→∃ m',m'<μ σ H∧m'=μ σ' H'∧Pv σ' H')∧tb { D with nx:=N,ct:=N,bk:=D.nx } σ H1 else D.nx σ H1):tWhile c tb D σ H :=
 ⟨fun m σ H=>m=μ σ H∧Pv σ H,⟨_,rfl,h0⟩,fun m σ H ⟨e,p⟩=>by subst e;exact hs σ H p⟩
theorem wN {Pv:St→Hp→Prop} {μ:St→Hp→Nat} {n:Nat}:∀ σ' H',(Pv σ' H'∧μ σ' H'<n)→∃ m',m'<n∧m'=μ σ' H'∧Pv σ' H':=fun _ _ ⟨p,l⟩=>⟨_,l,rfl,p⟩
end L2

namespace L2
open PySem PySem.Spec PyProof.Rows
theorem wtest {K:PySem.W.Frag} {σ:St} {i j:Nat} {d:Addr} {m lim:Int} {G:Hp} {Q:Bool→Hp→Prop} (e1:σ[i]?=some (some (.ref d))) (e2:σ[j]?=some (some (.int m))) (hd:DrawsAt G d) (hl:1≤lim)
 (hT:m<lim→∀ G1,Same G G1→Q true G1) (hF:∀ G1,Same G G1→Q false G1) :
 tOr (tTest (tOp (rI0 fun i j=>.bl (decide (i<j))) (tVar j) (tC (.int 1)))) (tAnd (tTest (tOp (rNil K true) (tVar i) (tLstS tNil))) (tTest (tOp (rI0 fun i j=>.bl (decide (i<j))) (tVar j) (tC (.int lim))))) σ G Q:=by
 refine ⟨_,e2,_,_,rfl,rfl,_,rfl,?_⟩
 refine if2 (fun h=>?_) (fun h=>?_)
 · exact hT (by have:m<1:=of_decide_eq_true h;omega) G (Same.refl _)
 obtain ⟨ns,e,z⟩:=hd
 refine ⟨_,e1,(by show 0≤sizeLine;decide),fun p G1 s1 hp hp1=>?_⟩
 refine ⟨d,p,_,rfl,rfl,.inr ⟨SqL.of (s1 _ _ e),SqL.of hp1⟩,_,rfl,?_⟩
 refine if2 (fun h=>?_) (fun h=>?_)
 · refine ⟨_,e2,_,_,rfl,rfl,_,rfl,?_⟩
   by_cases h3:m<lim
   · rw [decide_eq_true h3];exact hT h3 G1 s1
   · rw [decide_eq_false h3];exact hF G1 s1
 · exact hF G1 s1
end L2
namespace Pw
end Pw
namespace L2
end L2
namespace Pw
theorem not_lt_of {A B:Int×Int} (a:Canon A) (b:Canon B) (h:val B≤val A):¬ (A.1 * B.2<B.1 * A.2):=fun hlt=>by
 have h1:((A.1 * B.2:Int):Rat)<((B.1 * A.2:Int):Rat):=by exact_mod_cast hlt
 have pa:=cpos a.1
 have pb:=cpos b.1
 have e1:(A.1:Rat)=val A * (A.2:Rat):=by unfold val;have:=castne (canon_ne a);grind
 have e2:(B.1:Rat)=val B * (B.2:Rat):=by unfold val;have:=castne (canon_ne b);grind
 rw [Rat.intCast_mul,Rat.intCast_mul,e1,e2] at h1
 have h2:val B * (A.2 * B.2)≤val A * (A.2 * B.2):=mul_le_r h (Rat.le_of_lt (Rat.mul_pos pa pb))
 grind
end Pw

namespace Pw
structure Dist (Rs:List (Int×Int)) (n:Nat) (D:Int):Prop where
 len:Rs.length=n
 canon:Canons Rs
 nn:∀ R∈Rs,0≤R.1
 one:qs n (fun t=>val (Rs.getD t (0,1)))=1
 dpos:0<D
 dvd:∀ R∈Rs,R.2 ∣ D
theorem Dist.v0 {Rs:List (Int×Int)} {n:Nat} {D:Int} (h:Dist Rs n D) {t:Nat} (ht:t<n):0≤val (Rs.getD t (0,1)):=by
 have hm:=L2.mem_getD (Bs:=Rs) (t:=t) (by have:=h.len;omega)
 exact val_nn (h.canon _ hm).1 (h.nn _ hm)
theorem Dist.v1 {Rs:List (Int×Int)} {n:Nat} {D:Int} (h:Dist Rs n D) {t:Nat} (ht:t<n):val (Rs.getD t (0,1))≤1:=by
 have:=qs_ge (f:=fun t=>val (Rs.getD t (0,1))) ht fun i hi=>h.v0 hi
 rwa [h.one] at this
theorem Dist.bd {Rs:List (Int×Int)} {n:Nat} {D:Int} (h:Dist Rs n D) {M:Int} (hM:D ∣ M) {t:Nat} (ht:t<n):∃ z:Int,val (Rs.getD t (0,1)) * (M:Rat)=(z:Rat):=by
 have hm:=L2.mem_getD (Bs:=Rs) (t:=t) (by have:=h.len;omega)
 have c:=h.canon _ hm
 obtain ⟨u,hu⟩:=Int.dvd_trans (h.dvd _ hm) hM
 have e:val (Rs.getD t (0,1)) * ((Rs.getD t (0,1)).2:Rat)=((Rs.getD t (0,1)).1:Rat):=by unfold val;have:=castne (canon_ne c);grind
 refine ⟨(Rs.getD t (0,1)).1 * u,?_⟩
 rw [hu,Rat.intCast_mul,Rat.intCast_mul,← e]
 grind
section
variable {ps:List (Int×Int)} {A:Int×Int} {Bs:List (Int×Int)} {S:Int} {n:Nat}
end
end Pw
namespace L2
open PySem PySem.Spec PyProof.Rows
end L2
namespace L2
open PySem PySem.Spec PyProof.Rows
end L2

namespace L2
open PySem PySem.Spec PyProof.Rows
section
variable {prog:Program} {w:World} {A:Around} {E:Value→Shared→Prop} {s:Shared}
end
section
variable {X:Cx}
end
end L2

namespace Pw
section
variable (ps:List (Int×Int)) (A:Int×Int) (Bs:List (Int×Int)) (n:Nat)
end
section
variable {ps:List (Int×Int)} {A:Int×Int} {Bs:List (Int×Int)} {n:Nat}
end
end Pw
namespace L2
open PySem PySem.Spec PyProof.Rows
end L2

namespace Pw
end Pw
namespace L2
open PySem PySem.Spec PyProof.Rows
noncomputable def spMade9:Sp:=fun vs H Q _=>∃ x y:Int,vs=[.int x,.int y]∧y≠0∧Sz 8900 x∧Sz 8900 y∧∀ (p:Addr) (H':Hp),Same H H'→H' p=some (.tup [.int (Pw.mk x y).1,.int (Pw.mk x y).2])→Q (.ref p) H'
noncomputable def spF2H (K:PySem.W.Frag) (op:Int×Int→Int×Int→Int×Int):Sp:=fun vs H Q _=>∃ (p q:Addr) (A B:Int×Int),vs=[.ref p,.ref q]∧SqF K H p A∧SqF K H q B∧0<A.2∧0<B.2∧Sz2 4400 A∧Sz2 4400 B∧∀ (r:Addr) (H':Hp),Same H H'→FrA K H' r (op A B)→Q (.ref r) H'
theorem made9 {P:Program} {w:World} {K:PySem.W.Frag} {mg:Str→Option Value} {base:Heap} {k:Nat} {nm:Str} {ps:List Str} (D:Def P w K mg base k nm ps spMade9):Def P w K mg base k nm ps spMadeS :=
 D.imp fun vs H Q E ⟨x,y,e,h1,h2,h3,h4⟩=>⟨x,y,e,h1,h2.mono (by decide),h3.mono (by decide),h4⟩
theorem f2H {P:Program} {w:World} {K:PySem.W.Frag} {mg:Str→Option Value} {base:Heap} {k:Nat} {nm:Str} {ps:List Str} {op:Int×Int→Int×Int→Int×Int} (D:Def P w K mg base k nm ps (spF2H K op)):Def P w K mg base k nm ps (spF2G K op) :=
 D.imp fun vs H Q E ⟨p,q,A,B,e,h1,h2,h3,h4,h5,h6,h7⟩=>⟨p,q,A,B,e,h1,h2,h3,h4,h5.mono (by decide),h6.mono (by decide),h7⟩
noncomputable def spWebD (K:PySem.W.Frag):Sp:=fun vs H Q _=>∃ d:Addr,vs=[.ref d]∧DrawsAt H d∧∀ (w:Addr) (H':Hp) (pages:Int) (ps:List (Int×Int)),Pw.WebOk pages ps→WebAt K H' w pages ps→DrawsAt H' d→Kp d H H'→Q (.ref w) H'
noncomputable def spLeapD (K:PySem.W.Frag):Sp:=fun vs H Q _=>∃ d:Addr,vs=[.ref d]∧DrawsAt H d∧∀ (p:Addr) (H':Hp) (A:Int×Int),Pw.Canon A→0<A.1→A.1≤A.2→Sz2 41 A→DrawsAt H' d→FrA K H' p A→Kp d H H'→Q (.ref p) H'
end L2
namespace Pw
section
variable {ps:List (Int×Int)} {A:Int×Int} {Bs:List (Int×Int)} {n:Nat} {S:Int}
end
end Pw

open PySem PySem.Spec PyProof.Rows
namespace L2
section
variable {prog:Program} {w:World} {A:Around} {E:Value→Shared→Prop} {s:Shared}
end
section
variable {X:Cx} {tg:Expr}
end
end L2

namespace Pw
end Pw
namespace L2
open PySem PySem.Spec PyProof.Rows
end L2

namespace Pw
end Pw

open PySem PySem.Spec PyProof PyProof.Rows
namespace L2
section
variable {X:Cx}
end
end L2

namespace Pw
theorem mk_dvd2 {a b:Int} (hb:b≠0):(mk a b).2 ∣ b:=by
 obtain ⟨⟨c1,g⟩,w⟩:=mk_spec (a:=a) (b:=b) hb
 have h:(mk a b).2 ∣ (mk a b).1 * b:=⟨a,by rw [w,Int.mul_comm]⟩
 have g':Int.gcd (mk a b).2 (mk a b).1=1:=by rw [Int.gcd_comm];exact g
 have h2:=Int.natAbs_dvd_natAbs.mpr h
 rw [Int.natAbs_mul] at h2
 exact Int.natAbs_dvd_natAbs.mp (Nat.Coprime.dvd_of_dvd_mul_left (show Nat.Coprime _ _ from g') h2)
end Pw
namespace L2
open PySem PySem.Spec PyProof.Rows
end L2

namespace L2
open PySem PySem.Spec PyProof.Rows
end L2

namespace Pw
end Pw
namespace L2
open PySem PySem.Spec PyProof.Rows
end L2

namespace Pw
end Pw

open PySem PySem.Spec PyProof PyProof.Rows
namespace L2
section
variable {prog:Program} {w:World} {A:Around} {E:Value→Shared→Prop} {s:Shared}
end
section
variable {X:Cx}
end
end L2

open PySem PySem.Spec PyProof PyProof.Rows
namespace L2
section
variable {X:Cx}
end
end L2

namespace L2
open PySem PySem.Spec PyProof.Rows PySem.W
section
variable {prog:Program} {w:World} {A:Around} {E:Value→Shared→Prop} {s:Shared}
theorem sorted_openT {t:Addr} {vs:List Value} {Q:Value→Shared→Prop} (ht:IsTup s.heap t vs.toArray) (h64:vs.length<64)
 (h:∀ (g:Heap) (D:Addr),(∀ b o,s.heap.get? b=some o→g.get? b=some o)→(∀ b o,s.heap.get? b=some o→b≠D)→(∀ b o,s.heap.get? b=some o→b<D)→g.get? D=some (seqObj "list" vs.toArray 0) →
  wpAny (model prog w) A.in1.in1 (Builtin.«list.sort» ⟨[.ref D],[]⟩) (fun fin s'=>fin=.done (.ret .none)∧Q (.ref D) s') E { s with heap:=g }) :
 wpAny (model prog w) A (call (.builtin "sorted") [.ref t]) Q E s:=by
 obtain ⟨o,ho,hc,n,hd⟩:=ht
 have few:vs.length≤sizeLine:=by rw [sizeLine_eq];omega
 refine Calls.call_function_entry kind_sorted plain_sorted entry_sorted (args_sorted1 _) ?_
 unfold Builtin.«sorted»
 refine wpAny_bind (m:=checkCount "sorted" 1 1 _) (wpAny_pure ?_)
 refine wpAny_bind (wpAny_collect_seq t (.inr rfl) ho hc hd (fun g kp=>?_) (by rw [List.size_toArray];exact few))
 refine wpAny_bind (wpAny_newList ?_ few)
 have hoL:(g.push (seqObj "list" vs.toArray 0)).get? g.objs.size=some (seqObj "list" vs.toArray 0):=Heap.get?_push_size _ rfl
 have lt:∀ b o,s.heap.get? b=some o→b<g.objs.size:=fun b o e=>Heap.lt_size (kp b o e)
 refine wpAny_bind (wpAny_holding (wpAny_call_entry slot_list_sort ⟨_,hoL,rfl⟩ entry_list_sort ?body (args_list_sort _)))
 case body =>
  refine wpAny_mono (h (g.push (seqObj "list" vs.toArray 0)) g.objs.size (fun b o e=>Heap.get?_push_of_some _ (kp b o e)) (fun b o e=>Nat.ne_of_lt (lt b o e)) lt hoL) (fun fin s' hf=>?_) fun _ _ e=>e
  obtain ⟨rfl,hq⟩:=hf
  exact ⟨_,rfl,wpAny_pure ⟨_,rfl,hq⟩⟩
theorem sorted_smallT {t:Addr} {vs:List Value} {Q:Value→Shared→Prop} (ht:IsTup s.heap t vs.toArray) (h2:vs.length<2)
 (h:∀ (D:Addr) (h':Heap) (c:Nat),(∀ b o,s.heap.get? b=some o→h'.get? b=some o)→(∀ b o,s.heap.get? b=some o→b≠D)→h'.get? D=some (seqObj "list" vs.toArray c)→Q (.ref D) { s with heap:=h' }) :
 wpAny (model prog w) A (call (.builtin "sorted") [.ref t]) Q E s:=by
 refine sorted_openT ht (by omega) fun g D keep hDs lt hoL=>?_
 obtain ⟨e1,ho1⟩:∃ e1,(g.update D (Obj.mapSeq fun _=>(#[]:Array Value))).get? D=some (seqObj "list" #[] e1):=⟨_,get?_update_seq hoL fun _=>#[]⟩
 have few:vs.length≤sizeLine:=by rw [sizeLine_eq];omega
 rw [list_sort_plain]
 refine wpAny_bind (listItems_at hoL rfl ?_)
 refine wpAny_bind (listUpdate_at hoL rfl ?_ (by rw [List.size_toArray];omega) (Nat.zero_le _))
 refine wpAny_bind (seqEpoch_at ho1 rfl ?_)
 refine wpAny_bind (wpAny_newTuple ?_ few)
 refine wpAny_bind (wpAny_newList ?_ (Nat.zero_le _))
 refine wpAny_holding ?_
 show wpAny (model prog w) _ _ _ E { s with heap:=((g.update D (Obj.mapSeq fun _=>(#[]:Array Value))).push (seqObj "tuple" vs.toArray 0)).push (seqObj "list" #[] 0) }
 dsimp only
 have hn2:vs.toArray.size<2:=by rw [List.size_toArray];exact h2
 rw [if_pos hn2,if_pos hn2]
 refine wpAny_bind (wpAny_pure ?_)
 refine wpAny_bind (wpAny_pure ?_)
 dsimp only
 have ho6:(((g.update D (Obj.mapSeq fun _=>(#[]:Array Value))).push (seqObj "tuple" vs.toArray 0)).push (seqObj "list" #[] 0)).get? D=some (seqObj "list" #[] e1):=Heap.get?_push_of_some _ (Heap.get?_push_of_some _ ho1)
 have harr:(arrOf (SortSt.mk' general' (vs.toArray.zip vs.toArray) #[] 7 none)).map (·.2)=vs.toArray:=zip_snd vs
 rw [harr]
 refine wpAny_bind (seqEpoch_at ho6 rfl ?_)
 refine wpAny_bind (listUpdate_at ho6 rfl ?_ (Nat.zero_le _) (by show vs.toArray.size≤_;rw [List.size_toArray];omega))
 simp only [bne_self_eq_false,Bool.false_eq_true,if_false]
 obtain ⟨c2,hc2⟩:∃ c2,((((g.update D (Obj.mapSeq fun _=>(#[]:Array Value))).push (seqObj "tuple" vs.toArray 0)).push (seqObj "list" #[] 0)).update D (Obj.mapSeq fun _=>vs.toArray)).get? D=some (seqObj "list" vs.toArray c2):=⟨_,get?_update_seq ho6 fun _=>vs.toArray⟩
 refine wpAny_pure ⟨rfl,h D _ c2 (fun b o q=>?_) hDs hc2⟩
 have hb:=hDs b o q
 exact (Heap.get?_update_other _ _ (Ne.symm hb)).trans (Heap.get?_push_of_some _ (Heap.get?_push_of_some _ ((Heap.get?_update_other _ _ (Ne.symm hb)).trans (keep b o q))))
theorem kat_sortedT {t:Addr} {vs:List Value} {Q:Value→Shared→Prop} {h₀:Heap} {L:Addr} {m:Str→Option Value} {news:List (Addr×Obj)} (F:Fr h₀ L s.heap m) (N:News h₀ L s.heap news) (ht:IsTup s.heap t vs.toArray) (h2:2≤vs.length) (h64:vs.length<64)
 (h:∀ D e1 h',Fr h₀ L h' m→News h₀ L h' ((D,seqObj "list" #[] e1) :: news)→(∀ q∈news,q.1<D) →
  wpAny (model prog w) A.in1.in1 (keyKind' vs.toArray) (fun κ s'=>(kas_sort vs.length).kasWp (kas_ask prog w A.in1.in1 κ vs) (fun p s''=>KasFin h₀ L m D e1 (p.toList.map fun i=>vs.getD i Value.none) (fun s3=>Q (.ref D) s3) s'') s') (fun _ _=>False) { s with heap:=h' }) :
 wpAny (model prog w) A (call (.builtin "sorted") [.ref t]) Q E s:=by
 refine sorted_openT ht h64 fun g D keep hDs lt hoL=>?_
 have hL:∃ o,s.heap.get? L=some o:=by obtain ⟨o,_,_,e,_⟩:=F.ns;exact ⟨o,e⟩
 obtain ⟨oL,eL⟩:=hL
 have h0:h₀.get? D=none:=by
  cases z:h₀.get? D with
  | none=>rfl
  | some u=>exact absurd rfl (hDs _ _ (F.keep _ _ z))
 refine kat_list_sort (s:={ s with heap:=g }) (F.kept keep) (N.grown keep) hoL (Ne.symm (hDs _ _ eL)) h0 (fun p hp=>hDs _ _ (N p hp).1) h2 h64 fun e1 h' F' N'=>?_
 refine wpAny_mono (h _ e1 h' F' N' fun q hq=>lt _ _ (N q hq).1) (fun κ s' hk=>?_) fun _ _ x=>x
 rw [kat_ask_eq rfl] at hk ⊢
 exact kas_wp_mono hk fun p s'' hk'=>hk'.mono fun s3 hq=>⟨rfl,hq⟩
end
section
variable {X:Cx} {pins:List (Addr×Obj)} {σ:St} {H:Hp} {s:Shared}
set_option maxHeartbeats 2000000 in
theorem sorted_okT {l:Addr} {xs:List V} {Q:VK} (I:Inv X pins σ H s) (hl:SqT X.K H l xs) (h64:xs.length<64) (lt:Nat→Nat→Bool) (O:Srt.Ord lt)
 (hkind:∀ (vs:List Value) (s':Shared),Vals xs vs→2≤vs.length→(∀ b o,b≠X.env.locals→s.heap.get? b=some o→s'.heap.get? b=some o)→∃ κ:SortKind,(∀ (R:SortKind→Shared→Prop),R κ s'→wpAny (model X.prog X.w) X.A.in1.in1 (keyKind' vs.toArray) R (fun _ _=>False) s') ∧
  ∀ (i j:Nat) (C:Bool→Shared→Prop) (s2:Shared),i<vs.length→j<vs.length→(∀ b o,b≠X.env.locals→s.heap.get? b=some o→s2.heap.get? b=some o)→C (lt i j) s2→kas_ask X.prog X.w X.A.in1.in1 κ vs i j C s2)
 (q:∀ (p:List Nat) (D:Addr),p.Perm (List.range xs.length)→(∀ k,1≤k→k<xs.length→lt (p.getD k 0) (p.getD (k - 1) 0)=false)→H D=none→Q (.ref D) (upd H D (.lst (p.map fun i=>xs.getD i .non)))) :
 wpAny (model X.prog X.w) X.A (call (.builtin "sorted") [.ref l]) (EP X pins σ Q) X.xe s:=by
 obtain ⟨its,rv,pl,hz⟩:=id (I.tuple hl)
 have hlen:=rv.length
 by_cases h2:its.length<2
 · refine sorted_smallT pl h2 fun D h' c kp hDs ho=>?_
   have hf:H D=none:=by
    cases z:H D with
    | none=>rfl
    | some u =>
      obtain ⟨o,e⟩:=ObjOk.there (I.hok D u z)
      exact absurd rfl (hDs _ _ e)
   obtain ⟨m,hn,_⟩:=id I.loc
   have F:Fr X.base X.env.locals h' m:=Fr.kept ⟨hn,I.bk,Nat.le_trans I.ok.bsz I.ok.above⟩ kp
   have I':Inv X pins σ (upd H D (.lst xs)) { s with heap:=h' }:=I.byNews (t':=s.toks) hn F (fun b o _ e=>kp b o e) hf (fun o e=>hDs _ _ e rfl) ho rv hz
   have hq:=q (List.range xs.length) D (List.Perm.refl _) (fun k k1 k2=>by omega) hf
   have ex:(List.range xs.length).map (fun i=>xs.getD i .non)=xs:=by
    exact map_small xs (by omega)
   rw [ex] at hq
   exact ⟨.ref D,_,I',rfl,hq⟩
 · obtain ⟨m,hn,_⟩:=id I.loc
   have F:Fr X.base X.env.locals s.heap m:=⟨hn,I.bk,Nat.le_trans I.ok.bsz I.ok.above⟩
   have N:News X.base X.env.locals s.heap (allNews X.base s.heap X.env.locals):=news_all
   have keepN:∀ {h':Heap} {r:List (Addr×Obj)},Fr X.base X.env.locals h' m→News X.base X.env.locals h' r→(∀ p∈allNews X.base s.heap X.env.locals,p∈r)→∀ b o,b≠X.env.locals→s.heap.get? b=some o→h'.get? b=some o:=fun {h' r} F' N' sub b o hb e=>by
    cases z:X.base.get? b with
    | some u =>
      have:=I.bk b u z
      rw [e] at this;cases this
      exact F'.keep b _ z
    | none=>exact (N' (b,o) (sub _ (mem_allNews hb z e))).1
   have h2':2≤its.length:=by omega
   refine kat_sortedT F N pl h2' (by omega) fun D e1 h' F' N' hD=>?_
   have kp:=keepN F' N' (fun p hp=>List.mem_cons_of_mem _ hp)
   have nDD:=N' (D,seqObj "list" #[] e1) List.mem_cons_self
   have hDs:∀ o,s.heap.get? D≠some o:=fun o e=>Nat.lt_irrefl _ (hD (D,o) (mem_allNews nDD.2.1 nDD.2.2 e))
   have hHD:H D=none:=by
    cases z:H D with
    | none=>rfl
    | some u =>
      obtain ⟨o,e⟩:=ObjOk.there (I.hok D u z)
      exact absurd e (hDs o)
   obtain ⟨κ,hκ,hask⟩:=hkind its { s with heap:=h' } rv h2' kp
   refine hκ _ ?_
   have hn1:0<its.length:=by omega
   refine Srt.run_wp' (n:=its.length) (P:=fun s'=>s'={ s with heap:=h' }) lt (fun i j C s2 hi hj p2 hc=>by subst p2;exact hask i j C _ hi hj kp (hc _ rfl)) (kas_sort its.length) _ (Srt.sort_asks hn1) rfl fun s2 p2=>?_
   subst p2
   obtain ⟨pm,up⟩:=Srt.sort_ok O (n:=its.length) (by omega)
   generalize Srt.run lt (kas_sort its.length)=p at *
   refine KasFin.intro F' N' (.head fun x hx=>Nat.ne_of_lt (hD x hx)) fun h3 c F3 N3=>?_
   have kp3:=keepN F3 N3 (fun p hp=>List.mem_cons_of_mem _ hp)
   have hD3:=(N3 (D,listOf (List.toArray (p.toList.map fun i=>its.getD i Value.none)) c) List.mem_cons_self).1
   have rel:Vals (p.toList.map fun i=>xs.getD i .non) (p.toList.map fun i=>its.getD i Value.none):=by
    have key:∀ (l:List Nat),(∀ i∈l,i<its.length)→Vals (l.map fun i=>xs.getD i .non) (l.map fun i=>its.getD i Value.none):=by
     intro l
     induction l with
     | nil=>intro _;exact .nil
     | cons a l ih =>
       intro hl'
       have ha:=hl' a List.mem_cons_self
       have ha2:a<xs.length:=by omega
       obtain ⟨u,hu,ru⟩:=rv.get (i:=a) (x:=xs[a]) (by simp [ha2])
       have e1:xs.getD a .non=xs[a]:=by simp [ha2]
       have e2:its.getD a Value.none=u:=by rw [List.getD_eq_getElem?_getD,hu];rfl
       rw [List.map_cons,List.map_cons,e1,e2]
       exact .cons ru (ih fun i hi=>hl' i (List.mem_cons_of_mem _ hi))
    exact key _ fun i hi=>List.mem_range.mp (pm.mem_iff.mp hi)
   have hq:=q p.toList D (by rw [hlen];exact pm) (fun k k1 k2=>by
    have:=up k k1 (by omega)
    rw [getD_e,getD_e];exact this) hHD
   refine ⟨.ref D,_,I.byNews (t':=s.toks) hn F3 kp3 hHD hDs hD3 rel ?_,rfl,hq⟩
   rw [List.length_map,pm.length_eq,List.length_range,← hlen]
   exact hz
end
section
variable {X:Cx}
noncomputable def rSortT0 (K:PySem.W.Frag):List V→Hp→VK→Prop:=fun xs H Q=>∃ (l:Addr) (vs:List V) (ps:List (Int×Int)),xs=[.ref l]∧SqT K H l vs∧Prs K H ps vs∧ps.length<64∧∀ (us:List V) (ms:List (Int×Int)) (D:Addr),ms.Perm ps→ms.Pairwise lexR→Prs K H ms us→H D=none→Q (.ref D) (upd H D (.lst us))
theorem call_sortedPT0:CallR X (.builtin "sorted") (rSortT0 X.K):=by
 intro pins s σ H xs us Q I r h
 obtain ⟨l,xs,ps,rfl,hl,hp,h64,q⟩:=h
 obtain ⟨u,rfl,rfl⟩:=vals1 r
 have hlen:xs.length=ps.length:=by have:=Dens.length hp;rw [List.length_map] at this;exact this
 refine sorted_okT I hl (by omega) (ltP ps) (ltP_ord ps) (fun vs s' rv h2 kp=>?_) fun p D pm up hD=>?_
 · have hv:vs.length=ps.length:=by rw [← rv.length,hlen]
   have tup:∀ {s2:Shared},(∀ b o,b≠X.env.locals→s.heap.get? b=some o→s2.heap.get? b=some o)→∀ {i:Nat},i<vs.length→∃ a o n t1 t2,vs.getD i Value.none=.ref a∧s2.heap.get? a=some o∧o.cls=.type "tuple"∧o.data=.seq #[.int (ps.getD i (0,0)).1 t1,.int (ps.getD i (0,0)).2 t2] n:=fun {s2} k {i} hi=>by
    obtain ⟨a,e,hq⟩:=prs_at hp (show i<ps.length by omega)
    have rr:=vals_getD rv hi
    rw [e] at rr
    obtain ⟨its,ri,⟨o,ho,hc,n,hd⟩,_⟩:=I.tuple hq
    obtain ⟨u1,u2,rfl,⟨t1,rfl⟩,⟨t2,rfl⟩⟩:=vals2 ri
    exact ⟨a,o,n,t1,t2,rr,k a o (I.tupNe hq) ho,hc,by simpa using hd⟩
   refine ⟨tuples' true,fun R hR=>?_,fun i j C s2 hi hj k hc=>?_⟩
   · have build:∀ (ws:List Value),(∀ v∈ws,∃ a o n x t1 y t2,v=.ref a∧s'.heap.get? a=some o∧o.cls=.type "tuple"∧o.data=.seq #[.int x t1,.int y t2] n)→∃ fs:List Value,fs.length=ws.length∧KatTups s'.heap ws fs∧∀ v∈fs,∃ x t,v=.int x t:=by
      intro ws
      induction ws with
      | nil=>intro _;exact ⟨[],rfl,KatTups.nil,fun v h=>by simp at h⟩
      | cons w ws ih =>
        intro h
        obtain ⟨fs,e,t,a⟩:=ih fun v hv=>h v (List.mem_cons_of_mem _ hv)
        obtain ⟨b,o,n,x,t1,y,t2,rfl,ho,hc,hd⟩:=h w List.mem_cons_self
        refine ⟨.int x t1 :: fs,by simp [e],KatTups.cons ho hc hd rfl t,fun v hv=>?_⟩
        rcases List.mem_cons.mp hv with rfl | hv
        · exact ⟨_,_,rfl⟩
        · exact a v hv
     obtain ⟨fs,e,kt,fa⟩:=build vs fun v hv=>by
      obtain ⟨i,hi,rfl⟩:=List.mem_iff_getElem.mp hv
      obtain ⟨a,o,n,t1,t2,e,ho,hc,hd⟩:=tup kp hi
      have:vs.getD i Value.none=vs[i]:=by simp [hi]
      rw [this] at e
      exact ⟨a,o,n,_,t1,_,t2,e,ho,hc,hd⟩
     refine kat_kind (T:=.type "int") kt (by omega) (fun v hv=>?_) (by decide) hR
     obtain ⟨x,t,rfl⟩:=fa v hv
     exact Looks.of_pure rfl
   · unfold kas_ask
     obtain ⟨a,o,n,t1,t2,e,ho,_,hd⟩:=tup k hi
     obtain ⟨a',o',n',t1',t2',e',ho',_,hd'⟩:=tup k hj
     rw [e,e']
     refine kat_lt ho hd ho' hd' (kat_cons ?_)
     have hc':C (lexB (ps.getD i (0,0)) (ps.getD j (0,0))) s2:=hc
     generalize ps.getD i (0,0)=x at *
     generalize ps.getD j (0,0)=y at *
     refine wpAny_eqBool_int ?_
     by_cases h1:x.1=y.1
     · rw [show (x.1 == y.1)=true by simp [h1]]
       refine kat_yes (kat_cons (wpAny_eqBool_int ?_))
       by_cases h2:x.2=y.2
       · rw [show (x.2 == y.2)=true by simp [h2]]
         refine kat_yes (kat_nil ?_)
         have:lexB x y=false:=by simp only [lexB,decide_eq_false_iff_not];omega
         rw [this] at hc'
         simpa using hc'
       · rw [show (x.2 == y.2)=false by simp [h2]]
         refine kat_no (kat_one _ _ ?_)
         have:lexB x y=decide (x.2<y.2):=by simp only [lexB,decide_eq_decide];omega
         rw [this] at hc'
         exact lt_int hc'
     · rw [show (x.1 == y.1)=false by simp [h1]]
       refine kat_no (oneLt_int ?_)
       have:lexB x y=decide (x.1<y.1):=by simp only [lexB,decide_eq_decide];omega
       rw [this] at hc'
       exact hc'
 · rw [hlen] at pm up
   have hb:∀ i∈p,i<ps.length:=fun i hi=>List.mem_range.mp (pm.mem_iff.mp hi)
   exact q _ _ D (perm_getD pm) (up_pairwise lexR_trans pm up fun i j h=>lexR_of h) (dens_pick hp hb) hD
noncomputable def rSortPT (K:PySem.W.Frag):List V→Hp→VK→Prop:=fun xs H Q=>∃ (l:Addr) (vs:List V) (ps:List (Int×Int)),xs=[.ref l]∧SqT K H l vs∧Prs K H ps vs∧ps.length<64∧∀ (us:List V) (ms:List (Int×Int)) (D:Addr) (H':Hp),ms.Perm ps→ms.Pairwise lexR→Prs K H' ms us→Same H H'→H D=none→H' D=some (.lst us)→Q (.ref D) H'
theorem call_sortedPT:CallR X (.builtin "sorted") (rSortPT X.K):=fun pins s σ H xs us Q I r ⟨l,vs,ps,e,h1,h2,h3,q⟩=>call_sortedPT0 pins s σ H xs us Q I r ⟨l,vs,ps,e,h1,h2,h3,fun us ms D a b c d=>q us ms D _ a b (Prs.kl (Same.new d).kl c) (Same.new d) d upd_same⟩
end
end L2

open PySem PySem.Spec PyProof PyProof.Rows
namespace L2
section
variable {X:Cx} {pins:List (Addr×Obj)} {σ:St} {H:Hp} {s:Shared}
end
section
variable {X:Cx}
end
end L2

open PySem PySem.Spec PyProof PyProof.Rows
namespace L2
section
variable {X:Cx}
noncomputable def WbAt (K:PySem.W.Frag) (H:Hp) (a:Addr) (n:Int) (ps:List (Int×Int)):Prop:=∃ (t:Addr) (us:List V),H a=some (.tup [.int n,.ref t])∧H t=some (.tup us)∧Prs K H ps us
end
end L2

namespace Pw
section
variable {ps ms:List (Int×Int)} {A:Int×Int} {Bs Ss:List (Int×Int)} {n:Nat}
end
end Pw

namespace Pw
section
variable {n:Nat} {A:Int×Int} {x y:Nat}
end
end Pw

open PySem PySem.Spec PyProof PyProof.Rows
namespace L2
section
variable {n:Nat} {A:Int×Int} {x y:Nat}
end
structure ShIn (K:PySem.W.Frag) (H:Hp) (w lp ls:Addr) (n:Nat) (ps:List (Int×Int)) (A:Int×Int) (Bs:List (Int×Int)) (us:List V) (S:Int):Prop where
 g:Gv K H w lp ls (n:Int) ps A Bs us
 pr:Pr A Bs S
 n12:n≤12
 sA:Sz2 140 A
 sS:Sz 140 S
theorem ShIn.same {K:PySem.W.Frag} {H H':Hp} {w lp ls:Addr} {n:Nat} {ps:List (Int×Int)} {A:Int×Int} {Bs:List (Int×Int)} {us:List V} {S:Int} (h:ShIn K H w lp ls n ps A Bs us S) (s:Same H H'):ShIn K H' w lp ls n ps A Bs us S:=⟨h.g.same s,h.pr,h.n12,h.sA,h.sS⟩
theorem sh_sz {ps:List (Int×Int)} {A:Int×Int} {Bs Ss:List (Int×Int)} {n:Nat} {V':Int} (ok:Pw.ShOk ps A Bs n Ss) (v0:0<V') (zV:Sz ((140+11) * 13+20) V') (dv:∀ S∈Ss,S.2 ∣ V'):∀ S∈Ss,Sz2 1983 S:=fun S hS=>by
 have c:=(ok.canon S hS).1
 have h1:=ok.nn S hS
 have h2:=ok.le1 S hS
 have h3:S.2≤V':=Int.le_of_dvd v0 (dv S hS)
 have h4:V'.natAbs<2 ^ 1983:=zV
 exact ⟨by show S.1.natAbs<2 ^ 1983;omega,by show S.2.natAbs<2 ^ 1983;omega⟩
noncomputable def spSh (K:PySem.W.Frag):Sp:=fun vs H Q _=>∃ (w lp ls:Addr) (n:Nat) (ps:List (Int×Int)) (A:Int×Int) (Bs:List (Int×Int)) (us:List V) (S:Int),vs=[.ref w,.ref lp,.ref ls]∧ShIn K H w lp ls n ps A Bs us S ∧
 ∀ (t:Addr) (H':Hp) (Ss:List (Int×Int)) (ys:List V),Pw.ShOk ps A Bs n Ss→(∀ S∈Ss,Sz2 1983 S)→Same H H'→H' t=some (.tup ys)→FrL K H' Ss ys→Q (.ref t) H'
theorem Def.sh {P:Program} {w:World} {K:PySem.W.Frag} {mg:Str→Option Value} {base:Heap} {k:Nat} (D:Def P w K mg base k "shares" ["web","leap","leaps"] (spShares K)):Def P w K mg base k "shares" ["web","leap","leaps"] (spSh K):=by
 obtain ⟨f,fd,F,m,b,G⟩:=D
 refine ⟨f,fd,F,m,b,G.imp fun vs H Q E h=>?_⟩
 obtain ⟨wa,lp,ls,n,ps,A,Bs,us,S,rfl,i,k⟩:=h
 refine ⟨wa,lp,ls,(n:Int),ps,A,Bs,us,S,140,rfl,i.g,i.pr,by have:=i.n12;omega,by decide,i.sA,i.sS,fun t H' Ss V' ys ok v0 zV dv s e f=>?_⟩
 rw [Int.toNat_natCast] at ok
 exact k t H' Ss ys ok (sh_sz ok v0 zV dv) s e f
end L2

open PySem PySem.Spec PyProof PyProof.Rows
namespace L2
end L2
namespace Pw
end Pw

open PySem PySem.Spec PyProof PyProof.Rows
namespace L2
section
variable {X:Cx}
end
end L2

namespace Pw
section
variable {ps ms:List (Int×Int)} {A:Int×Int} {Bs Ss:List (Int×Int)} {n:Nat}
theorem outs_cn (lk:∀ p∈ps,0≤p.2∧p.2<(n:Int)) {j k:Nat} (lk':∀ p∈ms,0≤p.2∧p.2<(n:Int)) (h:qs n (fun i=>(cn ps j i:Rat))=qs n (fun i=>(cn ms k i:Rat))):(outs ps (j:Int)).length=(outs ms (k:Int)).length:=by
 rw [cn_sum lk,cn_sum lk'] at h
 exact_mod_cast h
theorem way_same (ca:Canon A) (cb:Canons Bs) (hn:Bs.length=n) (lk:∀ p∈ps,0≤p.2∧p.2<(n:Int)) (lk':∀ p∈ms,0≤p.2∧p.2<(n:Int)) {j:Nat} (h:∀ i,i<n→cn ps j i=cn ms j i) {t:Nat} (ht:t<n) :
 val ((waysL ps A Bs (j:Nat)).getD t (0,1))=val ((waysL ms A Bs (j:Nat)).getD t (0,1)):=by
 have hl:=outs_cn (j:=j) (k:=j) lk lk' (qs_congr fun i hi=>by rw [h i hi])
 rw [way_val ca cb hn ht,way_val ca cb hn ht,h t ht,hl]
 by_cases ho:outs ps (j:Int)=[]
 · have ho':outs ms (j:Int)=[]:=List.length_eq_zero_iff.mp (by rw [← hl,ho];rfl)
   rw [if_pos ho,if_pos ho']
 · have ho':outs ms (j:Int)≠[]:=fun z=>ho (List.length_eq_zero_iff.mp (by rw [hl,z];rfl))
   rw [if_neg ho,if_neg ho']
theorem ShOk.ways (hw:∀ j t,j<n→t<n→val ((waysL ps A Bs (j:Nat)).getD t (0,1))=val ((waysL ms A Bs (j:Nat)).getD t (0,1))) (h:ShOk ps A Bs n Ss):ShOk ms A Bs n Ss:=by
 refine ⟨h.len,h.canon,h.nn,h.one,fun t ht=>?_⟩
 rw [← h.stay t ht]
 unfold behQ
 exact qs_congr fun j hj=>by rw [hw j t hj ht]
end
end Pw

open PySem PySem.Spec PyProof PyProof.Rows
namespace L2
theorem shin_w {K:PySem.W.Frag} {H:Hp} {w lp ls:Addr} {n:Nat} {ps:List (Int×Int)} {A:Int×Int} {ws:List Int} {us:List V} (hw:WbAt K H w (n:Int) ps) (few:ps.length≤100) (lk:∀ p∈ps,0≤p.1∧p.1<(n:Int)∧0≤p.2∧p.2<(n:Int)) (fA:FrA K H lp A) (ca:Pw.Canon A) (a0:0<A.1) (a1:A.1≤A.2) (sa:Sz2 41 A) (n1:1≤n) (n12:n≤12) (wt:Wts (n:Int) ws)
 (e:H ls=some (.tup us)) (f:FrL K H (lps ws) us):ShIn K H w lp ls n ps A (lps ws) us ws.sum:=by
 have pr:=Pr.drawn (pages:=(n:Int)) a0 a1 (by omega) wt
 have hl:=wt.len
 have hsum:ws.sum≤12 * 2 ^ 37:=by
  have h1:=Pw.sum_le (B:=2 ^ 37) fun k hk=>Int.le_of_lt (wt.nn k hk).2
  have h2:(ws.length:Int) * 2 ^ 37≤12 * 2 ^ 37:=Int.mul_le_mul_of_nonneg_right (by omega) (by decide)
  omega
 have hpos:=wt.pos
 have zS:Sz 41 ws.sum:=by unfold Sz;omega
 refine ⟨⟨hw,few,lk,fA,ca,sa.mono (by decide),e,f,lps_canon wt,fun B hB=>?_,by rw [lps_len];exact hl,by omega,by omega⟩,pr,n12,sa.mono (by decide),zS.mono (by decide)⟩
 obtain ⟨z,hz,rfl⟩:=List.mem_map.mp hB
 have hb:=wt.nn z hz
 exact (mk_sz (n:=41) (by omega) (by unfold Sz;omega) zS).mono (by decide)
theorem w_sz {n:Nat} {ws:List Int} (n12:n≤12) (wt:Wts (n:Int) ws):Sz 41 ws.sum:=by
 have hl:=wt.len
 have hsum:ws.sum≤12 * 2 ^ 37:=by
  have h1:=Pw.sum_le (B:=2 ^ 37) fun k hk=>Int.le_of_lt (wt.nn k hk).2
  have h2:(ws.length:Int) * 2 ^ 37≤12 * 2 ^ 37:=Int.mul_le_mul_of_nonneg_right (by omega) (by decide)
  omega
 have hpos:=wt.pos
 unfold Sz;omega
end L2

open PySem PySem.Spec PyProof PyProof.Rows
namespace Pw
end Pw
namespace L2
section
variable {ord:List Nat} {n:Nat} {Bs:List (Int×Int)}
end
theorem ShIn.kl {K:PySem.W.Frag} {H H':Hp} {w lp ls:Addr} {n:Nat} {ps:List (Int×Int)} {A:Int×Int} {Bs:List (Int×Int)} {us:List V} {S:Int} (h:ShIn K H w lp ls n ps A Bs us S) (s:KL H H'):ShIn K H' w lp ls n ps A Bs us S:=⟨h.g.kl s,h.pr,h.n12,h.sA,h.sS⟩
end L2

open PySem PySem.Spec PyProof PyProof.Rows
namespace Pw
end Pw
namespace L2
section
variable {K:PySem.W.Frag} {a:Addr} {xs:List V} {g:TG}
end
end L2

open PySem PySem.Spec PyProof PyProof.Rows
namespace Pw
end Pw
namespace L2
end L2

open PySem PySem.Spec PyProof PyProof.Rows
namespace L2
section
variable {X:Cx}
end
end L2

open PySem PySem.Spec PyProof PyProof.Rows
namespace L2
section
variable {X:Cx}
end
end L2

open PySem PySem.Spec PyProof PyProof.Rows
namespace Pw
end Pw
namespace L2
open Pw
section
variable {X:Cx}
end
end L2

open PySem PySem.Spec PyProof PyProof.Rows
namespace L2
end L2

open PySem PySem.Spec PyProof PyProof.Rows
namespace Pw
end Pw

open PySem PySem.Spec PyProof PyProof.Rows
namespace Pw
variable {ps ms:List (Int×Int)} {A:Int×Int} {Bs Ss:List (Int×Int)} {n:Nat} {S:Int}
theorem qs_at {n k:Nat} (h:k<n) (c:Rat):qs n (fun j=>if j=k then c else 0)=c:=by
 rw [qs_single h (fun i _ hi=>by rw [if_neg hi]),if_pos rfl]
end Pw
namespace L2
open Pw
variable {K:PySem.W.Frag} {H:Hp} {w lp ls:Addr} {n x y:Nat} {A:Int×Int} {us:List V} {S:Int}
end L2

open PySem PySem.Spec PyProof PyProof.Rows
namespace L2
open Pw
variable {K:PySem.W.Frag} {H:Hp} {w lp ls:Addr} {n x0 x1:Nat} {ps:List (Int×Int)} {A:Int×Int} {us:List V} {S:Int}
end L2

open PySem PySem.Spec PyProof PyProof.Rows
namespace L2
open Pw
theorem cutT {xs:List V} (i:Nat):cutV xs none (some (i:Int))=xs.take i:=by
 unfold cutV
 rw [HT.sIx_nat,HT.sIx_none,List.drop_zero,Nat.sub_zero]
 by_cases h:i≤xs.length
 · rw [Nat.min_eq_left h]
 · rw [Nat.min_eq_right (by omega),List.take_of_length_le (Nat.le_refl _),List.take_of_length_le (by omega)]
section
variable {X:Cx}
end
end L2

open PySem PySem.Spec PyProof PyProof.Rows
namespace Pw
end Pw

open PySem PySem.Spec PyProof PyProof.Rows
namespace Pw
noncomputable def sg (k:Nat):Rat:=if k % 2=0 then 1 else -1
theorem sg_succ (k:Nat):sg (k+1)=-sg k:=by
 unfold sg
 by_cases h:k % 2=0
 · rw [if_pos h,if_neg (by omega)]
 · rw [if_neg h,if_pos (by omega)];grind
theorem sg_zero:sg 0=1:=rfl
theorem sg_pm (k:Nat):sg k=1∨sg k=-1:=by
 unfold sg
 split
 · exact .inl rfl
 · exact .inr rfl
theorem expand_neg (r:Vec) (D:List Nat→Rat) (cs:List Nat):expand r (fun l=>-D l) cs=-expand r D cs:=by
 have:=expand_linD r (-1) 0 cs D D
 rw [expand_congrD (E:=fun l=>-1 * D l+0 * D l) (fun l=>by grind),this];grind
theorem det_swap:∀ (xs:List Vec) (a b:Vec) (ys:List Vec) (cols:List Nat),det (xs ++ a :: b :: ys) cols=-det (xs ++ b :: a :: ys) cols
 | [],a,b,ys,cols=>expand_swap a b cols (det ys)
 | x :: xs,a,b,ys,cols=>by
   show expand x (det (xs ++ a :: b :: ys)) cols=-expand x (det (xs ++ b :: a :: ys)) cols
   rw [← expand_neg]
   exact expand_congrD (det_swap xs a b ys) cols
theorem det_move (h:Vec) (ys:List Vec) (cols:List Nat):∀ (us xs:List Vec),det (xs ++ h :: (us ++ ys)) cols=sg us.length * det (xs ++ (us ++ h :: ys)) cols
 | [],xs=>by show det (xs ++ h :: ys) cols=sg 0 * det (xs ++ h :: ys) cols;rw [sg_zero];grind
 | u :: us,xs=>by
   have:=det_move h ys cols us (xs ++ [u])
   rw [List.append_assoc,List.append_assoc] at this
   show det (xs ++ h :: u :: (us ++ ys)) cols=sg (us.length+1) * det (xs ++ (u :: us ++ h :: ys)) cols
   rw [det_swap,sg_succ]
   show -det (xs ++ ([u] ++ h :: (us ++ ys))) cols=_
   rw [this]
   show -(sg us.length * det (xs ++ ([u] ++ (us ++ h :: ys))) cols)=-sg us.length * det (xs ++ ([u] ++ (us ++ h :: ys))) cols
   grind
noncomputable def skip (p c:Nat):Nat:=if c<p then c else c+1
theorem skip_id {p:Nat}:∀ {k:Nat},k≤p→(Kk k).map (skip p)=Kk k
 | 0,_=>rfl
 | k+1,h=>by
   show skip p k :: (Kk k).map (skip p)=k :: Kk k
   rw [skip_id (by omega)]
   unfold skip
   rw [if_pos (by omega)]
theorem lap (r:Vec):∀ (n:Nat) (D:List Nat→Rat),expand r D (Kk (n+1))=qs (n+1) (fun p=>sg (n - p) * (r p * D ((Kk n).map (skip p))))
 | 0,D=>by
   show r 0 * D [] - 0=0+sg 0 * (r 0 * D [])
   rw [sg_zero];grind
 | n+1,D=>by
   show r (n+1) * D (Kk (n+1)) - expand r (fun l=>D ((n+1) :: l)) (Kk (n+1))=qs (n+1) _+sg (n+1 - (n+1)) * (r (n+1) * D ((Kk (n+1)).map (skip (n+1))))
   rw [lap r n,skip_id (Nat.le_refl _),Nat.sub_self,sg_zero]
   have:qs (n+1) (fun p=>sg (n+1 - p) * (r p * D ((Kk (n+1)).map (skip p))))=(-1) * qs (n+1) (fun p=>sg (n - p) * (r p * D ((n+1) :: (Kk n).map (skip p)))):=by
    rw [← qs_mul]
    refine qs_congr fun p hp=>?_
    have e:(Kk (n+1)).map (skip p)=(n+1) :: (Kk n).map (skip p):=by
     show skip p n :: (Kk n).map (skip p)=_
     unfold skip
     rw [if_neg (by omega)]
    rw [e,show n+1 - p=(n - p)+1 by omega,sg_succ];grind
   rw [this];grind
noncomputable def updV (A:Nat→Vec) (k:Nat) (h:Vec):Nat→Vec:=fun i=>if i=k then h else A i
theorem Rk_upd {A:Nat→Vec} {k:Nat} {h:Vec}:∀ {l:Nat},l≤k→Rk (updV A k h) l=Rk A l
 | 0,_=>rfl
 | l+1,hl=>by
   show updV A k h l :: Rk _ l=A l :: Rk A l
   rw [Rk_upd (by omega)]
   unfold updV
   rw [if_neg (by omega)]
theorem Rk_new {A:Nat→Vec} {k:Nat} {h:Vec}:Rk (updV A k h) (k+1)=h :: Rk A k:=by
 show updV A k h k :: Rk _ k=_
 rw [Rk_upd (Nat.le_refl _)]
 unfold updV
 rw [if_pos rfl]
theorem BB_upd {A:Nat→Vec} {k:Nat} {h v:Vec} (j:Nat):BB (updV A k h) k v j=BB A k v j:=by
 unfold BB
 rw [Rk_upd (Nat.le_refl _)]
noncomputable def Dn (L:List Vec):Rat:=det L.reverse (Kk L.length)
structure Piv (L:List Vec) (k:Nat) (A:Nat→Vec) (R:List Vec) (s:Rat):Prop where
 len:L.length=k+R.length
 nz:∀ l,l≤k→dd A l≠0
 dn:Dn L=s * det (R.reverse ++ Rk A k) (Kk (k+R.length))
 mem:∀ r∈L,r∈R∨r∈Rk A k
 sub:∀ i,i<k→A i∈L
 subR:∀ r∈R,r∈L
 sgn:s=1∨s=-1
theorem Piv.start (L:List Vec) (A:Nat→Vec):Piv L 0 A L 1 where
 len:=by omega
 nz l hl:=by
  obtain rfl:l=0:=by omega
  rw [dd_zero];decide
 dn:=by
  unfold Dn
  show det L.reverse (Kk L.length)=1 * det (L.reverse ++ []) (Kk (0+L.length))
  rw [List.append_nil,Nat.zero_add];grind
 mem r hr:=.inl hr
 sub i hi:=absurd hi (Nat.not_lt_zero _)
 subR r hr:=hr
 sgn:=.inl rfl
theorem Piv.step {L:List Vec} {k:Nat} {A:Nat→Vec} {R1 R2:List Vec} {h:Vec} {s:Rat} (p:Piv L k A (R1 ++ h :: R2) s) (hz:BB A k h k≠0):Piv L (k+1) (updV A k h) (R1 ++ R2) (s * sg R1.length) where
 len:=by have:=p.len;rw [List.length_append,List.length_cons] at this;rw [List.length_append];omega
 nz l hl:=by
  by_cases e:l≤k
  · show det (Rk _ l) (Kk l)≠0
    rw [Rk_upd e];exact p.nz l e
  · obtain rfl:l=k+1:=by omega
    rw [dd_next,BB_upd]
    have:updV A k h k=h:=if_pos rfl
    rw [this];exact hz
 dn:=by
  rw [p.dn,Rk_new,List.reverse_append,List.reverse_cons,List.reverse_append]
  have e:k+(R1 ++ h :: R2).length=k+1+(R1 ++ R2).length:=by rw [List.length_append,List.length_append,List.length_cons];omega
  rw [e]
  have:=det_move h (Rk A k) (Kk (k+1+(R1 ++ R2).length)) R1.reverse R2.reverse
  rw [List.length_reverse] at this
  rw [show R2.reverse ++ [h] ++ R1.reverse ++ Rk A k=R2.reverse ++ h :: (R1.reverse ++ Rk A k) by simp,this,show R2.reverse ++ R1.reverse ++ h :: Rk A k=R2.reverse ++ (R1.reverse ++ h :: Rk A k) by simp]
  grind
 mem r hr:=by
  rw [Rk_new]
  rcases p.mem r hr with z | z
  · rcases List.mem_append.mp z with z | z
    · exact .inl (List.mem_append_left _ z)
    · rcases List.mem_cons.mp z with rfl | z
      · exact .inr (List.mem_cons_self ..)
      · exact .inl (List.mem_append_right _ z)
  · exact .inr (List.mem_cons_of_mem _ z)
 sub i hi:=by
  unfold updV
  split
  · exact p.subR h (List.mem_append_right _ (List.mem_cons_self ..))
  · exact p.sub i (by omega)
 subR r hr:=by
  rcases List.mem_append.mp hr with z | z
  · exact p.subR r (List.mem_append_left _ z)
  · exact p.subR r (List.mem_append_right _ (List.mem_cons_of_mem _ z))
 sgn:=by
  rcases p.sgn with z | z <;> rcases sg_pm R1.length with y | y <;> rw [z,y] <;> grind
theorem qs_ext {f:Nat→Rat} {k:Nat}:∀ {n:Nat},k≤n→(∀ c,k≤c→c<n→f c=0)→qs n f=qs k f
 | 0,h,_=>by
   obtain rfl:k=0:=by omega
   rfl
 | n+1,h,hf=>by
   by_cases e:k=n+1
   · rw [e]
   · show qs n f+f n=_
     rw [qs_ext (by omega) (fun c h1 h2=>hf c h1 (by omega)),hf n (by omega) (by omega)];grind
theorem Piv.kernel {L:List Vec} {k:Nat} {A:Nat→Vec} {R:List Vec} {s:Rat} (p:Piv L k A R s) (hz:∀ r∈R,BB A k r k=0) (hR:R≠[]):∃ z:Nat→Rat,(∃ c,c<L.length∧z c≠0)∧∀ r∈L,qs L.length (fun c=>r c * z c)=0:=by
 have hk:k<L.length:=by have:=p.len;have:=List.length_pos_iff.mpr hR;omega
 refine ⟨fun c=>if c≤k then sg (k - c) * det (Rk A k) ((Kk k).map (skip c)) else 0,⟨k,hk,?_⟩,fun r hr=>?_⟩
 · show (if k≤k then _ else _)≠(0:Rat)
   rw [if_pos (Nat.le_refl _),Nat.sub_self,sg_zero,skip_id (Nat.le_refl _)]
   have:=p.nz k (Nat.le_refl _)
   unfold dd at this
   grind
 · rw [qs_ext (k:=k+1) (by omega) (fun c h1 _=>by dsimp only;rw [if_neg (by omega)];grind)]
   have e:qs (k+1) (fun c=>r c * (if c≤k then sg (k - c) * det (Rk A k) ((Kk k).map (skip c)) else 0))=BB A k r k:=by
    show _=expand r (det (Rk A k)) (Kk (k+1))
    rw [lap]
    refine qs_congr fun c hc=>?_
    rw [if_pos (by omega)];grind
   rw [e]
   rcases p.mem r hr with z | z
   · exact hz r z
   · exact Nul.mem z _
theorem Piv.done {L:List Vec} {k:Nat} {A:Nat→Vec} {s:Rat} (p:Piv L k A [] s):Dn L≠0:=by
 have nz:=p.nz k (Nat.le_refl _)
 rw [p.dn]
 show s * dd A k≠0
 rcases p.sgn with z | z <;> rw [z] <;> grind
theorem det_or {L:List Vec}:∀ (m k:Nat) (A:Nat→Vec) (R:List Vec) (s:Rat),R.length=m→Piv L k A R s→Dn L≠0∨∃ z:Nat→Rat,(∃ c,c<L.length∧z c≠0)∧∀ r∈L,qs L.length (fun c=>r c * z c)=0
 | 0,k,A,R,s,hm,p=>by
   have:=List.length_eq_zero_iff.mp hm
   subst this
   exact .inl p.done
 | m+1,k,A,R,s,hm,p=>by
   by_cases h:∃ r,r∈R∧BB A k r k≠0
   · obtain ⟨r,hr,hb⟩:=h
     obtain ⟨R1,R2,rfl⟩:=List.append_of_mem hr
     exact det_or m (k+1) _ _ _ (by rw [List.length_append,List.length_cons] at hm;rw [List.length_append];omega) (p.step hb)
   · exact .inr (p.kernel (fun r hr=>Classical.byContradiction fun z=>h ⟨r,hr,z⟩) (fun z=>by rw [z] at hm;simp at hm))
end Pw

open PySem PySem.Spec PyProof PyProof.Rows
namespace Pw
section
variable {ps:List (Int×Int)} {A:Int×Int} {Bs Ss:List (Int×Int)} {n:Nat} {S:Int} {t:Nat→Nat→Int} {dn:Nat→Int}
end
end Pw

open PySem PySem.Spec PyProof PyProof.Rows
namespace Pw
theorem getD_mem' {α:Type} {l:List α} {i:Nat} {d:α} (h:i<l.length):l.getD i d∈l:=by
 rw [List.getD_eq_getElem?_getD,List.getElem?_eq_getElem h];exact List.getElem_mem h
end Pw
namespace L2
section
variable {X:Cx} {K:PySem.W.Frag}
end
end L2

open PySem PySem.Spec PyProof PyProof.Rows
namespace L2
end L2

open PySem PySem.Spec PyProof PyProof.Rows
namespace Pw
end Pw
namespace L2
section
variable {X:Cx}
end
theorem ShIn.szz {K:PySem.W.Frag} {H:Hp} {w lp ls:Addr} {n:Nat} {ps:List (Int×Int)} {A:Int×Int} {Bs:List (Int×Int)} {us:List V} {S:Int} {z:Nat} (i:ShIn K H w lp ls n ps A Bs us S) (sA:Sz z A.2) (sS:Sz z S) :
 ∃ (Ss:List (Int×Int)),Pw.ShOk ps A Bs n Ss∧(∀ R∈Ss,Sz2 ((z+11) * 13+20) R)∧∀ Ts,Pw.ShOk ps A Bs n Ts→Ts=Ss:=by
 have hn:Bs.length=n:=by have:=i.g.len;omega
 have lk:∀ p∈ps,0≤p.2∧p.2<(n:Int):=fun p hp=>(i.g.lk p hp).2.2
 obtain ⟨Ss,V',ok,v0,zV,dv⟩:=sh_ex i.g.few lk i.g.ca i.g.cb hn i.n12 i.pr sA sS
 refine ⟨Ss,ok,fun R hR=>?_,fun Ts ok'=>Pw.ShOk.unique lk i.g.ca i.g.cb hn i.pr ok' ok⟩
 have c:=(ok.canon R hR).1
 have h1:=ok.nn R hR
 have h2:=ok.le1 R hR
 have h3:R.2≤V':=Int.le_of_dvd v0 (dv R hR)
 exact ⟨le_sz h1 (Int.le_trans h2 h3) zV,le_sz (Int.le_of_lt c) h3 zV⟩
structure WyOk (ps:List (Int×Int)) (A:Int×Int) (Bs:List (Int×Int)) (n j:Nat) (T:List Int) (d:Int):Prop where
 len:T.length=n
 dpos:0<d
 dsz:Sz 287 d
 bd:∀ x∈T,0≤x∧x≤d
 val:∀ o,o<n→((T.getD o 0:Int):Rat)=(d:Rat) * Pw.val ((Pw.waysL ps A Bs (j:Nat)).getD o (0,1))
end L2
namespace Pw
theorem way_le1 {ps:List (Int×Int)} {A:Int×Int} {Bs:List (Int×Int)} {S:Int} {n j o:Nat} (lk:∀ p∈ps,0≤p.2∧p.2<(n:Int)) (ca:Canon A) (cb:Canons Bs) (hn:Bs.length=n) (pr:L2.Pr A Bs S) (ho:o<n) :
 0≤val ((waysL ps A Bs (j:Nat)).getD o (0,1))∧val ((waysL ps A Bs (j:Nat)).getD o (0,1))≤1:=by
 have one:=pr.one
 rw [hn] at one
 have nn:∀ t,t<n→0≤val ((waysL ps A Bs (j:Nat)).getD t (0,1)):=fun t ht=>by
  refine Rat.le_trans ?_ (way_ge ca cb hn pr ht)
  have h1:=val_pos ca.1 pr.a0
  have h2:0≤val (Bs.getD t (0,1)):=val_nn (cb.getD t).1 (pr.nn _ (L2.mem_getD (by omega)))
  exact Rat.mul_nonneg (Rat.le_of_lt h1) h2
 refine ⟨nn o ho,?_⟩
 have s:=ways_sum (page:=(j:Int)) lk ca cb hn one
 rw [← s]
 exact qs_ge ho nn
theorem wy_none {ps:List (Int×Int)} {A:Int×Int} {Bs:List (Int×Int)} {S L:Int} {n j:Nat} (lk:∀ p∈ps,0≤p.2∧p.2<(n:Int)) (ca:Canon A) (cb:Canons Bs) (hn:Bs.length=n) (pr:L2.Pr A Bs S) (hL:IsLcm Bs L) (sL:L2.Sz 140 L) (h:outs ps (j:Int)=[]):L2.WyOk ps A Bs n j (abv Bs L) L:=by
 have v:∀ o,o<n→(((abv Bs L).getD o 0:Int):Rat)=(L:Rat) * val ((waysL ps A Bs (j:Nat)).getD o (0,1)):=fun o ho=>by
  have m:=L2.mem_getD (Bs:=Bs) (t:=o) (by omega)
  have e:(abv Bs L).getD o 0=(Bs.getD o (0,1)).1 * (L.fdiv (Bs.getD o (0,1)).2):=by
   unfold abv
   rw [List.getD_eq_getElem?_getD,List.getElem?_map,List.getD_eq_getElem?_getD,List.getElem?_eq_getElem (by omega)];rfl
  rw [e,abv_val (cb _ m).1 hL.pos (hL.dvd _ m)]
  unfold waysL
  rw [if_pos h];grind
 refine ⟨by unfold abv;rw [List.length_map];exact hn,hL.pos,sL.mono (by decide),fun x hx=>?_,v⟩
 obtain ⟨o,ho,rfl⟩:=List.getElem_of_mem hx
 have ho':o<n:=by unfold abv at ho;rw [List.length_map] at ho;omega
 have e:=v o ho'
 rw [List.getD_eq_getElem?_getD,List.getElem?_eq_getElem ho] at e
 have b:=way_le1 (j:=j) lk ca cb hn pr ho'
 have l0:=cpos hL.pos
 have e:(((abv Bs L)[o]:Int):Rat)=(L:Rat) * val ((waysL ps A Bs (j:Nat)).getD o (0,1)):=e
 constructor
 · have:(0:Rat)≤(((abv Bs L)[o]:Int):Rat):=by rw [e];exact Rat.mul_nonneg (Rat.le_of_lt l0) b.1
   exact_mod_cast this
 · have:(((abv Bs L)[o]:Int):Rat)≤(L:Rat):=by
    rw [e]
    have:=Rat.mul_le_mul_of_nonneg_left b.2 (Rat.le_of_lt l0)
    grind
   exact_mod_cast this
end Pw

open PySem PySem.Spec PyProof PyProof.Rows
namespace L2
end L2

open PySem PySem.Spec PyProof PyProof.Rows
namespace L2
end L2

open PySem PySem.Spec PyProof PyProof.Rows
namespace Pw
section
variable {ps ms:List (Int×Int)} {A:Int×Int} {Bs Ss Ts:List (Int×Int)} {n:Nat} {S:Int}
end
end Pw

open PySem PySem.Spec PyProof PyProof.Rows
namespace L2
end L2

open PySem PySem.Spec PyProof PyProof.Rows
namespace L2
noncomputable def FnAt (K:PySem.W.Frag) (n:Str) (st:Stmt):Prop:=∃ f fd,PySem.W.nsIn K mainGlobals n=some (some (.ref f))∧Fun K n n st f fd
theorem FnAt.of {K:PySem.W.Frag} {n:Str} {st:Stmt} {f:Addr} {oc:Value} {od an:Option Addr} {osl:Array (Option Value)} {kV doc pm cdv ct:Value} (a:PySem.W.nsIn K mainGlobals n=some (some (.ref f))) (l:K.lookup f=some ⟨oc,od,.func (PySem.W.fnOf n n (defArgs st) (defBody st) (defScope st) .none kV doc pm an cdv ct),osl⟩)
 (c:PySem.W.codeIn K cdv n=true) (k:PySem.W.keepIn K (.ref f)=true):FnAt K n st:=⟨_,_,a,fun_mk l c k⟩
theorem FnAt.fnd {K:PySem.W.Frag} {h:Heap} {mg:Str→Option Value} {n:Str} {st:Stmt} (ps:List Str) (x:FnAt K n st) (XK:K.In h) (G:h.Ns mainGlobals mg)
 (b:∀ (kV doc pm:Value) (an:Option Addr) (cdv ct:Value) (us:List Value),us.length=ps.length→bindArgs (PySem.W.fnOf n n (defArgs st) (defBody st) (defScope st) .none kV doc pm an cdv ct) ⟨us,[]⟩=pure (ps.zip us)):Fnd K mg n st ps:=by
 obtain ⟨f,fd,a,F⟩:=x
 exact ⟨f,fd,F,PySem.W.mg_of XK G a,F.binds b⟩
end L2

open PySem PySem.Spec PyProof PyProof.Rows
namespace Pw
noncomputable def NZ (n:Nat) (f0:Nat→Nat→Int):Prop:=∀ l,l≤n→dd (aV f0) l≠0
theorem fF_okN {f0:Nat→Nat→Int} {n:Nat} (z0:NZ n f0):∀ k,k≤n→Stg (aV f0) n k (fF f0 k).1 (fF f0 k).2
 | 0,_=>by
   refine ⟨rfl,fun i j hi hj=>?_⟩
   rw [if_neg (by omega)]
   have e:vv (aV f0) 0 i=aV f0 i:=by unfold vv;rw [if_neg (by omega)]
   rw [e,BB_low _ (fun c hc=>by omega),dd_zero]
   show (f0 i j:Rat)=(f0 i j:Rat) * 1
   grind
 | k+1,hk=>(fF_okN z0 k (by omega)).next (aV_int f0) (by omega) fun l hl=>z0 l (by omega)
theorem fF_dN {f0:Nat→Nat→Int} {n:Nat} (z0:NZ n f0) {k:Nat} (hk:k≤n):(fF f0 k).2≠0:=fun z=>z0 k hk (by rw [← (fF_okN z0 k hk).d,z];rfl)
theorem Sgn.nz {f0:Nat→Nat→Int} {n:Nat} (s0:Sgn n 0 f0):NZ n f0:=fun l hl z=>by
 have:=(fF_ok s0 n (Nat.le_refl _)).2.2.2 l hl
 rw [z] at this
 exact absurd this (by decide)
theorem fF_solvesN {f0:Nat→Nat→Int} {n:Nat} (z0:NZ n f0) {i:Nat} (hi:i<n):qs n (fun j=>(f0 i j:Rat) * ((fF f0 n).1 j n:Rat))=((fF f0 n).2:Rat) * (f0 i n:Rat):=by
 have st:=fF_okN z0 n (Nat.le_refl _)
 have hx:∀ j,j<n→((fF f0 n).1 j n:Rat)=BB (aV f0) n (eV j) n:=fun j hj=>by
  have:=st.f j n hj (Nat.le_refl _)
  rw [if_neg (by omega)] at this
  have e:vv (aV f0) n j=eV j:=by unfold vv;rw [if_pos hj]
  rw [e] at this
  exact this
 have h0:=BB_row (aV f0) hi n
 have part:∀ m,m≤n→BB (aV f0) n (fun c=>if c<m then aV f0 i c else 0) n=(-1) * qs m (fun j=>(f0 i j:Rat) * BB (aV f0) n (eV j) n):=by
  intro m
  induction m with
  | zero =>
    intro _
    rw [BB_low _ (fun c hc=>by simp)]
    simp [qs]
  | succ m ih =>
    intro hm
    have e:BB (aV f0) n (fun c=>if c<m+1 then aV f0 i c else 0) n=BB (aV f0) n (fun c=>1 * (if c<m then aV f0 i c else 0)+(-(f0 i m:Rat)) * eV m c) n:=by
     have pt:∀ c:Nat,(if c<m+1 then aV f0 i c else 0)=1 * (if c<m then aV f0 i c else 0)+(-(f0 i m:Rat)) * eV m c:=fun c=>by
      unfold eV
      by_cases c1:c<m
      · rw [if_pos (by omega),if_pos c1,if_neg (by omega)];grind
      · by_cases c2:c=m
        · subst c2
          rw [if_pos (by omega),if_neg (by omega),if_pos rfl]
          show (f0 i c:Rat)=_
          grind
        · rw [if_neg (by omega),if_neg c1,if_neg c2];grind
     exact BB_congr _ (pt n) fun c _=>pt c
    rw [e,BB_lin,ih (by omega)]
    show _=(-1) * (qs m _+_)
    grind
 have split:BB (aV f0) n (aV f0 i) n=BB (aV f0) n (fun c=>1 * (if c<n then aV f0 i c else 0)+(-(f0 i n:Rat)) * eV n c) n:=by
  have pt:∀ c:Nat,c≤n→aV f0 i c=1 * (if c<n then aV f0 i c else 0)+(-(f0 i n:Rat)) * eV n c:=fun c hc=>by
   unfold eV
   by_cases c1:c<n
   · rw [if_pos c1,if_neg (by omega)];grind
   · have c2:c=n:=by omega
     subst c2
     rw [if_neg (by omega),if_pos rfl]
     show (f0 i c:Rat)=_
     grind
  exact BB_congr _ (pt n (Nat.le_refl _)) fun c hc=>pt c (by omega)
 rw [split,BB_lin,part n (Nat.le_refl _),BB_low _ eV_low] at h0
 have e2:eV n n=-1:=by unfold eV;rw [if_pos rfl]
 rw [e2,← st.d] at h0
 rw [qs_congr fun j hj=>by rw [hx j hj]]
 grind
theorem det_bdC {C U Y:Nat} (hY:C * U≤Y):∀ {rs:List Vec},(∀ r∈rs,∀ c,-((U:Nat):Rat)≤r c∧r c≤((U:Nat):Rat))→∀ cols:List Nat,cols.length≤C→-((Y ^ rs.length:Nat):Rat)≤det rs cols∧det rs cols≤((Y ^ rs.length:Nat):Rat)
 | [],_,cols,_=>by
   show -(((Y ^ 0:Nat)):Rat)≤1∧(1:Rat)≤((Y ^ 0:Nat):Rat)
   rw [Nat.pow_zero]
   exact ⟨by decide,by decide⟩
 | r :: rs,h,cols,hc=>by
   have ih:=det_bdC hY (rs:=rs) fun x hx=>h x (List.mem_cons_of_mem _ hx)
   have hV:=natnn (Y ^ rs.length)
   have hU:=natnn U
   obtain ⟨b1,b2⟩:=expand_bd (r:=r) hU hV (h r List.mem_cons_self) (cs:=cols) (D:=det rs) fun l hl=>ih l (by omega)
   have k1:((cols.length:Nat):Rat) * (((U:Nat):Rat) * ((Y ^ rs.length:Nat):Rat))≤((Y ^ (rs.length+1):Nat):Rat):=by
    rw [pow_succ']
    have e1:((cols.length:Nat):Rat) * ((U:Nat):Rat)≤((Y:Nat):Rat):=by
     have:((cols.length * U:Nat):Rat)≤((Y:Nat):Rat):=natle (Nat.le_trans (Nat.mul_le_mul_right U hc) hY)
     have e2:((cols.length * U:Nat):Rat)=((cols.length:Nat):Rat) * ((U:Nat):Rat):=by push_cast;rfl
     rw [← e2];exact this
    have e3:=mul_le_r e1 hV
    grind
   show -(((Y ^ (rs.length+1):Nat)):Rat)≤expand r (det rs) cols∧expand r (det rs) cols≤((Y ^ (rs.length+1):Nat):Rat)
   grind
theorem fF_bdN {f0:Nat→Nat→Int} {n U Y:Nat} (z0:NZ n f0) (hn:n≤13) (hU:1≤U) (hY:14 * U≤Y) (hb:∀ i j,(f0 i j).natAbs≤U) {k:Nat} (hk:k≤n):(∀ i j,i<n→j≤n→((fF f0 k).1 i j).natAbs≤Y ^ 14)∧(fF f0 k).2.natAbs≤Y ^ 14:=by
 have st:=fF_okN z0 k hk
 have hA:∀ i c,-((U:Nat):Rat)≤aV f0 i c∧aV f0 i c≤((U:Nat):Rat):=fun i c=>by
  have h:=hb i c
  have h1:((-(U:Int):Int):Rat)≤(f0 i c:Rat):=Rat.intCast_le_intCast.mpr (by omega)
  have h2:(f0 i c:Rat)≤(((U:Int)):Rat):=Rat.intCast_le_intCast.mpr (by omega)
  rw [Rat.intCast_neg] at h1
  exact ⟨h1,h2⟩
 have one:(1:Rat)≤((U:Nat):Rat):=natle hU
 have hE:∀ i c,-((U:Nat):Rat)≤eV i c∧eV i c≤((U:Nat):Rat):=fun i c=>by
  unfold eV
  split <;> grind
 have hY1:1≤Y:=by omega
 have toInt:∀ {x:Int} {m:Nat},m≤14→-((Y ^ m:Nat):Rat)≤(x:Rat)∧(x:Rat)≤((Y ^ m:Nat):Rat)→x.natAbs≤Y ^ 14:=fun {x m} hm h=>by
  have hp:=le_pow hY1 hm
  obtain ⟨h1,h2⟩:=h
  have h1':((-((Y ^ m:Nat):Int):Int):Rat)≤(x:Rat):=by rw [Rat.intCast_neg];exact h1
  have h2':(x:Rat)≤((((Y ^ m:Nat):Int)):Rat):=h2
  have a1:=Rat.intCast_le_intCast.mp h1'
  have a2:=Rat.intCast_le_intCast.mp h2'
  generalize Y ^ 14=z at *
  generalize Y ^ m=y at *
  omega
 have dB:-((Y ^ k:Nat):Rat)≤dd (aV f0) k∧dd (aV f0) k≤((Y ^ k:Nat):Rat):=by
  have:=det_bdC hY (rs:=Rk (aV f0) k) (fun r hr=>Rk_all (p:=fun r=>∀ c,-((U:Nat):Rat)≤r c∧r c≤((U:Nat):Rat)) hA k r hr) (Kk k) (by rw [Kk_len];omega)
  rwa [Rk_len] at this
 refine ⟨fun i j hi hj=>?_,toInt (m:=k) (by omega) (by rw [st.d];exact dB)⟩
 have e:=st.f i j hi hj
 split at e
 · split at e
   · exact toInt (m:=k) (by omega) (by rw [e];exact dB)
   · have hz:(fF f0 k).1 i j=0:=by exact_mod_cast e
     rw [hz];simp
 · refine toInt (m:=k+1) (by omega) ?_
   rw [e]
   have:=det_bdC hY (rs:=vv (aV f0) k i :: Rk (aV f0) k) (fun r hr=>by
    rcases List.mem_cons.mp hr with rfl | hr
    · unfold vv
      split
      · exact hE i
      · exact hA i
    · exact Rk_all (p:=fun r=>∀ c,-((U:Nat):Rat)≤r c∧r c≤((U:Nat):Rat)) hA k r hr) (j :: Kk k) (by rw [List.length_cons,Kk_len];omega)
   rwa [List.length_cons,Rk_len] at this
theorem Rk_range (A:Nat→Vec):∀ l,((List.range l).map A).reverse=Rk A l
 | 0=>rfl
 | l+1=>by
   rw [List.range_succ,List.map_append,List.reverse_append,Rk_range A l];rfl
theorem dd_ne {A:Nat→Vec} {l:Nat} (h:∀ z:Nat→Rat,(∀ i,i<l→qs l (fun c=>A i c * z c)=0)→∀ c,c<l→z c=0):dd A l≠0:=by
 have e:Dn ((List.range l).map A)=dd A l:=by
  unfold Dn dd
  rw [Rk_range,List.length_map,List.length_range]
 rcases det_or _ 0 (fun _ _=>0) _ 1 rfl (Piv.start ((List.range l).map A) _) with hd | ⟨z,⟨c,hc,hz⟩,hk⟩
 · rw [← e];exact hd
 · rw [List.length_map,List.length_range] at hc hk
   exact absurd (h z (fun i hi=>hk _ (List.mem_map.mpr ⟨i,List.mem_range.mpr hi,rfl⟩)) c hc) hz
theorem mz {a b:Rat} (ha:0<a) (h:a * b=0):b=0:=by grind
theorem mz' {a b:Rat} (hb:b≠0) (h:a * b=0):a=0:=by grind
theorem argmax (f:Nat→Rat):∀ {n:Nat},0<n→∃ i,i<n∧∀ j,j<n→f j≤f i
 | 1,_=>⟨0,by omega,fun j hj=>by rw [show j=0 by omega];exact Rat.le_refl⟩
 | n+2,_=>by
   obtain ⟨i,hi,h⟩:=argmax f (n:=n+1) (by omega)
   by_cases e:f (n+1)≤f i
   · refine ⟨i,by omega,fun j hj=>?_⟩
     by_cases z:j=n+1
     · rw [z];exact e
     · exact h j (by omega)
   · have e:f i≤f (n+1):=Rat.le_of_lt (Rat.not_le.mp e)
     refine ⟨n+1,by omega,fun j hj=>?_⟩
     by_cases z:j=n+1
     · rw [z];exact Rat.le_refl
     · exact Rat.le_trans (h j (by omega)) e
section
variable {ps:List (Int×Int)} {A:Int×Int} {Bs Ss:List (Int×Int)} {n:Nat} {S:Int}
theorem qs_fac (x:Nat→Rat) {j:Nat} (hj:j<n):qs n (fun t=>(fac ps A j t:Rat) * x t)=(A.2:Rat) * (mp ps j:Rat) * x j - ((A.2:Rat) - (A.1:Rat)) * qs n (fun t=>(cn ps j t:Rat) * x t):=by
 rw [qs_congr (g:=fun t=>(if t=j then (A.2:Rat) * (mp ps j:Rat) * x j else 0)+(-((A.2:Rat) - (A.1:Rat))) * ((cn ps j t:Rat) * x t)) fun t ht=>?_,qs_add,qs_mul,qs_at hj]
 · grind
 · rw [fac_cast]
   by_cases e:t=j
   · subst e;rw [if_pos rfl,if_pos rfl];grind
   · rw [if_neg e,if_neg e];grind
theorem low_le (lk:∀ p∈ps,0≤p.2∧p.2<(n:Int)) (a0:0<A.1) (a1:A.1≤A.2) {z:Nat→Rat} (hz:∀ i,i<n→z i=0∨qs n (fun c=>(fac ps A i c:Rat) * z c)=0):∀ c,c<n→z c≤0:=by
 intro c hc
 obtain ⟨i,hi,hm⟩:=argmax z (n:=n) (by omega)
 refine Rat.le_trans (hm c hc) (Rat.not_lt.mp fun pos=>?_)
 rcases hz i hi with e | e
 · rw [e] at pos;exact absurd pos (by decide)
 · rw [qs_fac z hi] at e
   have hs:qs n (fun t=>(cn ps i t:Rat) * z t)≤(mp ps i:Rat) * z i:=by
    have h1:qs n (fun t=>(cn ps i t:Rat) * z t)≤qs n (fun t=>z i * (cn ps i t:Rat)):=qs_le fun t ht=>by
     have c0:(0:Rat)≤(cn ps i t:Rat):=by
      have:(0:Int)≤cn ps i t:=by unfold cn;omega
      exact_mod_cast this
     have:=Rat.mul_nonneg c0 (show 0≤z i - z t by have:=hm t ht;grind)
     grind
    rw [qs_mul,cn_sum lk] at h1
    have m2:(((outs ps (i:Int)).length:Nat):Rat)≤(mp ps i:Rat):=by
     have:((((outs ps (i:Int)).length:Nat):Int):Rat)≤(mp ps i:Rat):=Rat.intCast_le_intCast.mpr (mp_ge ps i).2
     exact this
    have:=Rat.mul_nonneg (Rat.le_of_lt pos) (show 0≤(mp ps i:Rat) - (((outs ps (i:Int)).length:Nat):Rat) by grind)
    grind
   have b0:(0:Rat)<(A.1:Rat):=cpos a0
   have b1:(0:Rat)≤(A.2:Rat) - (A.1:Rat):=by
    have:(A.1:Rat)≤(A.2:Rat):=Rat.intCast_le_intCast.mpr a1
    grind
   have mpos:(0:Rat)<(mp ps i:Rat):=cpos (by have:=(mp_ge ps i).1;omega)
   have:=Rat.mul_nonneg b1 (show 0≤(mp ps i:Rat) * z i - qs n (fun t=>(cn ps i t:Rat) * z t) by grind)
   have:=Rat.mul_pos b0 (Rat.mul_pos mpos pos)
   grind
theorem high_le (lk:∀ p∈ps,0≤p.2∧p.2<(n:Int)) (ca:Canon A) (cb:Canons Bs) (hn:Bs.length=n) (pr:L2.Pr A Bs S) (ok:ShOk ps A Bs n Ss) {x:Nat→Rat} (hx:∀ i,i<n→x i=0∨x i=qs n (fun t=>val ((waysL ps A Bs (i:Nat)).getD t (0,1)) * x t)) {e:Nat} (he:e<n) (xe:x e=0) (se:0<val (Ss.getD e (0,1))):∀ c,c<n→x c≤0:=by
 intro c hc
 obtain ⟨i,hi,hm⟩:=argmax x (n:=n) (by omega)
 refine Rat.le_trans (hm c hc) (Rat.not_lt.mp fun pos=>?_)
 have one:=pr.one
 rw [hn] at one
 have a0:=val_pos ca.1 pr.a0
 have wn:∀ j t,t<n→0≤val ((waysL ps A Bs (j:Nat)).getD t (0,1)):=fun j t ht=>(way_le1 lk ca cb hn pr ht).1
 have bn:∀ t,t<n→0≤val (Bs.getD t (0,1)):=fun t ht=>val_nn (cb.getD t).1 (pr.nn _ (L2.mem_getD (by omega)))
 have top:∀ j,j<n→x j=x i→∀ t,t<n→val ((waysL ps A Bs (j:Nat)).getD t (0,1)) * (x i - x t)=0:=fun j hj ej t ht=>by
  have e1:x j=qs n (fun t=>val ((waysL ps A Bs (j:Nat)).getD t (0,1)) * x t):=by
   rcases hx j hj with z | z
   · rw [ej] at z;rw [z] at pos;exact absurd pos (by decide)
   · exact z
  have nn:∀ t,t<n→0≤val ((waysL ps A Bs (j:Nat)).getD t (0,1)) * (x i - x t):=fun t ht=>Rat.mul_nonneg (wn j t ht) (by have:=hm t ht;grind)
  have sum:qs n (fun t=>val ((waysL ps A Bs (j:Nat)).getD t (0,1)) * (x i - x t))=0:=by
   rw [qs_congr (g:=fun t=>x i * val ((waysL ps A Bs (j:Nat)).getD t (0,1))+(-1) * (val ((waysL ps A Bs (j:Nat)).getD t (0,1)) * x t)) fun t _=>by grind,qs_add,qs_mul,qs_mul,ways_sum lk ca cb hn one,← e1,ej];grind
  have:=qs_ge ht nn
  rw [sum] at this
  exact Rat.le_antisymm this (nn t ht)
 generalize hI:(fun t:Nat=>if x t=x i then (0:Rat) else 1)=I
 have I0:∀ t,x t=x i→I t=0:=fun t h=>by rw [← hI];exact if_pos h
 have I1:∀ t,x t≠x i→I t=1:=fun t h=>by rw [← hI];exact if_neg h
 have bI:∀ t,t<n→x t≠x i→val (Bs.getD t (0,1))=0:=fun t ht h=>by
  have h1:=top i hi rfl t ht
  have h2:val ((waysL ps A Bs (i:Nat)).getD t (0,1))=0:=mz' (show x i - x t≠0 from fun z=>h (by clear hm hx h1;grind)) h1
  have h3:=way_ge (ps:=ps) (j:=i) ca cb hn pr ht
  rw [h2] at h3
  have h4:=bn t ht
  have h5:=Rat.mul_nonneg (Rat.le_of_lt a0) h4
  have h6:val A * val (Bs.getD t (0,1))=0:=Rat.le_antisymm h3 h5
  exact mz a0 h6
 have row:∀ j,j<n→qs n (fun t=>val ((waysL ps A Bs (j:Nat)).getD t (0,1)) * I t)≤(1 - val A) * I j:=fun j hj=>by
  by_cases h:x j=x i
  · rw [I0 j h,qs_congr (g:=fun _=>0) fun t ht=>?_,qs_zero]
    · grind
    · have:=top j hj h t ht
      by_cases z:x t=x i
      · rw [I0 t z];grind
      · rw [I1 t z]
        have w0:=mz' (show x i - x t≠0 from fun y=>z (by clear hm hx;grind)) this
        rw [w0];grind
  · rw [I1 j h]
    have h1:qs n (fun t=>val ((waysL ps A Bs (j:Nat)).getD t (0,1)) * I t)≤qs n (fun t=>val ((waysL ps A Bs (j:Nat)).getD t (0,1))+(-val A) * val (Bs.getD t (0,1))):=qs_le fun t ht=>by
     by_cases z:x t=x i
     · rw [I0 t z]
       have:=way_ge (ps:=ps) (j:=j) ca cb hn pr ht
       grind
     · rw [I1 t z,bI t ht z];grind
    rw [qs_add,qs_mul,ways_sum lk ca cb hn one,one] at h1
    grind
 have key:qs n (fun t=>val (Ss.getD t (0,1)) * I t)≤(1 - val A) * qs n (fun t=>val (Ss.getD t (0,1)) * I t):=by
  have e1:qs n (fun t=>val (Ss.getD t (0,1)) * I t)=qs n (fun j=>val (Ss.getD j (0,1)) * qs n (fun t=>val ((waysL ps A Bs (j:Nat)).getD t (0,1)) * I t)):=by
   rw [qs_congr (g:=fun t=>qs n (fun j=>val (Ss.getD j (0,1)) * (val ((waysL ps A Bs (j:Nat)).getD t (0,1)) * I t))) fun t ht=>?_,qs_swap]
   · exact qs_congr fun j _=>by rw [qs_mul]
   · have:=ok.stay t ht
     unfold behQ at this
     rw [← this,qs_congr (f:=fun j=>val (Ss.getD j (0,1)) * (val ((waysL ps A Bs (j:Nat)).getD t (0,1)) * I t)) (g:=fun j=>I t * (val (Ss.getD j (0,1)) * val ((waysL ps A Bs (j:Nat)).getD t (0,1)))) fun j _=>by grind,qs_mul];grind
  have e2:qs n (fun j=>val (Ss.getD j (0,1)) * qs n (fun t=>val ((waysL ps A Bs (j:Nat)).getD t (0,1)) * I t))≤qs n (fun j=>(1 - val A) * (val (Ss.getD j (0,1)) * I j)):=qs_le fun j hj=>by
   have:=Rat.mul_nonneg (ok.v_nn hj) (show 0≤(1 - val A) * I j - qs n (fun t=>val ((waysL ps A Bs (j:Nat)).getD t (0,1)) * I t) by have:=row j hj;grind)
   grind
  rw [qs_mul] at e2
  rw [← e1] at e2
  exact e2
 have Ie:I e=1:=I1 e (by rw [xe];intro z;rw [← z] at pos;exact absurd pos (by decide))
 have big:val (Ss.getD e (0,1))≤qs n (fun t=>val (Ss.getD t (0,1)) * I t):=by
  have:=qs_ge (f:=fun t=>val (Ss.getD t (0,1)) * I t) he fun t ht=>Rat.mul_nonneg (ok.v_nn ht) (by by_cases z:x t=x i;(rw [I0 t z];decide);(rw [I1 t z];decide))
  have h:val (Ss.getD e (0,1)) * I e≤_:=this
  rw [Ie] at h
  grind
 generalize qs n (fun t=>val (Ss.getD t (0,1)) * I t)=Pq at *
 have:=Rat.mul_pos a0 (show 0<Pq by grind)
 grind
theorem fac_way (lk:∀ p∈ps,0≤p.2∧p.2<(n:Int)) (ca:Canon A) (cb:Canons Bs) (hn:Bs.length=n) {x:Nat→Rat} {xL r:Rat} {j:Nat} (hj:j<n) (hL:xL=qs n (fun t=>val (Bs.getD t (0,1)) * x t))
 (h:qs n (fun t=>(fac ps A j t:Rat) * x t)+(-qs n (fun t=>(fac ps A j t:Rat))) * xL=r * ((A.2:Rat) * (mp ps j:Rat))):x j=r+qs n (fun t=>val ((waysL ps A Bs (j:Nat)).getD t (0,1)) * x t):=by
 have s1:qs n (fun t=>(fac ps A j t:Rat))=(A.2:Rat) * (mp ps j:Rat) - ((A.2:Rat) - (A.1:Rat)) * (((outs ps (j:Int)).length:Nat):Rat):=by
  have:=qs_fac (ps:=ps) (A:=A) (n:=n) (fun _=>1) hj
  rw [qs_congr (g:=fun t=>(fac ps A j t:Rat)) fun t _=>by grind,qs_congr (f:=fun t=>(cn ps j t:Rat) * 1) (g:=fun t=>(cn ps j t:Rat)) fun t _=>by grind,cn_sum lk] at this
  rw [this];grind
 rw [qs_fac x hj,s1] at h
 have b2:=cpos ca.1
 have hA:val A=(A.1:Rat) / (A.2:Rat):=rfl
 by_cases ho:outs ps (j:Int)=[]
 · have hm:(mp ps j:Rat)=1:=by unfold mp;rw [ho];rfl
   have hc:qs n (fun t=>(cn ps j t:Rat) * x t)=0:=by
    rw [qs_congr (g:=fun _=>0) fun t _=>?_,qs_zero]
    have:(cn ps j t:Rat)=0:=by unfold cn;rw [ho];rfl
    rw [this];grind
   rw [ho,hm,hc] at h
   have h:(A.2:Rat) * 1 * x j - ((A.2:Rat) - (A.1:Rat)) * 0+-((A.2:Rat) * 1 - ((A.2:Rat) - (A.1:Rat)) * 0) * xL=r * ((A.2:Rat) * 1):=h
   rw [qs_congr (g:=fun t=>val (Bs.getD t (0,1)) * x t) fun t ht=>by rw [way_val ca cb hn ht,if_pos ho],← hL]
   have:(A.2:Rat)≠0:=by grind
   grind
 · have hm:(mp ps j:Rat)=(((outs ps (j:Int)).length:Nat):Rat):=by
    unfold mp
    have:max 1 (outs ps (j:Int)).length=(outs ps (j:Int)).length:=by
     have:=List.length_pos_iff.mpr ho
     omega
    rw [this];rfl
   have m0:(0:Rat)<(((outs ps (j:Int)).length:Nat):Rat):=by exact_mod_cast List.length_pos_iff.mpr ho
   rw [qs_congr (g:=fun t=>val A * (val (Bs.getD t (0,1)) * x t)+((1 - val A) / (((outs ps (j:Int)).length:Nat):Rat)) * ((cn ps j t:Rat) * x t)) fun t ht=>?_,qs_add,qs_mul,qs_mul,← hL,hA]
   · rw [hm] at h
     generalize (((outs ps (j:Int)).length:Nat):Rat)=M at *
     generalize qs n (fun t=>(cn ps j t:Rat) * x t)=Cx at *
     have h1:(A.2:Rat)≠0:=by grind
     have h2:M≠0:=by grind
     grind
   · rw [way_val ca cb hn ht,if_neg ho]
     have h2:(((outs ps (j:Int)).length:Nat):Rat)≠0:=by grind
     grind
noncomputable def arF (ps:List (Int×Int)) (A:Int×Int) (Bs:List (Int×Int)) (L:Int) (n:Nat) (E:Nat→Option Int) (st:Int) (i j:Nat):Int :=
 if i<n then
  (match E i with
  | some v=>if j<n then (if j=i then 1 else 0) else if j=n then 0 else if j=n+1 then v else 0
  | none=>if j<n then fac ps A i j else if j=n then -(((List.range n).map fun t=>fac ps A i t).sum) else if j=n+1 then st * A.2 * mp ps i else 0)
 else if i=n then (if j<n then -((abv Bs L).getD j 0) else if j=n then L else 0) else 0
variable {L st:Int} {E:Nat→Option Int}
theorem arF_end {i:Nat} {v:Int} (hi:i<n) (h:E i=some v) (y:Nat→Rat):qs n (fun c=>(arF ps A Bs L n E st i c:Rat) * y c)=y i:=by
 rw [qs_congr (g:=fun c=>if c=i then y i else 0) fun c hc=>?_,qs_at hi]
 unfold arF
 rw [if_pos hi,h]
 show (((if c<n then (if c=i then 1 else 0) else if c=n then 0 else if c=n+1 then v else 0:Int)):Rat) * y c=_
 rw [if_pos hc]
 by_cases e:c=i
 · subst e;rw [if_pos rfl,if_pos rfl];grind
 · rw [if_neg e,if_neg e];grind
theorem arF_go {i:Nat} (hi:i<n) (h:E i=none) (y:Nat→Rat):qs n (fun c=>(arF ps A Bs L n E st i c:Rat) * y c)=qs n (fun c=>(fac ps A i c:Rat) * y c):=qs_congr fun c hc=>by
 unfold arF
 rw [if_pos hi,h]
 show (((if c<n then fac ps A i c else if c=n then -(((List.range n).map fun t=>fac ps A i t).sum) else if c=n+1 then st * A.2 * mp ps i else 0:Int)):Rat) * y c=_
 rw [if_pos hc]
theorem arF_goL {i:Nat} (hi:i<n) (h:E i=none):(arF ps A Bs L n E st i n:Rat)=-qs n (fun t=>(fac ps A i t:Rat)):=by
 unfold arF
 rw [if_pos hi,h]
 show (((if n<n then fac ps A i n else if n=n then -(((List.range n).map fun t=>fac ps A i t).sum) else if n=n+1 then st * A.2 * mp ps i else 0:Int)):Rat)=_
 rw [if_neg (Nat.lt_irrefl _),if_pos rfl,Rat.intCast_neg,qs_ints]
theorem arF_goR {i:Nat} (hi:i<n) (h:E i=none):arF ps A Bs L n E st i (n+1)=st * A.2 * mp ps i:=by
 unfold arF
 rw [if_pos hi,h]
 show (if n+1<n then fac ps A i (n+1) else if n+1=n then -(((List.range n).map fun t=>fac ps A i t).sum) else if n+1=n+1 then st * A.2 * mp ps i else 0:Int)=_
 rw [if_neg (by omega),if_neg (by omega),if_pos rfl]
theorem arF_endL {i:Nat} {v:Int} (hi:i<n) (h:E i=some v):arF ps A Bs L n E st i n=0∧arF ps A Bs L n E st i (n+1)=v:=by
 unfold arF
 rw [if_pos hi,if_pos hi,h]
 show (if n<n then (if n=i then 1 else 0) else if n=n then 0 else if n=n+1 then v else 0:Int)=0∧(if n+1<n then (if n+1=i then 1 else 0) else if n+1=n then 0 else if n+1=n+1 then v else 0:Int)=v
 rw [if_neg (Nat.lt_irrefl _),if_pos rfl,if_neg (by omega),if_neg (by omega),if_pos rfl]
 exact ⟨rfl,rfl⟩
theorem arF_leap (cb:Canons Bs) (hn:Bs.length=n) (hL:IsLcm Bs L) (y:Nat→Rat):qs n (fun c=>(arF ps A Bs L n E st n c:Rat) * y c)=-((L:Rat) * qs n (fun t=>val (Bs.getD t (0,1)) * y t)):=by
 rw [qs_congr (g:=fun c=>(-(L:Rat)) * (val (Bs.getD c (0,1)) * y c)) fun c hc=>?_,qs_mul]
 · grind
 · unfold arF
   rw [if_neg (Nat.lt_irrefl _),if_pos rfl,if_pos hc,Rat.intCast_neg]
   have m:=L2.mem_getD (Bs:=Bs) (t:=c) (by omega)
   have e:(abv Bs L).getD c 0=(Bs.getD c (0,1)).1 * (L.fdiv (Bs.getD c (0,1)).2):=by
    unfold abv
    rw [List.getD_eq_getElem?_getD,List.getElem?_map,List.getD_eq_getElem?_getD,List.getElem?_eq_getElem (by omega)];rfl
   rw [e,abv_val (cb _ m).1 hL.pos (hL.dvd _ m)];grind
theorem arF_leapL:arF ps A Bs L n E st n n=L∧arF ps A Bs L n E st n (n+1)=0:=by
 unfold arF
 rw [if_neg (Nat.lt_irrefl _),if_pos rfl,if_neg (Nat.lt_irrefl _),if_pos rfl,if_neg (Nat.lt_irrefl _),if_pos rfl,if_neg (by omega),if_neg (by omega)]
 exact ⟨rfl,rfl⟩
theorem arF_nz (lk:∀ p∈ps,0≤p.2∧p.2<(n:Int)) (ca:Canon A) (cb:Canons Bs) (hn:Bs.length=n) (pr:L2.Pr A Bs S) (hL:IsLcm Bs L) (ok:ShOk ps A Bs n Ss) {e:Nat} (he:e<n) (hE:(E e).isSome=true) (se:0<val (Ss.getD e (0,1))):NZ (n+1) (arF ps A Bs L n E st):=by
 intro l hl
 refine dd_ne fun z hz=>?_
 by_cases h:l≤n
 · -- pages alone
   have key:∀ s:Rat,(s=1∨s=-1)→∀ c,c<n→s * (if c<l then z c else 0)≤0:=fun s _=>low_le (z:=fun c=>s * (if c<l then z c else 0)) lk pr.a0 pr.a1 fun i hi=>by
    by_cases il:i<l
    · have hzi:=hz i il
      have ext:qs n (fun c=>(arF ps A Bs L n E st i c:Rat) * (if c<l then z c else 0))=0:=by
       rw [qs_ext h fun c h1 h2=>by rw [if_neg (by omega)];grind,← hzi]
       exact qs_congr fun c hc=>by rw [if_pos hc];rfl
      cases hEi:E i with
      | some v =>
        rw [arF_end hi hEi] at ext
        left
        show s * (if i<l then z i else 0)=0
        rw [ext];grind
      | none =>
        rw [arF_go hi hEi] at ext
        right
        rw [qs_congr (g:=fun c=>s * ((fac ps A i c:Rat) * (if c<l then z c else 0))) fun c _=>by grind,qs_mul,ext];grind
    · left
      show s * (if i<l then z i else 0)=0
      rw [if_neg il];grind
   intro c hc
   have k1:=key 1 (.inl rfl) c (by omega)
   have k2:=key (-1) (.inr rfl) c (by omega)
   rw [if_pos hc] at k1 k2
   grind
 · obtain rfl:l=n+1:=by omega
   have l0:=cpos hL.pos
   have rL:=hz n (by omega)
   have rL:qs n (fun c=>(arF ps A Bs L n E st n c:Rat) * z c)+(arF ps A Bs L n E st n n:Rat) * z n=0:=rL
   rw [arF_leap cb hn hL,arF_leapL.1] at rL
   have zL:z n=qs n (fun t=>val (Bs.getD t (0,1)) * z t):=by
    have:(L:Rat)≠0:=by grind
    grind
   have pages:∀ i,i<n→(z i=0∨z i=qs n (fun t=>val ((waysL ps A Bs (i:Nat)).getD t (0,1)) * z t))∧((E i).isSome=true→z i=0):=fun i hi=>by
    have r:=hz i (by omega)
    have r:qs n (fun c=>(arF ps A Bs L n E st i c:Rat) * z c)+(arF ps A Bs L n E st i n:Rat) * z n=0:=r
    cases hEi:E i with
    | some v =>
      rw [arF_end hi hEi,(arF_endL hi hEi).1] at r
      have:z i=0:=by
       have h0:((0:Int):Rat)=0:=rfl
       rw [h0] at r
       grind
      exact ⟨.inl this,fun _=>this⟩
    | none =>
      rw [arF_go hi hEi,arF_goL hi hEi] at r
      have:=fac_way (r:=0) lk ca cb hn hi zL (by rw [r];grind)
      refine ⟨.inr (by rw [this];grind),fun h=>by simp at h⟩
   have ze:=(pages e he).2 hE
   have k1:=high_le lk ca cb hn pr ok (x:=z) (fun i hi=>(pages i hi).1) he ze se
   have k2:=high_le lk ca cb hn pr ok (x:=fun c=>-z c) (fun i hi=>by
    rcases (pages i hi).1 with h | h
    · left;show -z i=0;rw [h];grind
    · right
      show -z i=_
      rw [qs_congr (g:=fun t=>(-1) * (val ((waysL ps A Bs (i:Nat)).getD t (0,1)) * z t)) fun t _=>by grind,qs_mul,← h];grind) he (by show -z e=0;rw [ze];grind) se
   have zp:∀ c,c<n→z c=0:=fun c hc=>by
    have a:=k1 c hc
    have b:-z c≤0:=k2 c hc
    grind
   intro c hc
   by_cases cn:c<n
   · exact zp c cn
   · obtain rfl:c=n:=by omega
     rw [zL,qs_congr (g:=fun _=>0) fun t ht=>by rw [zp t ht];grind,qs_zero]
structure ArOk (ps:List (Int×Int)) (A:Int×Int) (Bs:List (Int×Int)) (n:Nat) (E:Nat→Option Int) (st:Int) (Xs:List (Int×Int)):Prop where
 len:Xs.length=n
 canon:Canons Xs
 ends:∀ i v,i<n→E i=some v→Xs.getD i (0,1)=(v,1)
 go:∀ i,i<n→E i=none→val (Xs.getD i (0,1))=(st:Rat)+qs n (fun t=>val ((waysL ps A Bs (i:Nat)).getD t (0,1)) * val (Xs.getD t (0,1)))
theorem arF_ok (lk:∀ p∈ps,0≤p.2∧p.2<(n:Int)) (ca:Canon A) (cb:Canons Bs) (hn:Bs.length=n) (pr:L2.Pr A Bs S) (hL:IsLcm Bs L) (nz:NZ (n+1) (arF ps A Bs L n E st)):ArOk ps A Bs n E st ((List.range n).map fun i=>mk ((fF (arF ps A Bs L n E st) (n+1)).1 i (n+1)) (fF (arF ps A Bs L n E st) (n+1)).2):=by
 have d0:=fF_dN nz (Nat.le_refl _)
 generalize hX:(fF (arF ps A Bs L n E st) (n+1)).1=X at *
 generalize hd:(fF (arF ps A Bs L n E st) (n+1)).2=d at *
 have sol:∀ i,i<n+1→qs n (fun j=>(arF ps A Bs L n E st i j:Rat) * (X j (n+1):Rat))+(arF ps A Bs L n E st i n:Rat) * (X n (n+1):Rat)=(d:Rat) * (arF ps A Bs L n E st i (n+1):Rat):=fun i hi=>by
  have:=fF_solvesN nz hi
  rw [hX,hd] at this
  exact this
 have dq:(d:Rat)≠0:=castne d0
 have g:∀ i,i<n→((List.range n).map fun i=>mk (X i (n+1)) d).getD i (0,1)=mk (X i (n+1)) d:=fun i hi=>by
  rw [List.getD_eq_getElem?_getD,List.getElem?_map,List.getElem?_range hi];rfl
 have vg:∀ i,i<n→val (((List.range n).map fun i=>mk (X i (n+1)) d).getD i (0,1))=(X i (n+1):Rat) / (d:Rat):=fun i hi=>by rw [g i hi,val_mk d0]
 have l0:=cpos hL.pos
 have rL:=sol n (by omega)
 rw [arF_leap cb hn hL,arF_leapL.1,arF_leapL.2] at rL
 have h0:((0:Int):Rat)=0:=rfl
 rw [h0] at rL
 have zL:(X n (n+1):Rat) / (d:Rat)=qs n (fun t=>val (Bs.getD t (0,1)) * ((X t (n+1):Rat) / (d:Rat))):=by
  rw [qs_congr (g:=fun t=>(1 / (d:Rat)) * (val (Bs.getD t (0,1)) * (X t (n+1):Rat))) fun t _=>by grind,qs_mul]
  have:(L:Rat)≠0:=by grind
  grind
 refine ⟨by rw [List.length_map,List.length_range],fun R hR=>?_,fun i v hi h=>?_,fun i hi h=>?_⟩
 · obtain ⟨i,_,rfl⟩:=List.mem_map.mp hR
   exact canon_mk d0
 · have r:=sol i (by omega)
   rw [arF_end hi h,(arF_endL hi h).1,(arF_endL hi h).2,h0] at r
   refine val_inj (by rw [g i hi];exact canon_mk d0) ⟨(by show (0:Int)<1;decide),by show Int.gcd v 1=1;exact Int.gcd_one⟩ ?_
   rw [vg i hi]
   have:val (v,1)=(v:Rat):=by
    unfold val
    show (v:Rat) / ((1:Int):Rat)=v
    have:((1:Int):Rat)=1:=rfl
    rw [this];grind
   rw [this]
   grind
 · have r:=sol i (by omega)
   rw [arF_go hi h,arF_goL hi h,arF_goR hi h,Rat.intCast_mul,Rat.intCast_mul] at r
   have:=fac_way (x:=fun t=>(X t (n+1):Rat) / (d:Rat)) (r:=(st:Rat)) lk ca cb hn hi zL (by
    rw [qs_congr (g:=fun t=>(1 / (d:Rat)) * ((fac ps A i t:Rat) * (X t (n+1):Rat))) fun t _=>by grind,qs_mul]
    grind)
   rw [vg i hi]
   have this:(X i (n+1):Rat) / (d:Rat)=_:=this
   rw [this]
   congr 1
   exact qs_congr fun t ht=>by rw [vg t ht]
end
end Pw

open PySem PySem.Spec PyProof PyProof.Rows
namespace Pw
noncomputable def arXs (ps:List (Int×Int)) (A:Int×Int) (Bs:List (Int×Int)) (L:Int) (n:Nat) (E:Nat→Option Int) (st:Int):List (Int×Int):=(List.range n).map fun i=>mk ((fF (arF ps A Bs L n E st) (n+1)).1 i (n+1)) (fF (arF ps A Bs L n E st) (n+1)).2
theorem IsLcm.uniq {Bs:List (Int×Int)} {L L':Int} (h:IsLcm Bs L) (h':IsLcm Bs L'):L=L' :=
 Int.dvd_antisymm (Int.le_of_lt h.pos) (Int.le_of_lt h'.pos) (h.least _ h'.pos h'.dvd) (h'.least _ h.pos h.dvd)
section
variable {ps:List (Int×Int)} {A:Int×Int} {Bs Ss:List (Int×Int)} {n z:Nat} {S L st:Int} {E:Nat→Option Int}
theorem abv_bd (ca:Canon A) (cb:Canons Bs) (hn:Bs.length=n) (pr:L2.Pr A Bs S) (hL:IsLcm Bs L) (sL:L2.Sz 140 L):∀ x∈abv Bs L,0≤x∧x≤L :=
 (wy_none (ps:=[]) (j:=0) (fun p hp=>by simp at hp) ca cb hn pr hL sL rfl).bd
theorem fac_sum (lk:∀ p∈ps,0≤p.2∧p.2<(n:Int)) {j:Nat} (hj:j<n):((List.range n).map fun t=>fac ps A j t).sum=A.2 * mp ps j - (A.2 - A.1) * (((outs ps (j:Int)).length:Nat):Int):=by
 have e:((((List.range n).map fun t=>fac ps A j t).sum:Int):Rat)=((A.2 * mp ps j - (A.2 - A.1) * (((outs ps (j:Int)).length:Nat):Int):Int):Rat):=by
  rw [← qs_ints]
  have:=qs_fac (ps:=ps) (A:=A) (n:=n) (fun _=>1) hj
  rw [qs_congr (g:=fun t=>(fac ps A j t:Rat)) fun t _=>by grind,qs_congr (f:=fun t=>(cn ps j t:Rat) * 1) (g:=fun t=>(cn ps j t:Rat)) fun t _=>by grind,cn_sum lk] at this
  rw [this,Rat.intCast_sub,Rat.intCast_mul,Rat.intCast_mul,Rat.intCast_sub]
  have c1:((((outs ps (j:Int)).length:Nat):Int):Rat)=(((outs ps (j:Int)).length:Nat):Rat):=rfl
  rw [c1];grind
 exact_mod_cast e
theorem arF_sz (few:ps.length≤100) (lk:∀ p∈ps,0≤p.2∧p.2<(n:Int)) (ca:Canon A) (cb:Canons Bs) (hn:Bs.length=n) (pr:L2.Pr A Bs S) (hL:IsLcm Bs L) (sA:L2.Sz z A.2) (sL:L2.Sz z L) (hz:z≤140) (hst:st=0∨st=1) (hE:∀ i v,E i=some v→v=0∨v=1):∀ i j,(arF ps A Bs L n E st i j).natAbs≤2 ^ (z+7):=by
 intro i j
 have a0:=pr.a0
 have a1:=pr.a1
 have sA':A.2.natAbs<2 ^ z:=sA
 have sL':L.natAbs<2 ^ z:=sL
 have ep:(2:Nat) ^ (z+7)=2 ^ z * 128:=by rw [Nat.pow_add]
 have p0:=Nat.two_pow_pos z
 have hl:=outs_len ps (i:Int)
 have hm:1≤mp ps i∧mp ps i≤100:=by unfold mp;omega
 have k1:0≤A.2 * mp ps i:=Int.mul_nonneg (by omega) (by omega)
 have k2:A.2 * mp ps i≤A.2 * 100:=Int.mul_le_mul_of_nonneg_left hm.2 (by omega)
 have l0:=hL.pos
 unfold arF
 split
 · rename_i hi
   cases hEi:E i with
   | some v =>
     show (if j<n then (if j=i then 1 else 0) else if j=n then 0 else if j=n+1 then v else 0:Int).natAbs≤_
     have:=hE i v hEi
     split
     · split <;> omega
     · split
       · omega
       · split <;> omega
   | none =>
     show (if j<n then fac ps A i j else if j=n then -(((List.range n).map fun t=>fac ps A i t).sum) else if j=n+1 then st * A.2 * mp ps i else 0:Int).natAbs≤_
     split
     · have hc:=List.count_le_length (a:=(j:Int)) (l:=outs ps (i:Int))
       have hcn:0≤cn ps i j∧cn ps i j≤100:=by unfold cn;omega
       have k3:0≤(A.2 - A.1) * cn ps i j:=Int.mul_nonneg (by omega) hcn.1
       have k4:(A.2 - A.1) * cn ps i j≤(A.2 - A.1) * 100:=Int.mul_le_mul_of_nonneg_left hcn.2 (by omega)
       unfold fac
       split <;> omega
     · split
       · rw [fac_sum lk hi]
         have k3:0≤(A.2 - A.1) * (((outs ps (i:Int)).length:Nat):Int):=Int.mul_nonneg (by omega) (by omega)
         have k4:(A.2 - A.1) * (((outs ps (i:Int)).length:Nat):Int)≤(A.2 - A.1) * 100:=Int.mul_le_mul_of_nonneg_left (by omega) (by omega)
         omega
       · split
         · rcases hst with h | h <;> rw [h]
           · rw [Int.zero_mul,Int.zero_mul];omega
           · rw [Int.one_mul];omega
         · omega
 · split
   · split
     · rename_i hj
       have hla:(abv Bs L).length=n:=by unfold abv;rw [List.length_map];exact hn
       have:=abv_bd ca cb hn pr hL (sL.mono hz) _ (getD_mem' (l:=abv Bs L) (i:=j) (d:=0) (by omega))
       omega
     · split <;> omega
   · omega
theorem ar_all (few:ps.length≤100) (lk:∀ p∈ps,0≤p.2∧p.2<(n:Int)) (ca:Canon A) (cb:Canons Bs) (hn:Bs.length=n) (n12:n≤12) (pr:L2.Pr A Bs S) (hL:IsLcm Bs L) (sA:L2.Sz 41 A.2) (sS:L2.Sz 41 S) (hst:st=0∨st=1) (hE:∀ i v,E i=some v→v=0∨v=1) (ok:ShOk ps A Bs n Ss) {e:Nat} (he:e<n) (hEe:(E e).isSome=true) (se:0<val (Ss.getD e (0,1))) :
 NZ (n+1) (arF ps A Bs L n E st)∧(∀ i j,(arF ps A Bs L n E st i j).natAbs≤2 ^ 48)∧ArOk ps A Bs n E st (arXs ps A Bs L n E st)∧∃ D,L2.Rw (arXs ps A Bs L n E st) n D (2 ^ 728)∧L2.Sz 1460 (2 ^ 728 * D):=by
 have sL:L2.Sz 41 L:=L2.le_sz (Int.le_of_lt hL.pos) (hL.le pr.spos pr.sdvd) sS
 have nz:NZ (n+1) (arF ps A Bs L n E st):=arF_nz lk ca cb hn pr hL ok he hEe se
 have bd:=arF_sz (z:=41) few lk ca cb hn pr hL sA sL (by decide) hst hE
 have ao:=arF_ok lk ca cb hn pr hL nz
 refine ⟨nz,bd,ao,?_⟩
 obtain ⟨b1,b2⟩:=fF_bdN (U:=2 ^ 48) (Y:=2 ^ 52) nz (by omega) (Nat.two_pow_pos _) (by decide) bd (Nat.le_refl _)
 have d0:=fF_dN nz (Nat.le_refl _)
 have e14:(2 ^ 52) ^ 14=2 ^ 728:=by rw [← Nat.pow_mul]
 rw [e14] at b1 b2
 have c728:(2 ^ 728:Int)=((2 ^ 728:Nat):Int):=by push_cast;rfl
 refine ⟨((fF (arF ps A Bs L n E st) (n+1)).2.natAbs:Int),⟨ao.len,ao.canon,by omega,?_,fun R hR=>?_,fun R hR=>?_,?_⟩,?_⟩
 · rw [c728]
   have:=Nat.two_pow_pos 728
   generalize 2 ^ 728=T at this
   omega
 · obtain ⟨i,_,rfl⟩:=List.mem_map.mp hR
   exact Int.dvd_natAbs.mpr (mk_dvd2 d0)
 · have c:=(ao.canon R hR).1
   obtain ⟨i,hi,rfl⟩:=List.mem_map.mp hR
   have hi:=List.mem_range.mp hi
   have l1:=(mk_le (a:=(fF (arF ps A Bs L n E st) (n+1)).1 i (n+1)) d0).1
   have l2:=b1 i (n+1) (by omega) (by omega)
   have h3:(mk ((fF (arF ps A Bs L n E st) (n+1)).1 i (n+1)) (fF (arF ps A Bs L n E st) (n+1)).2).1.natAbs≤2 ^ 728:=Nat.le_trans l1 l2
   generalize mk ((fF (arF ps A Bs L n E st) (n+1)).1 i (n+1)) (fF (arF ps A Bs L n E st) (n+1)).2=R at *
   have h4:(2 ^ 728:Int) * 1≤2 ^ 728 * R.2:=Int.mul_le_mul_of_nonneg_left c (by rw [c728];omega)
   rw [c728] at h4 ⊢
   generalize (2:Nat) ^ 728=T at *
   omega
 all_goals
  have z1:L2.Sz 729 (2 ^ 728:Int):=by
   unfold L2.Sz
   rw [c728,Int.natAbs_natCast]
   exact Nat.pow_lt_pow_right (by decide) (by decide)
  have z2:L2.Sz 729 ((fF (arF ps A Bs L n E st) (n+1)).2.natAbs:Int):=by
   unfold L2.Sz
   rw [Int.natAbs_natCast]
   exact Nat.lt_of_le_of_lt b2 (Nat.pow_lt_pow_right (by decide) (by decide))
  exact (z1.mul z2).mono (by decide)
theorem sh_step (lk:∀ p∈ps,0≤p.2∧p.2<(n:Int)) (ca:Canon A) (cb:Canons Bs) (hn:Bs.length=n) (pr:L2.Pr A Bs S) (ok:ShOk ps A Bs n Ss) {j t:Nat} (hj:j<n) (ht:t<n) (sj:0<val (Ss.getD j (0,1))) (h:val ((waysL ps A Bs (j:Nat)).getD t (0,1))≠0):0<val (Ss.getD t (0,1)):=by
 have w0:0<val ((waysL ps A Bs (j:Nat)).getD t (0,1)):=by
  have:=(way_le1 (j:=j) lk ca cb hn pr ht).1
  grind
 have e:=ok.stay t ht
 unfold behQ at e
 have:=qs_ge (f:=fun i=>val (Ss.getD i (0,1)) * val ((waysL ps A Bs i).getD t (0,1))) hj fun i hi=>Rat.mul_nonneg (ok.v_nn hi) (way_le1 (j:=i) lk ca cb hn pr ht).1
 rw [e] at this
 have:=Rat.mul_pos sj w0
 grind
theorem val0 {A:Int×Int} (c:Canon A):val A=0 ↔ A=(0,1):=⟨fun h=>val_inj c ⟨by decide,by decide⟩ (by rw [h,val01]),fun h=>by rw [h,val01]⟩
end
end Pw
namespace L2
noncomputable def goF (ps:List (Int×Int)) (A:Int×Int) (n:Nat) (st:Int) (i j:Nat):Int:=if j<n then Pw.fac ps A i j else if j=n then -(((List.range n).map fun t=>Pw.fac ps A i t).sum) else st * A.2 * Pw.mp ps i
noncomputable def stF (n i:Nat) (v:Int) (j:Nat):Int:=if j<n then (if j=i then 1 else 0) else if j=n then 0 else v
noncomputable def lpF (Bs:List (Int×Int)) (L:Int) (n j:Nat):Int:=if j<n then -((Pw.abv Bs L).getD j 0) else if j=n then L else 0
noncomputable def spSolvedN (K:PySem.W.Frag):Sp:=fun vs H Q _=>∃ (e:Addr) (us:List V) (n z:Nat) (f0:Nat→Nat→Int),vs=[.ref e]∧H e=some (.lst us)∧MatL H n (n+1) f0 us∧Pw.NZ n f0∧1≤n∧n≤13∧z≤150∧(∀ i j,(f0 i j).natAbs≤2 ^ z) ∧
 ∀ (t l:Addr) (H':Hp),Same H H'→H' t=some (.tup [.ref l,.int (Pw.fF f0 n).2])→H' l=some (.lst (rowI (fun i=>(Pw.fF f0 n).1 i n) n))→Q (.ref t) H'
theorem fF_szN {f0:Nat→Nat→Int} {n z:Nat} (s0:Pw.NZ n f0) (hn:n≤13) (hb:∀ i j,(f0 i j).natAbs≤2 ^ z) {k:Nat} (hk:k≤n):(∀ i j,i<n→j≤n→Sz ((z+4) * 14+1) ((Pw.fF f0 k).1 i j))∧Sz ((z+4) * 14+1) (Pw.fF f0 k).2:=by
 obtain ⟨h1,h2⟩:=Pw.fF_bdN (U:=2 ^ z) (Y:=2 ^ (z+4)) s0 hn (Nat.two_pow_pos _) (by rw [Nat.pow_add];omega) hb hk
 have e:(2 ^ (z+4)) ^ 14=2 ^ ((z+4) * 14):=(Nat.pow_mul ..).symm
 rw [e] at h2
 have lt:2 ^ ((z+4) * 14)<2 ^ ((z+4) * 14+1):=Nat.pow_lt_pow_right (by decide) (by omega)
 refine ⟨fun i j hi hj=>?_,Nat.lt_of_le_of_lt h2 lt⟩
 have:=h1 i j hi hj
 rw [e] at this
 exact Nat.lt_of_le_of_lt this lt
theorem solvedN {P:Program} {w:World} {K:PySem.W.Frag} {mg:Str→Option Value} {base:Heap} {k:Nat} {nm:Str} {ps:List Str} (D:Def P w K mg base k nm ps (spSolvedN K)):Def P w K mg base k nm ps (spSolved K) :=
 D.imp fun vs H Q E ⟨e,us,n,z,f0,h1,h2,h3,h4,h5,h6,h7,h8,h9⟩=>⟨e,us,n,z,f0,h1,h2,h3,h4.nz,h5,by omega,h7,h8,h9⟩
theorem rowI_two {f g:Nat→Int} {n:Nat} {a b:Int} (h:∀ j,j<n→f j=g j) (h1:g n=a) (h2:g (n+1)=b):rowI f n ++ [.int a,.int b]=rowI g (n+2):=by
 rw [rowI_succ,rowI_succ,rowI_congr h,h1,h2,List.append_assoc];rfl
noncomputable def spGoing (K:PySem.W.Frag):Sp:=fun vs H Q _=>∃ (w lp:Addr) (n i:Nat) (st:Int) (ps:List (Int×Int)) (A:Int×Int),vs=[.ref w,.ref lp,.int (i:Int),.int st]∧WebAt K H w (n:Int) ps∧n≤12∧i<n∧ps.length≤100∧FrA K H lp A∧Sz2 140 A∧(st=0∨st=1) ∧
 ∀ (p:Addr) (H':Hp),Same H H'→H p=none→H' p=some (.lst (rowI (goF ps A n st i) (n+2)))→Q (.ref p) H'
noncomputable def spStaying (K:PySem.W.Frag):Sp:=fun vs H Q _=>∃ (w:Addr) (n i:Nat) (v:Int) (r:List V),vs=[.ref w,.int (i:Int),.int v]∧H w=some (.tup (.int (n:Int) :: r))∧n≤12∧i<n ∧
 ∀ (p:Addr) (H':Hp),Same H H'→H p=none→H' p=some (.lst (rowI (stF n i v) (n+2)))→Q (.ref p) H'
noncomputable def spLeaping (K:PySem.W.Frag):Sp:=fun vs H Q _=>∃ (ls:Addr) (n:Nat) (Bs:List (Int×Int)) (us:List V) (S:Int),vs=[.ref ls]∧H ls=some (.tup us)∧FrL K H Bs us∧Pw.Canons Bs∧Bs.length=n∧n≤12∧(∀ B∈Bs,Sz2 600 B)∧0<S∧Sz 140 S∧(∀ B∈Bs,B.2 ∣ S) ∧
 ∀ (p:Addr) (H':Hp) (L:Int),Pw.IsLcm Bs L→Same H H'→H p=none→H' p=some (.lst (rowI (lpF Bs L n) (n+2)))→Q (.ref p) H'
noncomputable def spArrived (K:PySem.W.Frag):Sp:=fun vs H Q _=>∃ (w lp ls en:Addr) (n:Nat) (st:Int) (ps:List (Int×Int)) (A:Int×Int) (Bs Ss:List (Int×Int)) (us:List V) (S:Int) (kvs:List (Key×V)) (E:Nat→Option Int),vs=[.ref w,.ref lp,.ref ls,.ref en,.int st]∧ShIn K H w lp ls n ps A Bs us S∧Sz 41 A.2∧Sz 41 S∧(st=0∨st=1)∧H en=some (.dK kvs) ∧
 (∀ i,i<n→valV kvs (Sum.inl (i:Int))=(E i).map V.int)∧(∀ i v,E i=some v→v=0∨v=1)∧Pw.ShOk ps A Bs n Ss∧(∃ e,e<n∧(E e).isSome=true∧0<Pw.val (Ss.getD e (0,1))) ∧
 ∀ (t:Addr) (H':Hp) (L:Int) (xs:List V),Pw.IsLcm Bs L→Same H H'→H' t=some (.tup xs)→FrL K H' (Pw.arXs ps A Bs L n E st) xs→Q (.ref t) H'
noncomputable def eSt (c:Nat) (i:Nat):Option Int:=if i=c then some 0 else none
noncomputable def eFi (x y:Nat) (i:Nat):Option Int:=if i=x then some 1 else if i=y then some 0 else none
noncomputable def spSteps (K:PySem.W.Frag):Sp:=fun vs H Q _=>∃ (w lp ls:Addr) (n c:Nat) (ps:List (Int×Int)) (A:Int×Int) (Bs Ss:List (Int×Int)) (us:List V) (S:Int),vs=[.ref w,.ref lp,.ref ls,.int (c:Int)]∧ShIn K H w lp ls n ps A Bs us S∧Sz 41 A.2∧Sz 41 S∧c<n∧Pw.ShOk ps A Bs n Ss ∧
 (Pw.val (Ss.getD c (0,1))=0→∀ H',Same H H'→Q .non H')∧(0<Pw.val (Ss.getD c (0,1))→∀ (t:Addr) (H':Hp) (L:Int) (xs:List V),Pw.IsLcm Bs L→Same H H'→H' t=some (.tup xs)→FrL K H' (Pw.arXs ps A Bs L n (eSt c) 1) xs→Q (.ref t) H')
noncomputable def spFirst (K:PySem.W.Frag):Sp:=fun vs H Q _=>∃ (w lp ls:Addr) (n x y:Nat) (ps:List (Int×Int)) (A:Int×Int) (Bs Ss:List (Int×Int)) (us:List V) (S:Int),vs=[.ref w,.ref lp,.ref ls,.int (x:Int),.int (y:Int)]∧ShIn K H w lp ls n ps A Bs us S∧Sz 41 A.2∧Sz 41 S∧x<n∧y<n∧x≠y∧Pw.ShOk ps A Bs n Ss ∧
 (Pw.val (Ss.getD x (0,1))=0∧Pw.val (Ss.getD y (0,1))=0→∀ H',Same H H'→Q .non H')∧(0<Pw.val (Ss.getD x (0,1))∨0<Pw.val (Ss.getD y (0,1))→∀ (t:Addr) (H':Hp) (L:Int) (xs:List V),Pw.IsLcm Bs L→Same H H'→H' t=some (.tup xs)→FrL K H' (Pw.arXs ps A Bs L n (eFi x y) 0) xs→Q (.ref t) H')
noncomputable def natV (ns:List Nat):List V:=ns.map fun (k:Nat)=>V.int (k:Int)
end L2

open PySem PySem.Spec PyProof PyProof.Rows
namespace L2
section
variable {X:Cx}
end
theorem natV_get {ns:List Nat} {q:Nat} (h:q<ns.length):(natV ns)[q]?=some (.int ((ns[q]:Nat):Int)):=by
 unfold natV
 rw [List.getElem?_map,List.getElem?_eq_getElem h];rfl
theorem natV_len (ns:List Nat):(natV ns).length=ns.length:=by unfold natV;rw [List.length_map]
theorem natV_app (ns ms:List Nat):natV (ns ++ ms)=natV ns ++ natV ms:=by unfold natV;rw [List.map_append]
end L2

open PySem PySem.Spec PyProof PyProof.Rows
namespace Pw
section
variable {ps:List (Int×Int)} {A:Int×Int} {Bs Ss:List (Int×Int)} {n:Nat} {S:Int}
end
end Pw
namespace L2
theorem val2E {x y:Nat} (hxy:x≠y) (j:Nat):valV (mergeK [] [(Sum.inl (x:Int),V.int 1),(Sum.inl (y:Int),V.int 0)]:List (Key×V)) (Sum.inl (j:Int))=(eFi x y j).map V.int:=by
 have e:(mergeK [] [(Sum.inl (x:Int),V.int 1),(Sum.inl (y:Int),V.int 0)]:List (Key×V))=putK (putK [] (Sum.inl (x:Int)) (V.int 1)) (Sum.inl (y:Int)) (V.int 0):=rfl
 rw [e,valV_put,valV_put,valV_nil]
 unfold eFi
 by_cases h1:j=x
 · subst h1
   rw [if_neg (fun z=>hxy (by have:=Sum.inl.inj z;omega)),if_pos rfl,if_pos rfl];rfl
 · by_cases h2:j=y
   · subst h2
     rw [if_pos rfl,if_neg h1,if_pos rfl];rfl
   · rw [if_neg (fun z=>h2 (by have:=Sum.inl.inj z;omega)),if_neg (fun z=>h1 (by have:=Sum.inl.inj z;omega)),if_neg h1,if_neg h2];rfl
end L2

open PySem PySem.Spec PyProof PyProof.Rows
namespace Pw
section
variable {ps:List (Int×Int)} {A:Int×Int} {Bs Ss:List (Int×Int)} {n:Nat} {S:Int}
theorem back_one (ok:ShOk ps A Bs n Ss) {Xs:List (Int×Int)} {c:Nat} (hc:c<n) (ao:ArOk ps A Bs n (L2.eSt c) 1 Xs) :
 val (Ss.getD c (0,1)) * (1+qs n (fun t=>val ((waysL ps A Bs (c:Nat)).getD t (0,1)) * val (Xs.getD t (0,1))))=1:=by
 have e0:val (Xs.getD c (0,1))=0:=by rw [ao.ends c 0 hc (by unfold L2.eSt;rw [if_pos rfl])];exact val01
 have h1:((1:Int):Rat)=1:=rfl
 have sw:qs n (fun i=>val (Ss.getD i (0,1)) * qs n (fun t=>val ((waysL ps A Bs (i:Nat)).getD t (0,1)) * val (Xs.getD t (0,1))))=qs n (fun t=>val (Ss.getD t (0,1)) * val (Xs.getD t (0,1))):=by
  rw [qs_congr (g:=fun i=>qs n (fun t=>val (Ss.getD i (0,1)) * (val ((waysL ps A Bs (i:Nat)).getD t (0,1)) * val (Xs.getD t (0,1))))) fun i _=>by rw [qs_mul],qs_swap]
  refine qs_congr fun t ht=>?_
  have:=ok.stay t ht
  unfold behQ at this
  rw [← this,qs_congr (g:=fun i=>val (Xs.getD t (0,1)) * (val (Ss.getD i (0,1)) * val ((waysL ps A Bs (i:Nat)).getD t (0,1)))) fun i _=>by grind,qs_mul];grind
 have eq:qs n (fun i=>val (Ss.getD i (0,1)) * val (Xs.getD i (0,1)))=qs n (fun i=>val (Ss.getD i (0,1))+val (Ss.getD i (0,1)) * qs n (fun t=>val ((waysL ps A Bs (i:Nat)).getD t (0,1)) * val (Xs.getD t (0,1)))+(if i=c then -(val (Ss.getD c (0,1)) * (1+qs n (fun t=>val ((waysL ps A Bs (c:Nat)).getD t (0,1)) * val (Xs.getD t (0,1))))) else 0)):=qs_congr fun i hi=>by
  by_cases h:i=c
  · subst h
    rw [if_pos rfl,e0];grind
  · rw [if_neg h,ao.go i hi (by unfold L2.eSt;rw [if_neg h]),h1];grind
 rw [qs_add,qs_add,sw,qs_at hc,ok.one] at eq
 grind
theorem fby_one {R:Int×Int} (c:Canon R) (h:0<R.1):fby (1,1) R=(R.2,R.1):=by
 unfold fby
 show mk (1 * R.2) (1 * R.1)=_
 rw [Int.one_mul,Int.one_mul]
 have g:Int.gcd R.2 R.1=1:=by rw [Int.gcd_comm];exact c.2
 unfold mk
 rw [if_neg (by omega),g]
 show (R.2.fdiv 1,R.1.fdiv 1)=_
 rw [Int.fdiv_one,Int.fdiv_one]
theorem val_turn {R:Int×Int} (c:Canon R) (h:0<R.1):val (R.2,R.1) * val R=1:=by
 unfold val
 show (R.2:Rat) / (R.1:Rat) * ((R.1:Rat) / (R.2:Rat))=1
 have a:=cpos c.1
 have b:=cpos h
 have a':(R.2:Rat)≠0:=by grind
 have b':(R.1:Rat)≠0:=by grind
 grind
theorem canon_turn {R:Int×Int} (c:Canon R) (h:0<R.1):Canon (R.2,R.1):=⟨h,by show Int.gcd R.2 R.1=1;rw [Int.gcd_comm];exact c.2⟩
theorem num_pos {R:Int×Int} (c:Canon R) (h:0<val R):0<R.1:=by
 have hp:=cpos c.1
 have e:(R.1:Rat)=val R * (R.2:Rat):=by unfold val;grind
 have:(0:Rat)<(R.1:Rat):=by rw [e];exact Rat.mul_pos h hp
 exact_mod_cast this
end
end Pw
namespace L2
noncomputable def spBy (K:PySem.W.Frag):Sp:=fun vs H Q _=>∃ (p q:Addr) (A B:Int×Int),vs=[.ref p,.ref q]∧SqF K H p A∧SqF K H q B∧0<A.2∧0<B.1∧Sz2 3000 A∧Sz2 3000 B∧∀ (r:Addr) (H':Hp),Same H H'→FrA K H' r (Pw.fby A B)→Q (.ref r) H'
noncomputable def spBack (K:PySem.W.Frag):Sp:=fun vs H Q _=>∃ (w lp ls:Addr) (n c:Nat) (ps:List (Int×Int)) (A:Int×Int) (Bs Ss:List (Int×Int)) (us:List V) (S:Int),vs=[.ref w,.ref lp,.ref ls,.int (c:Int)]∧ShIn K H w lp ls n ps A Bs us S∧c<n∧Pw.ShOk ps A Bs n Ss ∧
 (Pw.val (Ss.getD c (0,1))=0→∀ H',Same H H'→Q .non H')∧(0<Pw.val (Ss.getD c (0,1))→∀ (r:Addr) (H':Hp),Same H H'→FrA K H' r ((Ss.getD c (0,1)).2,(Ss.getD c (0,1)).1)→Q (.ref r) H')
end L2

open PySem PySem.Spec PyProof PyProof.Rows
namespace Pw
section
variable {ps:List (Int×Int)} {A:Int×Int} {Bs Ss:List (Int×Int)} {n:Nat} {S:Int}
theorem ar_unique (lk:∀ p∈ps,0≤p.2∧p.2<(n:Int)) (ca:Canon A) (cb:Canons Bs) (hn:Bs.length=n) (pr:L2.Pr A Bs S) (ok:ShOk ps A Bs n Ss) {E:Nat→Option Int} {st:Int} {Xs Ys:List (Int×Int)} (ax:ArOk ps A Bs n E st Xs) (ay:ArOk ps A Bs n E st Ys) {e:Nat} (he:e<n) (hE:(E e).isSome=true) (se:0<val (Ss.getD e (0,1))):Xs=Ys:=by
 have df:∀ i,i<n→(val (Xs.getD i (0,1)) - val (Ys.getD i (0,1))=0∨val (Xs.getD i (0,1)) - val (Ys.getD i (0,1))=qs n (fun t=>val ((waysL ps A Bs (i:Nat)).getD t (0,1)) * (val (Xs.getD t (0,1)) - val (Ys.getD t (0,1)))))∧((E i).isSome=true→val (Xs.getD i (0,1)) - val (Ys.getD i (0,1))=0):=fun i hi=>by
  cases h:E i with
  | some v =>
    have:val (Xs.getD i (0,1)) - val (Ys.getD i (0,1))=0:=by rw [ax.ends i v hi h,ay.ends i v hi h];grind
    exact ⟨.inl this,fun _=>this⟩
  | none =>
    refine ⟨.inr ?_,fun z=>by simp at z⟩
    rw [qs_congr (g:=fun t=>val ((waysL ps A Bs (i:Nat)).getD t (0,1)) * val (Xs.getD t (0,1))+(-1) * (val ((waysL ps A Bs (i:Nat)).getD t (0,1)) * val (Ys.getD t (0,1)))) fun t _=>by grind,qs_add,qs_mul]
    have h1:=ax.go i hi h
    have h2:=ay.go i hi h
    grind
 have k1:=high_le lk ca cb hn pr ok (x:=fun t=>val (Xs.getD t (0,1)) - val (Ys.getD t (0,1))) (fun i hi=>(df i hi).1) he ((df e he).2 hE) se
 have k2:=high_le lk ca cb hn pr ok (x:=fun t=>-(val (Xs.getD t (0,1)) - val (Ys.getD t (0,1)))) (fun i hi=>by
  rcases (df i hi).1 with h | h
  · left;show -(val (Xs.getD i (0,1)) - val (Ys.getD i (0,1)))=0;rw [h];grind
  · right
    show -(val (Xs.getD i (0,1)) - val (Ys.getD i (0,1)))=_
    rw [qs_congr (g:=fun t=>(-1) * (val ((waysL ps A Bs (i:Nat)).getD t (0,1)) * (val (Xs.getD t (0,1)) - val (Ys.getD t (0,1))))) fun t _=>by grind,qs_mul,← h];grind) he (by show -(val (Xs.getD e (0,1)) - val (Ys.getD e (0,1)))=0;rw [(df e he).2 hE];grind) se
 refine List.ext_getElem (by rw [ax.len,ay.len]) fun i h1 h2=>?_
 have hi:i<n:=by rw [ax.len] at h1;exact h1
 have a:val (Xs.getD i (0,1)) - val (Ys.getD i (0,1))≤0:=k1 i hi
 have b:-(val (Xs.getD i (0,1)) - val (Ys.getD i (0,1)))≤0:=k2 i hi
 have e:=val_inj (ax.canon.getD i) (ay.canon.getD i) (by grind)
 rw [List.getD_eq_getElem?_getD,List.getElem?_eq_getElem h1,List.getD_eq_getElem?_getD,List.getElem?_eq_getElem h2] at e
 exact e
theorem v11:val ((1:Int),(1:Int))=1:=by unfold val;show ((1:Int):Rat) / ((1:Int):Rat)=1;have h1:((1:Int):Rat)=1:=rfl;rw [h1];grind
end
end Pw

open PySem PySem.Spec PyProof PyProof.Rows
namespace L2
end L2

namespace Srt
open PySem PySem.W PyProof.Rows
section
variable {lt:Nat→Nat→Bool} (O:Ord lt)
end
end Srt

namespace Pw
section
variable {ps:List (Int×Int)} {A:Int×Int} {Bs:List (Int×Int)} {S:Int} {n:Nat}
end
end Pw

open PySem PySem.Spec PyProof PyProof.Rows
namespace L2
end L2
namespace Pw
open L2
end Pw
namespace L2
end L2
namespace L2
end L2
namespace L2
end L2
namespace Pw
open L2
end Pw

namespace Lng
open PySem PyProof.Rows PySem.W
noncomputable def gallop':Bool→Keyed→Array Keyed→Nat→Nat→Nat→StateT SortSt Sem (Option Nat):=sortPriv% PySem.Builtin.gallop
noncomputable def mergeLo':Array Keyed→Array Keyed→StateT SortSt Sem (Array Keyed):=sortPriv% PySem.Builtin.mergeLo
noncomputable def mergeHi':Array Keyed→Array Keyed→StateT SortSt Sem (Array Keyed):=sortPriv% PySem.Builtin.mergeHi
noncomputable def Am (a₀ xs:Array Keyed):Prop:=∀ x∈xs,x∈a₀
section
variable {prog:Program} {w:World} {A:Around} {E:Value→Shared→Prop} {s:Shared} {a₀:Array Keyed} {κ:SortKind}
noncomputable def Ask (prog:Program) (w:World) (A:Around) (s:Shared) (κ:SortKind) (a₀:Array Keyed):Prop :=
 ∀ x∈a₀,∀ y∈a₀,wpAny (model prog w) A (keyLt' κ x.1 y.1) (fun _ s'=>s'=s) (fun _ _=>False) s
structure Sf (κ:SortKind) (a₀:Array Keyed) (p:Array (Nat×Nat×Nat)) (st:SortSt):Prop where
 kind:kindOf st=κ
 fail:failedOf st=none
 size:(arrOf st).size=a₀.size
 am:Am a₀ (arrOf st)
 pend:pendingOf st=p
theorem lt_ok (K:Ask prog w A s κ a₀) {st:SortSt} {x y:Keyed} {Q:Option Bool→SortSt→Prop} (hk:kindOf st=κ) (hx:x∈a₀) (hy:y∈a₀) (h:∀ b,Q (some b) st) :
 wpS (model prog w) A E s (lt' x y) Q st:=by
 rw [lt'_eq]
 refine wpS_bind (wpS_get ?_)
 rw [hk]
 refine wpS_bind (wpS_lift (wpAny_attempt (wpAny_mono (K x hx y hy) (fun b s' e=>?_) fun _ _ f=>f.elim)))
 exact ⟨e,wpS_pure (h b)⟩
theorem elem_ok {st:SortSt} {arr:Array Keyed} {i:Nat} {Q:Keyed→SortSt→Prop} (hi:i<arr.size) (h:∀ x∈arr,Q x st):wpS (model prog w) A E s (elem' arr i) Q st:=by
 rw [elem'_eq,Array.getElem?_eq_getElem hi]
 exact wpS_pure (h _ (Array.getElem_mem hi))
theorem ltAt_ok (K:Ask prog w A s κ a₀) {p:Array (Nat×Nat×Nat)} {st:SortSt} {i j:Nat} {Q:Option Bool→SortSt→Prop} (S:Sf κ a₀ p st) (hi:i<a₀.size) (hj:j<a₀.size) (h:∀ b,Q (some b) st) :
 wpS (model prog w) A E s (ltAt' i j) Q st:=by
 rw [ltAt'_eq]
 refine wpS_bind (wpS_get ?_)
 refine wpS_bind (elem_ok (by rw [S.size];exact hi) fun x hx=>?_)
 refine wpS_bind (elem_ok (by rw [S.size];exact hj) fun y hy=>?_)
 exact lt_ok K S.kind (S.am _ hx) (S.am _ hy) h
theorem gallop_ok (K:Ask prog w A s κ a₀) {st:SortSt} {left:Bool} {key:Keyed} {arr:Array Keyed} {base n hint:Nat} {Q:Option Nat→SortSt→Prop} (hk:kindOf st=κ) (ky:key∈a₀) (ha:Am a₀ arr) (hb:base+n≤arr.size) (hh:hint<n)
 (h:∀ k,k≤n→Q (some k) st):wpS (model prog w) A E s (gallop' left key arr base n hint) Q st:=by
 have bey:∀ {i:Nat} {R:Option Bool→SortSt→Prop},i<n→(∀ b,R (some b) st)→wpS (model prog w) A E s (do
  let x ←elem' arr (base+i)
  if left=true then lt' x key else do
   let r ←lt' key x
   pure (Option.map (fun b=>!b) r)) R st:=fun {i R} hi hR=>by
  refine wpS_bind (elem_ok (by omega) fun x hx=>?_)
  cases left with
  | true=>rw [if_pos rfl];exact lt_ok K hk (ha x hx) ky hR
  | false=>rw [if_neg (by decide)];exact wpS_bind (lt_ok K hk ky (ha x hx) fun b=>wpS_pure (hR _))
 refine wpS_bind (bey hh fun b=>?_)
 have last:∀ {F:Nat→Option (Option Nat)×Nat×Nat→StateT SortSt Sem (ForInStep (Option (Option Nat)×Nat×Nat))} {G:Option (Option Nat)×Nat×Nat→StateT SortSt Sem (Option Nat)} {lo hi:Nat},hi≤n →
  (∀ x l r,r≤n→wpS (model prog w) A E s (F x (none,l,r)) (fun z st'=>st'=st∧match z with | .done c=>c.1=none∧c.2.2≤n | .yield c=>c.1=none∧c.2.2≤n) st) →
  (∀ l r,r≤n→wpS (model prog w) A E s (G (none,l,r)) Q st)→wpS (model prog w) A E s (do let c ←forIn [:n] ((none,lo,hi):Option (Option Nat)×Nat×Nat) F;G c) Q st:=fun {F G lo hi} h1 hF hG=>by
  refine wpS_bind (wpS_mono (wpS_forRange (I:=fun _ c st'=>st'=st∧c.1=none∧c.2.2≤n) (Q:=fun c st'=>st'=st∧c.1=none∧c.2.2≤n) ?_ (fun _ _ h=>h) ⟨rfl,rfl,h1⟩) ?_)
  · rintro i ⟨c1,c2,c3⟩ st' _ _ ⟨rfl,rfl,hc⟩
    refine wpS_mono (hF i c2 c3 hc) fun z st' hz=>?_
    cases z with
    | done c=>exact ⟨hz.1,hz.2⟩
    | yield c=>exact ⟨hz.1,hz.2⟩
  · rintro ⟨c1,c2,c3⟩ st' ⟨rfl,rfl,hc⟩
    exact hG c2 c3 hc
 cases b with
 | true =>
   dsimp only
   rw [if_pos rfl]
   refine wpS_bind (wpS_mono (wpS_forRange (I:=fun _ c st'=>st'=st∧c.1=none) (Q:=fun c st'=>st'=st∧c.1=none) ?_ (fun _ _ h=>h) ⟨rfl,rfl⟩) ?_)
   · rintro i ⟨c1,c2,c3⟩ st' _ _ ⟨rfl,rfl⟩
     dsimp only
     by_cases h1:c3 ≥ n - hint
     · rw [if_pos h1];exact wpS_pure ⟨rfl,rfl⟩
     · rw [if_neg h1]
       refine wpS_bind (bey (by omega) fun b=>?_)
       cases b with
       | true=>exact wpS_pure ⟨rfl,rfl⟩
       | false=>exact wpS_pure ⟨rfl,rfl⟩
   · rintro ⟨c1,c2,c3⟩ st' ⟨rfl,rfl⟩
     dsimp only
     refine last (by omega) (fun x l r hr=>?_) fun l r hr=>wpS_pure (h _ hr)
     dsimp only
     by_cases h1:l ≥ r
     · rw [if_pos h1];exact wpS_pure ⟨rfl,rfl,hr⟩
     · rw [if_neg h1]
       refine wpS_bind (bey (by omega) fun b=>?_)
       cases b with
       | true=>exact wpS_pure ⟨rfl,rfl,hr⟩
       | false=>exact wpS_pure ⟨rfl,rfl,by show l+(r - l) / 2≤n;omega⟩
 | false =>
   dsimp only
   rw [if_neg (by decide)]
   refine wpS_bind (wpS_mono (wpS_forRange (I:=fun _ c st'=>st'=st∧c.1=none) (Q:=fun c st'=>st'=st∧c.1=none) ?_ (fun _ _ h=>h) ⟨rfl,rfl⟩) ?_)
   · rintro i ⟨c1,c2,c3⟩ st' _ _ ⟨rfl,rfl⟩
     dsimp only
     by_cases h1:c3 ≥ hint+1
     · rw [if_pos h1];exact wpS_pure ⟨rfl,rfl⟩
     · rw [if_neg h1]
       refine wpS_bind (bey (by omega) fun b=>?_)
       cases b with
       | true=>exact wpS_pure ⟨rfl,rfl⟩
       | false=>exact wpS_pure ⟨rfl,rfl⟩
   · rintro ⟨c1,c2,c3⟩ st' ⟨rfl,rfl⟩
     dsimp only
     refine last (by omega) (fun x l r hr=>?_) fun l r hr=>wpS_pure (h _ hr)
     dsimp only
     by_cases h1:l ≥ r
     · rw [if_pos h1];exact wpS_pure ⟨rfl,rfl,hr⟩
     · rw [if_neg h1]
       refine wpS_bind (bey (by omega) fun b=>?_)
       cases b with
       | true=>exact wpS_pure ⟨rfl,rfl,hr⟩
       | false=>exact wpS_pure ⟨rfl,rfl,by show l+(r - l) / 2≤n;omega⟩
theorem Am.push {xs:Array Keyed} {x:Keyed} (h:Am a₀ xs) (hx:x∈a₀):Am a₀ (xs.push x):=fun y hy=>by
 rcases Array.mem_push.mp hy with h1 | rfl
 · exact h y h1
 · exact hx
theorem Am.app {xs ys:Array Keyed} (h:Am a₀ xs) (h2:Am a₀ ys):Am a₀ (xs ++ ys):=fun y hy=>by
 rcases Array.mem_append.mp hy with h1 | h1
 · exact h y h1
 · exact h2 y h1
theorem Am.ext {xs:Array Keyed} (h:Am a₀ xs) (i j:Nat):Am a₀ (xs.extract i j):=fun y hy=>by
 obtain ⟨k,hk,rfl⟩:=Array.mem_iff_getElem.mp hy
 rw [Array.getElem_extract]
 exact h _ (Array.getElem_mem _)
theorem Am.rev {xs:Array Keyed} (h:Am a₀ xs):Am a₀ xs.reverse:=fun y hy=>h y (Array.mem_reverse.mp hy)
theorem size_ext {xs:Array Keyed} {i j:Nat} (h:j≤xs.size):(xs.extract i j).size=j - i:=by rw [Array.size_extract];omega
noncomputable def R (a₀ a b out:Array Keyed):Prop:=Am a₀ out∧out.size=a.size+b.size
structure O (a₀ out:Array Keyed) (ia ib:Nat):Prop where
 am:Am a₀ out
 size:out.size=ia+ib
structure J (a₀ a b out:Array Keyed) (ia ib:Nat):Prop extends O a₀ out ia ib where
 la:ia+1<a.size
 lb:ib<b.size
theorem O.pa {out:Array Keyed} {ia ib:Nat} {x:Keyed} (o:O a₀ out ia ib) (hx:x∈a₀):O a₀ (out.push x) (ia+1) ib:=⟨o.am.push hx,by rw [Array.size_push,o.size];omega⟩
theorem O.pb {out:Array Keyed} {ia ib:Nat} {x:Keyed} (o:O a₀ out ia ib) (hx:x∈a₀):O a₀ (out.push x) ia (ib+1):=⟨o.am.push hx,by rw [Array.size_push,o.size];omega⟩
theorem O.ea {a out:Array Keyed} {ia ib k:Nat} (o:O a₀ out ia ib) (ha:Am a₀ a) (h:ia+k≤a.size):O a₀ (out ++ a.extract ia (ia+k)) (ia+k) ib:=⟨o.am.app (ha.ext _ _),by rw [Array.size_append,o.size,size_ext h];omega⟩
theorem O.eb {b out:Array Keyed} {ia ib k:Nat} (o:O a₀ out ia ib) (hb:Am a₀ b) (h:ib+k≤b.size):O a₀ (out ++ b.extract ib (ib+k)) ia (ib+k):=⟨o.am.app (hb.ext _ _),by rw [Array.size_append,o.size,size_ext h];omega⟩
theorem O.done {a b out:Array Keyed} {ia ib:Nat} (o:O a₀ out ia ib) (ha:Am a₀ a) (hb:Am a₀ b) (la:ia≤a.size) (lb:ib≤b.size):R a₀ a b (out ++ a.extract ia ++ b.extract ib) :=
 ⟨(o.am.app (ha.ext _ _)).app (hb.ext _ _),by rw [Array.size_append,Array.size_append,size_ext (Nat.le_refl _),size_ext (Nat.le_refl _),o.size];omega⟩
theorem O.last {a b out:Array Keyed} {ia ib:Nat} (o:O a₀ out ia ib) (ha:Am a₀ a) (hb:Am a₀ b) (la:ia≤a.size) (lb:ib≤b.size):R a₀ a b (out ++ b.extract ib ++ a.extract ia) :=
 ⟨(o.am.app (hb.ext _ _)).app (ha.ext _ _),by rw [Array.size_append,Array.size_append,size_ext (Nat.le_refl _),size_ext (Nat.le_refl _),o.size];omega⟩
theorem ne_of_beq {m n:Nat} (h:¬ (m == n)=true):m≠n:=fun e=>h (beq_iff_eq.mpr e)
theorem Sf.gal {p:Array (Nat×Nat×Nat)} {st:SortSt} (S:Sf κ a₀ p st) (g:Nat):Sf κ a₀ p (SortSt.mk' (kindOf st) (arrOf st) (pendingOf st) g (failedOf st)):=⟨S.kind,S.fail,S.size,S.am,S.pend⟩
noncomputable def Fl {α β:Type} (c:Option α×β) (N:β→Prop) (Y:α→Prop):Prop:=match c.1 with | none=>N c.2 | some r=>Y r
set_option maxHeartbeats 4000000 in
theorem mergeLo_ok (K:Ask prog w A s κ a₀) {st:SortSt} {p:Array (Nat×Nat×Nat)} {a b:Array Keyed} {Q:Array Keyed→SortSt→Prop} (S:Sf κ a₀ p st) (ha:Am a₀ a) (hb:Am a₀ b) (na:1≤a.size) (nb:1≤b.size)
 (h:∀ out st',Sf κ a₀ p st'→R a₀ a b out→Q out st'):wpS (model prog w) A E s (mergeLo' a b) Q st:=by
 refine wpS_bind (wpS_lift (wpAny_rule ⟨rfl,?_⟩))
 refine wpS_bind (elem_ok nb fun x hx=>?_)
 have o1:O a₀ #[x] 0 1:=⟨fun y hy=>by rw [Array.mem_singleton.mp hy];exact hb x hx,rfl⟩
 dsimp only
 by_cases h1:(1 == b.size)=true
 · rw [if_pos h1];exact wpS_pure (h _ _ S (o1.done ha hb (by omega) (by omega)))
 rw [if_neg h1]
 by_cases h2:(0+1 == a.size)=true
 · rw [if_pos h2];exact wpS_pure (h _ _ S (o1.last ha hb (by omega) (by omega)))
 rw [if_neg h2]
 have n1:1<b.size:=by have:¬ 1=b.size:=fun e=>h1 (beq_iff_eq.mpr e);omega
 have n2:0+1<a.size:=by have:¬ 0+1=a.size:=fun e=>h2 (beq_iff_eq.mpr e);omega
 refine wpS_bind (wpS_get ?_)
 refine wpS_bind (wpS_mono (wpS_forRange
  (I:=fun i c st'=>Sf κ a₀ p st'∧c.1=none∧J a₀ a b c.2.1 c.2.2.1 c.2.2.2.1∧i+1≤c.2.2.1+c.2.2.2.1)
  (Q:=fun c st'=>Sf κ a₀ p st'∧Fl c (fun _=>False) (R a₀ a b)) ?step ?fin ⟨S,rfl,⟨o1,n2,n1⟩,Nat.le_refl _⟩) ?post)
 case fin =>
  rintro ⟨c1,c2,c3,c4,c5⟩ st' ⟨S',rfl,j,hi⟩
  have h1:=j.la
  have h2:=j.lb
  dsimp only at h1 h2 hi
  omega
 case post =>
  rintro ⟨c1,c2⟩ st' ⟨S',hr⟩
  cases c1 with
  | none=>exact hr.elim
  | some r=>exact wpS_pure (h _ _ S' hr)
 case step =>
  rintro i ⟨c1,out,ia,ib,mg⟩ st' _ hi ⟨S',rfl,j,hm⟩
  dsimp only at j hm ⊢
  refine wpS_bind (wpS_mono (wpS_forRange
   (I:=fun k c st'=>Sf κ a₀ p st'∧c.1=none∧J a₀ a b c.2.1 c.2.2.1 c.2.2.2.1∧k+(ia+ib)≤c.2.2.1+c.2.2.2.1)
   (Q:=fun c st'=>Sf κ a₀ p st'∧Fl c (fun d=>J a₀ a b d.1 d.2.1 d.2.2.1∧1+(ia+ib)≤d.2.1+d.2.2.1) (R a₀ a b)) ?step1 ?fin1 ⟨S',rfl,j,by dsimp only;omega⟩) ?post1)
  case fin1 =>
   rintro ⟨c1,c2,c3,c4,c5⟩ st' ⟨S',rfl,j,hi⟩
   refine ⟨S',j,?_⟩
   dsimp only at hi ⊢
   omega
  case step1 =>
   rintro k ⟨c1,out,ia2,ib2,ac,bc⟩ st' _ hi ⟨S',rfl,j,hm⟩
   dsimp only at j hm ⊢
   have l1:=j.la
   have l2:=j.lb
   refine wpS_bind (elem_ok l2 fun x hx=>?_)
   refine wpS_bind (elem_ok (by omega) fun y hy=>?_)
   refine wpS_bind (lt_ok K S'.kind (hb x hx) (ha y hy) fun c=>?_)
   cases c with
   | true =>
     dsimp only
     rw [if_pos rfl]
     refine wpS_bind (elem_ok l2 fun x hx=>?_)
     have o:=j.toO.pb (hb x hx)
     by_cases h1:(ib2+1 == b.size)=true
     · rw [if_pos h1];exact wpS_pure ⟨S',o.done ha hb (by omega) (by omega)⟩
     rw [if_neg h1]
     have n1:ib2+1<b.size:=by have:¬ ib2+1=b.size:=fun e=>h1 (beq_iff_eq.mpr e);omega
     by_cases h3:bc+1 ≥ mg
     · rw [if_pos h3];exact wpS_pure ⟨S',⟨o,l1,n1⟩,by dsimp only;omega⟩
     · rw [if_neg h3];exact wpS_pure ⟨S',rfl,⟨o,l1,n1⟩,by dsimp only;omega⟩
   | false =>
     dsimp only
     rw [if_neg (by decide)]
     refine wpS_bind (elem_ok (by omega) fun x hx=>?_)
     have o:=j.toO.pa (ha x hx)
     by_cases h1:(ia2+1+1 == a.size)=true
     · rw [if_pos h1];exact wpS_pure ⟨S',o.last ha hb (by omega) (by omega)⟩
     rw [if_neg h1]
     have n1:ia2+1+1<a.size:=by have:¬ ia2+1+1=a.size:=fun e=>h1 (beq_iff_eq.mpr e);omega
     by_cases h3:ac+1 ≥ mg
     · rw [if_pos h3];exact wpS_pure ⟨S',⟨o,n1,l2⟩,by dsimp only;omega⟩
     · rw [if_neg h3];exact wpS_pure ⟨S',rfl,⟨o,n1,l2⟩,by dsimp only;omega⟩
  case post1 =>
   rintro ⟨c1,out,ia2,ib2,ac,bc⟩ st' ⟨S',hr⟩
   cases c1 with
   | some r=>exact wpS_pure ⟨S',hr⟩
   | none =>
     obtain ⟨j,hm2⟩:=hr
     dsimp only at j hm2 ⊢
     refine wpS_bind (wpS_lift (wpAny_rule ⟨rfl,?_⟩))
     refine wpS_bind (wpS_mono (wpS_forRange
      (I:=fun _ c st'=>Sf κ a₀ p st'∧c.1=none∧J a₀ a b c.2.1 c.2.2.1 c.2.2.2.1∧ia2+ib2≤c.2.2.1+c.2.2.2.1)
      (Q:=fun c st'=>Sf κ a₀ p st'∧Fl c (fun d=>J a₀ a b d.1 d.2.1 d.2.2.1∧ia2+ib2≤d.2.1+d.2.2.1) (R a₀ a b)) ?step2 ?fin2 ⟨S',rfl,j,Nat.le_refl _⟩) ?post2)
     case fin2 =>
      rintro ⟨c1,c2,c3,c4,c5⟩ st' ⟨S',rfl,j,hi⟩
      exact ⟨S',j,hi⟩
     case post2 =>
      rintro ⟨c1,out,ia3,ib3,mg3,ac,bc⟩ st' ⟨S',hr⟩
      cases c1 with
      | some r=>exact wpS_pure ⟨S',hr⟩
      | none =>
        obtain ⟨j,hm3⟩:=hr
        dsimp only at j hm3 ⊢
        refine wpS_bind (wpS_modify (wpS_pure ⟨S'.gal _,rfl,j,?_⟩))
        dsimp only
        omega
     case step2 =>
      rintro k ⟨c1,out,ia3,ib3,mg3,ac,bc⟩ st' _ hi ⟨S',rfl,j,hm3⟩
      dsimp only at j hm3 ⊢
      have l1:=j.la
      have l2:=j.lb
      by_cases hg:mg3 > 1
      rw [if_pos hg]
      rotate_left
      rw [if_neg hg]
      all_goals
       refine wpS_bind (wpS_modify ?_)
       refine wpS_bind (elem_ok l2 fun x hx=>?_)
       refine wpS_bind (gallop_ok K (S'.gal _).kind (hb x hx) ha (by omega) (by omega) fun k hk=>?_)
       dsimp only
       by_cases hk0:k > 0
       · rw [if_pos hk0]
         have o:=j.toO.ea (k:=k) ha (by omega)
         by_cases h1:(ia3+k+1 == a.size)=true
         · rw [if_pos h1];exact wpS_pure ⟨S'.gal _,o.last ha hb (by omega) (by omega)⟩
         rw [if_neg h1]
         have h1':=ne_of_beq h1
         by_cases h2:(ia3+k == a.size)=true
         · rw [if_pos h2];exact wpS_pure ⟨S'.gal _,o.done ha hb (by omega) (by omega)⟩
         rw [if_neg h2]
         have h2':=ne_of_beq h2
         have l3:ia3+k+1<a.size:=by omega
         refine wpS_bind (elem_ok l2 fun y hy=>?_)
         have o2:=o.pb (hb y hy)
         by_cases h3:(ib3+1 == b.size)=true
         · rw [if_pos h3];exact wpS_pure ⟨S'.gal _,o2.done ha hb (by omega) (by omega)⟩
         rw [if_neg h3]
         have h3':=ne_of_beq h3
         refine wpS_bind (elem_ok (by omega) fun z hz=>?_)
         refine wpS_bind (gallop_ok K (S'.gal _).kind (ha z hz) hb (by omega) (by omega) fun k2 hk2=>?_)
         dsimp only
         by_cases hk3:k2 > 0
         · rw [if_pos hk3]
           have o3:=o2.eb (k:=k2) hb (by omega)
           by_cases h4:(ib3+1+k2 == b.size)=true
           · rw [if_pos h4];exact wpS_pure ⟨S'.gal _,o3.done ha hb (by omega) (by omega)⟩
           rw [if_neg h4]
           have h4':=ne_of_beq h4
           refine wpS_bind (elem_ok (by omega) fun v hv=>?_)
           have o4:=o3.pa (ha v hv)
           by_cases h5:(ia3+k+1+1 == a.size)=true
           · rw [if_pos h5];exact wpS_pure ⟨S'.gal _,o4.last ha hb (by omega) (by omega)⟩
           rw [if_neg h5]
           have h5':=ne_of_beq h5
           split
           · exact wpS_pure ⟨S'.gal _,⟨o4,by dsimp only;omega,by dsimp only;omega⟩,by dsimp only;omega⟩
           · exact wpS_pure ⟨S'.gal _,rfl,⟨o4,by dsimp only;omega,by dsimp only;omega⟩,by dsimp only;omega⟩
         · rw [if_neg hk3]
           refine wpS_bind (elem_ok (by omega) fun v hv=>?_)
           have o4:=o2.pa (ha v hv)
           by_cases h5:(ia3+k+1+1 == a.size)=true
           · rw [if_pos h5];exact wpS_pure ⟨S'.gal _,o4.last ha hb (by omega) (by omega)⟩
           rw [if_neg h5]
           have h5':=ne_of_beq h5
           split
           · exact wpS_pure ⟨S'.gal _,⟨o4,by dsimp only;omega,by dsimp only;omega⟩,by dsimp only;omega⟩
           · exact wpS_pure ⟨S'.gal _,rfl,⟨o4,by dsimp only;omega,by dsimp only;omega⟩,by dsimp only;omega⟩
       · rw [if_neg hk0]
         have o:=j.toO
         refine wpS_bind (elem_ok l2 fun y hy=>?_)
         have o2:=o.pb (hb y hy)
         by_cases h3:(ib3+1 == b.size)=true
         · rw [if_pos h3];exact wpS_pure ⟨S'.gal _,o2.done ha hb (by omega) (by omega)⟩
         rw [if_neg h3]
         have h3':=ne_of_beq h3
         refine wpS_bind (elem_ok (by omega) fun z hz=>?_)
         refine wpS_bind (gallop_ok K (S'.gal _).kind (ha z hz) hb (by omega) (by omega) fun k2 hk2=>?_)
         dsimp only
         by_cases hk3:k2 > 0
         · rw [if_pos hk3]
           have o3:=o2.eb (k:=k2) hb (by omega)
           by_cases h4:(ib3+1+k2 == b.size)=true
           · rw [if_pos h4];exact wpS_pure ⟨S'.gal _,o3.done ha hb (by omega) (by omega)⟩
           rw [if_neg h4]
           have h4':=ne_of_beq h4
           refine wpS_bind (elem_ok (by omega) fun v hv=>?_)
           have o4:=o3.pa (ha v hv)
           by_cases h5:(ia3+1+1 == a.size)=true
           · rw [if_pos h5];exact wpS_pure ⟨S'.gal _,o4.last ha hb (by omega) (by omega)⟩
           rw [if_neg h5]
           have h5':=ne_of_beq h5
           split
           · exact wpS_pure ⟨S'.gal _,⟨o4,by dsimp only;omega,by dsimp only;omega⟩,by dsimp only;omega⟩
           · exact wpS_pure ⟨S'.gal _,rfl,⟨o4,by dsimp only;omega,by dsimp only;omega⟩,by dsimp only;omega⟩
         · rw [if_neg hk3]
           refine wpS_bind (elem_ok (by omega) fun v hv=>?_)
           have o4:=o2.pa (ha v hv)
           by_cases h5:(ia3+1+1 == a.size)=true
           · rw [if_pos h5];exact wpS_pure ⟨S'.gal _,o4.last ha hb (by omega) (by omega)⟩
           rw [if_neg h5]
           have h5':=ne_of_beq h5
           split
           · exact wpS_pure ⟨S'.gal _,⟨o4,by dsimp only;omega,by dsimp only;omega⟩,by dsimp only;omega⟩
           · exact wpS_pure ⟨S'.gal _,rfl,⟨o4,by dsimp only;omega,by dsimp only;omega⟩,by dsimp only;omega⟩
structure O2 (a₀ a b out:Array Keyed) (na nb:Nat):Prop where
 am:Am a₀ out
 size:out.size+na+nb=a.size+b.size
structure J2 (a₀ a b out:Array Keyed) (na nb:Nat):Prop extends O2 a₀ a b out na nb where
 a0:0<na
 la:na≤a.size
 b1:1<nb
 lb:nb≤b.size
theorem O2.pa {a b out:Array Keyed} {na nb:Nat} {x:Keyed} (o:O2 a₀ a b out na nb) (hx:x∈a₀) (h:0<na):O2 a₀ a b (out.push x) (na - 1) nb:=⟨o.am.push hx,by have:=o.size;rw [Array.size_push];omega⟩
theorem O2.pb {a b out:Array Keyed} {na nb:Nat} {x:Keyed} (o:O2 a₀ a b out na nb) (hx:x∈a₀) (h:0<nb):O2 a₀ a b (out.push x) na (nb - 1):=⟨o.am.push hx,by have:=o.size;rw [Array.size_push];omega⟩
theorem O2.ea {a b out:Array Keyed} {na nb k:Nat} (o:O2 a₀ a b out na nb) (ha:Am a₀ a) (h:k≤na) (la:na≤a.size):O2 a₀ a b (out ++ (a.extract k na).reverse) k nb:=⟨o.am.app (ha.ext _ _).rev,by have:=o.size;rw [Array.size_append,Array.size_reverse,size_ext la];omega⟩
theorem O2.eb {a b out:Array Keyed} {na nb k:Nat} (o:O2 a₀ a b out na nb) (hb:Am a₀ b) (h:k≤nb) (lb:nb≤b.size):O2 a₀ a b (out ++ (b.extract k nb).reverse) na k:=⟨o.am.app (hb.ext _ _).rev,by have:=o.size;rw [Array.size_append,Array.size_reverse,size_ext lb];omega⟩
theorem O2.done {a b out:Array Keyed} {na nb:Nat} (o:O2 a₀ a b out na nb) (ha:Am a₀ a) (hb:Am a₀ b) (la:na≤a.size) (lb:nb≤b.size):R a₀ a b (a.extract 0 na ++ b.extract 0 nb ++ out.reverse) :=
 ⟨((ha.ext _ _).app (hb.ext _ _)).app o.am.rev,by have:=o.size;rw [Array.size_append,Array.size_append,Array.size_reverse,size_ext la,size_ext lb];omega⟩
theorem O2.last {a b out:Array Keyed} {na nb:Nat} (o:O2 a₀ a b out na nb) (ha:Am a₀ a) (hb:Am a₀ b) (la:na≤a.size) (lb:nb≤b.size):R a₀ a b (b.extract 0 nb ++ a.extract 0 na ++ out.reverse) :=
 ⟨((hb.ext _ _).app (ha.ext _ _)).app o.am.rev,by have:=o.size;rw [Array.size_append,Array.size_append,Array.size_reverse,size_ext la,size_ext lb];omega⟩
set_option maxHeartbeats 4000000 in
theorem mergeHi_ok (K:Ask prog w A s κ a₀) {st:SortSt} {p:Array (Nat×Nat×Nat)} {a b:Array Keyed} {Q:Array Keyed→SortSt→Prop} (S:Sf κ a₀ p st) (ha:Am a₀ a) (hb:Am a₀ b) (na:1≤a.size) (nb:1≤b.size)
 (h:∀ out st',Sf κ a₀ p st'→R a₀ a b out→Q out st'):wpS (model prog w) A E s (mergeHi' a b) Q st:=by
 refine wpS_bind (wpS_lift (wpAny_rule ⟨rfl,?_⟩))
 refine wpS_bind (elem_ok (by omega) fun x hx=>?_)
 have o1:O2 a₀ a b #[x] (a.size - 1) b.size:=⟨fun y hy=>by rw [Array.mem_singleton.mp hy];exact ha x hx,by show 1+_+_=_;omega⟩
 dsimp only
 by_cases h1:(a.size - 1 == 0)=true
 · rw [if_pos h1];exact wpS_pure (h _ _ S (o1.done ha hb (by omega) (by omega)))
 rw [if_neg h1]
 have h1':=ne_of_beq h1
 by_cases h2:(b.size == 1)=true
 · rw [if_pos h2];exact wpS_pure (h _ _ S (o1.last ha hb (by omega) (by omega)))
 rw [if_neg h2]
 have h2':=ne_of_beq h2
 refine wpS_bind (wpS_get ?_)
 refine wpS_bind (wpS_mono (wpS_forRange
  (I:=fun i c st'=>Sf κ a₀ p st'∧c.1=none∧J2 a₀ a b c.2.2.2.1 c.2.1 c.2.2.1∧c.2.1+c.2.2.1+i+1≤a.size+b.size)
  (Q:=fun c st'=>Sf κ a₀ p st'∧Fl c (fun _=>False) (R a₀ a b)) ?step ?fin ⟨S,rfl,⟨o1,by dsimp only;omega,by dsimp only;omega,by dsimp only;omega,Nat.le_refl _⟩,by dsimp only;omega⟩) ?post)
 case fin =>
  rintro ⟨c1,c2,c3,c4,c5⟩ st' ⟨S',rfl,j,hi⟩
  have h1:=j.a0
  have h2:=j.b1
  dsimp only at h1 h2 hi
  omega
 case post =>
  rintro ⟨c1,c2⟩ st' ⟨S',hr⟩
  cases c1 with
  | none=>exact hr.elim
  | some r=>exact wpS_pure (h _ _ S' hr)
 case step =>
  rintro i ⟨c1,na,nb,out,mg⟩ st' _ hi ⟨S',rfl,j,hm⟩
  dsimp only at j hm ⊢
  refine wpS_bind (wpS_mono (wpS_forRange
   (I:=fun k c st'=>Sf κ a₀ p st'∧c.1=none∧J2 a₀ a b c.2.2.2.1 c.2.1 c.2.2.1∧k+(c.2.1+c.2.2.1)≤na+nb)
   (Q:=fun c st'=>Sf κ a₀ p st'∧Fl c (fun d=>J2 a₀ a b d.2.2.1 d.1 d.2.1∧1+(d.1+d.2.1)≤na+nb) (R a₀ a b)) ?step1 ?fin1 ⟨S',rfl,j,by dsimp only;omega⟩) ?post1)
  case fin1 =>
   rintro ⟨c1,c2,c3,c4,c5⟩ st' ⟨S',rfl,j,hi⟩
   refine ⟨S',j,?_⟩
   dsimp only at hi ⊢
   omega
  case step1 =>
   rintro k ⟨c1,na2,nb2,out,ac,bc⟩ st' _ hi ⟨S',rfl,j,hm⟩
   dsimp only at j hm ⊢
   have l1:=j.a0
   have l2:=j.la
   have l3:=j.b1
   have l4:=j.lb
   refine wpS_bind (elem_ok (by omega) fun x hx=>?_)
   refine wpS_bind (elem_ok (by omega) fun y hy=>?_)
   refine wpS_bind (lt_ok K S'.kind (hb x hx) (ha y hy) fun c=>?_)
   cases c with
   | true =>
     dsimp only
     rw [if_pos rfl]
     refine wpS_bind (elem_ok (by omega) fun x hx=>?_)
     have o:=j.toO2.pa (ha x hx) l1
     by_cases h1:(na2 - 1 == 0)=true
     · rw [if_pos h1];exact wpS_pure ⟨S',o.done ha hb (by omega) (by omega)⟩
     rw [if_neg h1]
     have h1':=ne_of_beq h1
     by_cases h3:ac+1 ≥ mg
     · rw [if_pos h3];exact wpS_pure ⟨S',⟨o,by dsimp only;omega,by dsimp only;omega,by dsimp only;omega,by dsimp only;omega⟩,by dsimp only;omega⟩
     · rw [if_neg h3];exact wpS_pure ⟨S',rfl,⟨o,by dsimp only;omega,by dsimp only;omega,by dsimp only;omega,by dsimp only;omega⟩,by dsimp only;omega⟩
   | false =>
     dsimp only
     rw [if_neg (by decide)]
     refine wpS_bind (elem_ok (by omega) fun x hx=>?_)
     have o:=j.toO2.pb (hb x hx) (by omega)
     by_cases h1:(nb2 - 1 == 1)=true
     · rw [if_pos h1];exact wpS_pure ⟨S',o.last ha hb (by omega) (by omega)⟩
     rw [if_neg h1]
     have h1':=ne_of_beq h1
     by_cases h3:bc+1 ≥ mg
     · rw [if_pos h3];exact wpS_pure ⟨S',⟨o,by dsimp only;omega,by dsimp only;omega,by dsimp only;omega,by dsimp only;omega⟩,by dsimp only;omega⟩
     · rw [if_neg h3];exact wpS_pure ⟨S',rfl,⟨o,by dsimp only;omega,by dsimp only;omega,by dsimp only;omega,by dsimp only;omega⟩,by dsimp only;omega⟩
  case post1 =>
   rintro ⟨c1,na2,nb2,out,ac,bc⟩ st' ⟨S',hr⟩
   cases c1 with
   | some r=>exact wpS_pure ⟨S',hr⟩
   | none =>
     obtain ⟨j,hm2⟩:=hr
     dsimp only at j hm2 ⊢
     refine wpS_bind (wpS_lift (wpAny_rule ⟨rfl,?_⟩))
     refine wpS_bind (wpS_mono (wpS_forRange
      (I:=fun _ c st'=>Sf κ a₀ p st'∧c.1=none∧J2 a₀ a b c.2.2.2.1 c.2.1 c.2.2.1∧c.2.1+c.2.2.1≤na2+nb2)
      (Q:=fun c st'=>Sf κ a₀ p st'∧Fl c (fun d=>J2 a₀ a b d.2.2.1 d.1 d.2.1∧d.1+d.2.1≤na2+nb2) (R a₀ a b)) ?step2 ?fin2 ⟨S',rfl,j,Nat.le_refl _⟩) ?post2)
     case fin2 =>
      rintro ⟨c1,c2,c3,c4,c5⟩ st' ⟨S',rfl,j,hi⟩
      exact ⟨S',j,hi⟩
     case post2 =>
      rintro ⟨c1,na3,nb3,out,mg3,ac,bc⟩ st' ⟨S',hr⟩
      cases c1 with
      | some r=>exact wpS_pure ⟨S',hr⟩
      | none =>
        obtain ⟨j,hm3⟩:=hr
        dsimp only at j hm3 ⊢
        refine wpS_bind (wpS_modify (wpS_pure ⟨S'.gal _,rfl,j,?_⟩))
        dsimp only
        omega
     case step2 =>
      rintro k ⟨c1,na3,nb3,out,mg3,ac,bc⟩ st' _ hi ⟨S',rfl,j,hm3⟩
      dsimp only at j hm3 ⊢
      have l1:=j.a0
      have l2:=j.la
      have l3:=j.b1
      have l4:=j.lb
      by_cases hg:mg3 > 1
      rw [if_pos hg]
      rotate_left
      rw [if_neg hg]
      all_goals
       refine wpS_bind (wpS_modify ?_)
       refine wpS_bind (elem_ok (by omega) fun x hx=>?_)
       refine wpS_bind (gallop_ok K (S'.gal _).kind (hb x hx) ha (by omega) (by omega) fun k hk=>?_)
       dsimp only
       have oo:O2 a₀ a b out na3 nb3:=j.toO2
       by_cases hk0:na3 - k > 0
       rw [if_pos hk0]
       rotate_left
       rw [if_neg hk0]
       have ek:k=na3:=by omega
       subst ek
       have o:O2 a₀ a b out k nb3:=j.toO2
       rotate_left
       have o:=j.toO2.ea (k:=k) ha hk l2
       by_cases h1:(k == 0)=true
       · rw [if_pos h1];exact wpS_pure ⟨S'.gal _,o.done ha hb (by omega) (by omega)⟩
       rw [if_neg h1]
       have h1':=ne_of_beq h1
       all_goals
        refine wpS_bind (elem_ok (by omega) fun y hy=>?_)
        have o2:=o.pb (hb y hy) (by omega)
        by_cases h3:(nb3 - 1 == 1)=true
        · rw [if_pos h3];exact wpS_pure ⟨S'.gal _,o2.last ha hb (by omega) (by omega)⟩
        rw [if_neg h3]
        have h3':=ne_of_beq h3
        refine wpS_bind (elem_ok (by omega) fun z hz=>?_)
        refine wpS_bind (gallop_ok K (S'.gal _).kind (ha z hz) hb (by omega) (by omega) fun k2 hk2=>?_)
        dsimp only
        by_cases hk3:nb3 - 1 - k2 > 0
        · rw [if_pos hk3]
          have o3:=o2.eb (k:=k2) hb (by omega) (by omega)
          by_cases h4:(k2 == 1)=true
          · rw [if_pos h4];exact wpS_pure ⟨S'.gal _,o3.last ha hb (by omega) (by omega)⟩
          rw [if_neg h4]
          have h4':=ne_of_beq h4
          by_cases h6:(k2 == 0)=true
          · rw [if_pos h6];exact wpS_pure ⟨S'.gal _,o3.done ha hb (by omega) (by omega)⟩
          rw [if_neg h6]
          have h6':=ne_of_beq h6
          refine wpS_bind (elem_ok (by omega) fun v hv=>?_)
          have o4:=o3.pa (ha v hv) (by omega)
          by_cases h5:(k - 1 == 0)=true
          · rw [if_pos h5];exact wpS_pure ⟨S'.gal _,o4.done ha hb (by omega) (by omega)⟩
          rw [if_neg h5]
          have h5':=ne_of_beq h5
          split
          · exact wpS_pure ⟨S'.gal _,⟨o4,by dsimp only;omega,by dsimp only;omega,by dsimp only;omega,by dsimp only;omega⟩,by dsimp only;omega⟩
          · exact wpS_pure ⟨S'.gal _,rfl,⟨o4,by dsimp only;omega,by dsimp only;omega,by dsimp only;omega,by dsimp only;omega⟩,by dsimp only;omega⟩
        · rw [if_neg hk3]
          have ek2:nb3 - 1=k2:=by omega
          refine wpS_bind (elem_ok (by omega) fun v hv=>?_)
          have o4:=o2.pa (ha v hv) (by omega)
          by_cases h5:(k - 1 == 0)=true
          · rw [if_pos h5];exact wpS_pure ⟨S'.gal _,o4.done ha hb (by omega) (by omega)⟩
          rw [if_neg h5]
          have h5':=ne_of_beq h5
          split
          · exact wpS_pure ⟨S'.gal _,⟨o4,by dsimp only;omega,by dsimp only;omega,by dsimp only;omega,by dsimp only;omega⟩,by dsimp only;omega⟩
          · exact wpS_pure ⟨S'.gal _,rfl,⟨o4,by dsimp only;omega,by dsimp only;omega,by dsimp only;omega,by dsimp only;omega⟩,by dsimp only;omega⟩
end
end Lng

namespace Lng
open PySem PyProof.Rows PySem.W
section
variable {prog:Program} {w:World} {A:Around} {E:Value→Shared→Prop} {s:Shared} {a₀:Array Keyed} {κ:SortKind}
theorem Am.perm {xs ys:Array Keyed} (h:Am a₀ xs) (pm:ys.Perm xs):Am a₀ ys:=fun y hy=>h y (pm.mem_iff.mp hy)
theorem Sf.arr {p:Array (Nat×Nat×Nat)} {st:SortSt} {xs:Array Keyed} (S:Sf κ a₀ p st) (pm:xs.Perm (arrOf st)):Sf κ a₀ p (setArr st xs) :=
 ⟨S.kind,S.fail,pm.size_eq.trans S.size,S.am.perm pm,S.pend⟩
theorem rev_ok {p:Array (Nat×Nat×Nat)} {st:SortSt} {i j:Nat} {Q:Unit→SortSt→Prop} (S:Sf κ a₀ p st) (h:∀ st',Sf κ a₀ p st'→Q () st'):wpS (model prog w) A E s (reverseSlice' i j) Q st:=by
 rw [reverseSlice'_eq]
 exact wpS_modify (h _ (S.arr (mirror_perm _ _ _ _)))
theorem down_ok {p:Array (Nat×Nat×Nat)} {st:SortSt} {i j:Nat} {Q:Unit→SortSt→Prop} (S:Sf κ a₀ p st) (h:∀ st',Sf κ a₀ p st'→Q () st'):wpS (model prog w) A E s (moveDown' i j) Q st:=by
 rw [moveDown'_eq]
 exact wpS_modify (h _ (S.arr (bubble_perm _ _ _)))
theorem countRun_ok (K:Ask prog w A s κ a₀) {p:Array (Nat×Nat×Nat)} {st:SortSt} {lo nrem:Nat} {Q:Option Nat→SortSt→Prop} (S:Sf κ a₀ p st) (h1:1≤nrem) (hl:lo+nrem≤a₀.size)
 (h:∀ n st',Sf κ a₀ p st'→1≤n→n≤nrem→Q (some n) st'):wpS (model prog w) A E s (countRun' lo nrem) Q st:=by
 have asc:∀ {F:Nat→Option (Option Nat)×Nat→StateT SortSt Sem (ForInStep (Option (Option Nat)×Nat))} {G:Option (Option Nat)×Nat→StateT SortSt Sem (Option Nat)} {n:Nat} {st:SortSt},Sf κ a₀ p st→1≤n→n≤nrem →
  (∀ i n st',Sf κ a₀ p st'→1≤n→n<nrem→wpS (model prog w) A E s (F i (none,n)) (fun z st'=>match z with | .done c=>Sf κ a₀ p st'∧c=(none,n) | .yield c=>Sf κ a₀ p st'∧c=(none,n+1)) st') →
  (∀ n st',Sf κ a₀ p st'→1≤n→n≤nrem→wpS (model prog w) A E s (G (none,n)) Q st')→wpS (model prog w) A E s (do let c ←forIn [n:nrem] ((none,n):Option (Option Nat)×Nat) F;G c) Q st:=fun {F G n st} S n1 n2 hF hG=>by
  refine wpS_bind (wpS_mono (wpS_forRange (I:=fun i c st'=>Sf κ a₀ p st'∧c=(none,i)) (Q:=fun c st'=>Sf κ a₀ p st'∧∃ m,c=(none,m)∧1≤m∧m≤nrem) ?_ ?_ ⟨S,rfl⟩) ?_)
  · rintro i c st' hi1 hi2 ⟨S',rfl⟩
    refine wpS_mono (hF i i st' S' (by omega) hi2) fun z st' hz=>?_
    cases z with
    | done c=>exact ⟨hz.1,i,hz.2,by omega,by omega⟩
    | yield c=>exact hz
  · rintro c st' ⟨S',rfl⟩
    exact ⟨S',_,rfl,by omega,by omega⟩
  · rintro c st' ⟨S',m,rfl,m1,m2⟩
    exact hG m st' S' m1 m2
 refine asc S (Nat.le_refl _) h1 (fun i n st' S' n1 n2=>?_) fun n st' S' n1 n2=>?_
 · refine wpS_bind (ltAt_ok K S' (by dsimp only;omega) (by dsimp only;omega) fun b=>?_)
   cases b with
   | true=>exact wpS_pure ⟨S',rfl⟩
   | false=>exact wpS_pure ⟨S',rfl⟩
 dsimp only
 by_cases h2:(n == nrem)=true
 · rw [if_pos h2];exact wpS_pure (h _ _ S' n1 n2)
 rw [if_neg h2]
 have h2':=ne_of_beq h2
 have desc:∀ {F:Nat→Option (Option Nat)×Nat×Nat→StateT SortSt Sem (ForInStep (Option (Option Nat)×Nat×Nat))} {G:Option (Option Nat)×Nat×Nat→StateT SortSt Sem (Option Nat)} {n:Nat} {st:SortSt},Sf κ a₀ p st→1≤n→n≤nrem →
  (∀ i n q st',Sf κ a₀ p st'→1≤n→n<nrem→wpS (model prog w) A E s (F i (none,n,q)) (fun z st'=>match z with | .done c=>Sf κ a₀ p st'∧∃ q',c=(none,n,q') | .yield c=>Sf κ a₀ p st'∧∃ q',c=(none,n+1,q')) st') →
  (∀ n q st',Sf κ a₀ p st'→1≤n→n≤nrem→wpS (model prog w) A E s (G (none,n,q)) Q st')→wpS (model prog w) A E s (do let c ←forIn [n:nrem] ((none,n,0):Option (Option Nat)×Nat×Nat) F;G c) Q st:=fun {F G n st} S n1 n2 hF hG=>by
  refine wpS_bind (wpS_mono (wpS_forRange (I:=fun i c st'=>Sf κ a₀ p st'∧∃ q,c=(none,i,q)) (Q:=fun c st'=>Sf κ a₀ p st'∧∃ m q,c=(none,m,q)∧1≤m∧m≤nrem) ?_ ?_ ⟨S,0,rfl⟩) ?_)
  · rintro i c st' hi1 hi2 ⟨S',q,rfl⟩
    refine wpS_mono (hF i i q st' S' (by omega) hi2) fun z st' hz=>?_
    cases z with
    | done c=>obtain ⟨h1,q',h2⟩:=hz;exact ⟨h1,i,q',h2,by omega,by omega⟩
    | yield c=>exact hz
  · rintro c st' ⟨S',q,rfl⟩
    exact ⟨S',_,q,rfl,by omega,by omega⟩
  · rintro c st' ⟨S',m,q,rfl,m1,m2⟩
    exact hG m q st' S' m1 m2
 by_cases hn:n > 1
 rw [if_pos hn]
 refine wpS_bind (ltAt_ok K S' (by omega) (by omega) fun b=>?_)
 cases b with
 | true=>exact wpS_pure (h _ _ S' n1 n2)
 | false =>
   dsimp only
   rw [if_neg (by decide)]
   refine wpS_bind (rev_ok S' fun st' S'=>?_)
   refine wpS_bind (wpS_lift (wpAny_rule ⟨rfl,?_⟩))
   refine desc S' (by omega) (by omega) (fun i n q st' S' n1 n2=>?_) fun n q st' S' n1 n2=>?_
   · refine wpS_bind (ltAt_ok K S' (by dsimp only;omega) (by dsimp only;omega) fun b=>?_)
     cases b with
     | true =>
       dsimp only
       rw [if_pos rfl]
       by_cases hq:q > 0
       · rw [if_pos hq]
         exact wpS_bind (rev_ok S' fun st' S'=>wpS_pure ⟨S',_,rfl⟩)
       · rw [if_neg hq];exact wpS_pure ⟨S',_,rfl⟩
     | false =>
       dsimp only
       rw [if_neg (by decide)]
       refine wpS_bind (ltAt_ok K S' (by omega) (by omega) fun b=>?_)
       cases b with
       | true=>exact wpS_pure ⟨S',_,rfl⟩
       | false=>exact wpS_pure ⟨S',_,rfl⟩
   dsimp only
   by_cases hq:q > 0
   · rw [if_pos hq]
     refine wpS_bind (rev_ok S' fun st' S'=>?_)
     refine wpS_bind (rev_ok S' fun st' S'=>?_)
     refine asc S' n1 n2 (fun i n st' S' n1 n2=>?_) fun n st' S' n1 n2=>wpS_pure (h _ _ S' n1 n2)
     refine wpS_bind (ltAt_ok K S' (by dsimp only;omega) (by dsimp only;omega) fun b=>?_)
     cases b with
     | true=>exact wpS_pure ⟨S',rfl⟩
     | false=>exact wpS_pure ⟨S',rfl⟩
   · rw [if_neg hq]
     refine wpS_bind (rev_ok S' fun st' S'=>?_)
     refine asc S' n1 n2 (fun i n st' S' n1 n2=>?_) fun n st' S' n1 n2=>wpS_pure (h _ _ S' n1 n2)
     refine wpS_bind (ltAt_ok K S' (by dsimp only;omega) (by dsimp only;omega) fun b=>?_)
     cases b with
     | true=>exact wpS_pure ⟨S',rfl⟩
     | false=>exact wpS_pure ⟨S',rfl⟩
 rw [if_neg hn]
 refine wpS_bind (wpS_lift (wpAny_rule ⟨rfl,?_⟩))
 refine desc S' (by omega) (by omega) (fun i n q st' S' n1 n2=>?_) fun n q st' S' n1 n2=>?_
 · refine wpS_bind (ltAt_ok K S' (by dsimp only;omega) (by dsimp only;omega) fun b=>?_)
   cases b with
   | true =>
     dsimp only
     rw [if_pos rfl]
     by_cases hq:q > 0
     · rw [if_pos hq]
       exact wpS_bind (rev_ok S' fun st' S'=>wpS_pure ⟨S',_,rfl⟩)
     · rw [if_neg hq];exact wpS_pure ⟨S',_,rfl⟩
   | false =>
     dsimp only
     rw [if_neg (by decide)]
     refine wpS_bind (ltAt_ok K S' (by omega) (by omega) fun b=>?_)
     cases b with
     | true=>exact wpS_pure ⟨S',_,rfl⟩
     | false=>exact wpS_pure ⟨S',_,rfl⟩
 dsimp only
 by_cases hq:q > 0
 · rw [if_pos hq]
   refine wpS_bind (rev_ok S' fun st' S'=>?_)
   refine wpS_bind (rev_ok S' fun st' S'=>?_)
   refine asc S' n1 n2 (fun i n st' S' n1 n2=>?_) fun n st' S' n1 n2=>wpS_pure (h _ _ S' n1 n2)
   refine wpS_bind (ltAt_ok K S' (by dsimp only;omega) (by dsimp only;omega) fun b=>?_)
   cases b with
   | true=>exact wpS_pure ⟨S',rfl⟩
   | false=>exact wpS_pure ⟨S',rfl⟩
 · rw [if_neg hq]
   refine wpS_bind (rev_ok S' fun st' S'=>?_)
   refine asc S' n1 n2 (fun i n st' S' n1 n2=>?_) fun n st' S' n1 n2=>wpS_pure (h _ _ S' n1 n2)
   refine wpS_bind (ltAt_ok K S' (by dsimp only;omega) (by dsimp only;omega) fun b=>?_)
   cases b with
   | true=>exact wpS_pure ⟨S',rfl⟩
   | false=>exact wpS_pure ⟨S',rfl⟩
theorem binarySort_ok (K:Ask prog w A s κ a₀) {p:Array (Nat×Nat×Nat)} {st:SortSt} {lo n ok:Nat} {Q:Bool→SortSt→Prop} (S:Sf κ a₀ p st) (hl:lo+n≤a₀.size)
 (h:∀ st',Sf κ a₀ p st'→Q true st'):wpS (model prog w) A E s (binarySort' lo n ok) Q st:=by
 refine wpS_bind (wpS_mono (wpS_forRange (I:=fun _ c st'=>Sf κ a₀ p st'∧c=(none,())) (Q:=fun c st'=>Sf κ a₀ p st'∧c=(none,())) ?_ (fun _ _ h=>h) ⟨S,rfl⟩) ?_)
 · rintro k c st' k1 k2 ⟨S',rfl⟩
   dsimp only
   refine wpS_bind (wpS_mono (wpS_forRange (I:=fun _ c st'=>Sf κ a₀ p st'∧∃ l r,c=(none,l,r)∧r≤k) (Q:=fun c st'=>Sf κ a₀ p st'∧∃ l r,c=(none,l,r)) ?_ (fun _ _ h=>⟨h.1,_,_,h.2.choose_spec.choose_spec.1⟩) ⟨S',_,_,rfl,Nat.le_refl _⟩) ?_)
   · rintro j c st' _ _ ⟨S',l,r,rfl,hr⟩
     dsimp only
     by_cases h1:l ≥ r
     · rw [if_pos h1];exact wpS_pure ⟨S',_,_,rfl⟩
     rw [if_neg h1]
     refine wpS_bind (ltAt_ok K S' (by omega) (by omega) fun b=>?_)
     cases b with
     | true=>exact wpS_pure ⟨S',_,_,rfl,by omega⟩
     | false=>exact wpS_pure ⟨S',_,_,rfl,hr⟩
   · rintro c st' ⟨S',l,r,rfl⟩
     exact wpS_bind (down_ok S' fun st' S'=>wpS_pure ⟨S',rfl⟩)
 · rintro c st' ⟨S',rfl⟩
   exact wpS_pure (h _ S')
structure Pd (p:Array (Nat×Nat×Nat)) (top:Nat):Prop where
 pos:∀ (i:Nat) (x:Nat×Nat×Nat),p[i]?=some x→1≤x.2.1∧x.1+x.2.1≤top
 next:∀ (i:Nat) (x y:Nat×Nat×Nat),p[i]?=some x→p[i+1]?=some y→x.1+x.2.1=y.1
 last:∀ (i:Nat) (x:Nat×Nat×Nat),p[i]?=some x→i+1=p.size→x.1+x.2.1=top
theorem fold_set {sa:Nat}:∀ (l:List (Keyed×Nat)) (xs:Array Keyed),Am a₀ xs→(∀ z∈l,z.1∈a₀)→(l.foldl (fun a z=>a.setIfInBounds (sa+z.2) z.1) xs).size=xs.size∧Am a₀ (l.foldl (fun a z=>a.setIfInBounds (sa+z.2) z.1) xs)
 | [],xs,h,_=>⟨rfl,h⟩
 | z :: l,xs,h,hl=>by
   have am:Am a₀ (xs.setIfInBounds (sa+z.2) z.1):=fun y hy=>by
    rcases Array.mem_or_eq_of_mem_setIfInBounds hy with h1 | h1
    · exact h y h1
    · rw [h1];exact hl z List.mem_cons_self
   obtain ⟨a,b⟩:=fold_set l (xs.setIfInBounds (sa+z.2) z.1) am fun y hy=>hl y (List.mem_cons_of_mem _ hy)
   exact ⟨a.trans Array.size_setIfInBounds,b⟩
theorem Pd.merge {p:Array (Nat×Nat×Nat)} {top i sa na pw sb nb pw2:Nat} (P:Pd p top) (e1:p[i]?=some (sa,na,pw)) (e2:p[i+1]?=some (sb,nb,pw2)) :
 Pd ((p.setIfInBounds i (sa,na+nb,pw)).eraseIdxIfInBounds (i+1)) top∧((p.setIfInBounds i (sa,na+nb,pw)).eraseIdxIfInBounds (i+1)).size+1=p.size:=by
 have hi:i+1<p.size:=by
  rcases Nat.lt_or_ge (i+1) p.size with h | h
  · exact h
  · rw [Array.getElem?_eq_none h] at e2;cases e2
 have hi2:i+1<(p.setIfInBounds i (sa,na+nb,pw)).size:=by rw [Array.size_setIfInBounds];exact hi
 have ee:(p.setIfInBounds i (sa,na+nb,pw)).eraseIdxIfInBounds (i+1)=(p.setIfInBounds i (sa,na+nb,pw)).eraseIdx (i+1) hi2:=by
  rw [Array.eraseIdxIfInBounds,dif_pos hi2]
 rw [ee]
 have sz:((p.setIfInBounds i (sa,na+nb,pw)).eraseIdx (i+1) hi2).size+1=p.size:=by rw [Array.size_eraseIdx,Array.size_setIfInBounds];omega
 have adj:=P.next i _ _ e1 e2
 have a1:=P.pos _ _ e1
 have a2:=P.pos _ _ e2
 dsimp only at adj a1 a2
 have at_:∀ j:Nat,((p.setIfInBounds i (sa,na+nb,pw)).eraseIdx (i+1) hi2)[j]?=if j<i then p[j]? else if j=i then some (sa,na+nb,pw) else p[j+1]?:=fun j=>by
  rw [Array.getElem?_eraseIdx hi2]
  by_cases h1:j<i
  · rw [if_pos (by omega),if_pos h1,Array.getElem?_setIfInBounds_ne (by omega)]
  · rw [if_neg h1]
    by_cases h2:j=i
    · subst h2;rw [if_pos (by omega),if_pos rfl,Array.getElem?_setIfInBounds_self_of_lt (by omega)]
    · rw [if_neg (by omega),if_neg h2,Array.getElem?_setIfInBounds_ne (by omega)]
 refine ⟨⟨fun j x hx=>?_,fun j x y hx hy=>?_,fun j x hx hj=>?_⟩,sz⟩
 · rw [at_] at hx
   split at hx
   · exact P.pos _ _ hx
   · split at hx
     · cases hx;dsimp only;omega
     · exact P.pos _ _ hx
 · rw [at_] at hx hy
   by_cases h1:j+1<i
   · rw [if_pos (by omega)] at hx;rw [if_pos h1] at hy;exact P.next _ _ _ hx hy
   · by_cases h2:j+1=i
     · subst h2
       rw [if_pos (by omega)] at hx;rw [if_neg (by omega),if_pos rfl] at hy
       cases hy
       have:=P.next _ _ _ hx e1
       exact this
     · rw [if_neg (by omega),if_neg (by omega)] at hy
       by_cases h3:j=i
       · subst h3
         rw [if_neg (by omega),if_pos rfl] at hx
         cases hx
         have:=P.next _ _ _ e2 hy
         dsimp only at this ⊢
         omega
       · rw [if_neg (by omega),if_neg h3] at hx
         exact P.next _ _ _ hx hy
 · rw [at_] at hx
   by_cases h1:j<i
   · omega
   · by_cases h2:j=i
     · subst h2
       rw [if_neg (by omega),if_pos rfl] at hx
       cases hx
       have:=P.last _ _ e2 (by omega)
       dsimp only at this ⊢
       omega
     · rw [if_neg h1,if_neg h2] at hx
       exact P.last _ _ hx (by omega)
theorem set_ok {st st':SortSt} {Q:PUnit→SortSt→Prop} (h:Q ⟨⟩ st'):wpS (model prog w) A E s (set st':StateT SortSt Sem PUnit) Q st:=by
 unfold wpS;rw [StateT.run_set];exact wpAny_pure ⟨rfl,h⟩
theorem mergeAt_ok (K:Ask prog w A s κ a₀) {p:Array (Nat×Nat×Nat)} {top:Nat} {st:SortSt} {i:Nat} {Q:Bool→SortSt→Prop} (S:Sf κ a₀ p st) (P:Pd p top) (ht:top≤a₀.size) (hi:i+1<p.size)
 (h:∀ st' p',Sf κ a₀ p' st'→Pd p' top→p'.size+1=p.size→Q true st'):wpS (model prog w) A E s (mergeAt' i) Q st:=by
 refine wpS_bind (wpS_get ?_)
 obtain ⟨k1,a1,p1,g1,f1⟩:=st
 have hp:p1=p:=S.pend
 subst hp
 obtain ⟨⟨sa,na,pw⟩,e1⟩:∃ x,p1[i]?=some x:=⟨_,Array.getElem?_eq_getElem (by omega)⟩
 obtain ⟨⟨sb,nb,pw2⟩,e2⟩:∃ x,p1[i+1]?=some x:=⟨_,Array.getElem?_eq_getElem (by omega)⟩
 obtain ⟨P',sz'⟩:=P.merge e1 e2
 have adj:=P.next i _ _ e1 e2
 have b1:=P.pos _ _ e1
 have b2:=P.pos _ _ e2
 dsimp only at adj b1 b2
 dsimp only
 rw [e1,e2]
 dsimp only
 generalize ((p1.setIfInBounds i (sa,na+nb,pw)).eraseIdxIfInBounds (i+1))=p2 at *
 have S2:Sf κ a₀ p2 (SortSt.mk' k1 a1 p2 g1 f1):=⟨S.kind,S.fail,S.size,S.am,rfl⟩
 have am:Am a₀ a1:=S.am
 have sz:a1.size=a₀.size:=S.size
 have kk:k1=κ:=S.kind
 refine wpS_bind (set_ok ?_)
 refine wpS_bind (elem_ok (by omega) fun x hx=>?_)
 refine wpS_bind (gallop_ok K S2.kind (am x hx) am (by omega) (by omega) fun k hk=>?_)
 dsimp only
 by_cases h1:(na - k == 0)=true
 · rw [if_pos h1];exact wpS_pure (h _ _ S2 P' sz')
 rw [if_neg h1]
 have h1':=ne_of_beq h1
 refine wpS_bind (elem_ok (by omega) fun y hy=>?_)
 refine wpS_bind (gallop_ok K S2.kind (am y hy) am (by omega) (by omega) fun k2 hk2=>?_)
 dsimp only
 by_cases h2:(k2 == 0)=true
 · rw [if_pos h2];exact wpS_pure (h _ _ S2 P' sz')
 rw [if_neg h2]
 have h2':=ne_of_beq h2
 have z1:1≤(a1.extract (sa+k) sb).size:=by rw [size_ext (by omega)];omega
 have z2:1≤(a1.extract sb (sb+k2)).size:=by rw [size_ext (by omega)];omega
 have fin:∀ (out:Array Keyed) (st':SortSt),Sf κ a₀ p2 st'→R a₀ (a1.extract (sa+k) sb) (a1.extract sb (sb+k2)) out →
  Sf κ a₀ p2 (setArr st' (List.foldl (fun a x=>a.setIfInBounds (sa+k+x.snd) x.fst) (arrOf st') out.toList.zipIdx)):=fun out st' S' hr=>by
  obtain ⟨f1,f2⟩:=fold_set (a₀:=a₀) (sa:=sa+k) out.toList.zipIdx (arrOf st') S'.am fun z hz=>hr.1 _ (by
   have:=List.fst_mem_of_mem_zipIdx hz
   exact Array.mem_toList_iff.mp this)
  exact ⟨S'.kind,S'.fail,f1.trans S'.size,f2,S'.pend⟩
 by_cases h3:na - k≤k2
 · rw [if_pos h3]
   refine wpS_bind (mergeLo_ok K S2 (am.ext _ _) (am.ext _ _) z1 z2 fun out st' S' hr=>?_)
   refine wpS_bind (wpS_modify (wpS_bind (wpS_get (wpS_pure ?_))))
   have S3:=fin out st' S' hr
   have:=h _ _ S3 P' sz'
   have e:(failedOf st').isNone=true:=by rw [S'.fail];rfl
   rw [← e] at this
   exact this
 · rw [if_neg h3]
   refine wpS_bind (mergeHi_ok K S2 (am.ext _ _) (am.ext _ _) z1 z2 fun out st' S' hr=>?_)
   refine wpS_bind (wpS_modify (wpS_bind (wpS_get (wpS_pure ?_))))
   have S3:=fin out st' S' hr
   have:=h _ _ S3 P' sz'
   have e:(failedOf st').isNone=true:=by rw [S'.fail];rfl
   rw [← e] at this
   exact this
theorem Pd.nil:Pd #[] 0:=⟨fun i x h=>by simp at h,fun i x y h=>by simp at h,fun i x h=>by simp at h⟩
theorem Pd.mod {p:Array (Nat×Nat×Nat)} {top pw i:Nat} (P:Pd p top):Pd (p.modify i fun x=>match x with | (st,len,_)=>(st,len,pw)) top:=by
 have at_:∀ (j:Nat) (x:Nat×Nat×Nat),(p.modify i fun x=>match x with | (st,len,_)=>(st,len,pw))[j]?=some x→∃ y,p[j]?=some y∧y.1=x.1∧y.2.1=x.2.1:=fun j x hx=>by
  rw [Array.getElem?_modify] at hx
  by_cases h:i=j
  · rw [if_pos h] at hx
    cases z:p[j]? with
    | none=>rw [z] at hx;cases hx
    | some y=>rw [z] at hx;cases hx;exact ⟨y,rfl,rfl,rfl⟩
  · rw [if_neg h] at hx;exact ⟨x,hx,rfl,rfl⟩
 refine ⟨fun j x hx=>?_,fun j x y hx hy=>?_,fun j x hx hj=>?_⟩
 · obtain ⟨y,e,e1,e2⟩:=at_ j x hx
   have:=P.pos _ _ e
   rw [← e1,← e2];exact this
 · obtain ⟨u,e,e1,e2⟩:=at_ j x hx
   obtain ⟨v,e',e1',e2'⟩:=at_ _ y hy
   have:=P.next _ _ _ e e'
   rw [← e1,← e2,← e1'];exact this
 · obtain ⟨y,e,e1,e2⟩:=at_ j x hx
   rw [Array.size_modify] at hj
   have:=P.last _ _ e hj
   rw [← e1,← e2];exact this
theorem Pd.push {p:Array (Nat×Nat×Nat)} {top n:Nat} (P:Pd p top) (hn:1≤n):Pd (p.push (top,n,0)) (top+n):=by
 have at_:∀ (j:Nat) (x:Nat×Nat×Nat),(p.push (top,n,0))[j]?=some x→p[j]?=some x∧j<p.size∨j=p.size∧x=(top,n,0):=fun j x hx=>by
  rw [Array.getElem?_push] at hx
  by_cases h:j=p.size
  · rw [if_pos h] at hx;cases hx;exact .inr ⟨h,rfl⟩
  · rw [if_neg h] at hx
    refine .inl ⟨hx,?_⟩
    rcases Nat.lt_or_ge j p.size with h | h
    · exact h
    · rw [Array.getElem?_eq_none h] at hx;cases hx
 refine ⟨fun j x hx=>?_,fun j x y hx hy=>?_,fun j x hx hj=>?_⟩
 · rcases at_ j x hx with ⟨e,_⟩ | ⟨rfl,rfl⟩
   · have:=P.pos _ _ e;omega
   · dsimp only;omega
 · rcases at_ _ y hy with ⟨e,h1⟩ | ⟨h1,rfl⟩
   · rcases at_ _ x hx with ⟨e',_⟩ | ⟨h2,rfl⟩
     · exact P.next _ _ _ e' e
     · omega
   · rcases at_ _ x hx with ⟨e',h3⟩ | ⟨h2,rfl⟩
     · exact P.last _ _ e' (by omega)
     · omega
 · rw [Array.size_push] at hj
   rcases at_ _ x hx with ⟨e',h3⟩ | ⟨h2,rfl⟩
   · omega
   · rfl
theorem ite_le {c:Prop} [Decidable c] {a b n:Nat} (ha:a≤n) (hb:b≤n):(if c then a else b)≤n:=by
 split
 · exact ha
 · exact hb
theorem sortRuns_ok (K:Ask prog w A s κ a₀) {g:Nat} {Q:Unit→SortSt→Prop} (h:∀ st' p',Sf κ a₀ p' st'→Q () st'):wpS (model prog w) A E s sortRuns' Q (SortSt.mk' κ a₀ #[] g none):=by
 have S:Sf κ a₀ #[] (SortSt.mk' κ a₀ #[] g none):=⟨rfl,rfl,rfl,fun x hx=>hx,rfl⟩
 refine wpS_bind (wpS_get ?_)
 dsimp only
 refine wpS_bind (wpS_mono (wpS_forRange (I:=fun _ c st'=>∃ lo p',c=(none,lo)∧lo≤a₀.size∧Sf κ a₀ p' st'∧Pd p' lo) (Q:=fun c st'=>∃ lo p',c=(none,lo)∧lo≤a₀.size∧Sf κ a₀ p' st'∧Pd p' lo) ?step (fun _ _ h=>h) ⟨0,#[],rfl,Nat.zero_le _,S,Pd.nil⟩) ?post)
 · rintro i c st' _ _ ⟨lo,p',rfl,hlo,S',P'⟩
   dsimp only
   by_cases h1:lo ≥ a₀.size
   · rw [if_pos h1];exact wpS_pure ⟨lo,p',rfl,hlo,S',P'⟩
   rw [if_neg h1]
   refine wpS_bind (countRun_ok K S' (by omega) (by omega) fun n st' S' n1 n2=>?_)
   dsimp only
   split
   · refine wpS_bind (wpS_lift (wpAny_rule ⟨rfl,?_⟩))
     refine wpS_bind (binarySort_ok K S' (by omega) fun st' S'=>?_)
     simp only [Bool.not_true,Bool.false_eq_true,if_false]
     refine wpS_bind (wpS_get ?_)
     obtain ⟨k1,a1,p1,g1,f1⟩:=st'
     have hp:p1=p':=S'.pend
     subst hp
     dsimp only
     cases z:p1.back? with
     | none =>
       dsimp only
       exact wpS_bind (wpS_modify (wpS_pure ⟨_,_,rfl,by omega,⟨S'.kind,S'.fail,S'.size,S'.am,rfl⟩,P'.push (by omega)⟩))
     | some y =>
       obtain ⟨s1,n1,y3⟩:=y
       dsimp only
       refine wpS_bind (wpS_mono (wpS_forRange (I:=fun _ c st'=>c=(none,())∧∃ p',Sf κ a₀ p' st'∧Pd p' lo) (Q:=fun c st'=>c=(none,())∧∃ p',Sf κ a₀ p' st'∧Pd p' lo) ?_ (fun _ _ h=>h) ⟨rfl,_,S',P'⟩) ?_)
       · rintro j c st' _ _ ⟨rfl,p',S',P'⟩
         refine wpS_bind (wpS_get ?_)
         obtain ⟨k1,a1,p1,g1,f1⟩:=st'
         have hp:p1=p':=S'.pend
         subst hp
         dsimp only
         by_cases hs:p1.size > 1
         · rw [if_pos hs]
           obtain ⟨⟨q1,q2,q3⟩,e1⟩:∃ x,p1[p1.size - 2]?=some x:=⟨_,Array.getElem?_eq_getElem (by omega)⟩
           rw [e1]
           dsimp only
           split
           · exact wpS_pure ⟨rfl,_,S',P'⟩
           · refine wpS_bind (mergeAt_ok K S' P' hlo (by omega) fun st' p' S' P' _=>?_)
             exact wpS_pure ⟨rfl,_,S',P'⟩
         · rw [if_neg hs]
           exact wpS_pure ⟨rfl,_,S',P'⟩
       · rintro c st' ⟨rfl,p',S',P'⟩
         obtain ⟨k1,a1,p1,g1,f1⟩:=st'
         have hp:p1=p':=S'.pend
         subst hp
         dsimp only
         refine wpS_bind (wpS_modify (wpS_bind (wpS_modify (wpS_pure ⟨_,_,rfl,?_,⟨S'.kind,S'.fail,S'.size,S'.am,rfl⟩,P'.mod.push ?_⟩)))) <;> omega
   · refine wpS_bind (wpS_get ?_)
     obtain ⟨k1,a1,p1,g1,f1⟩:=st'
     have hp:p1=p':=S'.pend
     subst hp
     dsimp only
     cases z:p1.back? with
     | none =>
       dsimp only
       exact wpS_bind (wpS_modify (wpS_pure ⟨_,_,rfl,by omega,⟨S'.kind,S'.fail,S'.size,S'.am,rfl⟩,P'.push (by omega)⟩))
     | some y =>
       obtain ⟨s1,n1,y3⟩:=y
       dsimp only
       refine wpS_bind (wpS_mono (wpS_forRange (I:=fun _ c st'=>c=(none,())∧∃ p',Sf κ a₀ p' st'∧Pd p' lo) (Q:=fun c st'=>c=(none,())∧∃ p',Sf κ a₀ p' st'∧Pd p' lo) ?_ (fun _ _ h=>h) ⟨rfl,_,S',P'⟩) ?_)
       · rintro j c st' _ _ ⟨rfl,p',S',P'⟩
         refine wpS_bind (wpS_get ?_)
         obtain ⟨k1,a1,p1,g1,f1⟩:=st'
         have hp:p1=p':=S'.pend
         subst hp
         dsimp only
         by_cases hs:p1.size > 1
         · rw [if_pos hs]
           obtain ⟨⟨q1,q2,q3⟩,e1⟩:∃ x,p1[p1.size - 2]?=some x:=⟨_,Array.getElem?_eq_getElem (by omega)⟩
           rw [e1]
           dsimp only
           split
           · exact wpS_pure ⟨rfl,_,S',P'⟩
           · refine wpS_bind (mergeAt_ok K S' P' hlo (by omega) fun st' p' S' P' _=>?_)
             exact wpS_pure ⟨rfl,_,S',P'⟩
         · rw [if_neg hs]
           exact wpS_pure ⟨rfl,_,S',P'⟩
       · rintro c st' ⟨rfl,p',S',P'⟩
         obtain ⟨k1,a1,p1,g1,f1⟩:=st'
         have hp:p1=p':=S'.pend
         subst hp
         dsimp only
         refine wpS_bind (wpS_modify (wpS_bind (wpS_modify (wpS_pure ⟨_,_,rfl,?_,⟨S'.kind,S'.fail,S'.size,S'.am,rfl⟩,P'.mod.push ?_⟩)))) <;> omega
 · rintro c st' ⟨lo,p',rfl,hlo,S',P'⟩
   dsimp only
   refine wpS_bind (wpS_mono (wpS_forRange (I:=fun _ c st'=>c=(none,())∧∃ p',Sf κ a₀ p' st'∧Pd p' lo) (Q:=fun c st'=>c=(none,())∧∃ p',Sf κ a₀ p' st'∧Pd p' lo) ?_ (fun _ _ h=>h) ⟨rfl,_,S',P'⟩) ?_)
   · rintro j c st' _ _ ⟨rfl,p',S',P'⟩
     refine wpS_bind (wpS_get ?_)
     obtain ⟨k1,a1,p1,g1,f1⟩:=st'
     have hp:p1=p':=S'.pend
     subst hp
     dsimp only
     by_cases hs:p1.size≤1
     · rw [if_pos hs];exact wpS_pure ⟨rfl,_,S',P'⟩
     rw [if_neg hs]
     refine wpS_bind (mergeAt_ok K S' P' hlo (Nat.lt_of_le_of_lt (Nat.add_le_add_right (ite_le (Nat.sub_le _ _) (Nat.le_refl _)) 1) (by omega:p1.size - 2+1<p1.size)) fun st' p' S' P' _=>?_)
     exact wpS_pure ⟨rfl,_,S',P'⟩
   · rintro c st' ⟨rfl,p',S',P'⟩
     exact wpS_pure (h _ _ S')
end
end Lng

namespace L2
open PySem PySem.Spec PyProof.Rows PySem.W
section
variable {prog:Program} {w:World} {A:Around} {E:Value→Shared→Prop} {s:Shared}
theorem sorted_openTL {t:Addr} {vs:List Value} {Q:Value→Shared→Prop} (ht:IsTup s.heap t vs.toArray) (few:vs.length≤sizeLine)
 (h:∀ (g:Heap) (D:Addr),(∀ b o,s.heap.get? b=some o→g.get? b=some o)→(∀ b o,s.heap.get? b=some o→b≠D)→g.get? D=some (seqObj "list" vs.toArray 0) →
  wpAny (model prog w) A.in1.in1 (Builtin.«list.sort» ⟨[.ref D],[]⟩) (fun fin s'=>fin=.done (.ret .none)∧Q (.ref D) s') E { s with heap:=g }) :
 wpAny (model prog w) A (call (.builtin "sorted") [.ref t]) Q E s:=by
 obtain ⟨o,ho,hc,n,hd⟩:=ht
 refine Calls.call_function_entry kind_sorted plain_sorted entry_sorted (args_sorted1 _) ?_
 unfold Builtin.«sorted»
 refine wpAny_bind (m:=checkCount "sorted" 1 1 _) (wpAny_pure ?_)
 refine wpAny_bind (wpAny_collect_seq t (.inr rfl) ho hc hd (fun g kp=>?_) (by rw [List.size_toArray];exact few))
 refine wpAny_bind (wpAny_newList ?_ few)
 have hoL:(g.push (seqObj "list" vs.toArray 0)).get? g.objs.size=some (seqObj "list" vs.toArray 0):=Heap.get?_push_size _ rfl
 have lt:∀ b o,s.heap.get? b=some o→b<g.objs.size:=fun b o e=>Heap.lt_size (kp b o e)
 refine wpAny_bind (wpAny_holding (wpAny_call_entry slot_list_sort ⟨_,hoL,rfl⟩ entry_list_sort ?body (args_list_sort _)))
 case body =>
  refine wpAny_mono (h (g.push (seqObj "list" vs.toArray 0)) g.objs.size (fun b o e=>Heap.get?_push_of_some _ (kp b o e)) (fun b o e=>Nat.ne_of_lt (lt b o e)) hoL) (fun fin s' hf=>?_) fun _ _ e=>e
  obtain ⟨rfl,hq⟩:=hf
  exact ⟨_,rfl,wpAny_pure ⟨_,rfl,hq⟩⟩
theorem sorted_longT {t:Addr} {vs:List Value} {Q:Value→Shared→Prop} (ht:IsTup s.heap t vs.toArray) (h2:2≤vs.length) (few:vs.length≤sizeLine)
 (hk:∀ h':Heap,(∀ b o,s.heap.get? b=some o→h'.get? b=some o)→∃ κ:SortKind,(∀ (R:SortKind→Shared→Prop),R κ { s with heap:=h' }→wpAny (model prog w) A.in1.in1 (keyKind' vs.toArray) R (fun _ _=>False) { s with heap:=h' }) ∧
  ∀ x∈vs,∀ y∈vs,wpAny (model prog w) A.in1.in1 (keyLt' κ x y) (fun _ s'=>s'={ s with heap:=h' }) (fun _ _=>False) { s with heap:=h' })
 (h:∀ (D:Addr) (h':Heap) (c:Nat) (ws:List Value),(∀ b o,s.heap.get? b=some o→h'.get? b=some o)→(∀ b o,s.heap.get? b=some o→b≠D)→ws.length=vs.length→(∀ v∈ws,v∈vs)→h'.get? D=some (seqObj "list" ws.toArray c)→Q (.ref D) { s with heap:=h' }) :
 wpAny (model prog w) A (call (.builtin "sorted") [.ref t]) Q E s:=by
 refine sorted_openTL ht few fun g D keep hDs hoL=>?_
 obtain ⟨e1,ho1⟩:∃ e1,(g.update D (Obj.mapSeq fun _=>(#[]:Array Value))).get? D=some (seqObj "list" #[] e1):=⟨_,get?_update_seq hoL fun _=>#[]⟩
 rw [list_sort_plain]
 refine wpAny_bind (listItems_at hoL rfl ?_)
 refine wpAny_bind (listUpdate_at hoL rfl ?_ (by rw [List.size_toArray];exact few) (Nat.zero_le _))
 refine wpAny_bind (seqEpoch_at ho1 rfl ?_)
 refine wpAny_bind (wpAny_newTuple ?_ few)
 refine wpAny_bind (wpAny_newList ?_ (Nat.zero_le _))
 refine wpAny_holding ?_
 have ho6:(((g.update D (Obj.mapSeq fun _=>(#[]:Array Value))).push (seqObj "tuple" vs.toArray 0)).push (seqObj "list" #[] 0)).get? D=some (seqObj "list" #[] e1):=Heap.get?_push_of_some _ (Heap.get?_push_of_some _ ho1)
 have kp6:∀ b o,s.heap.get? b=some o→(((g.update D (Obj.mapSeq fun _=>(#[]:Array Value))).push (seqObj "tuple" vs.toArray 0)).push (seqObj "list" #[] 0)).get? b=some o:=fun b o q=>by
  have hb:=hDs b o q
  exact Heap.get?_push_of_some _ (Heap.get?_push_of_some _ ((Heap.get?_update_other _ _ (Ne.symm hb)).trans (keep b o q)))
 show wpAny (model prog w) _ _ _ E { s with heap:=((g.update D (Obj.mapSeq fun _=>(#[]:Array Value))).push (seqObj "tuple" vs.toArray 0)).push (seqObj "list" #[] 0) }
 generalize ((g.update D (Obj.mapSeq fun _=>(#[]:Array Value))).push (seqObj "tuple" vs.toArray 0)).push (seqObj "list" #[] 0)=g6 at *
 obtain ⟨κ,hκ,ask⟩:=hk g6 kp6
 dsimp only
 have hn2:¬ vs.toArray.size<2:=by rw [List.size_toArray];omega
 rw [if_neg hn2,if_neg hn2]
 refine wpAny_bind (wpAny_mono (hκ (fun κ' s'=>κ'=κ∧s'={ s with heap:=g6 }) ⟨rfl,rfl⟩) (fun κ' s' hh=>?_) fun _ _ x=>x.elim)
 obtain ⟨rfl,rfl⟩:=hh
 have K:Lng.Ask prog w A.in1.in1 { s with heap:=g6 } κ' (vs.toArray.zip vs.toArray):=fun x hx y hy=>by
  have m:∀ z:Keyed,z∈vs.toArray.zip vs.toArray→z.1∈vs:=fun z hz=>by
   have:=Array.mem_def.mp hz
   rw [Array.toList_zip] at this
   exact (List.of_mem_zip this).1
  exact ask _ (m x hx) _ (m y hy)
 have run:=Lng.sortRuns_ok (E:=E) K (g:=7) (Q:=fun _ st'=>∃ p',Lng.Sf κ' (vs.toArray.zip vs.toArray) p' st') fun st' p' S=>⟨p',S⟩
 refine wpAny_bind (wpAny_mono run ?_ fun _ _ e=>e)
 rintro ⟨⟨⟩,st'⟩ s' ⟨rfl,p',S⟩
 dsimp only
 have hsz:((arrOf st').map (·.2)).size=vs.length:=by rw [Array.size_map,S.size];simp
 have hmem:∀ v∈((arrOf st').map (·.2)).toList,v∈vs:=fun v hv=>by
  rw [Array.toList_map] at hv
  obtain ⟨z,hz,rfl⟩:=List.mem_map.mp hv
  have:=Array.mem_def.mp (S.am z (Array.mem_toList_iff.mp hz))
  rw [Array.toList_zip] at this
  exact (List.of_mem_zip this).2
 generalize ews:(arrOf st').map (·.2)=ws at *
 have ho6':(Heap.get? g6 D)=some (seqObj "list" #[] e1):=ho6
 refine wpAny_bind (seqEpoch_at ho6' rfl ?_)
 refine wpAny_bind (listUpdate_at ho6' rfl ?_ (Nat.zero_le _) (Nat.le_trans (Nat.le_of_eq hsz) (Nat.le_succ_of_le few)))
 have hf:failedOf st'=none:=S.fail
 rw [hf]
 simp only [bne_self_eq_false,Bool.false_eq_true,if_false]
 obtain ⟨c2,hc2⟩:∃ c2,(g6.update D (Obj.mapSeq fun _=>ws)).get? D=some (seqObj "list" ws.toList.toArray c2):=⟨_,by rw [Array.toArray_toList];exact get?_update_seq ho6' fun _=>ws⟩
 refine wpAny_pure ⟨rfl,h D _ c2 ws.toList (fun b o q=>?_) hDs (by rw [Array.length_toList];exact hsz) hmem hc2⟩
 have hb:=hDs b o q
 exact (Heap.get?_update_other _ _ (Ne.symm hb)).trans (kp6 b o q)
end
section
variable {X:Cx}
theorem pick_of {xs:List V} {vs:List Value} (r:Vals xs vs):∀ (ws:List Value),(∀ v∈ws,v∈vs)→∃ us:List V,Vals us ws∧(∀ u∈us,u∈xs)
 | [],_=>⟨[],.nil,fun u h=>by simp at h⟩
 | w :: ws,h=>by
   obtain ⟨us,r1,m⟩:=pick_of r ws fun v hv=>h v (List.mem_cons_of_mem _ hv)
   obtain ⟨i,hi,e⟩:=List.mem_iff_getElem.mp (h w List.mem_cons_self)
   have hi2:i<xs.length:=by rw [r.length];exact hi
   obtain ⟨u,hu,ru⟩:=r.get (i:=i) (x:=xs[i]) (by simp [hi2])
   have:u=w:=by
    rw [List.getElem?_eq_getElem hi] at hu
    cases hu;exact e
   subst this
   exact ⟨xs[i] :: us,.cons ru r1,fun v hv=>by
    rcases List.mem_cons.mp hv with rfl | hv
    · exact List.getElem_mem _
    · exact m v hv⟩
noncomputable def rSortL0 (K:PySem.W.Frag):List V→Hp→VK→Prop:=fun xs H Q=>∃ (l:Addr) (vs:List V) (ps:List (Int×Int)),xs=[.ref l]∧SqT K H l vs∧Prs K H ps vs∧2≤ps.length∧ps.length≤1000∧∀ (us:List V) (D:Addr),us.length=ps.length→(∀ u∈us,u∈vs)→H D=none→Q (.ref D) (upd H D (.lst us))
theorem call_sortedL0:CallR X (.builtin "sorted") (rSortL0 X.K):=by
 intro pins s σ H xs us Q I r h
 obtain ⟨l,xs,ps,rfl,hl,hp,h2,h64,q⟩:=h
 obtain ⟨u,rfl,rfl⟩:=vals1 r
 have hlen:xs.length=ps.length:=by have:=Dens.length hp;rw [List.length_map] at this;exact this
 obtain ⟨its,rv,pl,hz⟩:=id (I.tuple hl)
 have hlen2:=rv.length
 have few:its.length≤sizeLine:=by rw [sizeLine_eq];omega
 refine sorted_longT pl (by omega) few (fun h' kp0=>?_) fun D h' c ws kp hDs hw hm ho=>?_
 · have kp:∀ b o,b≠X.env.locals→s.heap.get? b=some o→h'.get? b=some o:=fun b o _ e=>kp0 b o e
   have key:∃ κ:SortKind,(∀ (R:SortKind→Shared→Prop),R κ { s with heap:=h' }→wpAny (model X.prog X.w) X.A.in1.in1 (keyKind' its.toArray) R (fun _ _=>False) { s with heap:=h' }) ∧
    ∀ (i j:Nat) (C:Bool→Shared→Prop) (s2:Shared),i<its.length→j<its.length→(∀ b o,b≠X.env.locals→s.heap.get? b=some o→s2.heap.get? b=some o)→C (ltP ps i j) s2→kas_ask X.prog X.w X.A.in1.in1 κ its i j C s2:=by
    have hv:its.length=ps.length:=by rw [← rv.length,hlen]
    have tup:∀ {s2:Shared},(∀ b o,b≠X.env.locals→s.heap.get? b=some o→s2.heap.get? b=some o)→∀ {i:Nat},i<its.length→∃ a o n t1 t2,its.getD i Value.none=.ref a∧s2.heap.get? a=some o∧o.cls=.type "tuple"∧o.data=.seq #[.int (ps.getD i (0,0)).1 t1,.int (ps.getD i (0,0)).2 t2] n:=fun {s2} k {i} hi=>by
     obtain ⟨a,e,hq⟩:=prs_at hp (show i<ps.length by omega)
     have rr:=vals_getD rv hi
     rw [e] at rr
     obtain ⟨its,ri,⟨o,ho,hc,n,hd⟩,_⟩:=I.tuple hq
     obtain ⟨u1,u2,rfl,⟨t1,rfl⟩,⟨t2,rfl⟩⟩:=vals2 ri
     exact ⟨a,o,n,t1,t2,rr,k a o (I.tupNe hq) ho,hc,by simpa using hd⟩
    refine ⟨tuples' true,fun R hR=>?_,fun i j C s2 hi hj k hc=>?_⟩
    · have build:∀ (ws:List Value),(∀ v∈ws,∃ a o n x t1 y t2,v=.ref a∧h'.get? a=some o∧o.cls=.type "tuple"∧o.data=.seq #[.int x t1,.int y t2] n)→∃ fs:List Value,fs.length=ws.length∧KatTups h' ws fs∧∀ v∈fs,∃ x t,v=.int x t:=by
       intro ws
       induction ws with
       | nil=>intro _;exact ⟨[],rfl,KatTups.nil,fun v h=>by simp at h⟩
       | cons w ws ih =>
         intro h
         obtain ⟨fs,e,t,a⟩:=ih fun v hv=>h v (List.mem_cons_of_mem _ hv)
         obtain ⟨b,o,n,x,t1,y,t2,rfl,ho,hc,hd⟩:=h w List.mem_cons_self
         refine ⟨.int x t1 :: fs,by simp [e],KatTups.cons ho hc hd rfl t,fun v hv=>?_⟩
         rcases List.mem_cons.mp hv with rfl | hv
         · exact ⟨_,_,rfl⟩
         · exact a v hv
      obtain ⟨fs,e,kt,fa⟩:=build its fun v hv=>by
       obtain ⟨i,hi,rfl⟩:=List.mem_iff_getElem.mp hv
       obtain ⟨a,o,n,t1,t2,e,ho,hc,hd⟩:=tup (s2:={ s with heap:=h' }) kp hi
       have:its.getD i Value.none=its[i]:=by simp [hi]
       rw [this] at e
       exact ⟨a,o,n,_,t1,_,t2,e,ho,hc,hd⟩
      refine kat_kind (T:=.type "int") kt (by omega) (fun v hv=>?_) (by decide) hR
      obtain ⟨x,t,rfl⟩:=fa v hv
      exact Looks.of_pure rfl
    · unfold kas_ask
      obtain ⟨a,o,n,t1,t2,e,ho,_,hd⟩:=tup k hi
      obtain ⟨a',o',n',t1',t2',e',ho',_,hd'⟩:=tup k hj
      rw [e,e']
      refine kat_lt ho hd ho' hd' (kat_cons ?_)
      have hc':C (lexB (ps.getD i (0,0)) (ps.getD j (0,0))) s2:=hc
      generalize ps.getD i (0,0)=x at *
      generalize ps.getD j (0,0)=y at *
      refine wpAny_eqBool_int ?_
      by_cases h1:x.1=y.1
      · rw [show (x.1 == y.1)=true by simp [h1]]
        refine kat_yes (kat_cons (wpAny_eqBool_int ?_))
        by_cases h2:x.2=y.2
        · rw [show (x.2 == y.2)=true by simp [h2]]
          refine kat_yes (kat_nil ?_)
          have:lexB x y=false:=by simp only [lexB,decide_eq_false_iff_not];omega
          rw [this] at hc'
          simpa using hc'
        · rw [show (x.2 == y.2)=false by simp [h2]]
          refine kat_no (kat_one _ _ ?_)
          have:lexB x y=decide (x.2<y.2):=by simp only [lexB,decide_eq_decide];omega
          rw [this] at hc'
          exact lt_int hc'
      · rw [show (x.1 == y.1)=false by simp [h1]]
        refine kat_no (oneLt_int ?_)
        have:lexB x y=decide (x.1<y.1):=by simp only [lexB,decide_eq_decide];omega
        rw [this] at hc'
        exact hc'
   obtain ⟨κ,a,b⟩:=key
   refine ⟨κ,a,fun x hx y hy=>?_⟩
   obtain ⟨i,hi,rfl⟩:=List.mem_iff_getElem.mp hx
   obtain ⟨j,hj,rfl⟩:=List.mem_iff_getElem.mp hy
   have:=b i j (fun _ s'=>s'={ s with heap:=h' }) { s with heap:=h' } hi hj kp rfl
   unfold kas_ask at this
   have e1:its.getD i Value.none=its[i]:=by simp [hi]
   have e2:its.getD j Value.none=its[j]:=by simp [hj]
   rw [e1,e2] at this
   exact this
 · obtain ⟨us,ru,mu⟩:=pick_of rv ws hm
   have hf:H D=none:=by
    cases z:H D with
    | none=>rfl
    | some u =>
      obtain ⟨o,e⟩:=ObjOk.there (I.hok D u z)
      exact absurd rfl (hDs _ _ e)
   obtain ⟨m,hn,_⟩:=id I.loc
   have F:Fr X.base X.env.locals h' m:=Fr.kept ⟨hn,I.bk,Nat.le_trans I.ok.bsz I.ok.above⟩ kp
   have I':Inv X pins σ (upd H D (.lst us)) { s with heap:=h' }:=I.byNews (t':=s.toks) hn F (fun b o _ e=>kp b o e) hf (fun o e=>hDs _ _ e rfl) ho ru (by rw [ru.length,hw,← hlen2];exact hz)
   exact ⟨.ref D,_,I',rfl,q us D (by rw [ru.length,hw,← hlen2,hlen]) mu hf⟩
noncomputable def rSortL (K:PySem.W.Frag):List V→Hp→VK→Prop:=fun xs H Q=>∃ (l:Addr) (vs:List V) (ps:List (Int×Int)),xs=[.ref l]∧SqT K H l vs∧Prs K H ps vs∧2≤ps.length∧ps.length≤1000∧∀ (us:List V) (D:Addr) (H':Hp),us.length=ps.length→(∀ u∈us,u∈vs)→Same H H'→H D=none→H' D=some (.lst us)→Q (.ref D) H'
theorem call_sortedL:CallR X (.builtin "sorted") (rSortL X.K):=fun pins s σ H xs us Q I r ⟨l,vs,ps,e,h1,h2,h3,h4,q⟩=>call_sortedL0 pins s σ H xs us Q I r ⟨l,vs,ps,e,h1,h2,h3,h4,fun us D a b d=>q us D _ a b (Same.new d) d upd_same⟩
end
end L2

namespace Pw
open L2
section
variable {ps ms:List (Int×Int)} {A:Int×Int} {Bs Ss:List (Int×Int)} {S:Int} {n:Nat}
theorem outs_app (l m:List (Int×Int)) (j:Int):outs (l ++ m) j=outs l j ++ outs m j:=by unfold outs;rw [List.filter_append,List.map_append]
theorem cn_twice (pm:ms.Perm (ps ++ ps)) (j i:Nat):cn ms j i=2 * cn ps j i:=by
 rw [cn_perm pm j i]
 unfold cn
 rw [outs_app,List.count_append]
 omega
theorem way_twice (ca:Canon A) (cb:Canons Bs) (hn:Bs.length=n) (lk:∀ p∈ps,0≤p.2∧p.2<(n:Int)) (pm:ms.Perm (ps ++ ps)) {j t:Nat} (ht:t<n) :
 val ((waysL ps A Bs (j:Nat)).getD t (0,1))=val ((waysL ms A Bs (j:Nat)).getD t (0,1)):=by
 have lk':∀ p∈ms,0≤p.2∧p.2<(n:Int):=fun p hp=>lk p (by rcases List.mem_append.mp (pm.mem_iff.mp hp) with h | h <;> exact h)
 have hc':∀ i,i<n→cn ms j i=2 * cn ps j i:=fun i hi=>cn_twice pm j i
 have e2:((2:Int):Rat)=2:=rfl
 by_cases ho:outs ps (j:Int)=[]
 · refine way_same ca cb hn lk lk' (fun i hi=>?_) ht
   have z:cn ps j i=0:=by unfold cn;rw [ho];rfl
   rw [hc' i hi,z];rfl
 · have l0:=castne (outs_len_ne ho)
   have m1:qs n (fun i=>(cn ps j i:Rat))=(((outs ps (j:Int)).length:Nat):Rat):=cn_sum lk j
   have m2:qs n (fun i=>(cn ms j i:Rat))=2 * (((outs ps (j:Int)).length:Nat):Rat):=by
    rw [qs_congr (g:=fun i=>2 * (cn ps j i:Rat)) fun i hi=>by rw [hc' i hi,Rat.intCast_mul,e2],qs_mul,m1]
   have l1:(((outs ps (j:Int)).length:Nat):Rat)≠0:=l0
   rw [way_cn ca cb hn lk ht m1 l1,way_cn ca cb hn lk' ht m2 (by grind),hc' t ht,Rat.intCast_mul,e2]
   have:(cn ps j t:Rat) / (((outs ps (j:Int)).length:Nat):Rat)=2 * (cn ps j t:Rat) / (2 * (((outs ps (j:Int)).length:Nat):Rat)):=(div_eq l1 (by grind)).mpr (by grind)
   rw [this]
end
end Pw

namespace L2
open PySem PySem.Spec PyProof.Rows PySem.W
section
variable {X:Cx}
noncomputable def rSortPA (K:PySem.W.Frag):List V→Hp→VK→Prop:=fun xs H Q=>∃ (l:Addr) (vs:List V) (ps:List (Int×Int)),xs=[.ref l]∧SqT K H l vs∧Prs K H ps vs∧ps.length≤1000 ∧
 (ps.length<64→∀ (us:List V) (ms:List (Int×Int)) (D:Addr) (H':Hp),ms.Perm ps→ms.Pairwise lexR→Prs K H' ms us→Same H H'→H D=none→H' D=some (.lst us)→Q (.ref D) H') ∧
 (64≤ps.length→∀ (us:List V) (D:Addr) (H':Hp),us.length=ps.length→(∀ u∈us,u∈vs)→Same H H'→H D=none→H' D=some (.lst us)→Q (.ref D) H')
theorem call_sortedPA:CallR X (.builtin "sorted") (rSortPA X.K):=fun pins s σ H xs us Q I r ⟨l,vs,ps,e,h1,h2,h3,q1,q2⟩=>by
 by_cases h:ps.length<64
 · exact call_sortedPT pins s σ H xs us Q I r ⟨l,vs,ps,e,h1,h2,h,q1 h⟩
 · exact call_sortedL pins s σ H xs us Q I r ⟨l,vs,ps,e,h1,h2,by omega,h3,q2 (by omega)⟩
end
end L2

namespace L2
open PySem PySem.Spec PyProof.Rows PySem.W
section
variable {prog:Program} {w:World} {A:Around} {E:Value→Shared→Prop} {s:Shared}
theorem hash_tup_byValue {a:Addr} {ks:List Int} {Q:Bool→Shared→Prop} (hk:IsTupleKey (intKind prog w) s.heap ks a) (h:Q true s):wpAny (model prog w) A (hashByValue 8 (.ref a)) Q E s:=by
 have hT:=hk.typeIs
 obtain ⟨o,items,n,ho,_,hd,hi⟩:=hk
 rw [show (8:Nat)=7+1 from rfl]
 unfold hashByValue
 refine wpAny_bind (wpAny_specialOf hT F.slot_tuple_hash.lookup ?_)
 dsimp only
 refine wpAny_bind (wpAny_seqItems ho hd ?_)
 refine wpAny_bind ?_
 show wpAny _ _ (forIn items _ _) _ _ s
 rw [← Array.forIn_toList]
 refine wpAny_forIn_list _ (fun rest r s'=>r.1=none∧s'=s∧∃ ks,ItemsAre (intKind prog w) ks rest) _ ?_ ?_ _ _ ⟨rfl,rfl,ks,hi⟩
 · rintro v rest r s' ⟨hr,rfl,ks',hall⟩
   cases hall with
   | @cons k _ ks'' _ h1 h2 =>
     have hv:hashByValue 7 v=pure true:=by
      cases v <;> first | rfl | (exfalso;revert h1;simp [intKind,Value.isInt])
     rw [hv]
     refine wpAny_bind (wpAny_pure ?_)
     simp only [Bool.not_true,Bool.false_eq_true,if_false]
     exact wpAny_pure ⟨rfl,rfl,ks'',h2⟩
 · rintro ⟨r1,r2⟩ s' ⟨hr,rfl,_⟩
   simp only at hr
   subst hr
   exact wpAny_pure h
noncomputable def One (prog:Program) (w:World) (ex:List Addr) (hp:Heap) (S:Addr) (ks:List Int):Prop:=∃ (ep:Nat) (t:SetTable) (y:Addr),hp.get? S=some { cls:=.type "set",dict:=none,data:=.set #[(tupleKeyHash (intKind prog w) ks,.ref y)] ep t } ∧
 t.mask=7∧t.place=#[SetTable.bits (tupleKeyHash (intKind prog w) ks) % 8]∧t.dummies=#[]∧y ∉ ex∧IsTupleKey (intKind prog w) hp ks y
theorem add_first {ex:List Addr} {S a:Addr} {ep:Nat} {led:Bool} {ks:List Int} {Q:Bool→Shared→Prop} (hS:s.heap.get? S=some { cls:=.type "set",dict:=none,data:=.set #[] ep (.fresh 0 0 led) }) (hk:IsTupleKey (intKind prog w) s.heap ks a) (ha:a≠S) (hex:a ∉ ex)
 (h:∀ h',Heap.SameBut S s.heap h'→One prog w ex h' S ks→Q true { s with heap:=h' }):wpAny (model prog w) A (setAddHashedIn S (.ref a) (tupleKeyHash (intKind prog w) ks) 100000) Q E s:=by
 generalize hh:tupleKeyHash (intKind prog w) ks=hv at *
 rw [show (100000:Nat)=99999+1 from rfl]
 unfold setAddHashedIn
 refine wpAny_bind (wpAny_setState_of hS rfl rfl ?_)
 dsimp only
 rw [show byScan (.ref a) #[]=false from rfl,if_neg (by decide)]
 refine wpAny_bind ?_
 unfold setSearch
 rw [show (100000:Nat)=99999+1 from rfl]
 unfold setSearchFrom
 refine wpAny_bind (wpAny_setState_of hS rfl rfl ?_)
 dsimp only
 rw [show (SetTable.fresh 0 0 led).gaveWay=false by simp [SetTable.gaveWay,SetTable.fresh],if_neg (by decide)]
 have hp:∀ f,(SetTable.fresh 0 0 led).probe f hv ((none:Option SetTable.Probe).getD ((SetTable.fresh 0 0 led).probeStart hv))=some (.empty (SetTable.bits hv % 8) none):=fun f=>rfl
 rw [hp]
 refine wpAny_pure ?_
 dsimp only
 refine wpAny_bind (wpAny_setState_of hS rfl rfl ?_)
 have hput:(SetTable.fresh 0 0 led).put (SetTable.bits hv % 8)=({ mask:=7,place:=#[SetTable.bits hv % 8],dummies:=#[],finger:=0,led:=led,moves:=0,plain:=true },0):=rfl
 have hins:SetTable.insertAt (#[]:Array (Int×Value)) 0 (hv,.ref a)=#[(hv,.ref a)]:=rfl
 dsimp only
 rw [hput]
 dsimp only
 rw [if_pos rfl,hins]
 refine wpAny_bind (hash_tup_byValue hk ?_)
 rw [if_pos rfl]
 refine wpAny_bind (wpAny_storeSet_of hS rfl ?_ (by show 1≤sizeLine;decide))
 have htf:({ mask:=7,place:=#[SetTable.bits hv % 8],dummies:=#[],finger:=0,led:=led,moves:=0,plain:=true }:SetTable).tooFull=false:=rfl
 rw [htf]
 simp only [Bool.not_false,Bool.and_false,Bool.false_eq_true,if_false]
 refine wpAny_pure (h _ (Heap.SameBut.update s.heap S _) ?_)
 have hg:=Heap.get?_update_self (Obj.putSet #[(hv,.ref a)] { mask:=7,place:=#[SetTable.bits hv % 8],dummies:=#[],finger:=0,led:=led,moves:=0,plain:=true }) hS (by rw [putSet_of _ _ rfl];rfl)
 rw [putSet_of _ _ rfl] at hg
 obtain ⟨o,items,n,ho,hc,hd,hi⟩:=hk
 refine ⟨_,_,a,by rw [hh];exact hg,rfl,by rw [hh],rfl,hex,o,items,n,?_,hc,hd,hi⟩
 exact (Heap.get?_update_other _ _ (Ne.symm ha)).trans ho
theorem seen_not {a y:Addr} {ks:List Int} {Q:Bool→Shared→Prop} (hx:IsTupleKey (intKind prog w) s.heap ks a) (hy:IsTupleKey (intKind prog w) s.heap ks y) (h:Q false s):wpAny (model prog w) A (searchCouldBeSeen (.ref a) [.ref y]) Q E s:=by
 have cls:∀ {b:Addr} {R:Bool→Shared→Prop},IsTupleKey (intKind prog w) s.heap ks b→R false s→wpAny (model prog w) A (ofAClassStatement 8 (.ref b)) R E s:=fun {b R} hk hR=>by
  have hT:=hk.typeIs
  obtain ⟨o,items,n,ho,hc,hd,hi⟩:=hk
  rw [show (8:Nat)=7+1 from rfl]
  unfold ofAClassStatement
  refine wpAny_bind (wpAny_typeOf hT ?_)
  dsimp only
  rw [if_pos (by decide)]
  refine wpAny_bind (wpAny_pure ?_)
  simp only [Bool.not_true,Bool.false_eq_true,if_false]
  refine wpAny_bind (wpAny_seqItems ho hd ?_)
  dsimp only
  refine wpAny_bind ?_
  show wpAny _ _ (forIn items _ _) _ _ s
  rw [← Array.forIn_toList]
  refine wpAny_forIn_list _ (fun rest r s'=>r.1=none∧s'=s∧∃ ks,ItemsAre (intKind prog w) ks rest) _ ?_ ?_ _ _ ⟨rfl,rfl,ks,hi⟩
  · rintro v rest r s' ⟨hr,rfl,ks',hall⟩
    cases hall with
    | @cons k _ ks'' _ h1 h2 =>
      have hv:ofAClassStatement 7 v=pure false:=by
       cases v <;> first | rfl | (exfalso;revert h1;simp [intKind,Value.isInt])
      rw [hv]
      refine wpAny_bind (wpAny_pure ?_)
      simp only [Bool.false_eq_true,if_false]
      exact wpAny_pure ⟨rfl,rfl,ks'',h2⟩
  · rintro ⟨r1,r2⟩ s' ⟨hr,rfl,_⟩
    simp only at hr
    subst hr
    exact wpAny_pure hR
 unfold searchCouldBeSeen
 refine wpAny_bind ?_
 refine wpAny_forIn_list _ (fun rest r s'=>r.1=none∧s'=s∧(rest=[.ref y]∨rest=[])) _ ?_ ?_ _ _ ⟨rfl,rfl,.inl rfl⟩
 · rintro v rest r s' ⟨hr,rfl,hv⟩
   have ev:v=.ref y∧rest=[]:=by
    rcases hv with e | e
    · simp at e;exact e
    · simp at e
   obtain ⟨rfl,rfl⟩:=ev
   dsimp only
   by_cases hvy:((a == y) || (carriedByValue (.ref a) && carriedByValue (.ref y)))=true
   · rw [if_pos hvy];exact wpAny_pure ⟨rfl,rfl,.inr rfl⟩
   rw [if_neg hvy]
   refine wpAny_bind (wpAny_eqIsQuiet_tuple hx ?_)
   rw [if_neg (by decide)]
   refine wpAny_bind (wpAny_eqIsQuiet_tuple hy ?_)
   rw [if_neg (by decide)]
   refine wpAny_bind (cls hx ?_)
   rw [if_neg (by decide)]
   refine wpAny_bind (cls hy ?_)
   rw [if_neg (by decide)]
   exact wpAny_pure ⟨rfl,rfl,.inr rfl⟩
 · rintro ⟨r1,r2⟩ s' ⟨hr,rfl,_⟩
   simp only at hr
   subst hr
   exact wpAny_pure h
theorem slot_one (j:Nat) (d:Array Nat) (fg:Nat) (led:Bool) (mv:Nat) (pl:Bool):({ mask:=7,place:=#[j],dummies:=d,finger:=fg,led:=led,moves:=mv,plain:=pl }:SetTable).slot j=.live 0:=by
 simp [SetTable.slot,SetTable.below,SetTable.below.go]
theorem probe_one {hv:Int} {f:Nat→Int} {fg:Nat} {led:Bool} {mv:Nat} {pl:Bool} (hf:f 0=hv):({ mask:=7,place:=#[SetTable.bits hv % 8],dummies:=#[],finger:=fg,led:=led,moves:=mv,plain:=pl }:SetTable).probe f hv ((none:Option SetTable.Probe).getD (({ mask:=7,place:=#[SetTable.bits hv % 8],dummies:=#[],finger:=fg,led:=led,moves:=mv,plain:=pl }:SetTable).probeStart hv))
=some (.candidate (SetTable.bits hv % 8) 0 (({ mask:=7,place:=#[SetTable.bits hv % 8],dummies:=#[],finger:=fg,led:=led,moves:=mv,plain:=pl }:SetTable).advance (({ mask:=7,place:=#[SetTable.bits hv % 8],dummies:=#[],finger:=fg,led:=led,moves:=mv,plain:=pl }:SetTable).probeStart hv))):=by
 unfold SetTable.probe
 rw [show 10 * SetTable.turns 7=219+1 from rfl]
 unfold SetTable.probe.go
 dsimp only [SetTable.probeStart,Option.getD]
 rw [slot_one]
 dsimp only
 rw [hf,if_pos (by simp)]
theorem add_again {ex:List Addr} {S a:Addr} {ks:List Int} {Q:Bool→Shared→Prop} (hu:A.units<cLine) (hS:One prog w ex s.heap S ks) (hk:IsTupleKey (intKind prog w) s.heap ks a) (h:Q false s):wpAny (model prog w) A (setAddHashedIn S (.ref a) (tupleKeyHash (intKind prog w) ks) 100000) Q E s:=by
 obtain ⟨ep,t,y,hS,hm,hp,hd,_,hy⟩:=hS
 generalize tupleKeyHash (intKind prog w) ks=hv at *
 obtain ⟨mask,place,dummies,finger,led,moves,plain⟩:=t
 simp only at hm hp hd
 subst hm hp hd
 rw [show (100000:Nat)=99999+1 from rfl]
 unfold setAddHashedIn
 refine wpAny_bind (wpAny_setState_of hS rfl rfl ?_)
 dsimp only
 rw [show byScan (.ref a) #[(hv,Value.ref y)]=false from rfl,if_neg (by decide)]
 refine wpAny_bind ?_
 unfold setSearch
 rw [show (100000:Nat)=99999+1 from rfl]
 unfold setSearchFrom
 refine wpAny_bind (wpAny_setState_of hS rfl rfl ?_)
 dsimp only
 rw [show ({ mask:=7,place:=#[SetTable.bits hv % 8],dummies:=#[],finger:=finger,led:=led,moves:=moves,plain:=plain }:SetTable).gaveWay=false by simp [SetTable.gaveWay],if_neg (by decide)]
 rw [probe_one (by rfl)]
 dsimp only
 cases led with
 | true =>
   rw [if_neg (by decide)]
   refine wpAny_bind (wpAny_holding (wpAny_eqBool_tuple hu hy hk ?_))
   refine wpAny_bind (wpAny_setState_of hS rfl rfl ?_)
   dsimp only
   rw [decide_eq_true rfl,if_pos (by decide)]
   exact wpAny_pure (wpAny_pure h)
 | false =>
   rw [if_pos (by decide)]
   have hfl:List.map (fun x:Int×Value=>x.snd) (Array.filter (fun x=>x.fst == hv) #[(hv,Value.ref y)]).toList=[.ref y]:=by simp
   rw [hfl]
   refine wpAny_bind (seen_not hk hy ?_)
   rw [if_neg (by decide)]
   refine wpAny_bind (wpAny_holding (wpAny_eqBool_tuple hu hy hk ?_))
   refine wpAny_bind (wpAny_setState_of hS rfl rfl ?_)
   dsimp only
   rw [decide_eq_true rfl,if_pos (by decide)]
   exact wpAny_pure (wpAny_pure h)
end
section
variable {prog:Program} {w:World} {A:Around} {R:Result→Shared→Prop} {I:Addr} {fp wr:List Addr} {G:Array GenState→Array GenState→Prop} {n:Nat} {P:Nat→Value→Prop} {St:Nat→Shared→Prop}
noncomputable def SoFar (prog:Program) (w:World) (ex:List Addr) (hp:Heap) (S:Addr) (ks:List Int) (i:Nat):Prop:=(i=0∧∃ led,hp.get? S=some { cls:=.type "set",dict:=none,data:=.set #[] 0 (.fresh 0 0 led) })∨(0<i∧One prog w ex hp S ks)
theorem IsTupleKey.at' {hp hp':Heap} {ks:List Int} {a:Addr} (h:IsTupleKey (intKind prog w) hp ks a) (k:∀ o,hp.get? a=some o→hp'.get? a=some o):IsTupleKey (intKind prog w) hp' ks a:=by
 obtain ⟨o,its,m,e,r⟩:=h
 exact ⟨o,its,m,k _ e,r⟩
theorem SoFar.keep {hp hp':Heap} {ex:List Addr} {S:Addr} {ks:List Int} {i:Nat} (h:SoFar prog w ex hp S ks i) (k:∀ b o,b=S∨b ∉ ex→hp.get? b=some o→hp'.get? b=some o):SoFar prog w ex hp' S ks i:=by
 rcases h with ⟨e,led,h⟩ | ⟨e,ep,t,y,a,b,c,d,ny,hy⟩
 · exact .inl ⟨e,led,k _ _ (.inl rfl) h⟩
 · exact .inr ⟨e,ep,t,y,k _ _ (.inl rfl) a,b,c,d,ny,IsTupleKey.at' hy fun o e=>k _ _ (.inr ny) e⟩
theorem set_loop (W:WalksS prog w A.in1 I fp wr G n P St) (S:Addr) (hSf:S ∉ fp) (g0:Heap) (ks:List Int) (hu:A.units+8<cLine)
 (hval:∀ i v,P i v→∃ a,v=.ref a∧a ∉ S :: wr∧IsTupleKey (intKind prog w) g0 ks a) :
 ∀ (k i:Nat) (s:Shared),n - i=k→i≤n→St i s→(∀ b o,b ∉ S :: wr→g0.get? b=some o→s.heap.get? b=some o)→SoFar prog w (S :: wr) s.heap S ks i →
   (∀ s',Moved (S :: wr) G s s'→SoFar prog w (S :: wr) s'.heap S ks n→R (.ok (.ret .none)) s') →
   codeAny (model prog w) A (.builtin "set.update.loop" ⟨[.ref S,.ref I],[]⟩) R s:=by
 have hSw:S ∉ wr:=fun h=>hSf (W.sub _ h)
 have hsub:∀ b∈wr,b∈S :: wr:=fun b hb=>List.mem_cons_of_mem _ hb
 have kk:∀ {s s':Shared},Moved wr G s s'→∀ b o,b=S∨b ∉ S :: wr→s.heap.get? b=some o→s'.heap.get? b=some o:=fun {s s'} hm b o hb e=>hm.heap b o (by
  rcases hb with rfl | hb
  · exact hSw
  · exact fun z=>hb (hsub _ z)) e
 intro k
 induction k with
 | zero =>
   intro i s hk hi hst hg hS hR
   obtain rfl:i=n:=by omega
   refine codeAny_builtin PyProof.Rows.F.entry_set_update_loop ?_
   rw [Around.under_plainId PyProof.Rows.F.plain_set_update_loop _]
   show wpAny _ A.in1 (pyNext (.ref I) >>= _) _ _ s
   refine wpAny_bind (W.done s _ _ hst fun s' hm=>?_)
   show wpAny _ A.in1 (ret Value.none) _ _ s'
   exact wpAny_pure (hR s' (hm.mono hsub) (hS.keep (kk hm)))
 | succ k ih =>
   intro i s hk hi hst hg hS hR
   have hlt:i<n:=by omega
   refine codeAny_builtin PyProof.Rows.F.entry_set_update_loop ?_
   rw [Around.under_plainId PyProof.Rows.F.plain_set_update_loop _]
   show wpAny _ A.in1 (pyNext (.ref I) >>= _) _ _ s
   refine wpAny_bind (W.item i s _ _ hlt hst fun v s' hP hst' hm=>?_)
   obtain ⟨a,rfl,hna,hka⟩:=hval i v hP
   have hg':∀ b o,b ∉ S :: wr→g0.get? b=some o→s'.heap.get? b=some o:=fun b o hb e=>kk hm b o (.inr hb) (hg b o hb e)
   have hS':=hS.keep (kk hm)
   have hks:IsTupleKey (intKind prog w) s'.heap ks a:=IsTupleKey.at' hka fun o e=>hg' _ _ hna e
   show wpAny _ A.in1 (holding [Value.ref a] (setAdd S (.ref a)) >>= _) _ _ s'
   refine wpAny_bind (wpAny_holding ?_)
   unfold setAdd
   refine wpAny_holding ?_
   refine wpAny_bind (wpAny_pyHash_tuple (by show A.units+1<cLine;omega) hks ?_)
   unfold setAddHashed
   refine wpAny_holding ?_
   rcases hS' with ⟨hi0,led,hS0⟩ | ⟨hi0,hS1⟩
   · refine add_first (ex:=S :: wr) (s:={ s' with toks:=s'.toks+(ks.length+1) }) hS0 hks (fun z=>hna (by rw [z];exact List.mem_cons_self)) hna fun h' hsb hO=>?_
     refine wpAny_pure ⟨plainId_quiet PyProof.Rows.F.plain_set_update_loop _,ih (i+1) _ (by omega) hlt (W.frame _ s' _ _ hst' (Nat.le_add_right _ _) fun b hb o e=>?_) (fun b o hb e=>?_) (.inr ⟨by omega,hO⟩) fun s'' hm'' hS''=>?_⟩
     · rw [hsb.2 b (fun h:b=S=>hSf (by rw [← h];exact hb))];exact e
     · rw [hsb.2 b (fun h:b=S=>hb (by rw [h];exact List.mem_cons_self))];exact hg' b o hb e
     · refine hR s'' (Moved.trans W.gtrans ((hm.mono hsub).then_heap (Nat.le_add_right _ _) fun b o hb e=>?_) hm'') hS''
       rw [hsb.2 b (fun h:b=S=>hb (by rw [h];exact List.mem_cons_self))];exact e
   · refine add_again (s:={ s' with toks:=s'.toks+(ks.length+1) }) (by show A.units+1<cLine;omega) hS1 hks ?_
     refine wpAny_pure ⟨plainId_quiet PyProof.Rows.F.plain_set_update_loop _,ih (i+1) _ (by omega) hlt (W.frame _ s' _ _ hst' (Nat.le_add_right _ _) fun b hb o e=>e) hg' (.inr ⟨by omega,hS1⟩) fun s'' hm'' hS''=>?_⟩
     exact hR s'' (Moved.trans W.gtrans ((hm.mono hsub).then_heap (Nat.le_add_right _ _) fun b o hb e=>e) hm'') hS''
end
end L2

namespace L2
open PySem PySem.Spec PyProof.Rows PySem.W
section
variable {prog:Program} {w:World} {A:Around} {E:Value→Shared→Prop} {s:Shared}
noncomputable abbrev freshSet (led:Bool):Obj:={ cls:=.type "set",dict:=none,data:=.set #[] 0 (.fresh 0 0 led) }
set_option maxHeartbeats 3200000 in
theorem call_set_tups {l:Addr} {items:Array Value} {ks:List Int} {Q:Value→Shared→Prop} (hh:A.handled=none) (hu:A.units+16<cLine) (hl:s.heap.IsList l items) (h1:1≤items.size)
 (hi:∀ v∈items.toList,∃ a,v=.ref a∧a<s.heap.objs.size∧IsTupleKey (intKind prog w) s.heap ks a)
 (h:∀ (h':Heap) (tk:Nat) (ex:List Addr),One prog w ex h' s.heap.objs.size ks→(∀ b o,b<s.heap.objs.size→s.heap.get? b=some o→h'.get? b=some o)→Q (.ref s.heap.objs.size) { s with heap:=h',toks:=tk }) :
 wpAny (model prog w) A (call (.type "set") [.ref l]) Q E s:=by
 obtain ⟨c,tl,hmro⟩:=F.called_set.mro
 have hmade:=F.called_set.made
 have hsub:=F.called_set.sub
 refine wpAny_call (codeAny_of_tree ?_)
 show wpAny _ _ (callAny (.type "set") _) _ _ _
 refine wpAny_pure ⟨Code.quiet_builtin _ (by decide +kernel),codeAny_builtin F.entry_type_call ?_⟩
 rw [Around.under_plain (weight_type_call_type "set" [.ref l] []) rfl]
 have hA1:=F.called_set.notType
 have hA2:=F.called_set.canCreate
 have hct:=F.typeCall_set_1 (.ref l)
 repeat (any_goals (first | assumption | wp_step))
 refine codeAny_mono (code_set_new_1 (.ref l) (E:=E) (Q₁:=fun obj s₁=>∃ led:Bool,obj=.ref s.heap.objs.size∧s₁={ s with heap:=s.heap.push (freshSet led) }) fun led=>⟨led,rfl,rfl⟩) fun r s₁ hr=>?_
 cases r with
 | error e=>exact hr
 | ok fl =>
   cases fl with
   | ret obj =>
     obtain ⟨led,rfl,rfl⟩:=hr
     have hS:(s.heap.push (freshSet led)).get? s.heap.objs.size=some (freshSet led):=Heap.get?_push_size _ rfl
     have hT:Shared.TypeIs { s with heap:=s.heap.push (freshSet led) } (.ref s.heap.objs.size) "set":=⟨_,hS,rfl⟩
     have hli:=F.called_set.init.lookup
     have hbi:=F.called_set.init.bind (.ref s.heap.objs.size)
     repeat (any_goals (first | assumption | wp_step))
     refine codeAny_mono (codeAny_call_builtin (R:=wants (fun r s₂=>r=.none∧∃ h' tk ex,s₂={ s with heap:=h',toks:=tk }∧One prog w ex h' s.heap.objs.size ks ∧
      (∀ b o,b<s.heap.objs.size→s.heap.get? b=some o→h'.get? b=some o)) E) F.called_set.init.plain F.entry_set_init (check_set_init_1 hT ?_)) fun r₂ s₂ hr₂=>?_
     · obtain ⟨ol,hol,hcl,nl,hdl⟩:=hl
       obtain ⟨ocls,odict,odata,oslots⟩:=ol
       simp only at hcl hdl
       subst hcl;subst hdl
       have hol':(s.heap.push (freshSet led)).get? l=some { cls:=.type "list",dict:=odict,data:=.seq items nl,slots:=oslots }:=Heap.get?_push_of_some _ hol
       have hsls:=F.sub_list_set
       have hslf:=F.sub_list_frozenset
       have hne:(Value.type "list" == Value.type "dict")=false:=by decide
       have hl1:(s.heap.push (freshSet led)).IsList l items:=⟨_,hol',rfl,nl,rfl⟩
       unfold Builtin.«set.__init__» noKeywords Builtin.Frozenset.updateFrom
       generalize hPI:pyIter=PI
       wp_walk
       subst hPI
       refine wpAny_pyIter_list hl1 ?_
       refine wpAny_bind (wpAny_runValue ?_)
       have hlS:l<s.heap.objs.size:=Heap.lt_size hol
       have hh3:A.in1.in1.in1.handled=none:=by simp [hh]
       have hszp:(s.heap.push (freshSet led)).objs.size=s.heap.objs.size+1:=Heap.size_push ..
       have hneI:l≠(s.heap.push (freshSet led)).objs.size:=by
        rw [hszp];exact Nat.ne_of_lt (Nat.lt_succ_of_lt hlS)
       have hSf:s.heap.objs.size ∉ [(s.heap.push (freshSet led)).objs.size,l]:=by
        rw [hszp];simp only [List.mem_cons,List.mem_singleton,List.not_mem_nil,or_false,not_or]
        exact ⟨Nat.ne_of_lt (Nat.lt_succ_self _),Nat.ne_of_gt hlS⟩
       refine set_loop ((Walks.list hh3 _ l hneI items).toS) s.heap.objs.size hSf s.heap ks ?hU ?hV (items.size - 0) 0 _ (by omega) (Nat.zero_le _)
        ⟨⟨_,Heap.get?_push_size _ rfl,rfl,rfl⟩,(hl1.push _)⟩ ?hG (.inl ⟨rfl,led,Heap.get?_push_of_some _ hS⟩) ?hR
       case hU =>
        show A.units+1+1+8<cLine
        omega
       case hV =>
        intro i v hv
        obtain ⟨a,rfl,hlt,hk⟩:=hi v (by rw [Array.mem_toList_iff];exact Array.mem_of_getElem? hv)
        refine ⟨a,rfl,?_,hk⟩
        simp only [List.mem_cons,List.mem_singleton,List.not_mem_nil,or_false,not_or]
        rw [hszp]
        exact ⟨Nat.ne_of_lt hlt,Nat.ne_of_lt (Nat.lt_succ_of_lt hlt)⟩
       case hG =>
        intro b o hb e
        exact Heap.get?_push_of_some _ (Heap.get?_push_of_some _ e)
       case hR =>
        intro s' hm hS'
        obtain ⟨h',g',d',tk',os'⟩:=s'
        have eg:g'=s.gens:=hm.gens
        have ed:d'=s.drawn:=hm.drawn
        have eo:os'=s.os:=hm.os
        subst eg;subst ed;subst eo
        show wpAny _ _ _ _ _ _
        refine wpAny_pure ?_
        show wpAny _ _ (ret Value.none) _ _ _
        rcases hS' with ⟨e0,_⟩ | ⟨_,hO⟩
        · omega
        refine wpAny_pure ⟨rfl,h',tk',_,rfl,hO,fun b o hb e=>?_⟩
        have hb1:b≠s.heap.objs.size:=Nat.ne_of_lt hb
        have hb2:b≠(s.heap.push (freshSet led)).objs.size:=by
         rw [hszp];exact Nat.ne_of_lt (Nat.lt_succ_of_lt hb)
        exact hm.heap b o (by simp only [List.mem_cons,List.mem_singleton,List.not_mem_nil,or_false,not_or];exact ⟨hb1,hb2⟩) (Heap.get?_push_of_some _ (Heap.get?_push_of_some _ e))
     · cases r₂ with
       | error e=>exact hr₂
       | ok fl₂ =>
         cases fl₂ with
         | ret r =>
           obtain ⟨rfl,h',tk,ex,rfl,hS',hk'⟩:=hr₂
           repeat (any_goals (first | assumption | wp_step))
           exact h _ _ _ hS' hk'
         | _=>exact hr₂.elim
   | _=>exact hr.elim
end
end L2

namespace L2
open PySem PySem.Spec PyProof.Rows PySem.W
section
variable {X:Cx}
noncomputable def tLenSet (K:PySem.W.Frag) (ta:TA):TE:=fun σ H Q=>ta σ H fun vs H1=>∃ (l:Addr) (us:List V) (F:Int×Int),vs=[.ref l]∧H1 l=some (.lst us)∧us≠[]∧(∀ u∈us,∃ q,u=.ref q∧FrA K H1 q F)∧Q (.int 1) H1
theorem fr_key {K:PySem.W.Frag} {pins:List (Addr×Obj)} {σ:St} {H:Hp} {s:Shared} {q:Addr} {F:Int×Int} (I:Inv X pins σ H s) (h:FrA K H q F):IsTupleKey (intKind X.prog X.w) s.heap [F.1,F.2] q:=by
 obtain ⟨z,its,r,p⟩:([V.int F.1,V.int F.2]:List V).length≤sizeLine∧∃ its:List Value,Vals [.int F.1,.int F.2] its∧IsTupN s.heap q its.toArray:=I.hok q _ h
 obtain ⟨o,ho,hc,n,hd⟩:=p.tup
 obtain ⟨u1,u2,rfl,⟨t1,rfl⟩,⟨t2,rfl⟩⟩:=vals2 r
 exact ⟨o,_,n,ho,hc,hd,.cons (intKind_is _ _ _ _) (.cons (intKind_is _ _ _ _) .nil)⟩
theorem boot_set:bootBuiltins "set"=some (.type "set"):=by decide +kernel
theorem pe_lenset {K:PySem.W.Frag} {k:Nat} {a:Expr} {ta:TA} {p p' pos pos':Pos} (hr:Room k X.A) (hc:X.calm=true) (hgL:Gl X "len") (hmL:X.mg "len"=none) (hgE:Gl X "set") (hmE:X.mg "set"=none) (ha:PA X [a] ta)
 (hs:starEach [.Call (.Name "set" p') [a] [] pos'] X.env=[(false,eval (.Call (.Name "set" p') [a] [] pos') X.env)]:=by rfl) (hs2:starEach [a] X.env=[(false,eval a X.env)]:=by rfl) :
 PE X (.Call (.Name "len" p) [.Call (.Name "set" p') [a] [] pos'] [] pos) (tLenSet K ta):=by
 intro pins s σ H Q I h
 refine wpAny_Call_Name_kw (ld_blt I hgL hmL PySem.boot_len ?_ (by decide) (by decide))
 refine PyProof.Rows.callWith_builtin1 ?_ hs rfl
 rw [hs]
 show wpAny _ _ (spliced ((false,eval (.Call (.Name "set" p') [a] [] pos') X.env) :: backTo pos [])) _ _ s
 refine Calls.spliced_cons ?_
 refine wpAny_Call_Name_kw (ld_blt I hgE hmE boot_set ?_ (by decide) (by decide))
 refine PyProof.Rows.callWith_type1 (thn (ha pos' pins s σ H _ I h) fun us s1 ⟨vs,H1,I1,r1,q1⟩=>?_) hs2 rfl
 obtain ⟨l,xs,F,rfl,hl,hne,hF,q⟩:=q1
 obtain ⟨u,rfl,ru⟩:=vals1 r1
 cases ru
 obtain ⟨its,rv,pl,hz⟩:=id (I1.list (SqL.of hl))
 have hlen:=rv.length
 have hpos:0<xs.length:=List.length_pos_iff.mpr hne
 refine call_set_tups (ks:=[F.1,F.2]) (I1.ok.hd hc) (by have:=hr.units;omega) pl.isList (by rw [List.size_toArray];omega) (fun v hv=>?_) fun h' tk ex hO kp=>?_
 · obtain ⟨i,hi,e⟩:=List.mem_iff_getElem.mp (show v∈its by simpa using hv)
   obtain ⟨x,hx⟩:∃ x,xs[i]?=some x:=⟨_,List.getElem?_eq_getElem (by omega)⟩
   obtain ⟨u,hu,ru⟩:=rv.get hx
   rw [List.getElem?_eq_getElem hi] at hu
   cases hu
   obtain ⟨q',rfl,fq⟩:=hF x (List.mem_of_getElem? hx)
   have ev:v=.ref q':=e.symm.trans ru
   have hk:=fr_key I1 fq
   refine ⟨q',ev,?_,hk⟩
   obtain ⟨o,_,_,ho,_⟩:=hk
   exact Heap.lt_size ho
 · refine Calls.spliced_nil ?_
   obtain ⟨ep,t,y,hS,hm,hp,hd,_,_⟩:=hO
   refine call_len_set (s:={ s1 with heap:=h',toks:=tk }) hS ⟨rfl,rfl,rfl⟩ rfl (by simp [SetTable.fits,SetTable.fill,hp,hd,hm]) (by show ((1:Nat):Int)<2 ^ 63;decide) ?_
   exact ⟨.int 1,H1,I1.kept (t':=tk+1+1) (h':=h') fun b o e=>kp b o (Heap.lt_size e) e,⟨_,rfl⟩,q⟩
end
end L2

open PySem PySem.Spec PyProof PyProof.Rows
namespace Pw
section
variable {ps ms:List (Int×Int)} {A:Int×Int} {Bs Ss:List (Int×Int)} {n:Nat} {S:Int}
theorem high_le3 (lk:∀ p∈ps,0≤p.2∧p.2<(n:Int)) (ca:Canon A) (cb:Canons Bs) (hn:Bs.length=n) (pr:L2.Pr A Bs S) (ok:ShOk ps A Bs n Ss) {x:Nat→Rat} (hx:∀ i,i<n→x i≤0∨x i≤qs n (fun t=>val ((waysL ps A Bs (i:Nat)).getD t (0,1)) * x t)) {e:Nat} (he:e<n) (xe:x e≤0) (se:0<val (Ss.getD e (0,1))):∀ c,c<n→x c≤0:=by
 intro c hc
 obtain ⟨i,hi,hm⟩:=argmax x (n:=n) (by omega)
 refine Rat.le_trans (hm c hc) (Rat.not_lt.mp fun pos=>?_)
 have one:=pr.one
 rw [hn] at one
 have a0:=val_pos ca.1 pr.a0
 have wn:∀ j t,t<n→0≤val ((waysL ps A Bs (j:Nat)).getD t (0,1)):=fun j t ht=>(way_le1 lk ca cb hn pr ht).1
 have bn:∀ t,t<n→0≤val (Bs.getD t (0,1)):=fun t ht=>val_nn (cb.getD t).1 (pr.nn _ (L2.mem_getD (by omega)))
 have top:∀ j,j<n→x j=x i→∀ t,t<n→val ((waysL ps A Bs (j:Nat)).getD t (0,1)) * (x i - x t)=0:=fun j hj ej t ht=>by
  have e1:x j≤qs n (fun t=>val ((waysL ps A Bs (j:Nat)).getD t (0,1)) * x t):=by
   rcases hx j hj with z | z
   · rw [ej] at z;exact absurd pos (Rat.not_lt.mpr z)
   · exact z
  have nn:∀ t,t<n→0≤val ((waysL ps A Bs (j:Nat)).getD t (0,1)) * (x i - x t):=fun t ht=>Rat.mul_nonneg (wn j t ht) (by have:=hm t ht;grind)
  have sum:qs n (fun t=>val ((waysL ps A Bs (j:Nat)).getD t (0,1)) * (x i - x t))≤0:=by
   rw [qs_congr (g:=fun t=>x i * val ((waysL ps A Bs (j:Nat)).getD t (0,1))+(-1) * (val ((waysL ps A Bs (j:Nat)).getD t (0,1)) * x t)) fun t _=>by grind,qs_add,qs_mul,qs_mul,ways_sum lk ca cb hn one]
   rw [ej] at e1
   grind
  have:=qs_ge ht nn
  exact Rat.le_antisymm (Rat.le_trans this sum) (nn t ht)
 generalize hI:(fun t:Nat=>if x t=x i then (0:Rat) else 1)=I
 have I0:∀ t,x t=x i→I t=0:=fun t h=>by rw [← hI];exact if_pos h
 have I1:∀ t,x t≠x i→I t=1:=fun t h=>by rw [← hI];exact if_neg h
 have bI:∀ t,t<n→x t≠x i→val (Bs.getD t (0,1))=0:=fun t ht h=>by
  have h1:=top i hi rfl t ht
  have h2:val ((waysL ps A Bs (i:Nat)).getD t (0,1))=0:=mz' (show x i - x t≠0 from fun z=>h (by clear hm hx h1;grind)) h1
  have h3:=way_ge (ps:=ps) (j:=i) ca cb hn pr ht
  rw [h2] at h3
  have h4:=bn t ht
  have h5:=Rat.mul_nonneg (Rat.le_of_lt a0) h4
  have h6:val A * val (Bs.getD t (0,1))=0:=Rat.le_antisymm h3 h5
  exact mz a0 h6
 have row:∀ j,j<n→qs n (fun t=>val ((waysL ps A Bs (j:Nat)).getD t (0,1)) * I t)≤(1 - val A) * I j:=fun j hj=>by
  by_cases h:x j=x i
  · rw [I0 j h,qs_congr (g:=fun _=>0) fun t ht=>?_,qs_zero]
    · grind
    · have:=top j hj h t ht
      by_cases z:x t=x i
      · rw [I0 t z];grind
      · rw [I1 t z]
        have w0:=mz' (show x i - x t≠0 from fun y=>z (by clear hm hx;grind)) this
        rw [w0];grind
  · rw [I1 j h]
    have h1:qs n (fun t=>val ((waysL ps A Bs (j:Nat)).getD t (0,1)) * I t)≤qs n (fun t=>val ((waysL ps A Bs (j:Nat)).getD t (0,1))+(-val A) * val (Bs.getD t (0,1))):=qs_le fun t ht=>by
     by_cases z:x t=x i
     · rw [I0 t z]
       have:=way_ge (ps:=ps) (j:=j) ca cb hn pr ht
       grind
     · rw [I1 t z,bI t ht z];grind
    rw [qs_add,qs_mul,ways_sum lk ca cb hn one,one] at h1
    grind
 have key:qs n (fun t=>val (Ss.getD t (0,1)) * I t)≤(1 - val A) * qs n (fun t=>val (Ss.getD t (0,1)) * I t):=by
  have e1:qs n (fun t=>val (Ss.getD t (0,1)) * I t)=qs n (fun j=>val (Ss.getD j (0,1)) * qs n (fun t=>val ((waysL ps A Bs (j:Nat)).getD t (0,1)) * I t)):=by
   rw [qs_congr (g:=fun t=>qs n (fun j=>val (Ss.getD j (0,1)) * (val ((waysL ps A Bs (j:Nat)).getD t (0,1)) * I t))) fun t ht=>?_,qs_swap]
   · exact qs_congr fun j _=>by rw [qs_mul]
   · have:=ok.stay t ht
     unfold behQ at this
     rw [← this,qs_congr (f:=fun j=>val (Ss.getD j (0,1)) * (val ((waysL ps A Bs (j:Nat)).getD t (0,1)) * I t)) (g:=fun j=>I t * (val (Ss.getD j (0,1)) * val ((waysL ps A Bs (j:Nat)).getD t (0,1)))) fun j _=>by grind,qs_mul];grind
  have e2:qs n (fun j=>val (Ss.getD j (0,1)) * qs n (fun t=>val ((waysL ps A Bs (j:Nat)).getD t (0,1)) * I t))≤qs n (fun j=>(1 - val A) * (val (Ss.getD j (0,1)) * I j)):=qs_le fun j hj=>by
   have:=Rat.mul_nonneg (ok.v_nn hj) (show 0≤(1 - val A) * I j - qs n (fun t=>val ((waysL ps A Bs (j:Nat)).getD t (0,1)) * I t) by have:=row j hj;grind)
   grind
  rw [qs_mul] at e2
  rw [← e1] at e2
  exact e2
 have Ie:I e=1:=I1 e (fun z=>by rw [z] at xe;exact absurd pos (Rat.not_lt.mpr xe))
 have big:val (Ss.getD e (0,1))≤qs n (fun t=>val (Ss.getD t (0,1)) * I t):=by
  have:=qs_ge (f:=fun t=>val (Ss.getD t (0,1)) * I t) he fun t ht=>Rat.mul_nonneg (ok.v_nn ht) (by by_cases z:x t=x i;(rw [I0 t z];decide);(rw [I1 t z];decide))
  have h:val (Ss.getD e (0,1)) * I e≤_:=this
  rw [Ie] at h
  grind
 generalize qs n (fun t=>val (Ss.getD t (0,1)) * I t)=Pq at *
 have:=Rat.mul_pos a0 (show 0<Pq by grind)
 grind

theorem st_at {Xs:List (Int×Int)} {c:Nat} (hc:c<n) (ao:ArOk ps A Bs n (L2.eSt c) 1 Xs):val (Xs.getD c (0,1))=0:=by rw [ao.ends c 0 hc (by unfold L2.eSt;rw [if_pos rfl])];exact val01
theorem st_go {Xs:List (Int×Int)} {c i:Nat} (hi:i<n) (h:i≠c) (ao:ArOk ps A Bs n (L2.eSt c) 1 Xs):val (Xs.getD i (0,1))=1+qs n (fun t=>val ((waysL ps A Bs (i:Nat)).getD t (0,1)) * val (Xs.getD t (0,1))):=by
 rw [ao.go i hi (by unfold L2.eSt;rw [if_neg h])];rfl
theorem steps_nn (lk:∀ p∈ps,0≤p.2∧p.2<(n:Int)) (ca:Canon A) (cb:Canons Bs) (hn:Bs.length=n) (pr:L2.Pr A Bs S) (ok:ShOk ps A Bs n Ss) {Xs:List (Int×Int)} {c:Nat} (hc:c<n) (ao:ArOk ps A Bs n (L2.eSt c) 1 Xs) (se:0<val (Ss.getD c (0,1))):∀ t,t<n→0≤val (Xs.getD t (0,1)):=by
 have:=high_le3 lk ca cb hn pr ok (x:=fun t=>-val (Xs.getD t (0,1))) (fun i hi=>by
  by_cases h:i=c
  · left;show -val (Xs.getD i (0,1))≤0;rw [h,st_at hc ao];grind
  · right
    show -val (Xs.getD i (0,1))≤_
    rw [qs_congr (g:=fun t=>(-1) * (val ((waysL ps A Bs (i:Nat)).getD t (0,1)) * val (Xs.getD t (0,1)))) fun t _=>by grind,qs_mul,st_go hi h ao];grind) hc (by
  show -val (Xs.getD c (0,1))≤0
  rw [st_at hc ao];grind) se
 intro t ht
 have h:-val (Xs.getD t (0,1))≤0:=this t ht
 grind
theorem steps_tri (lk:∀ p∈ps,0≤p.2∧p.2<(n:Int)) (ca:Canon A) (cb:Canons Bs) (hn:Bs.length=n) (pr:L2.Pr A Bs S) (ok:ShOk ps A Bs n Ss) {Xs Ys:List (Int×Int)} {a b:Nat} (ha:a<n) (hb:b<n) (ax:ArOk ps A Bs n (L2.eSt a) 1 Xs) (ay:ArOk ps A Bs n (L2.eSt b) 1 Ys) (sa:0<val (Ss.getD a (0,1))) (sb:0<val (Ss.getD b (0,1))) :
 ∀ t,t<n→val (Ys.getD t (0,1))≤val (Xs.getD t (0,1))+val (Ys.getD a (0,1)):=by
 have one:=pr.one
 rw [hn] at one
 have nx:=steps_nn lk ca cb hn pr ok ha ax sa
 have ny:=steps_nn lk ca cb hn pr ok hb ay sb
 have:=high_le3 lk ca cb hn pr ok (x:=fun t=>val (Ys.getD t (0,1)) - val (Xs.getD t (0,1)) - val (Ys.getD a (0,1))) (fun i hi=>by
  by_cases h:i=b
  · left
    show val (Ys.getD i (0,1)) - val (Xs.getD i (0,1)) - val (Ys.getD a (0,1))≤0
    have h1:=nx i hi
    have h2:=ny a ha
    rw [h,st_at hb ay]
    rw [h] at h1
    grind
  · by_cases h2:i=a
    · left
      show val (Ys.getD i (0,1)) - val (Xs.getD i (0,1)) - val (Ys.getD a (0,1))≤0
      rw [h2,st_at ha ax];grind
    · right
      show val (Ys.getD i (0,1)) - val (Xs.getD i (0,1)) - val (Ys.getD a (0,1))≤_
      rw [qs_congr (g:=fun t=>(val ((waysL ps A Bs (i:Nat)).getD t (0,1)) * val (Ys.getD t (0,1))+(-1) * (val ((waysL ps A Bs (i:Nat)).getD t (0,1)) * val (Xs.getD t (0,1))))+(-val (Ys.getD a (0,1))) * val ((waysL ps A Bs (i:Nat)).getD t (0,1))) fun t _=>by grind,qs_add,qs_add,qs_mul,qs_mul,ways_sum lk ca cb hn one,st_go hi h ay,st_go hi h2 ax]
      grind) ha (by
  show val (Ys.getD a (0,1)) - val (Xs.getD a (0,1)) - val (Ys.getD a (0,1))≤0
  rw [st_at ha ax];grind) sa
 intro t ht
 have h:val (Ys.getD t (0,1)) - val (Xs.getD t (0,1)) - val (Ys.getD a (0,1))≤0:=this t ht
 grind
theorem first_one (lk:∀ p∈ps,0≤p.2∧p.2<(n:Int)) (ca:Canon A) (cb:Canons Bs) (hn:Bs.length=n) (pr:L2.Pr A Bs S) (ok:ShOk ps A Bs n Ss) {Xs Ys:List (Int×Int)} {x y:Nat} (hx:x<n) (hy:y<n) (hxy:x≠y) (ax:ArOk ps A Bs n (L2.eFi x y) 0 Xs) (ay:ArOk ps A Bs n (L2.eFi y x) 0 Ys) (se:0<val (Ss.getD x (0,1))∨0<val (Ss.getD y (0,1))) :
 ∀ t,t<n→val (Xs.getD t (0,1))+val (Ys.getD t (0,1))=1:=by
 have one:=pr.one
 rw [hn] at one
 have h0:((0:Int):Rat)=0:=rfl
 have e1:val (Xs.getD x (0,1))+val (Ys.getD x (0,1))=1:=by
  rw [ax.ends x 1 hx (by unfold L2.eFi;rw [if_pos rfl]),ay.ends x 0 hx (by unfold L2.eFi;rw [if_neg hxy,if_pos rfl]),v11,val01];grind
 have e2:val (Xs.getD y (0,1))+val (Ys.getD y (0,1))=1:=by
  rw [ax.ends y 0 hy (by unfold L2.eFi;rw [if_neg (fun z=>hxy z.symm),if_pos rfl]),ay.ends y 1 hy (by unfold L2.eFi;rw [if_pos rfl]),v11,val01];grind
 have go:∀ i,i<n→i≠x→i≠y→val (Xs.getD i (0,1))+val (Ys.getD i (0,1))=qs n (fun t=>val ((waysL ps A Bs (i:Nat)).getD t (0,1)) * (val (Xs.getD t (0,1))+val (Ys.getD t (0,1)))):=fun i hi h1 h2=>by
  have a1:=ax.go i hi (by unfold L2.eFi;rw [if_neg h1,if_neg h2])
  have a2:=ay.go i hi (by unfold L2.eFi;rw [if_neg h2,if_neg h1])
  rw [h0] at a1 a2
  rw [qs_congr (f:=fun t=>val ((waysL ps A Bs (i:Nat)).getD t (0,1)) * (val (Xs.getD t (0,1))+val (Ys.getD t (0,1)))) (g:=fun t=>val ((waysL ps A Bs (i:Nat)).getD t (0,1)) * val (Xs.getD t (0,1))+val ((waysL ps A Bs (i:Nat)).getD t (0,1)) * val (Ys.getD t (0,1))) fun t _=>by grind,qs_add,a1,a2];grind
 obtain ⟨e,he,see,exy⟩:∃ e,e<n∧0<val (Ss.getD e (0,1))∧(e=x∨e=y):=by
  rcases se with h | h
  · exact ⟨x,hx,h,.inl rfl⟩
  · exact ⟨y,hy,h,.inr rfl⟩
 have key:∀ c:Rat,(∀ t,t<n→c * (val (Xs.getD t (0,1))+val (Ys.getD t (0,1)) - 1)≤0):=fun c=>by
  refine high_le3 lk ca cb hn pr ok (x:=fun t=>c * (val (Xs.getD t (0,1))+val (Ys.getD t (0,1)) - 1)) (fun i hi=>?_) he ?_ see
  · by_cases h1:i=x
    · left;show c * (val (Xs.getD i (0,1))+val (Ys.getD i (0,1)) - 1)≤0;rw [h1,e1];grind
    · by_cases h2:i=y
      · left;show c * (val (Xs.getD i (0,1))+val (Ys.getD i (0,1)) - 1)≤0;rw [h2,e2];grind
      · right
        show c * (val (Xs.getD i (0,1))+val (Ys.getD i (0,1)) - 1)≤_
        rw [qs_congr (g:=fun t=>c * (val ((waysL ps A Bs (i:Nat)).getD t (0,1)) * (val (Xs.getD t (0,1))+val (Ys.getD t (0,1))))+(-c) * val ((waysL ps A Bs (i:Nat)).getD t (0,1))) fun t _=>by grind,qs_add,qs_mul,qs_mul,ways_sum lk ca cb hn one,← go i hi h1 h2];grind
  · show c * (val (Xs.getD e (0,1))+val (Ys.getD e (0,1)) - 1)≤0
    rcases exy with h | h <;> rw [h]
    · rw [e1];grind
    · rw [e2];grind
 intro t ht
 have a:=key 1 t ht
 have b:=key (-1) t ht
 grind
noncomputable def kem (Ss:List (Int×Int)) (n:Nat) (Xf:Nat→List (Int×Int)) (i:Nat):Rat:=qs n (fun j=>val (Ss.getD j (0,1)) * val ((Xf j).getD i (0,1)))
theorem kem_go (lk:∀ p∈ps,0≤p.2∧p.2<(n:Int)) (ok:ShOk ps A Bs n Ss) {Xf:Nat→List (Int×Int)} (ax:∀ j,j<n→0<val (Ss.getD j (0,1))→ArOk ps A Bs n (L2.eSt j) 1 (Xf j)) {i:Nat} (hi:i<n) (si:0<val (Ss.getD i (0,1))) :
 kem Ss n Xf i=qs n (fun t=>val ((waysL ps A Bs (i:Nat)).getD t (0,1)) * kem Ss n Xf t):=by
 have bo:=back_one ok hi (ax i hi si)
 have ev:∀ j,j<n→val (Ss.getD j (0,1)) * val ((Xf j).getD i (0,1))=val (Ss.getD j (0,1))+val (Ss.getD j (0,1)) * qs n (fun t=>val ((waysL ps A Bs (i:Nat)).getD t (0,1)) * val ((Xf j).getD t (0,1)))+(if j=i then -1 else 0):=fun j hj=>by
  by_cases h:j=i
  · subst h
    rw [if_pos rfl,st_at hj (ax j hj si)];grind
  · rw [if_neg h]
    by_cases s:0<val (Ss.getD j (0,1))
    · rw [st_go hi (fun z=>h z.symm) (ax j hj s)];grind
    · have:val (Ss.getD j (0,1))=0:=Rat.le_antisymm (Rat.not_lt.mp s) (ok.v_nn hj)
      rw [this];grind
 unfold kem
 rw [qs_congr ev,qs_add,qs_add,ok.one,qs_at hi]
 rw [qs_congr (f:=fun t=>val ((waysL ps A Bs (i:Nat)).getD t (0,1)) * qs n (fun j=>val (Ss.getD j (0,1)) * val ((Xf j).getD t (0,1)))) (g:=fun t=>qs n (fun j=>val ((waysL ps A Bs (i:Nat)).getD t (0,1)) * (val (Ss.getD j (0,1)) * val ((Xf j).getD t (0,1))))) fun t _=>by rw [qs_mul],qs_swap (fun t j=>val ((waysL ps A Bs (i:Nat)).getD t (0,1)) * (val (Ss.getD j (0,1)) * val ((Xf j).getD t (0,1))))]
 rw [qs_congr (f:=fun j=>val (Ss.getD j (0,1)) * qs n (fun t=>val ((waysL ps A Bs (i:Nat)).getD t (0,1)) * val ((Xf j).getD t (0,1)))) (g:=fun j=>qs n (fun t=>val ((waysL ps A Bs (i:Nat)).getD t (0,1)) * (val (Ss.getD j (0,1)) * val ((Xf j).getD t (0,1))))) fun j _=>by rw [← qs_mul];exact qs_congr fun t _=>by grind]
 grind
theorem kem_same (lk:∀ p∈ps,0≤p.2∧p.2<(n:Int)) (ca:Canon A) (cb:Canons Bs) (hn:Bs.length=n) (pr:L2.Pr A Bs S) (ok:ShOk ps A Bs n Ss) {Xf:Nat→List (Int×Int)} (ax:∀ j,j<n→0<val (Ss.getD j (0,1))→ArOk ps A Bs n (L2.eSt j) 1 (Xf j)) {i e:Nat} (hi:i<n) (he:e<n) (si:0<val (Ss.getD i (0,1))) (se:0<val (Ss.getD e (0,1))) :
 kem Ss n Xf i=kem Ss n Xf e:=by
 have one:=pr.one
 rw [hn] at one
 have key:∀ c:Rat,∀ t,t<n→(if 0<val (Ss.getD t (0,1)) then c * (kem Ss n Xf t - kem Ss n Xf e) else 0)≤0:=fun c=>by
  refine high_le3 lk ca cb hn pr ok (x:=fun t=>if 0<val (Ss.getD t (0,1)) then c * (kem Ss n Xf t - kem Ss n Xf e) else 0) (fun j hj=>?_) he ?_ se
  · by_cases s:0<val (Ss.getD j (0,1))
    · right
      show (if 0<val (Ss.getD j (0,1)) then c * (kem Ss n Xf j - kem Ss n Xf e) else 0)≤_
      rw [if_pos s,qs_congr (g:=fun t=>c * (val ((waysL ps A Bs (j:Nat)).getD t (0,1)) * kem Ss n Xf t)+(-(c * kem Ss n Xf e)) * val ((waysL ps A Bs (j:Nat)).getD t (0,1))) fun t ht=>?_,qs_add,qs_mul,qs_mul,ways_sum lk ca cb hn one,← kem_go lk ok ax hj s]
      · grind
      · by_cases st:0<val (Ss.getD t (0,1))
        · rw [if_pos st];grind
        · have w0:val ((waysL ps A Bs (j:Nat)).getD t (0,1))=0:=Classical.byContradiction fun z=>st (sh_step lk ca cb hn pr ok hj ht s z)
          rw [w0];grind
    · left
      show (if 0<val (Ss.getD j (0,1)) then c * (kem Ss n Xf j - kem Ss n Xf e) else 0)≤0
      rw [if_neg s];grind
  · show (if 0<val (Ss.getD e (0,1)) then c * (kem Ss n Xf e - kem Ss n Xf e) else 0)≤0
    rw [if_pos se];grind
 have a:=key 1 i hi
 have b:=key (-1) i hi
 rw [if_pos si] at a b
 grind
theorem ArOk.ways {E:Nat→Option Int} {st:Int} {Xs:List (Int×Int)} (hw:∀ j t,j<n→t<n→val ((waysL ps A Bs (j:Nat)).getD t (0,1))=val ((waysL ms A Bs (j:Nat)).getD t (0,1))) (h:ArOk ps A Bs n E st Xs):ArOk ms A Bs n E st Xs :=
 ⟨h.len,h.canon,h.ends,fun i hi e=>by
  rw [h.go i hi e]
  congr 1
  exact qs_congr fun t ht=>by rw [hw i t hi ht]⟩
theorem ar_fine {E:Nat→Option Int} {st L:Int} {z:Nat} (few:ps.length≤100) (lk:∀ p∈ps,0≤p.2∧p.2<(n:Int)) (ca:Canon A) (cb:Canons Bs) (hn:Bs.length=n) (n12:n≤12) (pr:L2.Pr A Bs S) (hL:IsLcm Bs L) (hz:z≤41) (sA:L2.Sz z A.2) (sS:L2.Sz z S) (hst:st=0∨st=1) (hE:∀ i v,E i=some v→v=0∨v=1) (ok:ShOk ps A Bs n Ss) {e:Nat} (he:e<n) (hEe:(E e).isSome=true) (se:0<val (Ss.getD e (0,1))) :
 ∃ D:Int,0<D∧L2.Sz ((z+11) * 14+1) D∧∀ t,t<n→Bd D ((2 ^ ((z+11) * 14):Int):Rat) (val ((arXs ps A Bs L n E st).getD t (0,1))):=by
 have sL:L2.Sz z L:=L2.le_sz (Int.le_of_lt hL.pos) (hL.le pr.spos pr.sdvd) sS
 have nz:NZ (n+1) (arF ps A Bs L n E st):=arF_nz lk ca cb hn pr hL ok he hEe se
 have bd:=arF_sz (z:=z) few lk ca cb hn pr hL sA sL (by omega) hst hE
 have ao:=arF_ok lk ca cb hn pr hL nz
 obtain ⟨b1,b2⟩:=fF_bdN (U:=2 ^ (z+7)) (Y:=2 ^ (z+11)) nz (by omega) (Nat.two_pow_pos _) (by have e:(2:Nat) ^ (z+11)=2 ^ (z+7) * 16:=(by rw [show z+11=(z+7)+4 from rfl,Nat.pow_add (n:=4)]);rw [e];have:=Nat.two_pow_pos (z+7);omega) bd (Nat.le_refl _)
 have d0:=fF_dN nz (Nat.le_refl _)
 rw [← Nat.pow_mul] at b1 b2
 refine ⟨((fF (arF ps A Bs L n E st) (n+1)).2.natAbs:Int),by omega,?_,fun t ht=>?_⟩
 · unfold L2.Sz
   rw [Int.natAbs_natCast]
   exact Nat.lt_of_le_of_lt b2 (Nat.pow_lt_pow_right (by decide) (by omega))
 · unfold arXs
   rw [getD_map_range ht,val_mk d0]
   generalize hd:(fF (arF ps A Bs L n E st) (n+1)).2=d at *
   have hx:=b1 t (n+1) (by omega) (by omega)
   generalize (fF (arF ps A Bs L n E st) (n+1)).1 t (n+1)=x at *
   have dq:(d:Rat)≠0:=castne d0
   have hc:((2 ^ ((z+11) * 14):Int):Rat)=(((2 ^ ((z+11) * 14):Nat):Int):Rat):=by push_cast;rfl
   have x1:(x:Rat)≤(((2 ^ ((z+11) * 14):Nat):Int):Rat):=Rat.intCast_le_intCast.mpr (by omega)
   have x2:-(((2 ^ ((z+11) * 14):Nat):Int):Rat)≤(x:Rat):=by rw [← Rat.intCast_neg];exact Rat.intCast_le_intCast.mpr (by omega)
   rw [hc]
   generalize (((2 ^ ((z+11) * 14):Nat):Int):Rat)=T at x1 x2 ⊢
   have hT:0≤T:=by grind
   by_cases hd0:0<d
   · have dp:=cpos hd0
     have d1:(1:Rat)≤(d:Rat):=by have:((1:Int):Rat)≤(d:Rat):=Rat.intCast_le_intCast.mpr (by omega);exact this
     have en:((d.natAbs:Int))=d:=by omega
     rw [en]
     have e1:(x:Rat) / (d:Rat) * (d:Rat)=(x:Rat):=by grind
     generalize (x:Rat) / (d:Rat)=q at e1 ⊢
     refine ⟨⟨x,e1⟩,?_,?_⟩
     · refine Rat.not_lt.mp fun zz=>?_
       have:=Rat.mul_pos (show 0 < -T - q by grind) dp
       have:=Rat.mul_nonneg hT (show 0≤(d:Rat) - 1 by grind)
       grind
     · refine Rat.not_lt.mp fun zz=>?_
       have:=Rat.mul_pos (show 0<q - T by grind) dp
       have:=Rat.mul_nonneg hT (show 0≤(d:Rat) - 1 by grind)
       grind
   · have dn:0 < -d:=by omega
     have dp:=cpos dn
     rw [Rat.intCast_neg] at dp
     have d1:(1:Rat)≤-(d:Rat):=by have:((1:Int):Rat)≤((-d:Int):Rat):=Rat.intCast_le_intCast.mpr (by omega);rw [Rat.intCast_neg] at this;exact this
     have en:((d.natAbs:Int))=-d:=by omega
     rw [en]
     have e1:(x:Rat) / (d:Rat) * (d:Rat)=(x:Rat):=by grind
     generalize (x:Rat) / (d:Rat)=q at e1 ⊢
     refine ⟨⟨-x,by rw [Rat.intCast_neg,Rat.intCast_neg,← e1];grind⟩,?_,?_⟩
     · refine Rat.not_lt.mp fun zz=>?_
       have:=Rat.mul_pos (show 0 < -T - q by grind) dp
       have:=Rat.mul_nonneg hT (show 0≤-(d:Rat) - 1 by grind)
       grind
     · refine Rat.not_lt.mp fun zz=>?_
       have:=Rat.mul_pos (show 0<q - T by grind) dp
       have:=Rat.mul_nonneg hT (show 0≤-(d:Rat) - 1 by grind)
       grind
end
end Pw

open PySem PySem.Spec PyProof PyProof.Rows
namespace L2
section
variable {X:Cx}
theorem op_neDN {k:Nat} (hr:Room k X.A):OpR X (compareOp .NotEq) (fun x y H Q=>(x=.non∧y=.non∧Q (.bl false) H)∨rEqD X.K true x y H Q):=by
 intro pins s σ H x y v u Q I rx ry h
 rcases h with ⟨rfl,rfl,h⟩ | h
 · exact op_ne pins s σ H _ _ v u Q I rx ry ⟨rfl,h⟩
 · exact op_neD hr pins s σ H x y v u Q I rx ry h
end
noncomputable def spF2X (K:PySem.W.Frag) (op:Int×Int→Int×Int→Int×Int):Sp:=fun vs H Q _=>∃ (p q:Addr) (A B:Int×Int),vs=[.ref p,.ref q]∧SqF K H p A∧SqF K H q B∧0<A.2∧0<B.2∧Sz2 5900 A∧Sz2 2200 B∧∀ (r:Addr) (H':Hp),Same H H'→FrA K H' r (op A B)→Q (.ref r) H'
noncomputable def spTotX (K:PySem.W.Frag):Sp:=fun vs H Q _=>∃ (b:Bool) (t:Addr) (us:List V) (As:List (Int×Int)) (n:Nat),vs=[.ref t]∧Sq b K H t us∧FrL K H As us∧As.length=n∧n≤13∧Pw.Canons As∧(∀ B∈As,Sz2 2200 B)∧(∀ j,j≤n→Sz2 5900 (Pw.ofQ (Pw.qs j (fun t=>Pw.val (As.getD t (0,1)))))) ∧
 ∀ (r:Addr) (H':Hp),Same H H'→(0<n→FrA K H' r (Pw.ofQ (Pw.qs n (fun t=>Pw.val (As.getD t (0,1))))))→Q (.ref r) H'
noncomputable def spLeapsE (K:PySem.W.Frag):Sp:=fun vs H Q _=>∃ (d:Addr) (pages:Int),vs=[.ref d,.int pages]∧1≤pages∧pages≤12∧DrawsAt H d ∧
 ∀ (p:Addr) (H':Hp) (ws:List Int) (us:List V),Wts pages ws→(7≤pages→∀ w∈ws,w≤100)→DrawsAt H' d→H' p=some (.tup us)→FrL K H' (lps ws) us→Kp d H H'→Q (.ref p) H'
noncomputable def StAt (K:PySem.W.Frag) (H:Hp) (ps:List (Int×Int)) (A:Int×Int) (Bs Ss:List (Int×Int)) (L:Int) (n j:Nat) (v:V):Prop :=
 (Pw.val (Ss.getD j (0,1))=0∧v=.non)∨(0<Pw.val (Ss.getD j (0,1))∧∃ (t:Addr) (xs:List V),v=.ref t∧H t=some (.tup xs)∧FrL K H (Pw.arXs ps A Bs L n (eSt j) 1) xs)
theorem StAt.same {K:PySem.W.Frag} {H H':Hp} {ps:List (Int×Int)} {A:Int×Int} {Bs Ss:List (Int×Int)} {L:Int} {n j:Nat} {v:V} (h:StAt K H ps A Bs Ss L n j v) (s:Same H H'):StAt K H' ps A Bs Ss L n j v:=by
 rcases h with h | ⟨h,t,xs,e,a,b⟩
 · exact .inl h
 · exact .inr ⟨h,t,xs,e,s _ _ a,b.same s⟩
theorem Rw.szF {Rs:List (Int×Int)} {n k:Nat} {D C:Int} (h:Rw Rs n D C) (z:Sz k (C * D)) {R:Int×Int} (hR:R∈Rs):Sz2 k R:=by
 have:=(h.bd hR).sz h.dpos h.cpos z
 rwa [Pw.ofQ_val (h.canon R hR)] at this
noncomputable def spPages44 (K:PySem.W.Frag):Sp:=fun vs H Q _=>∃ (w lp ls td so:Addr) (n a b:Nat) (ps:List (Int×Int)) (A:Int×Int) (Bs Ss:List (Int×Int)) (us ys:List V) (S:Int),vs=[.ref w,.ref lp,.ref ls,.ref td,.ref so]∧ShIn K H w lp ls n ps A Bs us S∧Sz 41 A.2∧Sz 41 S∧a<n∧b<n∧Pw.ShOk ps A Bs n Ss∧H td=some (.tup ys)∧FrL K H Ss ys∧H so=some (.lst [.int (a:Int),.int (b:Int)])∧∀ H',Same H H'→Q (.bl true) H'
noncomputable def spTwo44 (K:PySem.W.Frag):Sp:=fun vs H Q _=>∃ (w lp ls:Addr) (n x y:Nat) (ps:List (Int×Int)) (A:Int×Int) (Bs:List (Int×Int)) (us:List V) (S:Int),vs=[.ref w,.ref lp,.ref ls,.int (x:Int),.int (y:Int)]∧ShIn K H w lp ls n ps A Bs us S∧Sz 41 A.2∧Sz 41 S∧x<n∧y<n∧x≠y∧∀ H',Same H H'→Q (.bl true) H'
theorem sum_le100:∀ {ws:List Int},(∀ w∈ws,0≤w∧w≤100)→ws.sum≤100 * (ws.length:Int)
 | [],_=>by simp
 | w :: ws,h=>by
   have ih:=sum_le100 (ws:=ws) fun x hx=>h x (List.mem_cons_of_mem _ hx)
   have:=h w List.mem_cons_self
   rw [List.sum_cons,List.length_cons]
   omega
noncomputable def Fine (n:Nat) (A:Int×Int) (S:Int):Prop:=(n≤6∧Sz 41 A.2∧Sz 41 S)∨(Sz 11 A.2∧Sz 11 S)
theorem Fine.a {n:Nat} {A:Int×Int} {S:Int} (h:Fine n A S):Sz 41 A.2:=by
 rcases h with h | h
 · exact h.2.1
 · exact h.1.mono (by decide)
theorem Fine.s {n:Nat} {A:Int×Int} {S:Int} (h:Fine n A S):Sz 41 S:=by
 rcases h with h | h
 · exact h.2.2
 · exact h.2.mono (by decide)
noncomputable def spSame44 (K:PySem.W.Frag):Sp:=fun vs H Q _=>∃ (w lp ls td:Addr) (n:Nat) (ps:List (Int×Int)) (A:Int×Int) (Bs Ss:List (Int×Int)) (us ys:List V) (S:Int),vs=[.ref w,.ref lp,.ref ls,.ref td]∧ShIn K H w lp ls n ps A Bs us S∧Fine n A S∧Pw.ShOk ps A Bs n Ss∧H td=some (.tup ys)∧FrL K H Ss ys∧∀ H',Same H H'→Q (.bl true) H'
end L2
namespace Pw
open L2
section
variable {ps:List (Int×Int)} {A:Int×Int} {Bs Ss:List (Int×Int)} {n:Nat} {S L:Int}
noncomputable def posL (Ss:List (Int×Int)) (n:Nat):List Nat:=(List.range n).filter fun j=>decide (0<val (Ss.getD j (0,1)))
noncomputable def kemL (ps:List (Int×Int)) (A:Int×Int) (Bs Ss:List (Int×Int)) (L:Int) (n i:Nat):List (Int×Int):=(posL Ss n).map fun j=>ftimes (Ss.getD j (0,1)) ((arXs ps A Bs L n (eSt j) 1).getD i (0,1))
theorem qs_filter (f:Nat→Rat) (p:Nat→Bool) (h:∀ j,p j=false→f j=0):∀ m,qs ((List.range m).filter p).length (fun k=>f (((List.range m).filter p).getD k 0))=qs m f
 | 0=>rfl
 | m+1=>by
   have ih:=qs_filter f p h m
   rw [List.range_succ,List.filter_append]
   by_cases c:p m=true
   · have e:[m].filter p=[m]:=by simp [c]
     rw [e,List.length_append]
     show qs (((List.range m).filter p).length+1) _=_
     show qs ((List.range m).filter p).length _+f (((List.range m).filter p ++ [m]).getD ((List.range m).filter p).length 0)=qs m f+f m
     rw [← ih]
     congr 1
     · exact qs_congr fun k hk=>by rw [List.getD_eq_getElem?_getD,List.getD_eq_getElem?_getD,List.getElem?_append_left hk]
     · congr 1
       rw [List.getD_eq_getElem?_getD,List.getElem?_append_right (Nat.le_refl _),Nat.sub_self];rfl
   · have c':p m=false:=by simpa using c
     have e:[m].filter p=[]:=by simp [c']
     rw [e,List.append_nil,ih]
     show qs m f=qs m f+f m
     rw [h m c'];grind
theorem kem_row (few:ps.length≤100) (lk:∀ p∈ps,0≤p.2∧p.2<(n:Int)) (ca:Canon A) (cb:Canons Bs) (hn:Bs.length=n) (n12:n≤12) (pr:L2.Pr A Bs S) (hL:IsLcm Bs L) (fi:Fine n A S) (ok:ShOk ps A Bs n Ss) {i:Nat} (hi:i<n) :
 Canons (kemL ps A Bs Ss L n i)∧(kemL ps A Bs Ss L n i).length≤12∧(∀ B∈kemL ps A Bs Ss L n i,Sz2 2200 B)∧(∀ j,j≤(kemL ps A Bs Ss L n i).length→Sz2 5900 (ofQ (qs j (fun t=>val ((kemL ps A Bs Ss L n i).getD t (0,1)))))) ∧
 qs (kemL ps A Bs Ss L n i).length (fun t=>val ((kemL ps A Bs Ss L n i).getD t (0,1)))=kem Ss n (fun j=>arXs ps A Bs L n (eSt j) 1) i:=by
 have arOk:∀ j,j<n→0<val (Ss.getD j (0,1))→ArOk ps A Bs n (eSt j) 1 (arXs ps A Bs L n (eSt j) 1):=fun j hj sj =>
  (ar_all (E:=eSt j) (st:=1) few lk ca cb hn n12 pr hL fi.a fi.s (.inr rfl) (fun j v hv=>by unfold eSt at hv;split at hv <;> cases hv;exact .inl rfl) ok hj (by unfold eSt;rw [if_pos rfl];rfl) sj).2.2.1
 obtain ⟨z,hz,sA,sS,hzn⟩:∃ z,z≤41∧Sz z A.2∧Sz z S∧((z+11) * 14+1) * n+((z+11) * 13+20)+(z+11) * 14≤5800:=by
  rcases fi with ⟨h6,a,b⟩ | ⟨a,b⟩
  · refine ⟨41,by decide,a,b,?_⟩
    have:((41+11) * 14+1) * n≤((41+11) * 14+1) * 6:=Nat.mul_le_mul_left _ h6
    omega
  · refine ⟨11,by decide,a,b,?_⟩
    have:((11+11) * 14+1) * n≤((11+11) * 14+1) * 12:=Nat.mul_le_mul_left _ n12
    omega
 obtain ⟨Ss',V',ok',hV,zV,dv⟩:=sh_ex few lk ca cb hn n12 pr sA sS
 have eS:=ok.unique lk ca cb hn pr ok'
 subst eS
 have dex:∀ j,∃ D:Int,0<D∧Sz ((z+11) * 14+1) D∧(j<n→0<val (Ss.getD j (0,1))→∀ t,t<n→Bd D ((2 ^ ((z+11) * 14):Int):Rat) (val ((arXs ps A Bs L n (eSt j) 1).getD t (0,1)))):=fun j=>by
  by_cases c:j<n∧0<val (Ss.getD j (0,1))
  · obtain ⟨D,d0,d1,d2⟩:=ar_fine (E:=eSt j) (st:=1) few lk ca cb hn n12 pr hL hz sA sS (.inr rfl) (fun j v hv=>by unfold eSt at hv;split at hv <;> cases hv;exact .inl rfl) ok c.1 (by unfold eSt;rw [if_pos rfl];rfl) c.2
    exact ⟨D,d0,d1,fun _ _=>d2⟩
  · exact ⟨1,by decide,(by unfold Sz;exact Nat.one_lt_two_pow (by omega)),fun a b=>absurd ⟨a,b⟩ c⟩
 have zT:Sz ((z+11) * 14+1) (2 ^ ((z+11) * 14):Int):=by
  unfold Sz
  rw [show (2 ^ ((z+11) * 14):Int)=((2 ^ ((z+11) * 14):Nat):Int) by push_cast;rfl,Int.natAbs_natCast]
  exact Nat.pow_lt_pow_right (by decide) (by omega)
 have T1:1≤(2 ^ ((z+11) * 14):Int):=Int.pow_pos (by decide)
 generalize hTT:(2 ^ ((z+11) * 14):Int)=T at *
 have T0:(0:Rat)≤(T:Rat):=cnn (by omega)
 let Df:Nat→Int:=fun j=>(dex j).choose
 have Df0:∀ j,0<Df j:=fun j=>(dex j).choose_spec.1
 have DfZ:∀ j,Sz ((z+11) * 14+1) (Df j):=fun j=>(dex j).choose_spec.2.1
 have DfB:∀ j,j<n→0<val (Ss.getD j (0,1))→∀ t,t<n→Bd (Df j) (T:Rat) (val ((arXs ps A Bs L n (eSt j) 1).getD t (0,1))):=fun j=>(dex j).choose_spec.2.2
 generalize hDf:Df=Dg at *
 have P0:0<prodN n Dg:=prodN_pos fun i _=>Df0 i
 have zP:=prodN_sz (n:=n) (f:=Dg) (k:=(z+11) * 14+1) fun i _=>DfZ i
 have lS:=ok.len
 have share:∀ j,j<n→(∃ m:Int,val (Ss.getD j (0,1)) * (V':Rat)=(m:Rat))∧0≤val (Ss.getD j (0,1))∧val (Ss.getD j (0,1))≤1:=fun j hj=>by
  have d:Dist Ss n V':=⟨ok.len,ok.canon,ok.nn,ok.one,hV,dv⟩
  exact ⟨d.bd (Int.dvd_refl _) hj,d.v0 hj,d.v1 hj⟩
 have term1:∀ j,j<n→0<val (Ss.getD j (0,1))→Bd (Dg j * V') (T:Rat) (val ((arXs ps A Bs L n (eSt j) 1).getD i (0,1)) * val (Ss.getD j (0,1))):=fun j hj sj =>
  (DfB j hj sj i hi).mul01 (share j hj).1 (share j hj).2.1 (share j hj).2.2 T0
 have term:∀ j,j<n→0<val (Ss.getD j (0,1))→Bd (prodN n Dg * V') (T:Rat) (val ((arXs ps A Bs L n (eSt j) 1).getD i (0,1)) * val (Ss.getD j (0,1))):=fun j hj sj=>by
  have b:=DfB j hj sj i hi
  obtain ⟨u,hu⟩:=prodN_dvd (f:=Dg) hj
  obtain ⟨m,hm⟩:=b.int
  have b':Bd (prodN n Dg) (T:Rat) (val ((arXs ps A Bs L n (eSt j) 1).getD i (0,1))):=⟨⟨m * u,by rw [hu,Rat.intCast_mul,Rat.intCast_mul,← hm];grind⟩,b.lo,b.hi⟩
  exact b'.mul01 (share j hj).1 (share j hj).2.1 (share j hj).2.2 T0
 have pm:∀ j,j∈posL Ss n→j<n∧0<val (Ss.getD j (0,1)):=fun j hj=>by
  have:=List.mem_filter.mp hj
  exact ⟨List.mem_range.mp this.1,of_decide_eq_true this.2⟩
 have can:∀ j,j<n→0<val (Ss.getD j (0,1))→Canon (ftimes (Ss.getD j (0,1)) ((arXs ps A Bs L n (eSt j) 1).getD i (0,1)))∧val (ftimes (Ss.getD j (0,1)) ((arXs ps A Bs L n (eSt j) 1).getD i (0,1)))=val ((arXs ps A Bs L n (eSt j) 1).getD i (0,1)) * val (Ss.getD j (0,1)):=fun j hj sj=>by
  have c1:=ok.canon.getD j
  have c2:=(arOk j hj sj).canon.getD i
  exact ⟨canon_ftimes (canon_ne c1) (canon_ne c2),by rw [val_ftimes (canon_ne c1) (canon_ne c2)];grind⟩
 have lp:(posL Ss n).length≤n:=by have:=List.length_filter_le (fun j=>decide (0<val (Ss.getD j (0,1)))) (List.range n);rw [List.length_range] at this;exact this
 have lk':(kemL ps A Bs Ss L n i).length=(posL Ss n).length:=by unfold kemL;rw [List.length_map]
 have at_:∀ k,k<(posL Ss n).length→(kemL ps A Bs Ss L n i).getD k (0,1)=ftimes (Ss.getD ((posL Ss n).getD k 0) (0,1)) ((arXs ps A Bs L n (eSt ((posL Ss n).getD k 0)) 1).getD i (0,1))∧(posL Ss n).getD k 0∈posL Ss n:=fun k hk=>by
  unfold kemL
  rw [List.getD_eq_getElem?_getD (l:=List.map _ _),List.getElem?_map,List.getElem?_eq_getElem hk,List.getD_eq_getElem?_getD (l:=posL Ss n),List.getElem?_eq_getElem hk]
  exact ⟨rfl,List.getElem_mem hk⟩
 refine ⟨fun B hB=>?_,by omega,fun B hB=>?_,fun k hk=>?_,?_⟩
 · obtain ⟨j,hj,rfl⟩:=List.mem_map.mp hB
   exact (can j (pm j hj).1 (pm j hj).2).1
 · obtain ⟨j,hj,rfl⟩:=List.mem_map.mp hB
   obtain ⟨c,v⟩:=can j (pm j hj).1 (pm j hj).2
   have b:=term1 j (pm j hj).1 (pm j hj).2
   rw [← v] at b
   have:=b.sz (k:=2200) (Int.mul_pos (Df0 j) hV) T1 ((zT.mul ((DfZ j).mul zV)).mono (by omega))
   rwa [ofQ_val c] at this
 · rw [lk'] at hk
   have b:Bd (prodN n Dg * V') ((k:Nat) * (T:Rat)) (qs k (fun t=>val ((kemL ps A Bs Ss L n i).getD t (0,1)))):=Bd.qs fun t ht=>by
    obtain ⟨e,m⟩:=at_ t (by omega)
    rw [e,(can _ (pm _ m).1 (pm _ m).2).2]
    exact term _ (pm _ m).1 (pm _ m).2
   have e16:((16 * T:Int):Rat)=16 * (T:Rat):=by rw [Rat.intCast_mul];rfl
   have k16:((k:Nat):Rat)≤16:=by have:((k:Int):Rat)≤((16:Int):Rat):=Rat.intCast_le_intCast.mpr (by omega);exact this
   have b':Bd (prodN n Dg * V') ((16 * T:Int):Rat) (qs k (fun t=>val ((kemL ps A Bs Ss L n i).getD t (0,1)))):=b.mono (by
    rw [e16]
    have:=Rat.mul_nonneg (show (0:Rat)≤16 - ((k:Nat):Rat) by grind) T0
    grind)
   have z16:Sz 5 (16:Int):=sz_of 5 (by decide)
   exact b'.sz (Int.mul_pos P0 hV) (by omega) (((z16.mul zT).mul (zP.mul zV)).mono (by omega))
 · rw [lk']
   unfold kem
   rw [← qs_filter (fun j=>val (Ss.getD j (0,1)) * val ((arXs ps A Bs L n (eSt j) 1).getD i (0,1))) (fun j=>decide (0<val (Ss.getD j (0,1)))) (fun j hj=>by
    have h0:¬ 0<val (Ss.getD j (0,1)):=of_decide_eq_false hj
    by_cases c:j<n
    · rw [Rat.le_antisymm (Rat.not_lt.mp h0) (ok.v_nn c)];grind
    · rw [List.getD_eq_getElem?_getD (l:=Ss),List.getElem?_eq_none (by omega)]
      show val (0,1) * _=0
      rw [val01];grind) n]
   refine qs_congr fun k hk=>?_
   obtain ⟨e,m⟩:=at_ k hk
   rw [e,(can _ (pm _ m).1 (pm _ m).2).2]
   exact Rat.mul_comm _ _
theorem lcm_ex:∀ {Bs:List (Int×Int)},Canons Bs→∃ L,IsLcm Bs L
 | [],_=>⟨1,by decide,fun A hA=>by simp at hA,fun M _ _=>Int.one_dvd _⟩
 | B :: Bs,h=>by
   obtain ⟨L,hL⟩:=lcm_ex (Bs:=Bs) fun A hA=>h A (List.mem_cons_of_mem _ hA)
   have b0:=(h B List.mem_cons_self).1
   have l0:=hL.pos
   refine ⟨(Int.lcm B.2 L:Int),?_,fun A hA=>?_,fun M hM hd=>?_⟩
   · have:=Int.lcm_pos (m:=B.2) (n:=L) (by omega) (by omega)
     omega
   · rcases List.mem_cons.mp hA with rfl | hA
     · exact Int.dvd_lcm_left _ _
     · exact Int.dvd_trans (hL.dvd A hA) (Int.dvd_lcm_right _ _)
   · have h2:=hL.least M hM fun A hA=>hd A (List.mem_cons_of_mem _ hA)
     have h1:=hd B List.mem_cons_self
     obtain ⟨m,rfl⟩:∃ m:Nat,M=(m:Int):=⟨M.toNat,by omega⟩
     exact Int.natCast_dvd_natCast.mpr (Int.lcm_dvd h1 h2)
end
end Pw

set_option pp.maxSteps 800
namespace Lw
open PySem L2 PyProof.Rows
noncomputable def top (i:Nat):Stmt:=PySem.Challenge.pw_pagewalks_k44_whole_arrivals_together.main.body.getD i (.Pass ⟨0,0,0,0⟩)
noncomputable abbrev sCommon:Stmt:=top 3
noncomputable abbrev sMade:Stmt:=top 4
noncomputable abbrev sBy:Stmt:=top 5
noncomputable abbrev sBelow:Stmt:=top 6
noncomputable abbrev sAboves:Stmt:=top 7
noncomputable abbrev sCleared:Stmt:=top 9
noncomputable abbrev sSolved:Stmt:=top 10
noncomputable abbrev sLeads:Stmt:=top 12
noncomputable abbrev sParts:Stmt:=top 14
noncomputable abbrev sFactor:Stmt:=top 15
noncomputable abbrev sEquation:Stmt:=top 16
noncomputable abbrev sVisits:Stmt:=top 17
noncomputable abbrev sShares:Stmt:=top 18
noncomputable abbrev s_going:Stmt:=top 20
noncomputable abbrev s_leaping:Stmt:=top 21
noncomputable abbrev s_staying:Stmt:=top 22
noncomputable abbrev s_arrived:Stmt:=top 23
noncomputable abbrev s_steps_to:Stmt:=top 24
noncomputable abbrev s_steps_back:Stmt:=top 25
noncomputable abbrev s_first_to:Stmt:=top 26
noncomputable abbrev s_law_draws:Stmt:=top 28
noncomputable abbrev s_law_take:Stmt:=top 29
noncomputable abbrev s_law_fraction:Stmt:=top 30
noncomputable abbrev s_law_sum:Stmt:=top 31
noncomputable abbrev s_law_product:Stmt:=top 33
noncomputable abbrev s_law_under:Stmt:=top 34
noncomputable abbrev s_law_total:Stmt:=top 35
noncomputable abbrev sWeb:Stmt:=top 37
noncomputable abbrev sLLeap:Stmt:=top 38
noncomputable abbrev sLLeaps:Stmt:=top 39
noncomputable abbrev s_law_pages_right:Stmt:=top 43
noncomputable abbrev s_law_two_right:Stmt:=top 44
noncomputable abbrev s_law_same_from_all:Stmt:=top 45
noncomputable abbrev sLaw:Stmt:=top 46
section
variable {P:Program} {w:World} {K:PySem.W.Frag} {mg:Str→Option Value} {base:Heap}
theorem scCommon:FnScope ["one","other","rest"] ["one","other"] (defScope sCommon):=⟨rfl,rfl,rfl,by decide +kernel,rfl,by decide +kernel,by decide +kernel⟩
theorem ok_common {f:Addr} {fd:FuncData} (F:Fun K "common" "common" sCommon f fd):FnOk P w K mg base CX0 1 f fd ["one","other"] spCommon:=by
 refine F.ok scCommon (fun vs H Q E h=>?_) (fun cdv A outer s H vs Q E hr h=>?_)
 · obtain ⟨x,y,rfl,_⟩:=h
   rfl
 · obtain ⟨x,y,rfl,hx,hy,k⟩:=h
   refine ⟨_,pss_cons (ps_while PassesOwn.never (pt_cmpR op_ne (pv 1) pe_int (nomark _))
    (pss_cons (ps_set (i:=2) scCommon.nd rfl (Or.inl rfl) (pe_op op_mod (pv 0) (pv 1)))
    (pss_cons (ps_set (i:=0) scCommon.nd rfl (Or.inl rfl) (pv 1))
    (pss_one (ps_set (i:=1) scCommon.nd rfl (Or.inl rfl) (pv 2))))))
    (pss_one (ps_ret (pv 0))),?_⟩
   refine while_by (fun σ H'=>∃ (a b:Int) (r:Option V),σ=[some (.int a),some (.int b),r]∧0≤a∧0≤b∧Int.gcd a b=Int.gcd x y∧H'=H)
    (fun σ _=>match σ with | [_,some (.int b),_]=>b.toNat | _=>0) ⟨x,y,none,rfl,hx,hy,rfl,rfl⟩ ?_ ?_
   · rintro σ H' ⟨a,b,r,rfl,ha,hb,hg,rfl⟩
     refine ⟨_,rfl,rfl,_,rfl,?_⟩
     by_cases h0:b=0
     · refine ifF (veq h0) ?_
       subst h0
       refine ⟨_,rfl,?_⟩
       have e:(a:Int)=(Int.gcd x y:Int):=by rw [← hg,Int.gcd_zero_right];omega
       show Q (.int a) _
       rw [e];exact k
     · refine ifT (vne h0) ?_
       have hb0:0<b:=by omega
       refine ⟨_,rfl,_,rfl,_,_,rfl,rfl,hb0,?_⟩
       refine ⟨_,rfl,?_⟩
       refine ⟨_,rfl,?_⟩
       refine ⟨⟨b,a % b,_,rfl,hb,Int.emod_nonneg _ (by omega),?_,rfl⟩,?_⟩
       · rw [Pw.gcd_turn ha hb0,hg]
       · show (a % b).toNat<b.toNat
         have h1:=Int.emod_nonneg a (show b≠0 by omega)
         have h2:=Int.emod_lt_of_pos a hb0
         omega
   · rintro σ H' q q' hq ⟨v,e,hs,kk,ek,z⟩
     exact ⟨v,e,hs,kk,ek,hq _ _ z⟩
theorem abs_nn (x:Int):0≤(if x<0 then -x else x):=by split <;> omega
theorem abs_gcd (x y:Int):Int.gcd (if x<0 then -x else x) (if y<0 then -y else y)=Int.gcd x y:=by
 split <;> split <;> simp [Int.neg_gcd,Int.gcd_neg]
theorem gcd_sz {n:Nat} {x y:Int} (h:Sz n y) (hy:y≠0):Sz n (Int.gcd x y:Int):=by
 show (Int.gcd x y:Int).natAbs<2 ^ n
 have:Int.gcd x y≤y.natAbs:=Nat.le_of_dvd (by omega) (Int.gcd_dvd_natAbs_right ..)
 have h':y.natAbs<2 ^ n:=h
 omega
theorem scMade:FnScope ["above","below","divisor"] ["above","below"] (defScope sMade):=⟨rfl,rfl,rfl,by decide +kernel,rfl,by decide +kernel,by decide +kernel⟩
theorem ok_made {f fC:Addr} {fd fdC:FuncData} (F:Fun K "made" "made" sMade f fd) (zabs:mg "abs"=none) (FC:Fun K "common" "common" sCommon fC fdC) (mC:mg "common"=some (.ref fC)) (bC:Binds K fdC ["one","other"] []) :
 FnOk P w K mg base CX0 2 f fd ["above","below"] spMade:=by
 have GC:FnOk P w K mg base CX0 1 fC fdC ["one","other"] spCommon:=ok_common FC
 refine F.ok scMade (fun vs H Q E h=>?_) (fun cdv A outer s H vs Q E hr h=>?_)
 · obtain ⟨x,y,rfl,_⟩:=h
   rfl
 · obtain ⟨x,y,rfl,hy,sx,sy,k⟩:=h
   refine ⟨_,pss_cons (ps_set (i:=2) scMade.nd rfl (Or.inl rfl) (pe_call GC hr rfl mC FC.kp bC .nil pass0 (pa_cons (pe_callB call_abs (by rfl) zabs boot_abs (pa_cons (pv 0) pa_nil)) (pa_cons (pe_callB call_abs (by rfl) zabs boot_abs (pa_cons (pv 1) pa_nil)) pa_nil))))
    (pss_cons (ps_if (pt_cmpR op_lt (pv 1) pe_int (nomark _)) (pss_one (ps_set (i:=2) scMade.nd rfl (Or.inl rfl) (pe_un un_neg (pv 2)))) pss_nil)
    (pss_one (ps_ret (pe_tup (pa_cons (pe_op op_fdivB (pv 0) (pv 2)) (pa_cons (pe_op op_fdivB (pv 1) (pv 2)) pa_nil)))))),?_⟩
   refine ⟨_,rfl,x,rfl,_,rfl,y,rfl,_,_,rfl,abs_nn x,abs_nn y,?_⟩
   rw [abs_gcd]
   have hg:=Pw.gpos (a:=x) hy
   have sg:=(gcd_sz (x:=x) sy hy).mono (show 8000≤9000 by decide)
   refine ⟨_,rfl,_,_,rfl,rfl,_,rfl,?_⟩
   refine if2 (fun h=>?_) (fun h=>?_)
   · have h:y<0:=of_decide_eq_true h
     refine ⟨_,rfl,_,rfl,?_⟩
     refine ⟨_,rfl,_,rfl,_,_,rfl,rfl,⟨by omega,sg.neg⟩,_,rfl,_,rfl,_,_,rfl,rfl,⟨by omega,sg.neg⟩,(by show 2≤sizeLine;decide),fun p hp=>?_⟩
     have:=k p hp
     unfold Pw.mk at this
     rw [if_pos h] at this
     exact this
   · have h:¬ y<0:=of_decide_eq_false h
     refine ⟨_,rfl,_,rfl,_,_,rfl,rfl,⟨by omega,sg⟩,_,rfl,_,rfl,_,_,rfl,rfl,⟨by omega,sg⟩,(by show 2≤sizeLine;decide),fun p hp=>?_⟩
     have:=k p hp
     unfold Pw.mk at this
     rw [if_neg h] at this
     exact this
theorem ndL:(["here","there","page"]:List Str).Nodup:=by decide +kernel
theorem scLeads:FnScope ["web","page"] ["web","page"] (defScope sLeads):=⟨rfl,rfl,rfl,by decide +kernel,rfl,by decide +kernel,by decide +kernel⟩
theorem ok_leads {f:Addr} {fd:FuncData} (F:Fun K "leads" "leads" sLeads f fd):FnOk P w K mg base CX0 1 f fd ["web","page"] (spLinks K Pw.outs):=by
 refine F.ok scLeads (fun vs H Q E h=>?_) (fun cdv A outer s H vs Q E hr h=>?_)
 · obtain ⟨x,y,z,ps,rfl,_⟩:=h
   rfl
 · obtain ⟨wa,pages,page,ps,rfl,⟨ws,us,hw,hws,hp⟩,few,k⟩:=h
   refine ⟨_,pss_one (ps_ret (pe_compC ["here","there","page"] [none,none,some 1] rfl (pi_tup (pe_ix ix_tup (pv 0) pe_int (fun _ _=>rfl))) (by show ∀ y:Str×NameKind,y∈_→y.2=NameKind.free→(defScope sLeads).names.lookup y.1=some .cell;decide +kernel) (by decide) rfl (by decide +kernel) ⟨⟨rfl,rfl,.inl rfl⟩,trivial⟩
    (fun cl C s H fp=>pg_tupK (K:=K) 2 rfl rfl (pgs_cons (pg_name (i:=0) ndL rfl (Or.inl rfl) (.inr rfl)) (pgs_cons (pg_name (i:=1) ndL rfl (Or.inl rfl) (.inr rfl)) pgs_nil)))
    (fun cl C s H fp=>pts_one (pt_cmpR op_eq (pv 0) (pv 2) (nomark _)))
    (fun cl C s H fp=>pv 1))),?_⟩
   refine ⟨_,rfl,wa,_,_,_,rfl,rfl,SqT.of hw,rfl,ws,rfl,⟨_,SqT.of hws⟩,fun D hD=>?_⟩
   have hl:=hp.len
   refine comp_tup (K:=K) (a:=ws) (D:=D) (xs:=us) (fun i ys σ H'=>Same H H'∧H' ws=some (.tup us)∧H' D=some (.lst ys)∧ys=(Pw.outs (ps.take i) page).map V.int∧∃ x y,σ=[x,y,some (.int page)]) ?_ ?_ ?_ ?_
   · exact ⟨Same.new hD,Same.new hD _ _ hws,upd_same,rfl,none,none,rfl⟩
   · rintro i ys σ H' ⟨s1,hw1,hD1,_,_⟩
     exact ⟨SqT.of hw1,hD1⟩
   · rintro i v ys σ H' hi hlt ⟨s1,hw1,hD1,rfl,x,y,rfl⟩
     obtain ⟨a,p,e1,rfl,e2⟩:=hp.get hi
     have et:ps.take (i+1)=ps.take i ++ [p]:=by rw [List.take_succ,e1];rfl
     refine ⟨a,_,rfl,s1.seqT e2,rfl,_,_,rfl,_,_,rfl,rfl,?_⟩
     refine ⟨_,rfl,_,rfl,rfl,_,rfl,?_⟩
     have hlen:((Pw.outs (ps.take i) page).map V.int).length<sizeLine:=by
      rw [List.length_map]
      have h1:=Pw.outs_len (ps.take i) page
      have h2:(ps.take i).length≤ps.length:=by rw [List.length_take];omega
      have:(sizeLine:Nat)=16777216:=sizeLine_eq
      omega
     by_cases c:p.1=page
     · refine ifT (by rw [c];simp) ?_
       refine ⟨_,rfl,hD1,hlen,Wt.next hlt ⟨fun b o e=>?_,?_,upd_same,?_,_,_,rfl⟩⟩
       · rw [upd_ne (ne_of_none e hD)];exact s1 b o e
       · rw [upd_ne (ne_of_none hws hD)];exact hw1
       · rw [et,Pw.outs_snoc,if_pos c,List.map_append];rfl
     · refine ifF (by simpa using c) ?_
       exact Wt.next hlt ⟨s1,hw1,hD1,by rw [et,Pw.outs_snoc,if_neg c,List.append_nil],_,_,rfl⟩
   · rintro ys σ H' ⟨s1,hw1,hD1,rfl,_⟩
     rw [hl,List.take_of_length_le (Nat.le_refl _)] at hD1
     exact k D H' s1 hD hD1
theorem d_made (S:Fnd K mg "made" sMade ["above","below"]) (C:Fnd K mg "common" sCommon ["one","other"]) (T:Txt mg):Def P w K mg base 2 "made" ["above","below"] spMadeS:=by
 obtain ⟨fC,fdC,FC,mC,bC⟩:=C
 exact S.def fun f fd F=>(ok_made F T.abs FC mC bC).imp fun vs H Q E ⟨x,y,e,h1,h2,h3,h4⟩=>⟨x,y,e,h1,h2,h3,fun p hp=>h4 p _ (Same.new hp) upd_same⟩
theorem sc_law_take:FnScope ["draws","many"] ["draws","many"] (defScope s_law_take):=⟨rfl,rfl,rfl,by decide +kernel,rfl,by decide +kernel,by decide +kernel⟩
theorem d_law_take (S:Fnd K mg "_law_take" s_law_take ["draws","many"]) (T:Txt mg) :Def P w K mg base 1 "_law_take" ["draws","many"] spTake:=S.def fun f fd F=>by
 have nd:=sc_law_take.nd
 refine F.ok sc_law_take (fun vs H Q E h=>?_) (fun cdv A' outer s H vs Q E hr h=>?_)
 · obtain ⟨_,_,rfl,_⟩:=h
   rfl
 · obtain ⟨d,m,rfl,hm,⟨ns,e,zl⟩,k⟩:=h
   refine ⟨_,(@pss_cons _ _ _ _ _ (@ps_if _ _ _ _ _ _ _ _ (pt_cmpR (op_eqNil hr) (pv 0) (@pe_lstS _ _ _ _ pa_nil) (nomark _))
    (@pss_one _ _ _ (@ps_ret _ _ _ _ pe_int))
    pss_nil)
    (@pss_one _ _ _ (@ps_ret _ _ _ _ (pe_op op_mod (pe_bm PySem.F.plainAttrs_list PySem.F.slot_list_pop PySem.F.type_list_pop mt_popAt (pv 0) (@pa_consX _ _ _ _ _ (by rfl) pe_int pa_nil)) (pv 1))))),?_⟩
   refine ⟨_,rfl,(by show 0≤sizeLine;decide),fun p G1 s1 hp e1=>?_⟩
   refine ⟨d,p,_,rfl,rfl,.inr ⟨SqL.of (s1 _ _ e),SqL.of e1⟩,_,rfl,?_⟩
   have hpd:p≠d:=(ne_of_none e hp).symm
   cases ns with
   | nil =>
     refine ifT rfl ?_
     exact k 0 G1 (by omega) hm ⟨[],s1 _ _ e,Nat.zero_le _⟩ (Same.kpd s1)
   | cons n ns =>
     refine ifF rfl ?_
     refine ⟨_,rfl,.inl ⟨rfl,_,SqL.of (s1 _ _ e)⟩,d,_,0,0,.int n,rfl,rfl,s1 _ _ e,by decide,by decide,(by simp [seqIndex?]),rfl,_,rfl,_,_,rfl,rfl,hm,?_⟩
     refine k _ _ (Int.emod_nonneg _ (by omega)) (Int.emod_lt_of_pos _ hm) ⟨ns,upd_same,by simp at zl;omega⟩ ?_
     exact (Same.kpd s1).trans Kp.set
theorem sc_law_fraction:FnScope ["above","below","one","other"] ["above","below"] (defScope s_law_fraction):=⟨rfl,rfl,rfl,by decide +kernel,rfl,by decide +kernel,by decide +kernel⟩
theorem d_law_fraction (S:Fnd K mg "_law_fraction" s_law_fraction ["above","below"]) (T:Txt mg) :Def P w K mg base 1 "_law_fraction" ["above","below"] spMade9:=S.def fun f fd F=>by
 have nd:=sc_law_fraction.nd
 refine F.ok sc_law_fraction (fun vs H Q E h=>?_) (fun cdv A' outer s H vs Q E hr h=>?_)
 · obtain ⟨_,_,rfl,_⟩:=h
   rfl
 · obtain ⟨x,y,rfl,hy,sx,sy,k⟩:=h
   refine ⟨_,(@pss_mid _ _ _ _ _ (@ps_if _ _ _ _ _ _ _ _ (pt_cmpR op_lt (pv 1) pe_int (nomark _))
    (@pss_cons _ _ _ _ _ (@ps_setX _ _ 0 _ _ _ _ (by rfl) (Or.inl rfl) nd rfl (Or.inl rfl) (pe_op op_sub pe_int (pv 0)))
    (@pss_one _ _ _ (@ps_setX _ _ 1 _ _ _ _ (by rfl) (Or.inl rfl) nd rfl (Or.inl rfl) (pe_op op_sub pe_int (pv 1)))))
     pss_nil)
    (@pss_cons _ _ _ _ _ (@ps_setX _ _ 2 _ _ _ _ (by rfl) (Or.inl rfl) nd rfl (Or.inl rfl) (pe_callB call_abs (by rfl) T.abs boot_abs (@pa_consX _ _ _ _ _ (by rfl) (pv 0) pa_nil)))
    (@pss_cons _ _ _ _ _ (@ps_setX _ _ 3 _ _ _ _ (by rfl) (Or.inl rfl) nd rfl (Or.inl rfl) (pv 1))
    (@pss_cons _ _ _ _ _ (ps_while PassesOwn.never (pt_cmpR op_gt (pv 3) pe_int (nomark _))
     (@pss_one _ _ _ (ps_par rfl nd (i:=2) (j:=3) rfl rfl (by decide) rfl rfl (@pa_consX _ _ _ _ _ (by rfl) (pv 3) (@pa_consX _ _ _ _ _ (by rfl) (pe_op op_mod (pv 2) (pv 3)) pa_nil)) (by rfl))))
    (@pss_one _ _ _ (@ps_ret _ _ _ _ (@pe_tupS _ _ _ _ _ (@pa_consX _ _ _ _ _ (by rfl) (pe_op op_fdivB (pv 0) (pv 2)) (@pa_consX _ _ _ _ _ (by rfl) (pe_op op_fdivB (pv 1) (pv 2)) pa_nil))))))))),?_⟩
   refine ⟨fun σ G=>G=H∧∃ x' y':Int,0<y'∧Sz 8900 x'∧Sz 8900 y'∧Pw.mk x' y'=Pw.mk x y∧σ=[some (.int x'),some (.int y'),none,none],?_,?_⟩
   · refine ⟨_,rfl,_,_,rfl,rfl,_,rfl,?_⟩
     refine if2 (fun h=>?_) (fun h=>?_)
     · have h:y<0:=of_decide_eq_true h
       refine ⟨_,rfl,_,_,rfl,rfl,?_⟩
       refine ⟨_,rfl,_,_,rfl,rfl,?_⟩
       refine ⟨rfl,0 - x,0 - y,by omega,?_,?_,?_,rfl⟩
       · rw [Int.zero_sub];exact sx.neg
       · rw [Int.zero_sub];exact sy.neg
       · have:=Pw.mk_mul (a:=x) (b:=y) (m:=-1) hy (by decide)
         rw [show 0 - x=x * -1 by omega,show 0 - y=y * -1 by omega]
         exact this
     · have h:¬ y<0:=of_decide_eq_false h
       exact ⟨rfl,x,y,by omega,sx,sy,rfl,rfl⟩
   rintro σ G ⟨rfl,x',y',hy',sx',sy',e0,rfl⟩
   rw [← e0] at k
   refine ⟨_,rfl,x',rfl,?_⟩
   refine ⟨_,rfl,?_⟩
   have hyn:y'≠0:=by omega
   refine while_by (fun σ H'=>∃ (a b:Int),σ=[some (.int x'),some (.int y'),some (.int a),some (.int b)]∧0≤a∧0≤b∧Int.gcd a b=Int.gcd x' y'∧H'=G)
    (fun σ _=>match σ with | [_,_,_,some (.int b)]=>b.toNat | _=>0) ⟨_,y',rfl,abs_nn x',by omega,?_,rfl⟩ ?_ ?_
   · have:=abs_gcd x' y'
     rw [if_neg (show ¬ y'<0 by omega)] at this
     exact this
   · rintro σ H' ⟨a,b,rfl,ha,hb,hg,rfl⟩
     refine ⟨_,rfl,_,_,rfl,rfl,_,rfl,?_⟩
     refine if2 (fun h=>?_) (fun h=>?_)
     · have hb0:0<b:=of_decide_eq_true h
       refine ⟨_,rfl,_,rfl,_,rfl,_,_,rfl,rfl,hb0,_,_,rfl,?_⟩
       refine ⟨⟨b,a % b,rfl,hb,Int.emod_nonneg _ (by omega),?_,rfl⟩,?_⟩
       · rw [Pw.gcd_turn ha hb0,hg]
       · show (a % b).toNat<b.toNat
         have h1:=Int.emod_nonneg a (show b≠0 by omega)
         have h2:=Int.emod_lt_of_pos a hb0
         omega
     · have h:¬ 0<b:=of_decide_eq_false h
       have h0:b=0:=by omega
       subst h0
       have e:(a:Int)=(Int.gcd x' y':Int):=by rw [← hg,Int.gcd_zero_right];omega
       subst e
       have hgp:=Pw.gpos (a:=x') hyn
       have sg:=(gcd_sz (x:=x') sy' hyn).mono (show 8900≤9000 by decide)
       refine ⟨_,rfl,_,rfl,_,_,rfl,rfl,⟨by omega,sg⟩,_,rfl,_,rfl,_,_,rfl,rfl,⟨by omega,sg⟩,(by show 2≤sizeLine;decide),fun p G2 s2 hp e2=>?_⟩
       refine k p G2 s2 ?_
       unfold Pw.mk
       rw [if_neg (show ¬ y'<0 by omega)]
       exact e2
   · rintro σ H' q q' hq ⟨v,e,i,j,e1,e2,kk,ek,z⟩
     exact ⟨v,e,i,j,e1,e2,kk,ek,hq _ _ z⟩
end
end Lw

set_option pp.maxSteps 800
namespace Lw
open PySem L2 PyProof.Rows
section
variable {P:Program} {w:World} {K:PySem.W.Frag} {mg:Str→Option Value} {base:Heap}
theorem d_leads (S:Fnd K mg "leads" sLeads ["web","page"]):Def P w K mg base 1 "leads" ["web","page"] (spLinks K Pw.outs):=S.def fun f fd F=>ok_leads F
theorem d_common (S:Fnd K mg "common" sCommon ["one","other"]):Def P w K mg base 1 "common" ["one","other"] spCommon:=S.def fun f fd F=>ok_common F
theorem scBelow:FnScope ["some","whole","each"] ["some"] (defScope sBelow):=⟨rfl,rfl,rfl,by decide +kernel,rfl,by decide +kernel,by decide +kernel⟩
theorem d_below (S:Fnd K mg "shared_below" sBelow ["some"]) (C:Def P w K mg base 1 "common" ["one","other"] spCommon):Def P w K mg base 2 "shared_below" ["some"] (spBelow K):=S.def fun f fd F=>by
 have nd:=scBelow.nd
 refine F.ok scBelow (fun vs H Q E h=>?_) (fun cdv A' outer s H vs Q E hr h=>?_)
 · obtain ⟨_,_,_,_,_,rfl,_⟩:=h
   rfl
 · obtain ⟨b,a,us,As,M,rfl,hq,fl,pos,hM,zM,dv,k⟩:=h
   refine ⟨_,@pss_cons _ _ _ _ _ (@ps_setX _ _ 1 _ _ _ _ (by rfl) (Or.inl rfl) nd rfl (Or.inl rfl) pe_int)
    (@pss_cons _ _ _ _ _ (@ps_forX _ _ _ _ _ _ _ _ (fun _=>rfl) PassesOwn.never rfl (pi_seq (pv 0)) (pg_name (i:=2) nd rfl (Or.inl rfl))
     (@pss_one _ _ _ (@ps_setX _ _ 1 _ _ _ _ (by rfl) (Or.inl rfl) nd rfl (Or.inl rfl) (pe_op op_mulB (pe_op op_fdivB (pv 1) (pe_def (by rfl) (by rfl) (by rfl) (by decide) C hr (@pa_consX _ _ _ _ _ (by rfl) (pv 1) (@pa_consX _ _ _ _ _ (by rfl) (pe_ix ix_tup (pv 2) pe_int (fun _ _=>rfl)) pa_nil)))) (pe_ix ix_tup (pv 2) pe_int (fun _ _=>rfl))))))
    (@pss_one _ _ _ (@ps_ret _ _ _ _ (pv 1)))),?_⟩
   refine ⟨_,rfl,b,a,rfl,⟨us,hq⟩,?_⟩
   have hl:=fl.len
   refine for_seq (b:=b) (K:=K) (a:=a) (xs:=us) (fun i σ G=>G=H∧∃ (L:Int) (v:Option V),Pw.IsLcm (As.take i) L∧σ=[some (.ref a),some (.int L),v]) ⟨rfl,1,none,Pw.IsLcm.nil,rfl⟩ (fun i σ G _ h=>h.1 ▸ hq) ?_ ?_
   · rintro i x σ G hi ⟨rfl,L,v,hL,rfl⟩
     have hlt:i<us.length:=(List.getElem?_eq_some_iff.mp hi).1
     have hA:As[i]?=some As[i]:=by simp
     obtain ⟨p,ep,fp⟩:=fl.at hA
     rw [hi] at ep
     cases ep
     have mA:=List.mem_of_getElem? hA
     have pA:=pos _ mA
     have zL:Sz 8000 L:=IsLcm.takeM hL hM (fun A hA=>dv A (List.mem_of_mem_take hA)) zM
     have zA:Sz 8000 As[i].2:=le_sz (by omega) (Int.le_of_dvd hM (dv _ mA)) zM
     obtain ⟨g1,g2⟩:=gcd_le (x:=L) pA
     have hLp:=hL.pos
     refine ⟨_,rfl,_,rfl,_,rfl,p,_,_,_,rfl,rfl,SqT.of fp,rfl,L,As[i].2,rfl,by omega,by omega,_,_,rfl,rfl,⟨by omega,(le_sz (by omega) g2 zA).mono (by decide)⟩,_,rfl,p,_,_,_,rfl,rfl,SqT.of fp,rfl,_,_,rfl,rfl,⟨(fdiv_sz hLp g1 zL).mono (by decide),zA.mono (by decide)⟩,rfl,_,_,?_,rfl⟩
     rw [List.take_succ,hA]
     exact hL.snoc pA
   · rintro σ G ⟨rfl,L,v,hL,rfl⟩
     rw [hl,List.take_of_length_le (Nat.le_refl _)] at hL
     exact ⟨_,rfl,k L hL⟩
theorem ndAb:(["each","below"]:List Str).Nodup:=by decide +kernel
theorem scAboves:FnScope ["some","below"] ["some","below"] (defScope sAboves):=⟨rfl,rfl,rfl,by decide +kernel,rfl,by decide +kernel,by decide +kernel⟩
theorem d_aboves (S:Fnd K mg "aboves" sAboves ["some","below"]):Def P w K mg base 1 "aboves" ["some","below"] (spAboves K):=S.def fun f fd F=>by
 refine F.ok scAboves (fun vs H Q E h=>?_) (fun cdv A' outer s H vs Q E hr h=>?_)
 · obtain ⟨_,_,_,_,_,rfl,_⟩:=h
   rfl
 · obtain ⟨b,a,us,As,L,rfl,hq,fl,few,pos,hL,zL,k⟩:=h
   refine ⟨_,@pss_one _ _ _ (@ps_ret _ _ _ _ (pe_compC ["each","below"] [none,some 1] rfl (pi_seq (pv 0)) (by show ∀ y:Str×NameKind,y∈_→y.2=NameKind.free→(defScope sAboves).names.lookup y.1=some .cell;decide +kernel) (by decide) rfl (by decide +kernel) ⟨⟨rfl,rfl,.inl rfl⟩,trivial⟩
    (fun cl C s H fp=>pg_name (i:=0) ndAb rfl (Or.inl rfl) (.inr rfl)) (fun cl C s H fp=>pts_nil)
    (fun cl C s H fp=>pe_op op_mulB (pe_ix (ix_tupK (K:=K) rfl) (pv 0) pe_int (fun _ _=>rfl)) (pe_op op_fdivB (pv 1) (pe_ix (ix_tupK (K:=K) rfl) (pv 0) pe_int (fun _ _=>rfl)))))),?_⟩
   refine ⟨_,rfl,b,a,rfl,⟨us,hq⟩,fun D hD=>?_⟩
   have hl:=fl.len
   refine comp_seq (b:=b) (K:=K) (a:=a) (D:=D) (xs:=us) (fun i ys σ H'=>Same H H'∧H' D=some (.lst ys)∧ys=(Pw.abv (As.take i) L).map V.int∧∃ x,σ=[x,some (.int L)]) ?_ ?_ ?_ ?_
   · exact ⟨Same.new hD,upd_same,rfl,none,rfl⟩
   · rintro i ys σ H' ⟨s1,e1,_⟩
     exact ⟨hq.same s1,e1⟩
   · rintro i x ys σ H' hi hlt ⟨s1,e1,rfl,x',rfl⟩
     have hA:As[i]?=some As[i]:=by simp
     obtain ⟨p,ep,fp⟩:=fl.at hA
     rw [hi] at ep
     cases ep
     have mA:=List.mem_of_getElem? hA
     obtain ⟨pA,zA⟩:=pos _ mA
     have fp':=s1 _ _ fp
     dsimp only [gName]
     rw [if_pos rfl]
     refine ⟨_,rfl,p,_,_,_,rfl,rfl,SqT.of fp',rfl,_,rfl,_,rfl,p,_,_,_,rfl,rfl,SqT.of fp',rfl,_,_,rfl,rfl,⟨by omega,zA.2.mono (by decide)⟩,_,_,rfl,rfl,⟨zA.1.mono (by decide),(fdiv_sz hL pA zL).mono (by decide)⟩,e1,?_,Wt.next hlt ⟨fun b o e=>?_,upd_same,?_,_,rfl⟩⟩
     · unfold Pw.abv
       rw [List.length_map,List.length_map,List.length_take]
       exact small1000 (by omega)
     · rw [upd_ne (ne_of_none e hD)];exact s1 _ _ e
     · unfold Pw.abv
       rw [List.take_succ,hA,List.map_append,List.map_append]
       rfl
   · rintro ys σ H' ⟨s1,e1,rfl,_⟩
     rw [hl,List.take_of_length_le (Nat.le_refl _)] at e1
     exact k D H' s1 hD e1
theorem scParts:FnScope ["web","page"] ["web","page"] (defScope sParts):=⟨rfl,rfl,rfl,by decide +kernel,rfl,by decide +kernel,by decide +kernel⟩
theorem d_parts (S:Fnd K mg "parts" sParts ["web","page"]) (T:Txt mg) (Ld:Def P w K mg base 1 "leads" ["web","page"] (spLinks K Pw.outs)):Def P w K mg base 2 "parts" ["web","page"] (spParts K):=S.def fun f fd F=>by
 refine F.ok scParts (fun vs H Q E h=>?_) (fun cdv A' outer s H vs Q E hr h=>?_)
 · obtain ⟨_,_,_,_,rfl,_⟩:=h
   rfl
 · obtain ⟨wa,pages,j,ps,rfl,hw,few,k⟩:=h
   refine ⟨_,@pss_one _ _ _ (@ps_ret _ _ _ _ (pe_callB (call_max2 rfl) (by rfl) T.max boot_max (@pa_consX _ _ _ _ _ (by rfl) pe_int (@pa_consX _ _ _ _ _ (by rfl) (pe_callB call_len_seq (by rfl) T.len PySem.boot_len (@pa_consX _ _ _ _ _ (by rfl) (pe_def (by rfl) (by rfl) (by rfl) (by decide) Ld hr (@pa_consX _ _ _ _ _ (by rfl) (pv 0) (@pa_consX _ _ _ _ _ (by rfl) (pv 1) pa_nil))) pa_nil)) pa_nil)))),?_⟩
   refine ⟨_,rfl,_,rfl,wa,pages,j,ps,rfl,hw,few,fun l H1 s1 n1 e1=>?_⟩
   refine ⟨l,_,rfl,.inl (SqL.of e1),_,_,rfl,?_⟩
   have:=k H1 s1
   unfold Pw.mp at this
   rw [List.length_map]
   have e:(if (((Pw.outs ps (j:Int)).length:Nat):Int) > 1 then (((Pw.outs ps (j:Int)).length:Nat):Int) else 1)=((max 1 (Pw.outs ps (j:Int)).length:Nat):Int):=by split <;> omega
   rw [e]
   exact this
theorem scFactor:FnScope ["web","leap","here","there","along"] ["web","leap","here","there"] (defScope sFactor):=⟨rfl,rfl,rfl,by decide +kernel,rfl,by decide +kernel,by decide +kernel⟩
theorem d_factor (S:Fnd K mg "factor" sFactor ["web","leap","here","there"]) (T:Txt mg) (Pa:Def P w K mg base 2 "parts" ["web","page"] (spParts K)):Def P w K mg base 3 "factor" ["web","leap","here","there"] (spFactor K):=S.def fun f fd F=>by
 have nd:=scFactor.nd
 refine F.ok scFactor (fun vs H Q E h=>?_) (fun cdv A' outer s H vs Q E hr h=>?_)
 · obtain ⟨_,_,_,_,_,_,_,rfl,_⟩:=h
   rfl
 · obtain ⟨wa,lp,pages,j,i,ps,A,rfl,hw,few,hA,sa,k⟩:=h
   refine ⟨_,@pss_cons _ _ _ _ _ (@ps_setX _ _ 4 _ _ _ _ (by rfl) (Or.inl rfl) nd rfl (Or.inl rfl) (pe_op op_mulB (pe_op op_sub (pe_ix ix_tup (pv 1) pe_int (fun _ _=>rfl)) (pe_ix ix_tup (pv 1) pe_int (fun _ _=>rfl))) (pe_bmT (by rfl) (by rfl) (by rfl) (by rfl) (by rfl) PySem.F.plainAttrs_tuple PySem.F.slot_tuple_count PySem.F.type_tuple_count (mt_countT hr) (pe_ix ix_tup (pv 0) pe_int (fun _ _=>rfl)) (@pa_consX _ _ _ _ _ (by rfl) (@pe_tupS _ _ _ _ _ (@pa_consX _ _ _ _ _ (by rfl) (pv 2) (@pa_consX _ _ _ _ _ (by rfl) (pv 3) pa_nil))) pa_nil))))
    (@pss_cons _ _ _ _ _ (@ps_if _ _ _ _ _ _ _ _ (pt_cmpR op_eq (pv 2) (pv 3) (nomark _)) (@pss_one _ _ _ (@ps_ret _ _ _ _ (pe_op op_sub (pe_op op_mulB (pe_ix ix_tup (pv 1) pe_int (fun _ _=>rfl)) (pe_def (by rfl) (by rfl) (by rfl) (by decide) Pa hr (@pa_consX _ _ _ _ _ (by rfl) (pv 0) (@pa_consX _ _ _ _ _ (by rfl) (pv 2) pa_nil)))) (pv 4)))) pss_nil)
    (@pss_one _ _ _ (@ps_ret _ _ _ _ (pe_un un_neg (pv 4))))),?_⟩
   obtain ⟨ws,uw,hwa,hws,hpw⟩:=id hw
   have hol:=Pw.outs_len ps (j:Int)
   have hcc:=List.count_le_length (a:=(i:Int)) (l:=Pw.outs ps (j:Int))
   refine ⟨_,rfl,lp,_,_,_,rfl,rfl,SqT.of hA,rfl,_,rfl,lp,_,_,_,rfl,rfl,SqT.of hA,rfl,_,_,rfl,rfl,?_⟩
   refine ⟨_,rfl,wa,_,_,_,rfl,rfl,SqT.of hwa,rfl,⟨ws,uw,rfl,hws⟩,_,rfl,_,rfl,(by show 2≤sizeLine;decide),fun q H1 s1 n1 e1=>?_⟩
   refine ⟨ws,q,uw,ps,((j:Int),(i:Int)),rfl,rfl,s1 _ _ hws,hpw.kl s1.kl,SqT.of e1,?_⟩
   rw [Pw.cn_count]
   have zc:Sz 10 (Pw.cn ps j i):=sz_of 10 (by unfold Pw.cn;omega)
   refine ⟨_,_,rfl,rfl,⟨(sa.2.sub sa.1).mono (by decide),zc.mono (by decide)⟩,?_⟩
   refine ⟨_,rfl,_,rfl,rfl,_,rfl,?_⟩
   unfold Pw.fac at k
   by_cases e:j=i
   · refine ifT (by subst e;simp) ?_
     rw [if_pos e] at k
     refine ⟨_,rfl,lp,_,_,_,rfl,rfl,SqT.of (s1 _ _ hA),rfl,_,rfl,_,rfl,wa,pages,j,ps,rfl,hw.same s1,few,fun H2 s2=>?_⟩
     have zm:Sz 10 (Pw.mp ps j):=sz_of 10 (by unfold Pw.mp;omega)
     exact ⟨_,_,rfl,rfl,⟨sa.2.mono (by decide),zm.mono (by decide)⟩,_,rfl,_,_,rfl,rfl,k H2 (s1.trans s2)⟩
   · refine ifF (by simp;omega) ?_
     rw [if_neg e] at k
     exact ⟨_,rfl,_,rfl,k H1 s1⟩
theorem ndEq:(["here","web","leap","page"]:List Str).Nodup:=by decide +kernel
theorem scEquation:FnScope ["web","leap","page","start"] ["web","leap","page","start"] (defScope sEquation):=⟨rfl,rfl,rfl,by decide +kernel,rfl,by decide +kernel,by decide +kernel⟩
theorem d_equation (S:Fnd K mg "equation" sEquation ["web","leap","page","start"]) (T:Txt mg) (Fa:Def P w K mg base 3 "factor" ["web","leap","here","there"] (spFactor K)):Def P w K mg base 4 "equation" ["web","leap","page","start"] (spEquation K):=S.def fun f fd F=>by
 refine F.ok scEquation (fun vs H Q E h=>?_) (fun cdv A' outer s H vs Q E hr h=>?_)
 · obtain ⟨_,_,_,_,_,_,_,rfl,_⟩:=h
   rfl
 · obtain ⟨wa,lp,pages,i,st,ps,A,rfl,hw,plo,phi,few,hA,sa,k⟩:=h
   refine ⟨_,@pss_one _ _ _ (@ps_ret _ _ _ _ (pe_op op_catS (pe_compC ["here","web","leap","page"] [none,some 0,some 1,some 2] rfl (pi_range1 rfl T.range (@pa_consX _ _ _ _ _ (by rfl) (pe_ix ix_tup (pv 0) pe_int (fun _ _=>rfl)) pa_nil))
    (by show ∀ y:Str×NameKind,y∈_→y.2=NameKind.free→(defScope sEquation).names.lookup y.1=some .cell;decide +kernel) (by decide) rfl (by decide +kernel) ⟨⟨rfl,rfl,.inl rfl⟩,⟨rfl,rfl,.inl rfl⟩,⟨rfl,rfl,.inl rfl⟩,trivial⟩
    (fun cl C s H fp=>pg_name (i:=0) ndEq rfl (Or.inl rfl) (.inr rfl)) (fun cl C s H fp=>pts_nil)
    (fun cl C s H fp=>pe_def (by rfl) (by rfl) (by rfl) (by decide) Fa hr (@pa_consX _ _ _ _ _ (by rfl) (pv 1) (@pa_consX _ _ _ _ _ (by rfl) (pv 2) (@pa_consX _ _ _ _ _ (by rfl) (pv 0) (@pa_consX _ _ _ _ _ (by rfl) (pv 3) pa_nil)))))) (@pe_lstS _ _ _ _ (@pa_consX _ _ _ _ _ (by rfl) (pv 3) pa_nil)))),?_⟩
   obtain ⟨ws,uw,hwa,hws,hpw⟩:=id hw
   refine ⟨_,rfl,wa,_,_,_,rfl,rfl,SqT.of hwa,rfl,pages,rfl,by omega,by omega,fun D hD=>?_⟩
   refine comp_rng (lo:=0) (n:=pages.toNat) (D:=D) (fun j ys σ H'=>Same H H'∧H' D=some (.lst ys)∧ys=rowI (fun j=>Pw.fac ps A j i) j∧∃ x,σ=[x,some (.ref wa),some (.ref lp),some (.int i)]) ?_ ?_ ?_ ?_
   · exact ⟨Same.new hD,upd_same,rfl,none,rfl⟩
   · rintro j ys σ H' ⟨_,e,_⟩
     exact e
   · rintro j ys σ H' hj ⟨s1,e1,rfl,x,rfl⟩
     rw [Int.zero_add]
     dsimp only [gName]
     rw [if_pos rfl]
     refine ⟨_,rfl,_,rfl,_,rfl,_,rfl,wa,lp,pages,j,i,ps,A,rfl,hw.same s1,few,s1 _ _ hA,sa,fun H2 s2=>?_⟩
     refine ⟨s2 _ _ e1,by rw [rowI_len];exact small1000 (by omega),Wt.next hj ⟨fun b o e=>?_,upd_same,(rowI_succ _ _).symm,_,rfl⟩⟩
     rw [upd_ne (ne_of_none e hD)];exact s2 _ _ (s1 _ _ e)
   rintro ys σ H1 ⟨s1,e1,rfl,_⟩
   refine ⟨_,rfl,(by show 1≤sizeLine;decide),fun l H2 s2 n2 e2=>?_⟩
   refine ⟨D,l,_,_,rfl,rfl,s2 _ _ e1,e2,by rw [rowI_len];exact Nat.le_of_lt (small1000 (by show pages.toNat+1≤1000;omega)),fun p H3 s3 n3 e3=>?_⟩
   have n:H p=none:=(s1.trans s2).free n3
   exact k p H3 (s1.trans (s2.trans s3)) n e3
theorem ndCl:(["one","two","chosen","place","equation","before"]:List Str).Nodup:=by decide +kernel
theorem scCleared:FnScope ["equation","chosen","place","before"] ["equation","chosen","place","before"] (defScope sCleared):=⟨rfl,rfl,rfl,by decide +kernel,rfl,by decide +kernel,by decide +kernel⟩
theorem d_cleared (S:Fnd K mg "cleared" sCleared ["equation","chosen","place","before"]) (T:Txt mg):Def P w K mg base 1 "cleared" ["equation","chosen","place","before"] (spCleared K):=S.def fun f fd F=>by
 refine F.ok scCleared (fun vs H Q E h=>?_) (fun cdv A' outer s H vs Q E hr h=>?_)
 · obtain ⟨_,_,_,_,_,_,_,rfl,_⟩:=h
   rfl
 · obtain ⟨e,c,kk,m,d,f1,g1,rfl,he,hc,hk,hm,hd,zd,zz,k⟩:=h
   refine ⟨_,@pss_one _ _ _ (@ps_ret _ _ _ _ (pe_compC ["one","two","chosen","place","equation","before"] [none,none,some 1,some 2,some 0,some 3] rfl (pi_zipK (by rfl) (by rfl) (by rfl) rfl T.zip (@pa_consX _ _ _ _ _ (by rfl) (pv 0) (@pa_consX _ _ _ _ _ (by rfl) (pv 1) pa_nil)))
    (by show ∀ y:Str×NameKind,y∈_→y.2=NameKind.free→(defScope sCleared).names.lookup y.1=some .cell;decide +kernel) (by decide) rfl (by decide +kernel) ⟨⟨rfl,rfl,.inl rfl⟩,⟨rfl,rfl,.inl rfl⟩,⟨rfl,rfl,.inl rfl⟩,⟨rfl,rfl,.inl rfl⟩,trivial⟩
    (fun cl C s H fp=>pg_tupK (K:=K) 2 rfl rfl (pgs_cons (pg_name (i:=0) ndCl rfl (Or.inl rfl) (.inr rfl)) (pgs_cons (pg_name (i:=1) ndCl rfl (Or.inl rfl) (.inr rfl)) pgs_nil)))
    (fun cl C s H fp=>pts_nil)
    (fun cl C s H fp=>pe_op op_fdivB (pe_op op_sub (pe_op op_mulB (pe_ix (ix_listK (K:=K) rfl) (pv 2) (pv 3) (fun _ _=>rfl)) (pv 0)) (pe_op op_mulB (pe_ix (ix_listK (K:=K) rfl) (pv 4) (pv 3) (fun _ _=>rfl)) (pv 1))) (pv 5)))),?_⟩
   refine ⟨_,rfl,_,rfl,e,c,_,_,rfl,SqL.of he,SqL.of hc,fun D hD=>?_⟩
   refine comp_zip (K:=K) (a:=e) (b:=c) (D:=D) (xs:=rowI f1 m) (zs:=rowI g1 m) (by rw [rowI_len,rowI_len]) (fun i ys σ H'=>Same H H'∧H' D=some (.lst ys)∧ys=rowI (fun j=>(g1 kk * f1 j - f1 kk * g1 j).fdiv d) i∧∃ x y,σ=[x,y,some (.ref c),some (.int kk),some (.ref e),some (.int d)]) ?_ ?_ ?_ ?_
   · exact ⟨Same.new hD,upd_same,rfl,none,none,rfl⟩
   · rintro i ys σ H' ⟨s2,e2,_⟩
     exact ⟨SqL.of (s2 _ _ he),SqL.of (s2 _ _ hc),e2⟩
   · rintro i x z ys σ H' TT G hi hz hlt ⟨s2,e2,rfl,x',y',rfl⟩ hTT sG eT
     rw [rowI_len] at hlt
     rw [rowI_get hlt] at hi hz
     cases hi
     cases hz
     obtain ⟨z1,z2⟩:=zz i hlt
     obtain ⟨z3,z4⟩:=zz kk hk
     refine ⟨TT,_,rfl,SqT.of eT,rfl,_,_,rfl,_,_,rfl,rfl,?_⟩
     dsimp only [gName]
     rw [if_pos rfl]
     refine ⟨_,rfl,_,rfl,c,_,(kk:Nat),.int (g1 kk),rfl,rfl,SqL.of (sG _ _ (s2 _ _ hc)),atI_nat (rowI_get hk),_,rfl,_,_,rfl,rfl,⟨z4.mono (by decide),z1.mono (by decide)⟩,?_⟩
     refine ⟨_,rfl,_,rfl,e,_,(kk:Nat),.int (f1 kk),rfl,rfl,SqL.of (sG _ _ (s2 _ _ he)),atI_nat (rowI_get hk),_,rfl,_,_,rfl,rfl,⟨z3.mono (by decide),z2.mono (by decide)⟩,_,_,rfl,rfl,_,rfl,_,_,rfl,rfl,⟨hd,zd.mono (by decide)⟩,?_⟩
     refine ⟨sG _ _ e2,by rw [rowI_len];exact small1000 (by omega),Wt.next (by rw [rowI_len];exact hlt) ⟨fun b o eb=>?_,upd_same,(rowI_succ _ _).symm,_,_,rfl⟩⟩
     rw [upd_ne (ne_of_none eb hD)];exact sG _ _ (s2 _ _ eb)
   · rintro ys σ H' ⟨s2,e2,rfl,_⟩
     rw [rowI_len] at e2
     exact k D H' s2 hD e2
theorem ndSo:(["turn","each","place","chosen","before"]:List Str).Nodup:=by decide +kernel
theorem scSolved:FnScope ["equations","before","place","chosen"] ["equations"] (defScope sSolved):=⟨rfl,rfl,rfl,by decide +kernel,rfl,by decide +kernel,by decide +kernel⟩
theorem d_solved (S:Fnd K mg "solved" sSolved ["equations"]) (T:Txt mg) (Cl:Def P w K mg base 1 "cleared" ["equation","chosen","place","before"] (spCleared K)):Def P w K mg base 2 "solved" ["equations"] (spSolvedN K):=S.def fun f fd F=>by
 have nd:=scSolved.nd
 refine F.ok scSolved (fun vs H Q E h=>?_) (fun cdv A' outer s H vs Q E hr h=>?_)
 · obtain ⟨_,_,_,_,_,rfl,_⟩:=h
   rfl
 · obtain ⟨e0,us0,n,z,f0,rfl,he0,mt0,sg,n1,n12,hz,hb,k⟩:=h
   refine ⟨_,@pss_cons _ _ _ _ _ (@ps_setX _ _ 1 _ _ _ _ (by rfl) (Or.inl rfl) nd rfl (Or.inr rfl) pe_int)
    (@pss_cons _ _ _ _ _ (@ps_forX _ _ _ _ _ _ _ _ (fun _=>rfl) PassesOwn.never rfl (pi_range1 rfl T.range (@pa_consX _ _ _ _ _ (by rfl) (pe_callB call_len_seq (by rfl) T.len PySem.boot_len (@pa_consX _ _ _ _ _ (by rfl) (pv 0) pa_nil)) pa_nil)) (pg_name (i:=2) nd rfl (Or.inr rfl))
     (@pss_cons _ _ _ _ _ (@ps_setX _ _ 3 _ _ _ _ (by rfl) (Or.inl rfl) nd rfl (Or.inr rfl) (pe_ix ix_list (pv 0) (pv 2) (fun _ _=>rfl)))
     (@pss_cons _ _ _ _ _ (ps_setC 0 ["turn","each","place","chosen","before"] [none,none,some 2,some 3,some 1] (by rfl) nd rfl rfl rfl (pi_enLK (by rfl) (by rfl) rfl T.enu (@pa_consX _ _ _ _ _ (by rfl) (pv 0) pa_nil))
      (by show ∀ y:Str×NameKind,y∈_→y.2=NameKind.free→(defScope sSolved).names.lookup y.1=some .cell;decide +kernel) (by decide) rfl (by decide +kernel) ⟨⟨rfl,rfl,.inl rfl⟩,⟨rfl,rfl,.inl rfl⟩,⟨rfl,rfl,.inl rfl⟩,trivial⟩
      (fun cl C s H fp=>pg_tupK (K:=K) 2 rfl rfl (pgs_cons (pg_name (i:=0) ndSo rfl (Or.inl rfl) (.inr rfl)) (pgs_cons (pg_name (i:=1) ndSo rfl (Or.inl rfl) (.inr rfl)) pgs_nil)))
      (fun cl C s H fp=>pts_nil)
      (fun cl C s H fp=>pe_ifExp (pt_cmpR op_eq (pv 0) (pv 2) (nomark _)) (pv 3) (pe_def (by rfl) (by rfl) (by rfl) (by decide) Cl hr (@pa_consX _ _ _ _ _ (by rfl) (pv 1) (@pa_consX _ _ _ _ _ (by rfl) (pv 3) (@pa_consX _ _ _ _ _ (by rfl) (pv 2) (@pa_consX _ _ _ _ _ (by rfl) (pv 4) pa_nil)))))))
     (@pss_one _ _ _ (@ps_setX _ _ 1 _ _ _ _ (by rfl) (Or.inl rfl) nd rfl (Or.inr rfl) (pe_ix ix_list (pv 3) (pv 2) (fun _ _=>rfl)))))))
    (@pss_one _ _ _ (@ps_ret _ _ _ _ (@pe_tupS _ _ _ _ _ (@pa_consX _ _ _ _ _ (by rfl) (pe_compC ["each"] [none] rfl (@pi_list _ _ _ _ (pv 0)) (by show ∀ y:Str×NameKind,y∈_→y.2=NameKind.free→(defScope sSolved).names.lookup y.1=some .cell;decide +kernel) (by decide) rfl (by decide +kernel) trivial
     (fun cl C s H fp=>pg_name (i:=0) (show (["each"]:List Str).Nodup by decide +kernel) rfl (Or.inl rfl) (.inr rfl)) (fun cl C s H fp=>pts_nil)
     (fun cl C s H fp=>pe_ix (ix_listK (K:=K) rfl) (pv 0) pe_neg1 (fun _ _=>rfl))) (@pa_consX _ _ _ _ _ (by rfl) (pv 1) pa_nil)))))),?_⟩
   have hlu:=mt0.1
   refine ⟨_,rfl,e0,us0,rfl,.inl (SqL.of he0),(us0.length:Int),rfl,by omega,by omega,?_⟩
   rw [hlu]
   refine for_range (lo:=0) (n:=(n:Int).toNat) (fun j σ G=>Same H G∧∃ (eq:Addr) (us:List V) (v2 v3:Option V),G eq=some (.lst us)∧MatL G n (n+1) (Pw.fF f0 j).1 us∧σ=[some (.ref eq),some (.int (Pw.fF f0 j).2),v2,v3]) ?_ ?_ ?_
   · exact ⟨Same.refl _,e0,us0,none,none,he0,mt0,rfl⟩
   · rintro j σ G hj ⟨sG,eq,us,v2,v3,eE,mt,rfl⟩
     rw [Int.zero_add]
     have hjn:j<n:=by omega
     have st:=Pw.fF_okN sg j (by omega)
     have dp:=Pw.fF_dN sg (k:=j) (by omega)
     obtain ⟨zf,zd⟩:=fF_szN sg n12 hb (k:=j) (by omega)
     obtain ⟨q,eq1,hq⟩:=mt.2 j hjn
     have hlm:=mt.1
     refine ⟨_,rfl,_,rfl,eq,us,(j:Nat),.ref q,rfl,rfl,SqL.of eE,atI_nat eq1,?_⟩
     refine ⟨_,rfl,eq,us,rfl,SqL.of eE,fun D hD=>?_⟩
     refine comp_enL (K:=K) (a:=eq) (D:=D) (xs:=us) (fun i ys σ H'=>Same G H'∧H' D=some (.lst ys)∧(∀ i:Nat,ys[i]?≠some (V.ref D))∧MatL H' i (n+1) (Pw.stepF (Pw.fF f0 j).1 j (Pw.fF f0 j).2) ys∧∃ x y,σ=[x,y,some (.int j),some (.ref q),some (.int (Pw.fF f0 j).2)]) ?_ ?_ ?_ ?_
     · exact ⟨Same.new hD,upd_same,fun i=>by simp,⟨rfl,fun i hi=>by omega⟩,none,none,rfl⟩
     · rintro i ys σ H' ⟨s1,e1,_⟩
       exact ⟨SqL.of (s1 _ _ eE),e1⟩
     · rintro i x ys σ H' TT G1 hi hlt ⟨s1,e1,nD,mt1,x',y',rfl⟩ hTT s2 eT
       obtain ⟨q2,eq2,hq2⟩:=mt.2 i (by omega)
       rw [hi] at eq2
       cases eq2
       have s12:=s1.trans s2
       refine ⟨TT,_,rfl,SqT.of eT,rfl,_,_,rfl,_,_,rfl,rfl,?_⟩
       dsimp only [gName]
       rw [if_pos rfl]
       have e1':=s2 _ _ e1
       have fin:∀ (r:Addr) (G2:Hp),Same G1 G2→r≠D→G2 r=some (.lst (rowI (Pw.stepF (Pw.fF f0 j).1 j (Pw.fF f0 j).2 i) (n+1)))→G2 D=some (.lst ys)∧ys.length<sizeLine∧∃ m',m'<us.length - i∧Wt (fun i ys σ H'=>Same G H'∧H' D=some (.lst ys)∧(∀ i:Nat,ys[i]?≠some (V.ref D))∧MatL H' i (n+1) (Pw.stepF (Pw.fF f0 j).1 j (Pw.fF f0 j).2) ys∧∃ x y,σ=[x,y,some (.int j),some (.ref q),some (.int (Pw.fF f0 j).2)]) us.length (i+1) m' (ys ++ [.ref r]) [some (.int i),some (.ref q2),some (.int j),some (.ref q),some (.int (Pw.fF f0 j).2)] (upd G2 D (.lst (ys ++ [.ref r]))):=fun r G2 s3 hrD hr2=>by
        have nD':∀ i:Nat,(ys ++ [V.ref r])[i]?≠some (V.ref D):=fun i' z=>by
         by_cases hi':i'<ys.length
         · rw [List.getElem?_append_left hi'] at z
           exact nD i' z
         · rw [List.getElem?_append_right (by omega)] at z
           cases hz':i' - ys.length with
           | zero=>rw [hz'] at z;simp at z;exact hrD z
           | succ m=>rw [hz'] at z;simp at z
        refine ⟨s3 _ _ e1',by rw [mt1.1];exact small1000 (by omega),Wt.next hlt ⟨fun b o eb=>?_,upd_same,nD',?_,_,_,rfl⟩⟩
        · rw [upd_ne (ne_of_none eb hD)];exact s3 _ _ (s12 _ _ eb)
        · exact MatL.put (xs:=[]) ((mt1.same (s2.trans s3)).snoc hr2) fun i' _=>nD' i'
       refine ⟨_,rfl,_,rfl,rfl,_,rfl,?_⟩
       by_cases hij:i=j
       · refine ifT (by subst hij;simp) ?_
         refine ⟨_,rfl,fin q G1 (Same.refl _) (ne_of_none hq hD) ?_⟩
         · have e:rowI (Pw.stepF (Pw.fF f0 j).1 j (Pw.fF f0 j).2 i) (n+1)=rowI ((Pw.fF f0 j).1 j) (n+1):=rowI_congr fun t ht=>by unfold Pw.stepF;rw [if_pos hij]
           rw [e]
           exact s12 _ _ hq
       · refine ifF (by simp;omega) ?_
         refine ⟨_,rfl,_,rfl,_,rfl,_,rfl,q2,q,j,n+1,_,(Pw.fF f0 j).1 i,(Pw.fF f0 j).1 j,rfl,s12 _ _ hq2,s12 _ _ hq,by omega,by omega,dp,zd.mono (by omega),fun t ht=>⟨(zf i t (by omega) (by omega)).mono (by omega),(zf j t (by omega) (by omega)).mono (by omega)⟩,fun r G2 s3 n3 e3=>?_⟩
         refine fin r G2 s3 (fun z=>?_) ?_
         · rw [z,e1'] at n3
           cases n3
         · have e:rowI (Pw.stepF (Pw.fF f0 j).1 j (Pw.fF f0 j).2 i) (n+1)=rowI (fun t=>((Pw.fF f0 j).1 j j * (Pw.fF f0 j).1 i t - (Pw.fF f0 j).1 i j * (Pw.fF f0 j).1 j t).fdiv (Pw.fF f0 j).2) (n+1):=rowI_congr fun t ht=>by unfold Pw.stepF;rw [if_neg hij]
           rw [e]
           exact e3
     rintro ys σ G1 ⟨s1,e1,_,mt1,_⟩
     rw [hlm] at mt1
     refine ⟨_,rfl,_,rfl,q,_,(j:Nat),.int ((Pw.fF f0 j).1 j j),rfl,rfl,SqL.of (s1 _ _ hq),atI_nat (rowI_get (by omega)),?_⟩
     exact ⟨sG.trans s1,D,ys,_,_,e1,mt1,rfl⟩
   · rintro σ G ⟨sG,eq,us,v2,v3,eE,mt,rfl⟩
     have hnn:(n:Int).toNat=n:=by omega
     rw [hnn] at mt
     rw [hnn]
     refine ⟨_,rfl,eq,rfl,⟨_,SqL.of eE⟩,fun D hD=>?_⟩
     have hlm:=mt.1
     refine comp_lst (K:=K) (a:=eq) (D:=D) (xs:=us) (fun i ys σ H'=>Same G H'∧H' D=some (.lst ys)∧ys=rowI (fun i=>(Pw.fF f0 n).1 i n) i∧∃ x,σ=[x]) ?_ ?_ ?_ ?_
     · exact ⟨Same.new hD,upd_same,rfl,none,rfl⟩
     · rintro i ys σ H' ⟨s1,e1,_⟩
       exact ⟨SqL.of (s1 _ _ eE),e1⟩
     · rintro i x ys σ H' hi hlt ⟨s1,e1,rfl,x',rfl⟩
       obtain ⟨q2,eq2,hq2⟩:=mt.2 i (by omega)
       rw [hi] at eq2
       cases eq2
       dsimp only [gName]
       rw [if_pos rfl]
       have hat:atI (rowI ((Pw.fF f0 n).1 i) (n+1)) (-1)=some (.int ((Pw.fF f0 n).1 i n)):=by rw [rowI_succ];exact atI_last _ _
       refine ⟨_,rfl,q2,_,(-1:Int),_,rfl,rfl,SqL.of (s1 _ _ hq2),hat,e1,by rw [rowI_len];exact small1000 (by omega),Wt.next hlt ⟨fun b o eb=>?_,upd_same,(rowI_succ _ _).symm,_,rfl⟩⟩
       rw [upd_ne (ne_of_none eb hD)];exact s1 _ _ eb
     rintro ys σ G1 ⟨s1,e1,rfl,_⟩
     rw [hlm] at e1
     refine ⟨_,rfl,(by show 2≤sizeLine;decide),fun t G2 s2 n2 e2=>?_⟩
     exact k t D G2 (sG.trans (s1.trans s2)) e2 (s2 _ _ e1)
theorem ndV1:(["page","start","web","leap"]:List Str).Nodup:=by decide +kernel
theorem ndV2:(["page","number","web"]:List Str).Nodup:=by decide +kernel
theorem scVisits:FnScope ["web","leap","leaps","starts","found"] ["web","leap","leaps"] (defScope sVisits):=⟨rfl,rfl,rfl,by decide +kernel,rfl,by decide +kernel,by decide +kernel⟩
theorem d_visits (S:Fnd K mg "visits" sVisits ["web","leap","leaps"]) (T:Txt mg) (Ab:Def P w K mg base 1 "aboves" ["some","below"] (spAboves K)) (Be:Def P w K mg base 2 "shared_below" ["some"] (spBelow K)) (So:Def P w K mg base 2 "solved" ["equations"] (spSolved K)) (Eq:Def P w K mg base 4 "equation" ["web","leap","page","start"] (spEquation K)) (Pa:Def P w K mg base 2 "parts" ["web","page"] (spParts K)):Def P w K mg base 5 "visits" ["web","leap","leaps"] (spVisits K):=S.def fun f fd F=>by
 have nd:=scVisits.nd
 refine F.ok scVisits (fun vs H Q E h=>?_) (fun cdv A' outer s H vs Q E hr h=>?_)
 · obtain ⟨_,_,_,_,_,_,_,_,_,_,rfl,_⟩:=h
   rfl
 · obtain ⟨wa,lp,ls,pages,ps,A,Bs,us,SS,z,rfl,g,pr,p12,hz,sz,sS,k⟩:=h
   have hr1:=hr.mono (show 1≤4 by decide)
   have hr2:=hr.mono (show 2≤4 by decide)
   refine ⟨_,@pss_cons _ _ _ _ _ (@ps_setX _ _ 3 _ _ _ _ (by rfl) (Or.inl rfl) nd rfl (Or.inl rfl) (pe_def (by rfl) (by rfl) (by rfl) (by decide) Ab hr1 (@pa_consX _ _ _ _ _ (by rfl) (pv 2) (@pa_consX _ _ _ _ _ (by rfl) (pe_def (by rfl) (by rfl) (by rfl) (by decide) Be hr2 (@pa_consX _ _ _ _ _ (by rfl) (pv 2) pa_nil)) pa_nil))))
    (@pss_cons _ _ _ _ _ (@ps_setX _ _ 4 _ _ _ _ (by rfl) (Or.inl rfl) nd rfl (Or.inl rfl) (pe_def (by rfl) (by rfl) (by rfl) (by decide) So hr2 (@pa_consX _ _ _ _ _ (by rfl) (pe_compC ["page","start","web","leap"] [none,none,some 0,some 1] rfl (pi_enLK (by rfl) (by rfl) rfl T.enu (@pa_consX _ _ _ _ _ (by rfl) (pv 3) pa_nil))
     (by show ∀ y:Str×NameKind,y∈_→y.2=NameKind.free→(defScope sVisits).names.lookup y.1=some .cell;decide +kernel) (by decide) rfl (by decide +kernel) ⟨⟨rfl,rfl,.inl rfl⟩,⟨rfl,rfl,.inl rfl⟩,trivial⟩
     (fun cl C s H fp=>pg_tupK (K:=K) 2 rfl rfl (pgs_cons (pg_name (i:=0) ndV1 rfl (Or.inl rfl) (.inr rfl)) (pgs_cons (pg_name (i:=1) ndV1 rfl (Or.inl rfl) (.inr rfl)) pgs_nil)))
     (fun cl C s H fp=>pts_nil)
     (fun cl C s H fp=>pe_def (by rfl) (by rfl) (by rfl) (by decide) Eq hr (@pa_consX _ _ _ _ _ (by rfl) (pv 2) (@pa_consX _ _ _ _ _ (by rfl) (pv 3) (@pa_consX _ _ _ _ _ (by rfl) (pv 0) (@pa_consX _ _ _ _ _ (by rfl) (pv 1) pa_nil)))))) pa_nil)))
    (@pss_one _ _ _ (@ps_ret _ _ _ _ (pe_compC ["page","number","web"] [none,none,some 0] rfl (pi_enLK (by rfl) (by rfl) rfl T.enu (@pa_consX _ _ _ _ _ (by rfl) (pe_ix ix_tup (pv 4) pe_int (fun _ _=>rfl)) pa_nil))
     (by show ∀ y:Str×NameKind,y∈_→y.2=NameKind.free→(defScope sVisits).names.lookup y.1=some .cell;decide +kernel) (by decide) rfl (by decide +kernel) ⟨⟨rfl,rfl,.inl rfl⟩,trivial⟩
     (fun cl C s H fp=>pg_tupK (K:=K) 2 rfl rfl (pgs_cons (pg_name (i:=0) ndV2 rfl (Or.inl rfl) (.inr rfl)) (pgs_cons (pg_name (i:=1) ndV2 rfl (Or.inl rfl) (.inr rfl)) pgs_nil)))
     (fun cl C s H fp=>pts_nil)
     (fun cl C s H fp=>pe_op op_mulB (pe_def (by rfl) (by rfl) (by rfl) (by decide) Pa hr2 (@pa_consX _ _ _ _ _ (by rfl) (pv 2) (@pa_consX _ _ _ _ _ (by rfl) (pv 0) pa_nil))) (pv 1)))))),?_⟩
   have plo:=g.plo
   have hlen:=g.len
   have hlB:=g.row.len
   have few:=g.few
   have hBn:Bs.length=pages.toNat:=by omega
   refine ⟨_,rfl,_,rfl,false,ls,us,Bs,SS,rfl,SqT.of g.leaps,g.row,Canons.pos g.cb,pr.spos,pr.ssz.mono (by decide),pr.sdvd,fun L hL=>?_⟩
   have hLp:=hL.pos
   have hLS:=hL.le pr.spos pr.sdvd
   have zL:Sz 700 L:=IsLcm.takeM hL pr.spos pr.sdvd pr.ssz
   refine ⟨false,ls,us,Bs,L,rfl,SqT.of g.leaps,g.row,by omega,fun B hB=>⟨(g.cb B hB).1,(g.sb B hB).mono (by decide)⟩,hLp,zL.mono (by decide),fun sa H1 s1 n1 e1=>?_⟩
   have hss:(Pw.abv Bs L).length=pages.toNat:=by unfold Pw.abv;rw [List.length_map];exact hBn
   have hB:∀ t,t<pages.toNat→((Pw.abv Bs L).getD t 0:Rat)=Pw.val (Bs.getD t (0,1)) * (L:Rat):=fun t ht=>by
    have hi':t<Bs.length:=by omega
    have hR:Bs[t]?=some Bs[t]:=by simp
    have e1:(Pw.abv Bs L).getD t 0=Bs[t].1 * (L.fdiv Bs[t].2):=by
     unfold Pw.abv
     rw [List.getD_eq_getElem?_getD,List.getElem?_map,hR];rfl
    have e2:Bs.getD t (0,1)=Bs[t]:=by rw [List.getD_eq_getElem?_getD,hR];rfl
    have mR:=List.getElem_mem hi'
    rw [e1,e2,Pw.abv_val (g.cb _ mR).1 hLp (hL.dvd _ mR)]
   have one:=pr.one
   rw [hBn] at one
   have snn:∀ s∈Pw.abv Bs L,0≤s:=fun s hs=>by
    obtain ⟨B,hB',rfl⟩:=List.mem_map.mp hs
    have c:=(g.cb B hB').1
    exact Int.mul_nonneg (pr.nn B hB') (by rw [Int.fdiv_eq_ediv_of_nonneg _ (by omega)];exact Int.ediv_nonneg (by omega) (by omega))
   have ssum:(Pw.abv Bs L).sum=L:=by
    have h3:=Pw.qs_list (Pw.abv Bs L)
    rw [hss,Pw.qs_congr (g:=fun t=>(L:Rat) * Pw.val (Bs.getD t (0,1))) fun t ht=>by rw [hB t ht];grind,Pw.qs_mul,one] at h3
    have:(L:Rat)=((Pw.abv Bs L).sum:Rat):=by rw [← h3];grind
    exact_mod_cast this.symm
   have lk:∀ p∈ps,0≤p.2∧p.2<((pages.toNat:Nat):Int):=fun p hp=>by
    have:=g.lk p hp
    omega
   have eo:Pw.EqOk ps A (Pw.abv Bs L) pages.toNat:=⟨lk,pr.a0,pr.a1,hss,snn,by rw [ssum];exact hLp⟩
   have sle:∀ s∈Pw.abv Bs L,s≤2 ^ z:=fun s hs=>by
    have h1:s≤(Pw.abv Bs L).sum:=le_sum snn hs
    have h2:SS.natAbs<2 ^ z:=sS
    have:((2:Int) ^ z)=((2 ^ z:Nat):Int):=by push_cast;rfl
    rw [this]
    omega
   have ez:=eqF_sz few eo sz.2 sle
   have g1:=g.same s1
   refine ⟨_,rfl,sa,_,rfl,SqL.of e1,fun D hD=>?_⟩
   refine comp_enL (K:=K) (a:=sa) (D:=D) (xs:=(Pw.abv Bs L).map V.int) (fun i ys σ H'=>Same H1 H'∧H' D=some (.lst ys)∧(∀ i:Nat,ys[i]?≠some (V.ref D))∧MatL H' i (pages.toNat+1) (Pw.eqF ps A (Pw.abv Bs L) pages.toNat) ys∧∃ x y,σ=[x,y,some (.ref wa),some (.ref lp)]) ?_ ?_ ?_ ?_
   · exact ⟨Same.new hD,upd_same,fun i=>by simp,⟨rfl,fun i hi=>by omega⟩,none,none,rfl⟩
   · rintro i ys σ H' ⟨s2,e2,_⟩
     exact ⟨SqL.of (s2 _ _ e1),e2⟩
   · rintro i x ys σ H' TT G hi hlt ⟨s2,e2,nD,mt,x',y',rfl⟩ hTT sG eT
     rw [List.length_map] at hlt
     have ex:x=.int ((Pw.abv Bs L).getD i 0):=by
      rw [List.getElem?_map,getD_mapI (by omega)] at hi
      cases hi;rfl
     subst ex
     have s2G:=s2.trans sG
     refine ⟨TT,_,rfl,SqT.of eT,rfl,_,_,rfl,_,_,rfl,rfl,?_⟩
     dsimp only [gName]
     rw [if_pos rfl]
     refine ⟨_,rfl,_,rfl,_,rfl,_,rfl,wa,lp,pages,i,_,ps,A,rfl,(g1.same s2G).web,plo,by omega,few,(g1.same s2G).leap,g.sa.mono (by decide),fun r G2 s3 n3 e3=>?_⟩
     have eD:=sG _ _ e2
     have hrD:r≠D:=fun zz=>by rw [zz,eD] at n3;cases n3
     have nD':∀ i:Nat,(ys ++ [V.ref r])[i]?≠some (V.ref D):=fun i' zz=>by
      by_cases hi':i'<ys.length
      · rw [List.getElem?_append_left hi'] at zz
        exact nD i' zz
      · rw [List.getElem?_append_right (by omega)] at zz
        cases hz':i' - ys.length with
        | zero=>rw [hz'] at zz;simp at zz;exact hrD zz
        | succ m=>rw [hz'] at zz;simp at zz
     refine ⟨s3 _ _ eD,by rw [mt.1];exact small1000 (by omega),Wt.next (by rw [List.length_map];exact hlt) ⟨fun b o eb=>?_,upd_same,nD',?_,_,_,rfl⟩⟩
     · rw [upd_ne (ne_of_none eb hD)];exact s3 _ _ (s2G _ _ eb)
     · refine MatL.put (xs:=[]) ((mt.same (sG.trans s3)).snoc ?_) fun i' _=>nD' i'
       have e:rowI (Pw.eqF ps A (Pw.abv Bs L) pages.toNat i) (pages.toNat+1)=rowI (fun j=>Pw.fac ps A j i) pages.toNat ++ [.int ((Pw.abv Bs L).getD i 0)]:=by
        rw [rowI_succ]
        have a1:rowI (Pw.eqF ps A (Pw.abv Bs L) pages.toNat i) pages.toNat=rowI (fun j=>Pw.fac ps A j i) pages.toNat:=rowI_congr fun t ht=>by unfold Pw.eqF;rw [if_pos (by omega),if_pos ht]
        have a2:Pw.eqF ps A (Pw.abv Bs L) pages.toNat i pages.toNat=(Pw.abv Bs L).getD i 0:=by unfold Pw.eqF;rw [if_pos (by omega),if_neg (by omega),if_pos rfl]
        rw [a1,a2]
       rw [e]
       exact e3
   rintro ys σ H2 ⟨s2,e2,_,mt,_⟩
   rw [List.length_map,hss] at mt
   refine ⟨D,ys,pages.toNat,z+7,Pw.eqF ps A (Pw.abv Bs L) pages.toNat,rfl,e2,mt,eo.sgn,by omega,by omega,by omega,ez,fun t l H3 s3 e3 e4=>?_⟩
   obtain ⟨zf,zd⟩:=fF_sz eo.sgn (by omega) ez (k:=pages.toNat) (Nat.le_refl _)
   have s13:=s1.trans (s2.trans s3)
   have g3:=g.same s13
   refine ⟨_,rfl,t,_,_,_,rfl,rfl,SqT.of e3,rfl,l,_,rfl,SqL.of e4,fun D2 hD2=>?_⟩
   refine comp_enL (K:=K) (a:=l) (D:=D2) (xs:=rowI (fun i=>(Pw.fF (Pw.eqF ps A (Pw.abv Bs L) pages.toNat) pages.toNat).1 i pages.toNat) pages.toNat) (fun i ys σ H'=>Same H3 H'∧H' D2=some (.lst ys)∧ys=rowI (Pw.vS ps A (Pw.abv Bs L) pages.toNat) i∧∃ x y,σ=[x,y,some (.ref wa)]) ?_ ?_ ?_ ?_
   · exact ⟨Same.new hD2,upd_same,rfl,none,none,rfl⟩
   · rintro i ys σ H' ⟨s5,e5,_⟩
     exact ⟨SqL.of (s5 _ _ e4),e5⟩
   · rintro i x ys σ H' TT G hi hlt ⟨s5,e5,rfl,x',y',rfl⟩ hTT sG eT
     rw [rowI_len] at hlt
     rw [rowI_get hlt] at hi
     cases hi
     refine ⟨TT,_,rfl,SqT.of eT,rfl,_,_,rfl,_,_,rfl,rfl,?_⟩
     dsimp only [gName]
     rw [if_pos rfl]
     have hol:=Pw.outs_len ps (i:Int)
     have zm:Sz 7 (Pw.mp ps i):=sz_of 7 (by unfold Pw.mp;omega)
     refine ⟨_,rfl,_,rfl,wa,pages,i,ps,rfl,(g3.same (s5.trans sG)).web,few,fun G2 s6=>?_⟩
     refine ⟨_,rfl,_,_,rfl,rfl,⟨zm.mono (by decide),(zf i _ hlt (Nat.le_refl _)).mono (by omega)⟩,s6 _ _ (sG _ _ e5),by rw [rowI_len];exact small1000 (by omega),Wt.next (by rw [rowI_len];exact hlt) ⟨fun b o eb=>?_,upd_same,(rowI_succ _ _).symm,_,_,rfl⟩⟩
     rw [upd_ne (ne_of_none eb hD2)];exact s6 _ _ (sG _ _ (s5 _ _ eb))
   rintro ys σ H4 ⟨s5,e5,rfl,_⟩
   rw [rowI_len] at e5
   refine k D2 H4 (Pw.abv Bs L) L eo hLp hB (fun j hj=>?_) (s13.trans s5) e5
   have hol:=Pw.outs_len ps (j:Int)
   have zm:Sz 7 (Pw.mp ps j):=sz_of 7 (by unfold Pw.mp;omega)
   exact (zm.mul (zf j _ hj (Nat.le_refl _))).mono (by omega)
theorem ndSh:(["each","numbers"]:List Str).Nodup:=by decide +kernel
theorem scShares:FnScope ["web","leap","leaps","numbers"] ["web","leap","leaps"] (defScope sShares):=⟨rfl,rfl,rfl,by decide +kernel,rfl,by decide +kernel,by decide +kernel⟩
theorem d_shares (S:Fnd K mg "shares" sShares ["web","leap","leaps"]) (T:Txt mg) (Vi:Def P w K mg base 5 "visits" ["web","leap","leaps"] (spVisits K)) (M:Def P w K mg base 2 "made" ["above","below"] spMadeS):Def P w K mg base 6 "shares" ["web","leap","leaps"] (spShares K):=S.def fun f fd F=>by
 have nd:=scShares.nd
 refine F.ok scShares (fun vs H Q E h=>?_) (fun cdv A' outer s H vs Q E hr h=>?_)
 · obtain ⟨_,_,_,_,_,_,_,_,_,_,rfl,_⟩:=h
   rfl
 · obtain ⟨wa,lp,ls,pages,ps,A,Bs,us,SS,z,rfl,g,pr,p12,hz,sz,sS,k⟩:=h
   have hr2:=hr.mono (show 2≤5 by decide)
   refine ⟨_,@pss_cons _ _ _ _ _ (@ps_setX _ _ 3 _ _ _ _ (by rfl) (Or.inl rfl) nd rfl (Or.inr rfl) (pe_def (by rfl) (by rfl) (by rfl) (by decide) Vi hr (@pa_consX _ _ _ _ _ (by rfl) (pv 0) (@pa_consX _ _ _ _ _ (by rfl) (pv 1) (@pa_consX _ _ _ _ _ (by rfl) (pv 2) pa_nil)))))
    (@pss_one _ _ _ (@ps_ret _ _ _ _ (pe_callTy call_tupOf (by rfl) T.tup boot_tuple (@pa_consX _ _ _ _ _ (by rfl) (pe_compC ["each","numbers"] [none,some 3] rfl (@pi_list _ _ _ _ (pv 3))
     (by show ∀ y:Str×NameKind,y∈_→y.2=NameKind.free→(defScope sShares).names.lookup y.1=some .cell;decide +kernel) (by decide) rfl (by decide +kernel) ⟨⟨rfl,rfl,.inl rfl⟩,trivial⟩
     (fun cl C s H fp=>pg_name (i:=0) ndSh rfl (Or.inl rfl) (.inr rfl)) (fun cl C s H fp=>pts_nil)
     (fun cl C s H fp=>pe_def (by rfl) (by rfl) (by rfl) (by decide) M hr2 (@pa_consX _ _ _ _ _ (by rfl) (pv 0) (@pa_consX _ _ _ _ _ (by rfl) (pe_callB (call_sumK (K:=K) rfl rfl) (by rfl) T.sum boot_sum (@pa_consX _ _ _ _ _ (by rfl) (pv 1) pa_nil)) pa_nil)))) pa_nil)))),?_⟩
   have plo:=g.plo
   have hlen:=g.len
   refine ⟨_,rfl,_,rfl,_,rfl,wa,lp,ls,pages,ps,A,Bs,us,SS,z,rfl,g,pr,p12,hz,sz,sS,fun nu H1 ss L eo hLp hB zv s1 e1=>?_⟩
   have hV:=eo.V_pos
   have zV:Sz ((z+11) * 13+20) (Pw.VS ps A ss pages.toNat):=by
    refine (sum_sz (k:=(z+11) * 13+8) fun n hn=>?_).mono (by rw [List.length_map,List.length_range];omega)
    obtain ⟨t,ht,rfl⟩:=List.mem_map.mp hn
    exact zv t (List.mem_range.mp ht)
   refine ⟨_,rfl,nu,rfl,⟨_,SqL.of e1⟩,fun D hD=>?_⟩
   refine comp_lst (K:=K) (a:=nu) (D:=D) (xs:=rowI (Pw.vS ps A ss pages.toNat) pages.toNat) (fun i ys σ H'=>Same H1 H'∧H' D=some (.lst ys)∧FrL K H' ((List.range i).map fun j=>Pw.mk (Pw.vS ps A ss pages.toNat j) (Pw.VS ps A ss pages.toNat)) ys∧∃ x,σ=[x,some (.ref nu)]) ?_ ?_ ?_ ?_
   · exact ⟨Same.new hD,upd_same,rfl,none,rfl⟩
   · rintro i ys σ H' ⟨s2,e2,_⟩
     exact ⟨SqL.of (s2 _ _ e1),e2⟩
   · rintro i x ys σ H' hi hlt ⟨s2,e2,fl,x',rfl⟩
     rw [rowI_len] at hlt
     rw [rowI_get hlt] at hi
     cases hi
     dsimp only [gName]
     rw [if_pos rfl]
     refine ⟨_,rfl,_,rfl,nu,(List.range pages.toNat).map (Pw.vS ps A ss pages.toNat),rfl,SqL.of (s2 _ _ e1),_,_,rfl,(by show Pw.VS ps A ss pages.toNat≠0;omega),(zv i hlt).mono (by omega),zV.mono (by omega),fun r G2 s3 f3=>?_⟩
     have e3:=s3 _ _ e2
     refine ⟨e3,by rw [fl.len,List.length_map,List.length_range];exact small1000 (by omega),Wt.next (by rw [rowI_len];exact hlt) ⟨fun b o eb=>?_,upd_same,?_,_,rfl⟩⟩
     · rw [upd_ne (ne_of_none eb hD)];exact s3 _ _ (s2 _ _ eb)
     · rw [List.range_succ,List.map_append]
       exact ((fl.same s3).snoc (A:=Pw.mk (Pw.vS ps A ss pages.toNat i) (Pw.VS ps A ss pages.toNat)) f3).kp (KL.set e3)
   rintro ys σ H2 ⟨s2,e2,fl,_⟩
   rw [rowI_len] at fl
   refine ⟨D,ys,rfl,SqL.of e2,fun t H3 s3 n3 e3=>?_⟩
   have hBn:Bs.length=pages.toNat:=by omega
   have one:=pr.one
   rw [hBn] at one
   refine k t H3 (Pw.shL ps A ss pages.toNat) (Pw.VS ps A ss pages.toNat) ys (Pw.shL_ok eo g.ca g.cb hBn hLp hB one) hV zV (fun S hS=>?_) (s1.trans (s2.trans s3)) e3 (fl.same s3)
   obtain ⟨t,_,rfl⟩:=List.mem_map.mp hS
   exact Pw.fr_dvd (Pw.Fr.made (by omega))
end
end Lw

set_option pp.maxSteps 800
namespace Lw
open PySem L2 PyProof.Rows
section
variable {P:Program} {w:World} {K:PySem.W.Frag} {mg:Str→Option Value} {base:Heap}
theorem sc_going:FnScope ["web","leap","page","steps","factors"] ["web","leap","page","steps"] (defScope s_going):=⟨rfl,rfl,rfl,by decide +kernel,rfl,by decide +kernel,by decide +kernel⟩
set_option maxHeartbeats 0 in
theorem d_going (S:Fnd K mg "going" s_going ["web","leap","page","steps"]) (T:Txt mg) (Fc:Def P w K mg base 3 "factor" ["web","leap","here","there"] (spFactor K)) (Pt:Def P w K mg base 2 "parts" ["web","page"] (spParts K)):Def P w K mg base 4 "going" ["web","leap","page","steps"] (spGoing K):=S.def fun f fd F=>by
 have nd:=sc_going.nd
 refine F.ok sc_going (fun vs H Q E h=>?_) (fun cdv A' outer s H vs Q E hr h=>?_)
 · obtain ⟨_,_,_,_,_,_,_,rfl,_⟩:=h
   rfl
 · obtain ⟨wa,lp,n,i,st,ps,A,rfl,hw,n12,hi,few,fA,sA,hst,k⟩:=h
   refine ⟨_,(@pss_cons _ _ _ _ _ (ps_setC 4 ["there","web","leap","page"] [none,some 0,some 1,some 2] (by rfl) nd rfl rfl rfl (pi_range1 rfl T.range (@pa_consX _ _ _ _ _ (by rfl) (pe_ix ix_tup (pv 0) pe_int (fun _ _=>rfl)) pa_nil)) (by show ∀ y:Str×NameKind,y∈_→y.2=NameKind.free→(defScope s_going).names.lookup y.1=some .cell;decide +kernel) (by decide) rfl (by decide +kernel) ⟨⟨rfl,rfl,.inl rfl⟩,⟨rfl,rfl,.inl rfl⟩,⟨rfl,rfl,.inl rfl⟩,trivial⟩
    (fun cl C s H fp=>(pg_name (i:=0) (show (["there","web","leap","page"]:List Str).Nodup by decide +kernel) rfl (Or.inl rfl) (.inr rfl)))
    (fun cl C s H fp=>pts_nil)
    (fun cl C s H fp=>(pe_def (by rfl) (by rfl) (by rfl) (by decide) Fc (hr.mono (by decide)) (@pa_consX _ _ _ _ _ (by rfl) (pv 1) (@pa_consX _ _ _ _ _ (by rfl) (pv 2) (@pa_consX _ _ _ _ _ (by rfl) (pv 3) (@pa_consX _ _ _ _ _ (by rfl) (pv 0) pa_nil)))))))
    (@pss_one _ _ _ (@ps_ret _ _ _ _ (pe_op op_catS (pv 4) (@pe_lstS _ _ _ _ (@pa_consX _ _ _ _ _ (by rfl) (pe_un un_neg (pe_callB (call_sum rfl) (by rfl) T.sum boot_sum (@pa_consX _ _ _ _ _ (by rfl) (pv 4) pa_nil))) (@pa_consX _ _ _ _ _ (by rfl) (pe_op op_mulB (pe_op op_mulB (pv 3) (pe_ix ix_tup (pv 1) pe_int (fun _ _=>rfl))) (pe_def (by rfl) (by rfl) (by rfl) (by decide) Pt (hr.mono (by decide)) (@pa_consX _ _ _ _ _ (by rfl) (pv 0) (@pa_consX _ _ _ _ _ (by rfl) (pv 2) pa_nil)))) pa_nil))))))),?_⟩
   obtain ⟨t0,us0,ew,et,hp⟩:=id hw
   refine ⟨_,rfl,wa,_,_,_,rfl,rfl,SqT.of ew,rfl,(n:Int),rfl,by omega,by omega,fun D hD=>?_⟩
   rw [Int.toNat_natCast]
   refine comp_rng (lo:=0) (n:=n) (D:=D) (fun j ys σ G=>Same H G∧G D=some (.lst ys)∧ys=rowI (Pw.fac ps A i) j∧∃ x,σ=[x,some (.ref wa),some (.ref lp),some (.int (i:Int))]) ?_ ?_ ?_ ?_
   · exact ⟨Same.new hD,upd_same,rfl,none,rfl⟩
   · rintro j ys σ G ⟨_,e,_⟩
     exact e
   · rintro j ys σ G hj ⟨sG,eG,rfl,x,rfl⟩
     rw [Int.zero_add]
     dsimp only [gName]
     rw [if_pos rfl]
     refine ⟨_,rfl,_,rfl,_,rfl,_,rfl,wa,lp,(n:Int),i,j,ps,A,rfl,hw.kl sG.kl,few,sG _ _ fA,sA.mono (by decide),fun G2 s2=>⟨s2 _ _ eG,by rw [rowI_len];exact small1000 (by omega),Wt.next hj ⟨fun b o e=>?_,upd_same,(rowI_succ _ _).symm,_,rfl⟩⟩⟩
     rw [upd_ne (ne_of_none e hD)];exact s2 _ _ (sG _ _ e)
   rintro ys σ G1 ⟨s1,e1,rfl,_⟩
   have hmz:Sz 20 (Pw.mp ps i):=by
    have:=Pw.outs_len ps (i:Int)
    unfold Pw.mp Sz;omega
   have zst:Sz 20 st:=by rcases hst with h | h <;> rw [h] <;> exact sz_of 20 (by decide)
   refine ⟨_,rfl,_,rfl,D,(List.range n).map (Pw.fac ps A i),rfl,SqL.of e1,_,rfl,_,rfl,_,rfl,lp,_,_,_,rfl,rfl,SqT.of (s1 _ _ fA),rfl,_,_,rfl,rfl,⟨zst.mono (by decide),sA.2.mono (by decide)⟩,_,rfl,_,rfl,wa,(n:Int),i,ps,rfl,hw.kl s1.kl,few,fun G2 s2=>?_⟩
   refine ⟨_,_,rfl,rfl,⟨(zst.mul sA.2).mono (by decide),hmz.mono (by decide)⟩,(by show 2≤sizeLine;decide),fun l2 G3 s3 m3 e3=>?_⟩
   refine ⟨D,l2,_,_,rfl,rfl,s3 _ _ (s2 _ _ e1),e3,?_,fun p G4 s4 m4 e4=>?_⟩
   · rw [rowI_len];exact Nat.le_of_lt (small1000 (by show n+2≤1000;omega))
   refine k p G4 (s1.trans (s2.trans (s3.trans s4))) ((s1.trans (s2.trans s3)).free m4) ?_
   rw [e4]
   refine congrArg (fun z=>some (HO.lst z)) (rowI_two (g:=goF ps A n st i) (fun j hj=>?_) ?_ ?_)
   · unfold goF;rw [if_pos hj]
   · unfold goF;rw [if_neg (Nat.lt_irrefl _),if_pos rfl]
   · unfold goF;rw [if_neg (by omega),if_neg (by omega)]
theorem sc_leaping:FnScope ["leaps","below"] ["leaps"] (defScope s_leaping):=⟨rfl,rfl,rfl,by decide +kernel,rfl,by decide +kernel,by decide +kernel⟩
set_option maxHeartbeats 0 in
theorem d_leaping (S:Fnd K mg "leaping" s_leaping ["leaps"]) (T:Txt mg) (Be:Def P w K mg base 2 "shared_below" ["some"] (spBelow K)) (Ab:Def P w K mg base 1 "aboves" ["some","below"] (spAboves K)):Def P w K mg base 3 "leaping" ["leaps"] (spLeaping K):=S.def fun f fd F=>by
 have nd:=sc_leaping.nd
 refine F.ok sc_leaping (fun vs H Q E h=>?_) (fun cdv A' outer s H vs Q E hr h=>?_)
 · obtain ⟨_,_,_,_,_,rfl,_⟩:=h
   rfl
 · obtain ⟨ls,n,Bs,us,S,rfl,eL,fl,cb,hn,n12,zB,hS,zS,dv,k⟩:=h
   refine ⟨_,(@pss_cons _ _ _ _ _ (@ps_setX _ _ 1 _ _ _ _ (by rfl) (Or.inl rfl) nd rfl (Or.inl rfl) (pe_def (by rfl) (by rfl) (by rfl) (by decide) Be (hr.mono (by decide)) (@pa_consX _ _ _ _ _ (by rfl) (pv 0) pa_nil)))
    (@pss_one _ _ _ (@ps_ret _ _ _ _ (pe_op op_catS (pe_compC ["each"] [none] rfl (@pi_list _ _ _ _ (pe_def (by rfl) (by rfl) (by rfl) (by decide) Ab (hr.mono (by decide)) (@pa_consX _ _ _ _ _ (by rfl) (pv 0) (@pa_consX _ _ _ _ _ (by rfl) (pv 1) pa_nil)))) (by show ∀ y:Str×NameKind,y∈_→y.2=NameKind.free→(defScope s_leaping).names.lookup y.1=some .cell;decide +kernel) (by decide) rfl (by decide +kernel) trivial
     (fun cl C s H fp=>(pg_name (i:=0) (show (["each"]:List Str).Nodup by decide +kernel) rfl (Or.inl rfl) (.inr rfl)))
     (fun cl C s H fp=>pts_nil)
     (fun cl C s H fp=>(pe_un un_neg (pv 0)))) (@pe_lstS _ _ _ _ (@pa_consX _ _ _ _ _ (by rfl) (pv 1) (@pa_consX _ _ _ _ _ (by rfl) pe_int pa_nil))))))),?_⟩
   have hl:=fl.len
   refine ⟨_,rfl,false,ls,us,Bs,S,rfl,SqT.of eL,fl,fun B hB=>(cb B hB).1,hS,zS.mono (by decide),dv,fun L hL=>?_⟩
   have zL:Sz 140 L:=le_sz (Int.le_of_lt hL.pos) (hL.le hS dv) zS
   refine ⟨_,rfl,_,rfl,false,ls,us,Bs,L,rfl,SqT.of eL,fl,by omega,fun B hB=>⟨(cb B hB).1,(zB B hB).mono (by decide)⟩,hL.pos,zL.mono (by decide),fun ab G1 s1 m1 e1=>⟨ab,rfl,⟨_,SqL.of e1⟩,fun D hD=>?_⟩⟩
   have la:(Pw.abv Bs L).length=n:=by unfold Pw.abv;rw [List.length_map];exact hn
   refine comp_lst (K:=K) (a:=ab) (D:=D) (xs:=(Pw.abv Bs L).map V.int) (fun j ys σ G=>Same G1 G∧G D=some (.lst ys)∧ys=rowI (fun j=>-((Pw.abv Bs L).getD j 0)) j∧∃ x,σ=[x]) ?_ ?_ ?_ ?_
   · exact ⟨Same.new hD,upd_same,rfl,none,rfl⟩
   · rintro j ys σ G ⟨sG,e,_⟩
     exact ⟨SqL.of (sG _ _ e1),e⟩
   · rintro j u ys σ G hu hj ⟨sG,eG,rfl,x,rfl⟩
     rw [List.length_map] at hj
     have eu:u=.int ((Pw.abv Bs L).getD j 0):=by
      rw [List.getElem?_map,getD_mapI hj] at hu
      cases hu;rfl
     subst eu
     dsimp only [gName]
     rw [if_pos rfl]
     refine ⟨_,rfl,_,rfl,eG,by rw [rowI_len];exact small1000 (by omega),Wt.next (by rw [List.length_map];exact hj) ⟨fun b o e=>?_,upd_same,(rowI_succ _ _).symm,_,rfl⟩⟩
     rw [upd_ne (ne_of_none e hD)];exact sG _ _ e
   rintro ys σ G2 ⟨s2,e2,rfl,_⟩
   rw [List.length_map,la] at e2
   refine ⟨_,rfl,(by show 2≤sizeLine;decide),fun l2 G3 s3 m3 e3=>?_⟩
   refine ⟨D,l2,_,_,rfl,rfl,s3 _ _ e2,e3,?_,fun p G4 s4 m4 e4=>?_⟩
   · rw [rowI_len];exact Nat.le_of_lt (small1000 (by show n+2≤1000;omega))
   refine k p G4 L hL (s1.trans (s2.trans (s3.trans s4))) ((s1.trans (s2.trans s3)).free m4) ?_
   rw [e4]
   refine congrArg (fun z=>some (HO.lst z)) (rowI_two (g:=lpF Bs L n) (fun j hj=>?_) ?_ ?_)
   · unfold lpF;rw [if_pos hj]
   · unfold lpF;rw [if_neg (Nat.lt_irrefl _),if_pos rfl]
   · unfold lpF;rw [if_neg (by omega),if_neg (by omega)]
theorem sc_staying:FnScope ["web","page","value"] ["web","page","value"] (defScope s_staying):=⟨rfl,rfl,rfl,by decide +kernel,rfl,by decide +kernel,by decide +kernel⟩
set_option maxHeartbeats 0 in
theorem d_staying (S:Fnd K mg "staying" s_staying ["web","page","value"]) (T:Txt mg) :Def P w K mg base 1 "staying" ["web","page","value"] (spStaying K):=S.def fun f fd F=>by
 have nd:=sc_staying.nd
 refine F.ok sc_staying (fun vs H Q E h=>?_) (fun cdv A' outer s H vs Q E hr h=>?_)
 · obtain ⟨_,_,_,_,_,rfl,_⟩:=h
   rfl
 · obtain ⟨wa,n,i,v,r,rfl,ew,n12,hi,k⟩:=h
   refine ⟨_,(@pss_one _ _ _ (@ps_ret _ _ _ _ (pe_op op_catS (pe_compC ["there","page"] [none,some 1] rfl (pi_range1 rfl T.range (@pa_consX _ _ _ _ _ (by rfl) (pe_ix ix_tup (pv 0) pe_int (fun _ _=>rfl)) pa_nil)) (by show ∀ y:Str×NameKind,y∈_→y.2=NameKind.free→(defScope s_staying).names.lookup y.1=some .cell;decide +kernel) (by decide) rfl (by decide +kernel) ⟨⟨rfl,rfl,.inl rfl⟩,trivial⟩
    (fun cl C s H fp=>(pg_name (i:=0) (show (["there","page"]:List Str).Nodup by decide +kernel) rfl (Or.inl rfl) (.inr rfl)))
    (fun cl C s H fp=>pts_nil)
    (fun cl C s H fp=>(pe_ifExp (pt_cmpR op_eq (pv 0) (pv 1) (nomark _)) pe_int pe_int))) (@pe_lstS _ _ _ _ (@pa_consX _ _ _ _ _ (by rfl) pe_int (@pa_consX _ _ _ _ _ (by rfl) (pv 2) pa_nil)))))),?_⟩
   refine ⟨_,rfl,wa,_,_,_,rfl,rfl,SqT.of ew,atI_nat (j:=0) rfl,(n:Int),rfl,by omega,by omega,fun D hD=>?_⟩
   rw [Int.toNat_natCast]
   refine comp_rng (lo:=0) (n:=n) (D:=D) (fun j ys σ G=>Same H G∧G D=some (.lst ys)∧ys=rowI (fun j=>if j=i then 1 else 0) j∧∃ x,σ=[x,some (.int (i:Int))]) ?_ ?_ ?_ ?_
   · exact ⟨Same.new hD,upd_same,rfl,none,rfl⟩
   · rintro j ys σ G ⟨_,e,_⟩
     exact e
   · rintro j ys σ G hj ⟨sG,eG,rfl,x,rfl⟩
     rw [Int.zero_add]
     dsimp only [gName]
     rw [if_pos rfl]
     have fin:∀ v:Int,v=(if j=i then 1 else 0)→G D=some (.lst (rowI (fun j=>if j=i then 1 else 0) j))∧(rowI (fun j=>if j=i then (1:Int) else 0) j).length<sizeLine∧∃ m',m'<n - j∧Wt (fun j ys σ G=>Same H G∧G D=some (.lst ys)∧ys=rowI (fun j=>if j=i then 1 else 0) j∧∃ x,σ=[x,some (.int (i:Int))]) n (j+1) m' (rowI (fun j=>if j=i then 1 else 0) j ++ [.int v]) [some (.int (j:Int)),some (.int (i:Int))] (upd G D (.lst (rowI (fun j=>if j=i then 1 else 0) j ++ [.int v]))):=fun v hv=>by
      refine ⟨eG,by rw [rowI_len];exact small1000 (by omega),Wt.next hj ⟨fun b o e=>?_,upd_same,?_,_,rfl⟩⟩
      · rw [upd_ne (ne_of_none e hD)];exact sG _ _ e
      · rw [hv];exact (rowI_succ _ _).symm
     refine ⟨_,rfl,_,rfl,rfl,_,rfl,?_⟩
     by_cases hij:j=i
     · refine ifT (by subst hij;simp) ?_
       exact fin 1 (by rw [if_pos hij])
     · refine ifF (by simp;omega) ?_
       exact fin 0 (by rw [if_neg hij])
   rintro ys σ G2 ⟨s2,e2,rfl,_⟩
   refine ⟨_,rfl,(by show 2≤sizeLine;decide),fun l2 G3 s3 m3 e3=>?_⟩
   refine ⟨D,l2,_,_,rfl,rfl,s3 _ _ e2,e3,?_,fun p G4 s4 m4 e4=>?_⟩
   · rw [rowI_len];exact Nat.le_of_lt (small1000 (by show n+2≤1000;omega))
   refine k p G4 (s2.trans (s3.trans s4)) ((s2.trans s3).free m4) ?_
   rw [e4]
   refine congrArg (fun z=>some (HO.lst z)) (rowI_two (g:=stF n i v) (fun j hj=>?_) ?_ ?_)
   · unfold stF;rw [if_pos hj]
   · unfold stF;rw [if_neg (Nat.lt_irrefl _),if_pos rfl]
   · unfold stF;rw [if_neg (by omega),if_neg (by omega)]
end
end Lw

set_option pp.maxSteps 800
namespace Lw
open PySem L2 PyProof.Rows
section
variable {P:Program} {w:World} {K:PySem.W.Frag} {mg:Str→Option Value} {base:Heap}
theorem sc_arrived:FnScope ["web","leap","leaps","ends","steps","equations","found"] ["web","leap","leaps","ends","steps"] (defScope s_arrived):=⟨rfl,rfl,rfl,by decide +kernel,rfl,by decide +kernel,by decide +kernel⟩
set_option maxHeartbeats 0 in
theorem d_arrived (S:Fnd K mg "arrived" s_arrived ["web","leap","leaps","ends","steps"]) (T:Txt mg) (Sy:Def P w K mg base 1 "staying" ["web","page","value"] (spStaying K)) (Go:Def P w K mg base 4 "going" ["web","leap","page","steps"] (spGoing K)) (Lg:Def P w K mg base 3 "leaping" ["leaps"] (spLeaping K)) (So:Def P w K mg base 2 "solved" ["equations"] (spSolvedN K)) (M:Def P w K mg base 2 "made" ["above","below"] spMadeS):Def P w K mg base 5 "arrived" ["web","leap","leaps","ends","steps"] (spArrived K):=S.def fun f fd F=>by
 have nd:=sc_arrived.nd
 refine F.ok sc_arrived (fun vs H Q E h=>?_) (fun cdv A' outer s H vs Q E hr h=>?_)
 · obtain ⟨_,_,_,_,_,_,_,_,_,_,_,_,_,_,rfl,_⟩:=h
   rfl
 · obtain ⟨wa,lp,ls,en,n,st,ps,A,Bs,Ss,us,S,kvs,E',rfl,i,zA,zS,hst,en',hE,hE01,ok,hEnd,k⟩:=h
   refine ⟨_,(@pss_cons _ _ _ _ _ (ps_setC 5 ["page","ends","web","leap","steps"] [none,some 3,some 0,some 1,some 4] (by rfl) nd rfl rfl rfl (pi_range1 rfl T.range (@pa_consX _ _ _ _ _ (by rfl) (pe_ix ix_tup (pv 0) pe_int (fun _ _=>rfl)) pa_nil)) (by show ∀ y:Str×NameKind,y∈_→y.2=NameKind.free→(defScope s_arrived).names.lookup y.1=some .cell;decide +kernel) (by decide) rfl (by decide +kernel) ⟨⟨rfl,rfl,.inl rfl⟩,⟨rfl,rfl,.inl rfl⟩,⟨rfl,rfl,.inl rfl⟩,⟨rfl,rfl,.inl rfl⟩,trivial⟩
    (fun cl C s H fp=>(pg_name (i:=0) (show (["page","ends","web","leap","steps"]:List Str).Nodup by decide +kernel) rfl (Or.inl rfl) (.inr rfl)))
    (fun cl C s H fp=>pts_nil)
    (fun cl C s H fp=>(pe_ifExp (pt_cmp (pc_din (hu_of hr) (pv 0) (pv 1))) (pe_def (by rfl) (by rfl) (by rfl) (by decide) Sy (hr.mono (by decide)) (@pa_consX _ _ _ _ _ (by rfl) (pv 2) (@pa_consX _ _ _ _ _ (by rfl) (pv 0) (@pa_consX _ _ _ _ _ (by rfl) (pe_dget (hu_of hr) (pv 1) (pv 0) (fun _ _=>rfl)) pa_nil)))) (pe_def (by rfl) (by rfl) (by rfl) (by decide) Go (hr.mono (by decide)) (@pa_consX _ _ _ _ _ (by rfl) (pv 2) (@pa_consX _ _ _ _ _ (by rfl) (pv 3) (@pa_consX _ _ _ _ _ (by rfl) (pv 0) (@pa_consX _ _ _ _ _ (by rfl) (pv 4) pa_nil))))))))
    (@pss_cons _ _ _ _ _ (@ps_setX _ _ 6 _ _ _ _ (by rfl) (Or.inl rfl) nd rfl (Or.inr rfl) (pe_def (by rfl) (by rfl) (by rfl) (by decide) So (hr.mono (by decide)) (@pa_consX _ _ _ _ _ (by rfl) (pe_op op_catS (pv 5) (@pe_lstS _ _ _ _ (@pa_consX _ _ _ _ _ (by rfl) (pe_def (by rfl) (by rfl) (by rfl) (by decide) Lg (hr.mono (by decide)) (@pa_consX _ _ _ _ _ (by rfl) (pv 2) pa_nil)) pa_nil))) pa_nil)))
    (@pss_one _ _ _ (@ps_ret _ _ _ _ (pe_callTy call_tupOf (by rfl) T.tup boot_tuple (@pa_consX _ _ _ _ _ (by rfl) (pe_compC ["each","found"] [none,some 6] rfl (@pi_list _ _ _ _ (pe_slice sl_list (pe_ix ix_tup (pv 6) pe_int (fun _ _=>rfl)) po_none (po_some (pe_ix ix_tup (pv 0) pe_int (fun _ _=>rfl))))) (by show ∀ y:Str×NameKind,y∈_→y.2=NameKind.free→(defScope s_arrived).names.lookup y.1=some .cell;decide +kernel) (by decide) rfl (by decide +kernel) ⟨⟨rfl,rfl,.inl rfl⟩,trivial⟩
     (fun cl C s H fp=>(pg_name (i:=0) (show (["each","found"]:List Str).Nodup by decide +kernel) rfl (Or.inl rfl) (.inr rfl)))
     (fun cl C s H fp=>pts_nil)
     (fun cl C s H fp=>(pe_def (by rfl) (by rfl) (by rfl) (by decide) M (hr.mono (by decide)) (@pa_consX _ _ _ _ _ (by rfl) (pv 0) (@pa_consX _ _ _ _ _ (by rfl) (pe_ix (ix_tupK (K:=K) rfl) (pv 1) pe_int (fun _ _=>rfl)) pa_nil))))) pa_nil)))))),?_⟩
   have hn:Bs.length=n:=by have:=i.g.len;omega
   have n12:=i.n12
   have lk:∀ p∈ps,0≤p.2∧p.2<(n:Int):=fun p hp=>(i.g.lk p hp).2.2
   obtain ⟨ee,hee,hEe,sE⟩:=hEnd
   obtain ⟨_,_,ew,_,_⟩:=i.g.web
   refine ⟨_,rfl,wa,_,_,_,rfl,rfl,SqT.of ew,rfl,(n:Int),rfl,by omega,by omega,fun D hD=>?_⟩
   rw [Int.toNat_natCast]
   refine comp_rng (lo:=0) (n:=n) (D:=D) (fun j ys σ G=>Same H G∧G D=some (.lst ys)∧(∀ q:Nat,ys[q]?≠some (V.ref D))∧MatL G j (n+2) (Pw.arF ps A Bs 1 n E' st) ys∧∃ x,σ=[x,some (.ref en),some (.ref wa),some (.ref lp),some (.int st)]) ?_ ?_ ?_ ?_
   · exact ⟨Same.new hD,upd_same,fun q=>by simp,⟨rfl,fun q hq=>by omega⟩,none,rfl⟩
   · rintro j ys σ G ⟨_,e,_⟩
     exact e
   · rintro j ys σ G hj ⟨sG,eG,nD,mt,x,rfl⟩
     rw [Int.zero_add]
     have fin:∀ (r:Addr) (G2:Hp),Same G G2→r≠D→G2 r=some (.lst (rowI (Pw.arF ps A Bs 1 n E' st j) (n+2)))→G2 D=some (.lst ys)∧ys.length<sizeLine∧∃ m',m'<n - j∧Wt (fun j ys σ G=>Same H G∧G D=some (.lst ys)∧(∀ q:Nat,ys[q]?≠some (V.ref D))∧MatL G j (n+2) (Pw.arF ps A Bs 1 n E' st) ys∧∃ x,σ=[x,some (.ref en),some (.ref wa),some (.ref lp),some (.int st)]) n (j+1) m' (ys ++ [.ref r]) [some (.int (j:Int)),some (.ref en),some (.ref wa),some (.ref lp),some (.int st)] (upd G2 D (.lst (ys ++ [.ref r]))):=fun r G2 s3 hrD hr2=>by
      have nD':∀ q:Nat,(ys ++ [V.ref r])[q]?≠some (V.ref D):=fun i' z=>by
       by_cases hi':i'<ys.length
       · rw [List.getElem?_append_left hi'] at z
         exact nD i' z
       · rw [List.getElem?_append_right (by omega)] at z
         cases hz':i' - ys.length with
         | zero=>rw [hz'] at z;simp at z;exact hrD z
         | succ m=>rw [hz'] at z;simp at z
      refine ⟨s3 _ _ eG,by rw [mt.1];exact small1000 (by omega),Wt.next hj ⟨fun b o eb=>?_,upd_same,nD',?_,_,rfl⟩⟩
      · rw [upd_ne (ne_of_none eb hD)];exact s3 _ _ (sG _ _ eb)
      · exact MatL.put (xs:=[]) ((mt.same s3).snoc hr2) fun i' _=>nD' i'
     have hv:=hE j hj
     have eEn:=sG _ _ en'
     have iG:=i.same sG
     obtain ⟨_,_,ewG,_,_⟩:=id iG.g.web
     dsimp only [gName]
     rw [if_pos rfl]
     refine ⟨_,rfl,_,rfl,en,(E' j).map V.int,rfl,hv ▸ DGet.k (k:=Sum.inl (j:Int)) eEn,_,rfl,?_⟩
     cases hEj:E' j with
     | some v =>
       refine ifT rfl ?_
       have hg:DGet G en (.int (j:Int)) (some (.int v)):=by
        have:=DGet.k (k:=Sum.inl (j:Int)) eEn
        rw [hv,hEj] at this
        exact this
       refine ⟨_,rfl,_,rfl,_,rfl,_,rfl,en,.int v,rfl,hg,wa,n,j,v,_,rfl,ewG,n12,hj,fun p G2 s2 m2 e2=>?_⟩
       refine fin p G2 s2 (fun z=>by rw [z,eG] at m2;cases m2) ?_
       rw [e2]
       refine congrArg (fun z=>some (HO.lst z)) (rowI_congr fun t ht=>?_)
       unfold stF Pw.arF
       rw [if_pos hj,hEj]
       show _=(if t<n then (if t=j then 1 else 0) else if t=n then 0 else if t=n+1 then v else 0:Int)
       by_cases c1:t<n
       · rw [if_pos c1,if_pos c1]
       · rw [if_neg c1,if_neg c1]
         by_cases c2:t=n
         · rw [if_pos c2,if_pos c2]
         · rw [if_neg c2,if_neg c2,if_pos (by omega)]
     | none =>
       refine ifF rfl ?_
       refine ⟨_,rfl,_,rfl,_,rfl,_,rfl,wa,lp,n,j,st,ps,A,rfl,iG.g.web,n12,hj,i.g.few,iG.g.leap,i.sA,hst,fun p G2 s2 m2 e2=>?_⟩
       refine fin p G2 s2 (fun z=>by rw [z,eG] at m2;cases m2) ?_
       rw [e2]
       refine congrArg (fun z=>some (HO.lst z)) (rowI_congr fun t ht=>?_)
       unfold goF Pw.arF
       rw [if_pos hj,hEj]
       show _=(if t<n then Pw.fac ps A j t else if t=n then -(((List.range n).map fun t=>Pw.fac ps A j t).sum) else if t=n+1 then st * A.2 * Pw.mp ps j else 0:Int)
       by_cases c1:t<n
       · rw [if_pos c1,if_pos c1]
       · rw [if_neg c1,if_neg c1]
         by_cases c2:t=n
         · rw [if_pos c2,if_pos c2]
         · rw [if_neg c2,if_neg c2,if_pos (by omega)]
   rintro ys σ G1 ⟨s1,e1,nD,mt,_⟩
   have i1:=i.same s1
   refine ⟨_,rfl,_,rfl,ls,n,Bs,us,S,rfl,i1.g.leaps,i1.g.row,i.g.cb,hn,n12,i.g.sb,i.pr.spos,i.sS,i.pr.sdvd,fun q G2 L hL s2 m2 e2=>⟨(by show 1≤sizeLine;decide),fun l2 G3 s3 m3 e3=>⟨D,l2,_,_,rfl,rfl,s3 _ _ (s2 _ _ e1),e3,?_,fun eqs G4 s4 m4 e4=>?_⟩⟩⟩
   · rw [mt.1];exact Nat.le_of_lt (small1000 (by show n+1≤1000;omega))
   obtain ⟨nz,bd,ao,DD,rwX,zz⟩:=Pw.ar_all (E:=E') (st:=st) i.g.few lk i.g.ca i.g.cb hn n12 i.pr hL zA zS hst hE01 ok hee hEe sE
   have s24:=s2.trans (s3.trans s4)
   have hMat:MatL G4 (n+1) (n+1+1) (Pw.arF ps A Bs L n E' st) (ys ++ [.ref q]):=by
    have m0:MatL G4 n (n+2) (Pw.arF ps A Bs L n E' st) ys:=by
     have mt4:=mt.same s24
     refine ⟨mt4.1,fun r hr'=>?_⟩
     obtain ⟨a,b,c⟩:=mt4.2 r hr'
     refine ⟨a,b,?_⟩
     rw [c]
     refine congrArg (fun z=>some (HO.lst z)) (rowI_congr fun t ht=>?_)
     unfold Pw.arF
     rw [if_pos hr',if_pos hr']
    refine m0.snoc ?_
    have e2':=(s3.trans s4) _ _ e2
    rw [e2']
    refine congrArg (fun z=>some (HO.lst z)) (rowI_congr fun t ht=>?_)
    unfold lpF Pw.arF
    rw [if_neg (Nat.lt_irrefl _),if_pos rfl]
   refine ⟨eqs,_,n+1,48,Pw.arF ps A Bs L n E' st,rfl,e4,hMat,nz,by omega,by omega,by decide,bd,fun t l G5 s5 et el=>?_⟩
   have s15:=s24.trans s5
   obtain ⟨_,_,ew5,_,_⟩:=(i1.same s15).g.web
   have d0:=Pw.fF_dN nz (Nat.le_refl _)
   obtain ⟨zX,zD⟩:=fF_szN nz (by omega) bd (Nat.le_refl _)
   generalize hfX:(Pw.fF (Pw.arF ps A Bs L n E' st) (n+1)).1=X at *
   generalize hfd:(Pw.fF (Pw.arF ps A Bs L n E' st) (n+1)).2=dn at *
   refine ⟨_,rfl,t,_,_,_,rfl,rfl,SqT.of et,rfl,_,rfl,wa,_,_,_,rfl,rfl,SqT.of ew5,rfl,_,rfl,l,_,rfl,SqL.of el,fun p hp=>?_⟩
   have s6:Same G5 (upd G5 p (.lst (cutV (rowI (fun i=>X i (n+1)) (n+1)) none (some (n:Int))))):=Same.new hp
   have e6:(upd G5 p (.lst (cutV (rowI (fun i=>X i (n+1)) (n+1)) none (some (n:Int))))) p=some (.lst (rowI (fun i=>X i (n+1)) n)):=by
    rw [upd_same,cutT,rowI_succ,List.take_append_of_le_length (by rw [rowI_len];exact Nat.le_refl _),List.take_of_length_le (by rw [rowI_len];exact Nat.le_refl _)]
   generalize upd G5 p (.lst (cutV (rowI (fun i=>X i (n+1)) (n+1)) none (some (n:Int))))=G6 at s6 e6
   refine ⟨p,rfl,⟨_,SqL.of e6⟩,fun D2 hD2=>?_⟩
   have lX:(Pw.arXs ps A Bs L n E' st).length=n:=by unfold Pw.arXs;rw [List.length_map,List.length_range]
   refine comp_lst (K:=K) (a:=p) (D:=D2) (xs:=rowI (fun i=>X i (n+1)) n) (fun c ws σ G'=>Same G6 G'∧G' D2=some (.lst ws)∧FrL K G' ((Pw.arXs ps A Bs L n E' st).take c) ws∧∃ x,σ=[x,some (.ref t)]) ?_ ?_ ?_ ?_
   · exact ⟨Same.new hD2,upd_same,rfl,none,rfl⟩
   · rintro c ws σ G' ⟨sg,e,_⟩
     exact ⟨SqL.of (sg _ _ e6),e⟩
   · rintro c u ws σ G' hu hc ⟨sg,eg,fg,p0,rfl⟩
     rw [rowI_len] at hc
     rw [rowI_get hc] at hu
     cases hu
     dsimp only [gName]
     rw [if_pos rfl]
     refine ⟨_,rfl,_,rfl,t,_,_,_,rfl,rfl,SqT.of ((s6.trans sg) _ _ et),rfl,_,_,rfl,d0,(zX c (n+1) (by omega) (by omega)).mono (by decide),zD.mono (by decide),fun r G7 s7 f7=>?_⟩
     have f7:FrA K G7 r (Pw.mk (X c (n+1)) dn):=f7
     have hI:(Pw.arXs ps A Bs L n E' st)[c]?=some (Pw.mk (X c (n+1)) dn):=by
      unfold Pw.arXs
      rw [hfX,hfd,List.getElem?_map,List.getElem?_range hc];rfl
     have e7:=s7 _ _ eg
     refine ⟨e7,by rw [fg.len,List.length_take];exact small1000 (by omega),Wt.next (by rw [rowI_len];exact hc) ⟨fun b o e=>?_,upd_same,?_,_,rfl⟩⟩
     · rw [upd_ne (ne_of_none e hD2)];exact s7 _ _ (sg _ _ e)
     · rw [List.take_succ,hI]
       exact ((fg.same s7).snoc f7).kp (KL.set e7)
   rintro ws σ G7 ⟨s7,e7,f7,_⟩
   rw [rowI_len,List.take_of_length_le (by omega)] at f7
   refine ⟨D2,ws,rfl,SqL.of e7,fun t2 G8 s8 _ e8=>?_⟩
   exact k t2 G8 L ws hL (s1.trans (s15.trans (s6.trans (s7.trans s8)))) e8 (f7.same s8)
end
end Lw

set_option pp.maxSteps 800
namespace Lw
open PySem L2 PyProof.Rows
section
variable {P:Program} {w:World} {K:PySem.W.Frag} {mg:Str→Option Value} {base:Heap}
theorem sc_steps_to:FnScope ["web","leap","leaps","page"] ["web","leap","leaps","page"] (defScope s_steps_to):=⟨rfl,rfl,rfl,by decide +kernel,rfl,by decide +kernel,by decide +kernel⟩
set_option maxHeartbeats 0 in
theorem d_steps_to (S:Fnd K mg "steps_to" s_steps_to ["web","leap","leaps","page"]) (T:Txt mg) {zZ:Addr} (mZ:mg "ZERO"=some (.ref zZ)) (hZ:∀ H,SqF K H zZ (0,1)) (Sh:Def P w K mg base 6 "shares" ["web","leap","leaps"] (spSh K)) (Ar:Def P w K mg base 5 "arrived" ["web","leap","leaps","ends","steps"] (spArrived K)):Def P w K mg base 7 "steps_to" ["web","leap","leaps","page"] (spSteps K):=S.def fun f fd F=>by
 have nd:=sc_steps_to.nd
 refine F.ok sc_steps_to (fun vs H Q E h=>?_) (fun cdv A' outer s H vs Q E hr h=>?_)
 · obtain ⟨_,_,_,_,_,_,_,_,_,_,_,rfl,_⟩:=h
   rfl
 · obtain ⟨wa,lp,ls,n,c,ps,A,Bs,Ss,us,S,rfl,i,zA,zS,hc,ok,k1,k2⟩:=h
   refine ⟨_,(@pss_cons _ _ _ _ _ (@ps_if _ _ _ _ _ _ _ _ (pt_cmpR (op_eqD hr) (pe_ix ix_tup (pe_def (by rfl) (by rfl) (by rfl) (by decide) Sh (hr.mono (by decide)) (@pa_consX _ _ _ _ _ (by rfl) (pv 0) (@pa_consX _ _ _ _ _ (by rfl) (pv 1) (@pa_consX _ _ _ _ _ (by rfl) (pv 2) pa_nil)))) (pv 3) (fun _ _=>rfl)) (pe_glob (v:=.ref zZ) (by rfl) mZ rfl) (nomark _))
    (@pss_one _ _ _ (@ps_ret _ _ _ _ pe_non))
    pss_nil)
    (@pss_one _ _ _ (@ps_ret _ _ _ _ (pe_def (by rfl) (by rfl) (by rfl) (by decide) Ar (hr.mono (by decide)) (@pa_consX _ _ _ _ _ (by rfl) (pv 0) (@pa_consX _ _ _ _ _ (by rfl) (pv 1) (@pa_consX _ _ _ _ _ (by rfl) (pv 2) (@pa_consX _ _ _ _ _ (by rfl) (pe_disp (pps_cons (pv 3) pe_int pps_nil) rfl rfl (by simp) (by decide)) (@pa_consX _ _ _ _ _ (by rfl) pe_int pa_nil))))))))),?_⟩
   have hn:Bs.length=n:=by have:=i.g.len;omega
   have lk:∀ p∈ps,0≤p.2∧p.2<(n:Int):=fun p hp=>(i.g.lk p hp).2.2
   refine ⟨_,rfl,_,rfl,_,rfl,wa,lp,ls,n,ps,A,Bs,us,S,rfl,i,fun t G1 Ss' ys ok' sz s1 e1 f1=>?_⟩
   obtain rfl:Ss'=Ss:=Pw.ShOk.unique lk i.g.ca i.g.cb hn i.pr ok' ok
   have lS:=ok.len
   obtain ⟨pc,ec,fc⟩:=f1.at (j:=c) (A:=Ss'.getD c (0,1)) (by rw [List.getD_eq_getElem?_getD,List.getElem?_eq_getElem (by omega)];rfl)
   refine ⟨_,rfl,t,_,_,_,rfl,rfl,SqT.of e1,atI_nat ec,?_⟩
   dsimp only [tC]
   refine eqFS (A:=Ss'.getD c (0,1)) (B:=(0,1)) (p:=pc) (q:=zZ) (SqF.of fc) (hZ _) ?_
   refine ⟨_,rfl,?_⟩
   have cc:=ok.canon.getD c
   by_cases h:Ss'.getD c (0,1)=(0,1)
   · refine ifT (decide_eq_true h) ?_
     exact k1 ((Pw.val0 cc).mpr h) G1 s1
   · refine ifF (decide_eq_false h) ?_
     have pos:0<Pw.val (Ss'.getD c (0,1)):=by
      have h1:=ok.v_nn hc
      have h2:Pw.val (Ss'.getD c (0,1))≠0:=fun z=>h ((Pw.val0 cc).mp z)
      grind
     refine ⟨_,rfl,_,rfl,_,rfl,fun en hen=>⟨_,rfl,upd_same,[(Sum.inl (c:Int),.int 0)],rfl,(by show 1≤15;decide),?_⟩⟩
     have sU:Same G1 (upd (upd G1 en (.dK [])) en (.dK (mergeK [] [(Sum.inl (c:Int),.int 0)]))):=fun b o e=>by rw [upd_ne (ne_of_none e hen),upd_ne (ne_of_none e hen)];exact e
     have eU:(upd (upd G1 en (.dK [])) en (.dK (mergeK [] [(Sum.inl (c:Int),.int 0)]))) en=some (.dK [(Sum.inl (c:Int),.int 0)]):=upd_same
     generalize upd (upd G1 en (.dK [])) en (.dK (mergeK [] [(Sum.inl (c:Int),.int 0)]))=U at sU eU
     refine ⟨wa,lp,ls,en,n,1,ps,A,Bs,Ss',us,S,_,eSt c,rfl,(i.same s1).same sU,zA,zS,.inr rfl,eU,fun j hj=>?_,fun j v hv=>?_,ok,⟨c,hc,?_,pos⟩,fun t2 G2 L xs hL s2 e2 f2=>k2 pos t2 G2 L xs hL (s1.trans (sU.trans s2)) e2 f2⟩
     · unfold eSt
       by_cases e:j=c
       · rw [if_pos e,valV_pos (by rw [e])];rfl
       · rw [if_neg e,valV_neg (by intro z;exact e (by have:=Sum.inl.inj z;omega))];rfl
     · unfold eSt at hv
       split at hv
       · cases hv;exact .inl rfl
       · cases hv
     · unfold eSt;rw [if_pos rfl];rfl
theorem scBy:FnScope ["one","other"] ["one","other"] (defScope sBy):=⟨rfl,rfl,rfl,by decide +kernel,rfl,by decide +kernel,by decide +kernel⟩
set_option maxHeartbeats 0 in
theorem d_by (S:Fnd K mg "by" sBy ["one","other"]) (T:Txt mg) (M:Def P w K mg base 2 "made" ["above","below"] spMadeS):Def P w K mg base 3 "by" ["one","other"] (spBy K):=S.def fun f fd F=>by
 have nd:=scBy.nd
 refine F.ok scBy (fun vs H Q E h=>?_) (fun cdv A' outer s H vs Q E hr h=>?_)
 · obtain ⟨_,_,_,_,rfl,_⟩:=h
   rfl
 · obtain ⟨p,q,A,B,rfl,hA,hB,na,nb,sa,sb,k⟩:=h
   refine ⟨_,(@pss_one _ _ _ (@ps_ret _ _ _ _ (pe_def (by rfl) (by rfl) (by rfl) (by decide) M (hr.mono (by decide)) (@pa_consX _ _ _ _ _ (by rfl) (pe_op op_mulB (pe_ix ix_tup (pv 0) pe_int (fun _ _=>rfl)) (pe_ix ix_tup (pv 1) pe_int (fun _ _=>rfl))) (@pa_consX _ _ _ _ _ (by rfl) (pe_op op_mulB (pe_ix ix_tup (pv 0) pe_int (fun _ _=>rfl)) (pe_ix ix_tup (pv 1) pe_int (fun _ _=>rfl))) pa_nil))))),?_⟩
   refine ⟨_,rfl,p,_,_,_,rfl,rfl,hA,rfl,_,rfl,q,_,_,_,rfl,rfl,hB,rfl,_,_,rfl,rfl,⟨sa.1.mono (by decide),sb.2.mono (by decide)⟩,_,rfl,p,_,_,_,rfl,rfl,hA,rfl,_,rfl,q,_,_,_,rfl,rfl,hB,rfl,_,_,rfl,rfl,⟨sa.2.mono (by decide),sb.1.mono (by decide)⟩,_,_,rfl,Int.ne_of_gt (Int.mul_pos na nb),(sa.1.mul sb.2).mono (by decide),(sa.2.mul sb.1).mono (by decide),fun r G s e=>k r G s e⟩
theorem sc_steps_back:FnScope ["web","leap","leaps","page","share"] ["web","leap","leaps","page"] (defScope s_steps_back):=⟨rfl,rfl,rfl,by decide +kernel,rfl,by decide +kernel,by decide +kernel⟩
set_option maxHeartbeats 0 in
theorem d_steps_back (S:Fnd K mg "steps_back" s_steps_back ["web","leap","leaps","page"]) (T:Txt mg) {zZ zO:Addr} (mZ:mg "ZERO"=some (.ref zZ)) (hZ:∀ H,SqF K H zZ (0,1)) (mO:mg "ONE"=some (.ref zO)) (hO:∀ H,SqF K H zO (1,1)) (Sh:Def P w K mg base 6 "shares" ["web","leap","leaps"] (spSh K)) (By:Def P w K mg base 3 "by" ["one","other"] (spBy K)):Def P w K mg base 7 "steps_back" ["web","leap","leaps","page"] (spBack K):=S.def fun f fd F=>by
 have nd:=sc_steps_back.nd
 refine F.ok sc_steps_back (fun vs H Q E h=>?_) (fun cdv A' outer s H vs Q E hr h=>?_)
 · obtain ⟨_,_,_,_,_,_,_,_,_,_,_,rfl,_⟩:=h
   rfl
 · obtain ⟨wa,lp,ls,n,c,ps,A,Bs,Ss,us,S,rfl,i,hc,ok,k1,k2⟩:=h
   refine ⟨_,(@pss_cons _ _ _ _ _ (@ps_setX _ _ 4 _ _ _ _ (by rfl) (Or.inl rfl) nd rfl (Or.inl rfl) (pe_ix ix_tup (pe_def (by rfl) (by rfl) (by rfl) (by decide) Sh (hr.mono (by decide)) (@pa_consX _ _ _ _ _ (by rfl) (pv 0) (@pa_consX _ _ _ _ _ (by rfl) (pv 1) (@pa_consX _ _ _ _ _ (by rfl) (pv 2) pa_nil)))) (pv 3) (fun _ _=>rfl)))
    (@pss_cons _ _ _ _ _ (@ps_if _ _ _ _ _ _ _ _ (pt_cmpR (op_eqD hr) (pv 4) (pe_glob (v:=.ref zZ) (by rfl) mZ rfl) (nomark _))
     (@pss_one _ _ _ (@ps_ret _ _ _ _ pe_non))
     pss_nil)
    (@pss_one _ _ _ (@ps_ret _ _ _ _ (pe_def (by rfl) (by rfl) (by rfl) (by decide) By (hr.mono (by decide)) (@pa_consX _ _ _ _ _ (by rfl) (pe_glob (v:=.ref zO) (by rfl) mO rfl) (@pa_consX _ _ _ _ _ (by rfl) (pv 4) pa_nil))))))),?_⟩
   have hn:Bs.length=n:=by have:=i.g.len;omega
   have lk:∀ p∈ps,0≤p.2∧p.2<(n:Int):=fun p hp=>(i.g.lk p hp).2.2
   refine ⟨_,rfl,_,rfl,_,rfl,wa,lp,ls,n,ps,A,Bs,us,S,rfl,i,fun t G1 Ss' ys ok' sz s1 e1 f1=>?_⟩
   obtain rfl:Ss'=Ss:=Pw.ShOk.unique lk i.g.ca i.g.cb hn i.pr ok' ok
   have lS:=ok.len
   obtain ⟨pc,ec,fc⟩:=f1.at (j:=c) (A:=Ss'.getD c (0,1)) (by rw [List.getD_eq_getElem?_getD,List.getElem?_eq_getElem (by omega)];rfl)
   refine ⟨_,rfl,t,_,_,_,rfl,rfl,SqT.of e1,atI_nat ec,?_⟩
   have cc:=ok.canon.getD c
   have mc:=mem_getD (Bs:=Ss') (t:=c) (by omega)
   refine ⟨_,rfl,?_⟩
   dsimp only [tC]
   refine eqFS (A:=Ss'.getD c (0,1)) (B:=(0,1)) (p:=pc) (q:=zZ) (SqF.of fc) (hZ _) ?_
   refine ⟨_,rfl,?_⟩
   by_cases h:Ss'.getD c (0,1)=(0,1)
   · refine ifT (decide_eq_true h) ?_
     exact k1 ((Pw.val0 cc).mpr h) G1 s1
   · refine ifF (decide_eq_false h) ?_
     have pos:0<Pw.val (Ss'.getD c (0,1)):=by
      have h1:=ok.v_nn hc
      have h2:Pw.val (Ss'.getD c (0,1))≠0:=fun z=>h ((Pw.val0 cc).mp z)
      grind
     have np:=Pw.num_pos cc pos
     refine ⟨_,rfl,zO,pc,(1,1),Ss'.getD c (0,1),rfl,hO _,SqF.of fc,by decide,np,⟨sz_of 41 (by decide),sz_of 41 (by decide)⟩,(sz _ mc).mono (by decide),fun r G2 s2 f2=>?_⟩
     rw [Pw.fby_one cc np] at f2
     exact k2 pos r G2 (s1.trans s2) f2
theorem sc_first_to:FnScope ["web","leap","leaps","one","other","row"] ["web","leap","leaps","one","other"] (defScope s_first_to):=⟨rfl,rfl,rfl,by decide +kernel,rfl,by decide +kernel,by decide +kernel⟩
set_option maxHeartbeats 0 in
theorem d_first_to (S:Fnd K mg "first_to" s_first_to ["web","leap","leaps","one","other"]) (T:Txt mg) {zZ:Addr} (mZ:mg "ZERO"=some (.ref zZ)) (hZ:∀ H,SqF K H zZ (0,1)) (Sh:Def P w K mg base 6 "shares" ["web","leap","leaps"] (spSh K)) (Ar:Def P w K mg base 5 "arrived" ["web","leap","leaps","ends","steps"] (spArrived K)):Def P w K mg base 7 "first_to" ["web","leap","leaps","one","other"] (spFirst K):=S.def fun f fd F=>by
 have nd:=sc_first_to.nd
 refine F.ok sc_first_to (fun vs H Q E h=>?_) (fun cdv A' outer s H vs Q E hr h=>?_)
 · obtain ⟨_,_,_,_,_,_,_,_,_,_,_,_,rfl,_⟩:=h
   rfl
 · obtain ⟨wa,lp,ls,n,x,y,ps,A,Bs,Ss,us,S,rfl,i,zA,zS,hx,hy,hxy,ok,k1,k2⟩:=h
   refine ⟨_,(@pss_cons _ _ _ _ _ (@ps_setX _ _ 5 _ _ _ _ (by rfl) (Or.inl rfl) nd rfl (Or.inl rfl) (pe_def (by rfl) (by rfl) (by rfl) (by decide) Sh (hr.mono (by decide)) (@pa_consX _ _ _ _ _ (by rfl) (pv 0) (@pa_consX _ _ _ _ _ (by rfl) (pv 1) (@pa_consX _ _ _ _ _ (by rfl) (pv 2) pa_nil)))))
    (@pss_cons _ _ _ _ _ (@ps_if _ _ _ _ _ _ _ _ (PW.pt (pw_and (pt_cmpR (op_eqD hr) (pe_ix ix_tup (pv 5) (pv 3) (fun _ _=>rfl)) (pe_glob (v:=.ref zZ) (by rfl) mZ rfl) (nomark _)) (pw_and1 (pt_cmpR (op_eqD hr) (pe_ix ix_tup (pv 5) (pv 4) (fun _ _=>rfl)) (pe_glob (v:=.ref zZ) (by rfl) mZ rfl) (nomark _)))))
     (@pss_one _ _ _ (@ps_ret _ _ _ _ pe_non))
     pss_nil)
    (@pss_one _ _ _ (@ps_ret _ _ _ _ (pe_def (by rfl) (by rfl) (by rfl) (by decide) Ar (hr.mono (by decide)) (@pa_consX _ _ _ _ _ (by rfl) (pv 0) (@pa_consX _ _ _ _ _ (by rfl) (pv 1) (@pa_consX _ _ _ _ _ (by rfl) (pv 2) (@pa_consX _ _ _ _ _ (by rfl) (pe_disp (pps_cons (pv 3) pe_int (pps_cons (pv 4) pe_int pps_nil)) rfl rfl (by simp) (by decide)) (@pa_consX _ _ _ _ _ (by rfl) pe_int pa_nil)))))))))),?_⟩
   have hn:Bs.length=n:=by have:=i.g.len;omega
   have lk:∀ p∈ps,0≤p.2∧p.2<(n:Int):=fun p hp=>(i.g.lk p hp).2.2
   refine ⟨_,rfl,_,rfl,_,rfl,wa,lp,ls,n,ps,A,Bs,us,S,rfl,i,fun t G1 Ss' ys ok' sz s1 e1 f1=>?_⟩
   obtain rfl:Ss'=Ss:=Pw.ShOk.unique lk i.g.ca i.g.cb hn i.pr ok' ok
   have lS:=ok.len
   obtain ⟨px,ex,fx⟩:=f1.at (j:=x) (A:=Ss'.getD x (0,1)) (by rw [List.getD_eq_getElem?_getD,List.getElem?_eq_getElem (by omega)];rfl)
   obtain ⟨py,ey,fy⟩:=f1.at (j:=y) (A:=Ss'.getD y (0,1)) (by rw [List.getD_eq_getElem?_getD,List.getElem?_eq_getElem (by omega)];rfl)
   have cx:=ok.canon.getD x
   have cy:=ok.canon.getD y
   have nnx:=ok.v_nn hx
   have nny:=ok.v_nn hy
   refine ⟨_,rfl,_,rfl,t,_,_,_,rfl,rfl,SqT.of e1,atI_nat ex,?_⟩
   dsimp only [tC]
   refine eqFS (A:=Ss'.getD x (0,1)) (B:=(0,1)) (p:=px) (q:=zZ) (SqF.of fx) (hZ _) ?_
   have go:∀ pos:(0<Pw.val (Ss'.getD x (0,1))∨0<Pw.val (Ss'.getD y (0,1))),tCall (spArrived K) [] E0 (tCons (tVar 0) (tCons (tVar 1) (tCons (tVar 2) (tCons (tDisp [(tVar 3,tC (V.int 1)),(tVar 4,tC (V.int 0))]) (tCons (tC (V.int 0)) tNil))))) [some (.ref wa),some (.ref lp),some (.ref ls),some (.int (x:Int)),some (.int (y:Int)),some (.ref t)] G1 Q:=fun pos=>by
    refine ⟨_,rfl,_,rfl,_,rfl,fun en hen=>⟨_,rfl,_,rfl,upd_same,[(Sum.inl (x:Int),.int 1),(Sum.inl (y:Int),.int 0)],rfl,(by show 2≤15;decide),?_⟩⟩
    have sU:Same G1 (upd (upd G1 en (.dK [])) en (.dK (mergeK [] [(Sum.inl (x:Int),.int 1),(Sum.inl (y:Int),.int 0)]))):=fun b o e=>by rw [upd_ne (ne_of_none e hen),upd_ne (ne_of_none e hen)];exact e
    have eU:(upd (upd G1 en (.dK [])) en (.dK (mergeK [] [(Sum.inl (x:Int),.int 1),(Sum.inl (y:Int),.int 0)]))) en=some (.dK (mergeK [] [(Sum.inl (x:Int),.int 1),(Sum.inl (y:Int),.int 0)])):=upd_same
    generalize upd (upd G1 en (.dK [])) en (.dK (mergeK [] [(Sum.inl (x:Int),.int 1),(Sum.inl (y:Int),.int 0)]))=U at sU eU
    refine ⟨wa,lp,ls,en,n,0,ps,A,Bs,Ss',us,S,_,eFi x y,rfl,(i.same s1).same sU,zA,zS,.inl rfl,eU,fun j _=>val2E hxy j,fun j v hv=>?_,ok,?_,fun t2 G2 L xs hL s2 e2 f2=>k2 pos t2 G2 L xs hL (s1.trans (sU.trans s2)) e2 f2⟩
    · unfold eFi at hv
      split at hv
      · cases hv;exact .inr rfl
      · split at hv
        · cases hv;exact .inl rfl
        · cases hv
    · rcases pos with h | h
      · exact ⟨x,hx,by unfold eFi;rw [if_pos rfl];rfl,h⟩
      · exact ⟨y,hy,by unfold eFi;rw [if_neg (fun z=>hxy z.symm),if_pos rfl];rfl,h⟩
   refine ⟨_,rfl,?_⟩
   by_cases h:Ss'.getD x (0,1)=(0,1)
   · refine ifT (decide_eq_true h) ?_
     refine ⟨_,rfl,_,rfl,t,_,_,_,rfl,rfl,SqT.of e1,atI_nat ey,?_⟩
     dsimp only [tC]
     refine eqFS (A:=Ss'.getD y (0,1)) (B:=(0,1)) (p:=py) (q:=zZ) (SqF.of fy) (hZ _) ?_
     refine ⟨_,rfl,?_⟩
     by_cases h':Ss'.getD y (0,1)=(0,1)
     · refine ifT (decide_eq_true h') ?_
       exact k1 ⟨(Pw.val0 cx).mpr h,(Pw.val0 cy).mpr h'⟩ G1 s1
     · refine ifF (decide_eq_false h') ?_
       refine go (.inr ?_)
       have h2:Pw.val (Ss'.getD y (0,1))≠0:=fun z=>h' ((Pw.val0 cy).mp z)
       grind
   · refine ifF (decide_eq_false h) ?_
     refine go (.inl ?_)
     have h2:Pw.val (Ss'.getD x (0,1))≠0:=fun z=>h ((Pw.val0 cx).mp z)
     grind
end
end Lw

set_option pp.maxSteps 800
namespace Lw
open PySem L2 PyProof.Rows
section
variable {P:Program} {w:World} {K:PySem.W.Frag} {mg:Str→Option Value} {base:Heap}
theorem sc_law_draws:FnScope ["script","draws","k","rest","stir","many"] ["script"] (defScope s_law_draws):=⟨rfl,rfl,rfl,by decide +kernel,rfl,by decide +kernel,by decide +kernel⟩
theorem d_law_draws (S:Fnd K mg "_law_draws" s_law_draws ["script"]) (T:Txt mg) (zmin:mg "min"=none):Def P w K mg base 1 "_law_draws" ["script"] (spDraws K):=S.def fun f fd F=>by
 have nd:=sc_law_draws.nd
 refine F.ok sc_law_draws (fun vs H Q E h=>?_) (fun cdv A' outer s H vs Q E hr h=>?_)
 · obtain ⟨_,_,rfl,_⟩:=h
   rfl
 · obtain ⟨a,ns,rfl,hS,hlen,k⟩:=h
   refine ⟨_,(@pss_cons _ _ _ _ _ (@ps_setX _ _ 1 _ _ _ _ (by rfl) (Or.inl rfl) nd rfl (Or.inl rfl) (@pe_lstS _ _ _ _ pa_nil))
    (@pss_cons _ _ _ _ _ (@ps_forX _ _ _ _ _ _ _ _ (fun _=>rfl) PassesOwn.never rfl (pi_range1 rfl T.range (@pa_consX _ _ _ _ _ (by rfl) (pe_callB (call_min2 rfl) (by rfl) zmin boot_min (@pa_consX _ _ _ _ _ (by rfl) (pe_callB call_len_seq (by rfl) T.len PySem.boot_len (@pa_consX _ _ _ _ _ (by rfl) (pv 0) pa_nil)) (@pa_consX _ _ _ _ _ (by rfl) pe_int pa_nil))) pa_nil)) (pg_name (i:=2) nd rfl (Or.inl rfl))
     (@pss_cons _ _ _ _ _ (@ps_setX _ _ 3 _ _ _ _ (by rfl) (Or.inl rfl) nd rfl (Or.inl rfl) (pe_callB call_abs (by rfl) T.abs boot_abs (@pa_consX _ _ _ _ _ (by rfl) (pe_ix ix_list (pv 0) (pv 2) (fun _ _=>rfl)) pa_nil)))
    (@pss_one _ _ _ (@ps_if _ _ _ _ _ _ _ _ (pt_cmpR op_lt (pv 3) (pe_op op_pow pe_int pe_int) (nomark _))
     (@pss_cons _ _ _ _ _ (@ps_setX _ _ 4 _ _ _ _ (by rfl) (Or.inl rfl) nd rfl (Or.inl rfl) (pe_op op_mod (pe_op op_mul (pe_op op_mod (pe_op op_add (pe_op op_add (pv 3) (pe_op op_mul pe_int (pv 2))) pe_int) pe_int) pe_int) pe_int))
    (@pss_cons _ _ _ _ _ (@ps_setX _ _ 4 _ _ _ _ (by rfl) (Or.inl rfl) nd rfl (Or.inl rfl) (pe_op op_mod (pe_op op_mul (pv 4) (pv 4)) pe_int))
    (@pss_cons _ _ _ _ _ (ps_expr (pe_bm PySem.F.plainAttrs_list PySem.F.slot_list_append PySem.F.type_list_append mt_append (pv 1) (@pa_consX _ _ _ _ _ (by rfl) (pe_op op_mod (pe_op op_fdiv (pv 4) pe_int) pe_int) pa_nil)))
    (@pss_cons _ _ _ _ _ (ps_expr (pe_bm PySem.F.plainAttrs_list PySem.F.slot_list_append PySem.F.type_list_append mt_append (pv 1) (@pa_consX _ _ _ _ _ (by rfl) (pe_op op_mod (pe_op op_fdiv (pv 4) pe_int) pe_int) pa_nil)))
    (@pss_cons _ _ _ _ _ (@ps_setX _ _ 4 _ _ _ _ (by rfl) (Or.inl rfl) nd rfl (Or.inl rfl) (pe_op op_mod (pe_op op_add (pv 4) (pe_op op_mul pe_int (pe_op op_add (pv 2) pe_int))) pe_int))
    (@pss_one _ _ _ (ps_expr (pe_bm PySem.F.plainAttrs_list PySem.F.slot_list_append PySem.F.type_list_append mt_append (pv 1) (@pa_consX _ _ _ _ _ (by rfl) (pe_op op_mod (pe_op op_fdiv (pe_op op_mod (pe_op op_mul (pv 4) (pv 4)) pe_int) pe_int) pe_int) pa_nil)))))))))
     (@pss_cons _ _ _ _ _ (@ps_setX _ _ 5 _ _ _ _ (by rfl) (Or.inl rfl) nd rfl (Or.inl rfl) pe_int)
    (@pss_one _ _ _ (ps_while PassesOwn.never (PW.pt (pw_and (pt_cmpR op_ge (pv 3) pe_int (nomark _)) (pw_and1 (pt_cmpR op_lt (pv 5) pe_int (nomark _)))))
     (@pss_cons _ _ _ _ _ (ps_expr (pe_bm PySem.F.plainAttrs_list PySem.F.slot_list_append PySem.F.type_list_append mt_append (pv 1) (@pa_consX _ _ _ _ _ (by rfl) (pe_op op_mod (pv 3) pe_int) pa_nil)))
    (@pss_cons _ _ _ _ _ (@ps_setX _ _ 3 _ _ _ _ (by rfl) (Or.inl rfl) nd rfl (Or.inl rfl) (pe_op op_fdiv (pv 3) pe_int))
    (@pss_one _ _ _ (@ps_setX _ _ 5 _ _ _ _ (by rfl) (Or.inl rfl) nd rfl (Or.inl rfl) (pe_op op_add (pv 5) pe_int))))))))))))
    (@pss_one _ _ _ (@ps_ret _ _ _ _ (pe_slice sl_list (pv 1) po_none (po_some pe_int)))))),?_⟩
   refine ⟨(by show 0≤sizeLine;decide),fun d H1 s1 hd e1=>?_⟩
   refine ⟨_,rfl,a,_,rfl,.inl (s1.seq hS),_,_,rfl,?_⟩
   have hml:(if (80:Int)<((ns.map V.int).length:Nat) then (80:Int) else ((ns.map V.int).length:Nat))=(ns.length:Nat):=by
    rw [List.length_map,if_neg (by omega)]
   rw [hml]
   refine ⟨_,rfl,by omega,by omega,?_⟩
   refine for_range (lo:=0) (n:=((ns.length:Nat):Int).toNat) (fun i σ G=>Same H G∧∃ (ds:List Int) (v2 v3 v4 v5:Option V),G d=some (.lst (ds.map V.int))∧ds.length≤60 * i∧σ=[some (.ref a),some (.ref d),v2,v3,v4,v5]) ?_ ?_ ?_
   · exact ⟨s1,[],none,none,none,none,e1,Nat.zero_le _,rfl⟩
   · rintro i σ G hi ⟨sG,ds,v2,v3,v4,v5,eG,zl,rfl⟩
     have hil:i<ns.length:=by omega
     have ei:(ns.map V.int)[i]?=some (.int ns[i]):=by simp [hil]
     have up:∀ {G':Hp} {o:HO},Same H G'→Same H (upd G' d o):=fun {G' o} s b u e=>by rw [upd_ne (ne_of_none e hd)];exact s b u e
     have ap:∀ (ds:List Int) (n:Int),ds.map V.int ++ [V.int n]=(ds ++ [n]).map V.int:=fun ds n=>by rw [List.map_append];rfl
     rw [Int.zero_add]
     refine ⟨_,rfl,_,rfl,a,_,_,_,rfl,rfl,sG.seq hS,atI_nat ei,_,rfl,?_⟩
     generalize hrr:(if ns[i]<0 then -ns[i] else ns[i])=r
     have hr0:0≤r:=by rw [← hrr];exact abs_nn _
     refine ⟨_,rfl,_,_,rfl,rfl,⟨by decide,by decide,by decide⟩,_,_,rfl,rfl,_,rfl,?_⟩
     refine if2 (fun h=>?_) (fun h=>?_)
     · refine ⟨_,rfl,_,rfl,_,_,rfl,rfl,.inl ⟨by decide,by decide⟩,_,_,rfl,rfl,_,_,rfl,rfl,_,_,rfl,rfl,(by show (0:Int)<2147483647;decide),_,_,rfl,rfl,.inr ⟨by decide,by decide⟩,_,_,rfl,rfl,(by show (0:Int)<2147483647;decide),?_⟩
       refine ⟨_,rfl,_,rfl,_,_,rfl,rfl,.inl ⟨by omega,by omega⟩,_,_,rfl,rfl,(by show (0:Int)<2147483629;decide),?_⟩
       refine ⟨_,rfl,.inl ⟨rfl,_,SqL.of eG⟩,_,rfl,_,_,rfl,rfl,⟨by decide,by decide⟩,_,_,rfl,rfl,(by show (0:Int)<1000;decide),d,_,_,rfl,rfl,eG,(by rw [List.length_map];exact small16 (by omega)),?_⟩
       rw [ap]
       refine ⟨_,rfl,.inl ⟨rfl,_,SqL.of upd_same⟩,_,rfl,_,_,rfl,rfl,⟨by decide,by decide⟩,_,_,rfl,rfl,(by show (0:Int)<1000;decide),d,_,_,rfl,rfl,upd_same,(by rw [List.length_map,List.length_append];exact small16 (by simp only [List.length_cons,List.length_nil];omega)),?_⟩
       rw [ap]
       refine ⟨_,rfl,_,rfl,_,_,rfl,rfl,_,_,rfl,rfl,.inl ⟨by decide,by decide⟩,_,_,rfl,rfl,_,_,rfl,rfl,(by show (0:Int)<2147483587;decide),?_⟩
       refine ⟨_,rfl,.inl ⟨rfl,_,SqL.of upd_same⟩,_,rfl,_,rfl,_,_,rfl,rfl,.inl ⟨by omega,by omega⟩,_,_,rfl,rfl,(by show (0:Int)<2147483647;decide),_,_,rfl,rfl,⟨by decide,by decide⟩,_,_,rfl,rfl,(by show (0:Int)<1000;decide),d,_,_,rfl,rfl,upd_same,(by rw [List.length_map,List.length_append,List.length_append];exact small16 (by simp only [List.length_cons,List.length_nil];omega)),?_⟩
       rw [ap]
       refine ⟨up (up (up sG)),_,_,_,_,_,upd_same,?_,rfl⟩
       rw [List.length_append,List.length_append,List.length_append]
       simp only [List.length_cons,List.length_nil]
       omega
     · refine while_in (fun σ G'=>Same H G'∧∃ (es:List Int) (r' m:Int),G' d=some (.lst (es.map V.int))∧0≤m∧m≤60∧es.length=ds.length+m.toNat∧σ=[some (.ref a),some (.ref d),some (.int ((i:Nat):Int)),some (.int r'),v4,some (.int m)])
        (fun σ _=>match σ with | [_,_,_,_,_,some (.int m)]=>(60 - m).toNat | _=>0) ⟨sG,ds,r,0,eG,by decide,by decide,by simp,rfl⟩ ?_
       · rintro σ G' ⟨s',es,r',m,e',m0,m6,el,rfl⟩
         refine ⟨_,rfl,_,_,rfl,rfl,_,rfl,?_⟩
         refine if2 (fun h1=>?_) (fun h1=>?_)
         · refine ⟨_,rfl,_,_,rfl,rfl,_,rfl,?_⟩
           refine if2 (fun h2=>?_) (fun h2=>?_)
           · have h2:m<60:=of_decide_eq_true h2
             refine ⟨_,wN,?_⟩
             refine ⟨_,rfl,.inl ⟨rfl,_,SqL.of e'⟩,_,rfl,_,_,rfl,rfl,(by show (0:Int)<1000;decide),d,_,_,rfl,rfl,e',(by rw [List.length_map];exact small16 (by omega)),?_⟩
             rw [ap]
             refine ⟨_,rfl,_,_,rfl,rfl,⟨by decide,by decide⟩,?_⟩
             refine ⟨_,rfl,_,_,rfl,rfl,?_⟩
             refine ⟨⟨up s',_,_,_,upd_same,?_,?_,?_,rfl⟩,?_⟩
             · omega
             · omega
             · rw [List.length_append,el];simp only [List.length_cons,List.length_nil];omega
             · show (60 - (m+1)).toNat<(60 - m).toNat
               omega
           · exact ⟨s',es,_,_,_,_,e',by omega,rfl⟩
         · exact ⟨s',es,_,_,_,_,e',by omega,rfl⟩
   · rintro σ G ⟨sG,ds,v2,v3,v4,v5,eG,zl,rfl⟩
     refine ⟨_,rfl,_,rfl,d,_,rfl,SqL.of eG,fun p hp=>?_⟩
     have sp:Same H (upd G p (.lst (cutV (ds.map V.int) none (some 240)))):=sG.trans (Same.new hp)
     obtain ⟨es,e5,z5⟩:=cut240 ds
     refine k p _ sp (sG.free hp) ⟨es,?_,z5⟩
     rw [upd_same,e5]
theorem sc_law_sum:FnScope ["one","other"] ["one","other"] (defScope s_law_sum):=⟨rfl,rfl,rfl,by decide +kernel,rfl,by decide +kernel,by decide +kernel⟩
theorem d_law_sum (S:Fnd K mg "_law_sum" s_law_sum ["one","other"]) (M:Def P w K mg base 1 "_law_fraction" ["above","below"] spMade9):Def P w K mg base 2 "_law_sum" ["one","other"] (spF2H K Pw.fplus):=S.def fun f fd F=>by
 refine F.ok sc_law_sum (fun vs H Q E h=>?_) (fun cdv A' outer s H vs Q E hr h=>?_)
 · obtain ⟨p,q,A,B,rfl,_⟩:=h
   rfl
 · obtain ⟨p,q,A,B,rfl,hA,hB,na,nb,sa,sb,k⟩:=h
   refine ⟨_,@pss_one _ _ _ (@ps_ret _ _ _ _ (pe_def (by rfl) (by rfl) (by rfl) (by decide) M hr (@pa_consX _ _ _ _ _ (by rfl) (pe_op op_add (pe_op op_mulB (pe_ix ix_tup (pv 0) pe_int (fun _ _=>rfl)) (pe_ix ix_tup (pv 1) pe_int (fun _ _=>rfl))) (pe_op op_mulB (pe_ix ix_tup (pv 1) pe_int (fun _ _=>rfl)) (pe_ix ix_tup (pv 0) pe_int (fun _ _=>rfl)))) (@pa_consX _ _ _ _ _ (by rfl) (pe_op op_mulB (pe_ix ix_tup (pv 0) pe_int (fun _ _=>rfl)) (pe_ix ix_tup (pv 1) pe_int (fun _ _=>rfl))) pa_nil)))),?_⟩
   refine ⟨_,rfl,p,_,_,_,rfl,rfl,hA,rfl,_,rfl,q,_,_,_,rfl,rfl,hB,rfl,_,_,rfl,rfl,⟨sa.1.mono (by decide),sb.2.mono (by decide)⟩,_,rfl,q,_,_,_,rfl,rfl,hB,rfl,_,rfl,p,_,_,_,rfl,rfl,hA,rfl,_,_,rfl,rfl,⟨sb.1.mono (by decide),sa.2.mono (by decide)⟩,_,_,rfl,rfl,_,rfl,p,_,_,_,rfl,rfl,hA,rfl,_,rfl,q,_,_,_,rfl,rfl,hB,rfl,_,_,rfl,rfl,⟨sa.2.mono (by decide),sb.2.mono (by decide)⟩,_,_,rfl,Int.mul_ne_zero (by omega) (by omega),((sa.1.mul sb.2).add (sb.1.mul sa.2)).mono (by decide),(sa.2.mul sb.2).mono (by decide),fun r H1 s1 f1=>?_⟩
   exact k r _ s1 f1
theorem sc_law_product:FnScope ["one","other"] ["one","other"] (defScope s_law_product):=⟨rfl,rfl,rfl,by decide +kernel,rfl,by decide +kernel,by decide +kernel⟩
theorem d_law_product (S:Fnd K mg "_law_product" s_law_product ["one","other"]) (M:Def P w K mg base 1 "_law_fraction" ["above","below"] spMade9):Def P w K mg base 2 "_law_product" ["one","other"] (spF2H K Pw.ftimes):=S.def fun f fd F=>by
 refine F.ok sc_law_product (fun vs H Q E h=>?_) (fun cdv A' outer s H vs Q E hr h=>?_)
 · obtain ⟨p,q,A,B,rfl,_⟩:=h
   rfl
 · obtain ⟨p,q,A,B,rfl,hA,hB,na,nb,sa,sb,k⟩:=h
   refine ⟨_,@pss_one _ _ _ (@ps_ret _ _ _ _ (pe_def (by rfl) (by rfl) (by rfl) (by decide) M hr (@pa_consX _ _ _ _ _ (by rfl) (pe_op op_mulB (pe_ix ix_tup (pv 0) pe_int (fun _ _=>rfl)) (pe_ix ix_tup (pv 1) pe_int (fun _ _=>rfl))) (@pa_consX _ _ _ _ _ (by rfl) (pe_op op_mulB (pe_ix ix_tup (pv 0) pe_int (fun _ _=>rfl)) (pe_ix ix_tup (pv 1) pe_int (fun _ _=>rfl))) pa_nil)))),?_⟩
   refine ⟨_,rfl,p,_,_,_,rfl,rfl,hA,rfl,_,rfl,q,_,_,_,rfl,rfl,hB,rfl,_,_,rfl,rfl,⟨sa.1.mono (by decide),sb.1.mono (by decide)⟩,_,rfl,p,_,_,_,rfl,rfl,hA,rfl,_,rfl,q,_,_,_,rfl,rfl,hB,rfl,_,_,rfl,rfl,⟨sa.2.mono (by decide),sb.2.mono (by decide)⟩,_,_,rfl,Int.mul_ne_zero (by omega) (by omega),(sa.1.mul sb.1).mono (by decide),(sa.2.mul sb.2).mono (by decide),fun r H1 s1 f1=>?_⟩
   exact k r _ s1 f1
theorem d_law_sumX (S:Fnd K mg "_law_sum" s_law_sum ["one","other"]) (M:Def P w K mg base 1 "_law_fraction" ["above","below"] spMade9):Def P w K mg base 2 "_law_sum" ["one","other"] (spF2X K Pw.fplus):=S.def fun f fd F=>by
 refine F.ok sc_law_sum (fun vs H Q E h=>?_) (fun cdv A' outer s H vs Q E hr h=>?_)
 · obtain ⟨p,q,A,B,rfl,_⟩:=h
   rfl
 · obtain ⟨p,q,A,B,rfl,hA,hB,na,nb,sa,sb,k⟩:=h
   refine ⟨_,@pss_one _ _ _ (@ps_ret _ _ _ _ (pe_def (by rfl) (by rfl) (by rfl) (by decide) M hr (@pa_consX _ _ _ _ _ (by rfl) (pe_op op_add (pe_op op_mulB (pe_ix ix_tup (pv 0) pe_int (fun _ _=>rfl)) (pe_ix ix_tup (pv 1) pe_int (fun _ _=>rfl))) (pe_op op_mulB (pe_ix ix_tup (pv 1) pe_int (fun _ _=>rfl)) (pe_ix ix_tup (pv 0) pe_int (fun _ _=>rfl)))) (@pa_consX _ _ _ _ _ (by rfl) (pe_op op_mulB (pe_ix ix_tup (pv 0) pe_int (fun _ _=>rfl)) (pe_ix ix_tup (pv 1) pe_int (fun _ _=>rfl))) pa_nil)))),?_⟩
   refine ⟨_,rfl,p,_,_,_,rfl,rfl,hA,rfl,_,rfl,q,_,_,_,rfl,rfl,hB,rfl,_,_,rfl,rfl,⟨sa.1.mono (by decide),sb.2.mono (by decide)⟩,_,rfl,q,_,_,_,rfl,rfl,hB,rfl,_,rfl,p,_,_,_,rfl,rfl,hA,rfl,_,_,rfl,rfl,⟨sb.1.mono (by decide),sa.2.mono (by decide)⟩,_,_,rfl,rfl,_,rfl,p,_,_,_,rfl,rfl,hA,rfl,_,rfl,q,_,_,_,rfl,rfl,hB,rfl,_,_,rfl,rfl,⟨sa.2.mono (by decide),sb.2.mono (by decide)⟩,_,_,rfl,Int.mul_ne_zero (by omega) (by omega),((sa.1.mul sb.2).add (sb.1.mul sa.2)).mono (by decide),(sa.2.mul sb.2).mono (by decide),fun r H1 s1 f1=>?_⟩
   exact k r _ s1 f1
theorem sc_law_total:FnScope ["row","total","part"] ["row"] (defScope s_law_total):=⟨rfl,rfl,rfl,by decide +kernel,rfl,by decide +kernel,by decide +kernel⟩
set_option maxHeartbeats 0 in
theorem d_law_totalX (S:Fnd K mg "_law_total" s_law_total ["row"]) (T:Txt mg) (Lu:Def P w K mg base 2 "_law_sum" ["one","other"] (spF2X K Pw.fplus)):Def P w K mg base 3 "_law_total" ["row"] (spTotX K):=S.def fun f fd F=>by
 have nd:=sc_law_total.nd
 refine F.ok sc_law_total (fun vs H Q E h=>?_) (fun cdv A' outer s H vs Q E hr h=>?_)
 · obtain ⟨_,_,_,_,_,rfl,_⟩:=h
   rfl
 · obtain ⟨b,t,us,As,n,rfl,ht,fl,hn,n13,cA,zA,zP,k⟩:=h
   refine ⟨_,(@pss_cons _ _ _ _ _ (@ps_setX _ _ 1 _ _ _ _ (by rfl) (Or.inl rfl) nd rfl (Or.inl rfl) (@pe_tupS _ _ _ _ _ (@pa_consX _ _ _ _ _ (by rfl) pe_int (@pa_consX _ _ _ _ _ (by rfl) pe_int pa_nil))))
    (@pss_cons _ _ _ _ _ (@ps_forX _ _ _ _ _ _ _ _ (fun _=>rfl) PassesOwn.never rfl (pi_seq (pv 0)) (pg_name (i:=2) nd rfl (Or.inl rfl))
     (@pss_one _ _ _ (@ps_setX _ _ 1 _ _ _ _ (by rfl) (Or.inl rfl) nd rfl (Or.inl rfl) (pe_def (by rfl) (by rfl) (by rfl) (by decide) Lu (hr.mono (by decide)) (@pa_consX _ _ _ _ _ (by rfl) (pv 1) (@pa_consX _ _ _ _ _ (by rfl) (pv 2) pa_nil))))))
    (@pss_one _ _ _ (@ps_ret _ _ _ _ (pv 1))))),?_⟩
   have hl:=fl.len
   refine ⟨(by show 2≤sizeLine;decide),fun q0 G0 t0 _ e0=>?_⟩
   refine ⟨_,rfl,b,t,rfl,⟨us,ht.same t0⟩,?_⟩
   refine for_seq (b:=b) (K:=K) (a:=t) (xs:=us) (fun m σ G=>Same H G∧∃ (q:Addr) (v:Option V),SqF K G q (Pw.ofQ (Pw.qs m (fun t=>Pw.val (As.getD t (0,1)))))∧(0<m→FrA K G q (Pw.ofQ (Pw.qs m (fun t=>Pw.val (As.getD t (0,1))))))∧σ=[some (.ref t),some (.ref q),v]) ⟨t0,q0,none,SqF.of e0,fun _=>e0,rfl⟩ (fun m σ G _ h=>ht.same h.1) ?_ ?_
   · rintro m v σ G hm ⟨sG,q,v',fq,_,rfl⟩
     have hml:m<us.length:=(List.getElem?_eq_some_iff.mp hm).1
     have hmS:m<As.length:=by omega
     obtain ⟨q',eq',fq'⟩:=(fl.same sG).at (j:=m) (A:=As[m]) (by simp [hmS])
     rw [hm] at eq'
     cases eq'
     have mS:=List.getElem_mem hmS
     have cS:=cA _ mS
     have cQ:=Pw.ofQ_canon (Pw.qs m (fun t=>Pw.val (As.getD t (0,1))))
     refine ⟨_,rfl,_,rfl,q,q',_,_,rfl,fq,SqF.of fq',cQ.1,cS.1,zP m (by omega),zA _ mS,fun r G3 s4 f4=>?_⟩
     rw [Pw.fplus_ofQ (Pw.canon_ne cQ) (Pw.canon_ne cS),Pw.val_ofQ] at f4
     have e:As[m]=As.getD m (0,1):=by rw [List.getD_eq_getElem?_getD,List.getElem?_eq_getElem hmS];rfl
     rw [e] at f4
     exact ⟨sG.trans s4,r,_,SqF.of f4,fun _=>f4,rfl⟩
   · rintro σ G ⟨sG,q,v,fq,gq,rfl⟩
     rw [show us.length=n by omega] at fq gq
     exact ⟨_,rfl,k q G sG gq⟩
theorem sc_law_under:FnScope ["one","other"] ["one","other"] (defScope s_law_under):=⟨rfl,rfl,rfl,by decide +kernel,rfl,by decide +kernel,by decide +kernel⟩
theorem d_law_under (S:Fnd K mg "_law_under" s_law_under ["one","other"]) (T:Txt mg) :Def P w K mg base 1 "_law_under" ["one","other"] (spLess K):=S.def fun f fd F=>by
 have nd:=sc_law_under.nd
 refine F.ok sc_law_under (fun vs H Q E h=>?_) (fun cdv A' outer s H vs Q E hr h=>?_)
 · obtain ⟨_,_,_,_,rfl,_⟩:=h
   rfl
 · obtain ⟨p,q,A,B,rfl,hA,hB,sa,sb,k⟩:=h
   refine ⟨_,(@pss_one _ _ _ (@ps_ret _ _ _ _ (pe_cmpR op_lt (pe_op op_mulB (pe_ix ix_tup (pv 0) pe_int (fun _ _=>rfl)) (pe_ix ix_tup (pv 1) pe_int (fun _ _=>rfl))) (pe_op op_mulB (pe_ix ix_tup (pv 1) pe_int (fun _ _=>rfl)) (pe_ix ix_tup (pv 0) pe_int (fun _ _=>rfl))) (nomark _)))),?_⟩
   exact ⟨_,rfl,p,_,_,_,rfl,rfl,SqT.of hA,rfl,_,rfl,q,_,_,_,rfl,rfl,SqT.of hB,rfl,_,_,rfl,rfl,⟨sa.1.mono (by decide),sb.2.mono (by decide)⟩,_,rfl,q,_,_,_,rfl,rfl,SqT.of hB,rfl,_,rfl,p,_,_,_,rfl,rfl,SqT.of hA,rfl,_,_,rfl,rfl,⟨sb.1.mono (by decide),sa.2.mono (by decide)⟩,_,_,rfl,rfl,k⟩
end
end Lw

set_option pp.maxSteps 800
namespace Lw
open PySem L2 PyProof.Rows
section
variable {P:Program} {w:World} {K:PySem.W.Frag} {mg:Str→Option Value} {base:Heap}
theorem scWeb:FnScope ["draws","many","links","k"] ["draws"] (defScope sWeb):=⟨rfl,rfl,rfl,by decide +kernel,rfl,by decide +kernel,by decide +kernel⟩
theorem d_law_web (S:Fnd K mg "_law_web" sWeb ["draws"]) (T:Txt mg) (Tk:Def P w K mg base 1 "_law_take" ["draws","many"] spTake):Def P w K mg base 2 "_law_web" ["draws"] (spWebD K):=S.def fun f fd F=>by
 have nd:=scWeb.nd
 refine F.ok scWeb (fun vs H Q E h=>?_) (fun cdv A' outer s H vs Q E hr h=>?_)
 · obtain ⟨_,rfl,_⟩:=h
   rfl
 · obtain ⟨d,rfl,hd,k⟩:=h
   refine ⟨_,(@pss_cons _ _ _ _ _ (@ps_setX _ _ 1 _ _ _ _ (by rfl) (Or.inl rfl) nd rfl (Or.inl rfl) (pe_op op_add pe_int (pe_def (by rfl) (by rfl) (by rfl) (by decide) Tk (hr.mono (by decide)) (@pa_consX _ _ _ _ _ (by rfl) (pv 0) (@pa_consX _ _ _ _ _ (by rfl) pe_int pa_nil)))))
    (@pss_mid _ _ _ _ _ (@ps_if _ _ _ _ _ _ _ _ (pt_cmpR op_eq (pe_def (by rfl) (by rfl) (by rfl) (by decide) Tk (hr.mono (by decide)) (@pa_consX _ _ _ _ _ (by rfl) (pv 0) (@pa_consX _ _ _ _ _ (by rfl) pe_int pa_nil))) pe_int (nomark _))
     (@pss_one _ _ _ (@ps_setX _ _ 1 _ _ _ _ (by rfl) (Or.inl rfl) nd rfl (Or.inl rfl) (pe_op op_add pe_int (pe_def (by rfl) (by rfl) (by rfl) (by decide) Tk (hr.mono (by decide)) (@pa_consX _ _ _ _ _ (by rfl) (pv 0) (@pa_consX _ _ _ _ _ (by rfl) pe_int pa_nil))))))
     pss_nil)
    (@pss_cons _ _ _ _ _ (@ps_setX _ _ 2 _ _ _ _ (by rfl) (Or.inl rfl) nd rfl (Or.inl rfl) (@pe_lstS _ _ _ _ pa_nil))
    (@pss_cons _ _ _ _ _ (@ps_forX _ _ _ _ _ _ _ _ (fun _=>rfl) PassesOwn.never rfl (pi_range1 rfl T.range (@pa_consX _ _ _ _ _ (by rfl) (pe_ix ix_list (@pe_lstS _ _ _ _ (@pa_consX _ _ _ _ _ (by rfl) (pe_def (by rfl) (by rfl) (by rfl) (by decide) Tk (hr.mono (by decide)) (@pa_consX _ _ _ _ _ (by rfl) (pv 0) (@pa_consX _ _ _ _ _ (by rfl) (pe_op op_add (pe_op op_mul pe_int (pv 1)) pe_int) pa_nil))) (@pa_consX _ _ _ _ _ (by rfl) (pe_def (by rfl) (by rfl) (by rfl) (by decide) Tk (hr.mono (by decide)) (@pa_consX _ _ _ _ _ (by rfl) (pv 0) (@pa_consX _ _ _ _ _ (by rfl) pe_int pa_nil))) pa_nil))) (pe_callTy call_int1 (by rfl) T.int boot_int (@pa_consX _ _ _ _ _ (by rfl) (pe_cmpR op_eq (pe_def (by rfl) (by rfl) (by rfl) (by decide) Tk (hr.mono (by decide)) (@pa_consX _ _ _ _ _ (by rfl) (pv 0) (@pa_consX _ _ _ _ _ (by rfl) pe_int pa_nil))) pe_int (nomark _)) pa_nil)) (fun _ _=>rfl)) pa_nil)) (pg_name (i:=3) nd rfl (Or.inl rfl))
     (@pss_one _ _ _ (ps_expr (pe_bm PySem.F.plainAttrs_list PySem.F.slot_list_append PySem.F.type_list_append mt_append (pv 2) (@pa_consX _ _ _ _ _ (by rfl) (@pe_tupS _ _ _ _ _ (@pa_consX _ _ _ _ _ (by rfl) (pe_op op_mod (pe_def (by rfl) (by rfl) (by rfl) (by decide) Tk (hr.mono (by decide)) (@pa_consX _ _ _ _ _ (by rfl) (pv 0) (@pa_consX _ _ _ _ _ (by rfl) pe_int pa_nil))) (pv 1)) (@pa_consX _ _ _ _ _ (by rfl) (pe_op op_mod (pe_def (by rfl) (by rfl) (by rfl) (by decide) Tk (hr.mono (by decide)) (@pa_consX _ _ _ _ _ (by rfl) (pv 0) (@pa_consX _ _ _ _ _ (by rfl) pe_int pa_nil))) (pv 1)) pa_nil))) pa_nil)))))
    (@pss_one _ _ _ (@ps_ret _ _ _ _ (@pe_tupS _ _ _ _ _ (@pa_consX _ _ _ _ _ (by rfl) (pv 1) (@pa_consX _ _ _ _ _ (by rfl) (pe_callTy call_tupOf (by rfl) T.tup boot_tuple (@pa_consX _ _ _ _ _ (by rfl) (pe_callB call_sortedPS (by rfl) T.srt boot_sorted (@pa_consX _ _ _ _ _ (by rfl) (pv 2) pa_nil)) pa_nil)) pa_nil))))))))),?_⟩
   refine ⟨_,rfl,d,5,rfl,by decide,hd,fun v1 H1 a1 b1 h1 k1=>⟨_,_,rfl,rfl,?_⟩⟩
   refine ⟨fun σ G=>DrawsAt G d∧Kp d H G∧∃ many:Int,1≤many∧many≤12∧σ=[some (.ref d),some (.int many),none,none],?_,?_⟩
   · refine ⟨_,rfl,d,4,rfl,by decide,h1,fun v2 H2 a2 b2 h2 k2=>⟨rfl,_,rfl,?_⟩⟩
     refine if2 (fun _=>?_) (fun _=>?_)
     · refine ⟨_,rfl,d,12,rfl,by decide,h2,fun v3 H3 a3 b3 h3 k3=>⟨_,_,rfl,rfl,?_⟩⟩
       exact ⟨h3,k1.trans (k2.trans k3),1+v3,by omega,by omega,rfl⟩
     · exact ⟨h2,k1.trans k2,1+v1,by omega,by omega,rfl⟩
   rintro σ G ⟨hG,kG,many,m1,m12,rfl⟩
   refine ⟨(by show 0≤sizeLine;decide),fun lk G1 t1 hlk eLk=>?_⟩
   have lkd:lk≠d:=hG.ne hlk
   have lkn:H lk=none:=kG.freeD hG hlk
   refine ⟨_,rfl,_,rfl,_,_,rfl,rfl,.inl ⟨by decide,by decide⟩,_,_,rfl,rfl,d,2 * many+1,rfl,by omega,hG.same t1,fun w1 G2 c1 e1 h2 k2=>?_⟩
   refine ⟨_,rfl,d,61,rfl,by decide,h2,fun w2 G3 c2 e2 h3 k3=>?_⟩
   refine ⟨(by show 2≤sizeLine;decide),fun bl G4 t4 hbl eBl=>?_⟩
   have bld:bl≠d:=h3.ne hbl
   refine ⟨_,rfl,d,8,rfl,by decide,h3.same t4,fun w3 G5 c3 e3 h5 k5=>⟨rfl,.inr ⟨_,rfl,?_⟩⟩⟩
   have eBl5:=k5 _ _ eBl bld
   have K5:Kp d G1 G5:=k2.trans (k3.trans ((Same.kpd t4).trans k5))
   have KH:Kp d H G5:=kG.trans ((Same.kpd t1).trans K5)
   obtain ⟨n,hn,n0,n60⟩:∃ n:Int,atI [V.int w1,V.int w2] (if decide (V.int w3=V.int 1)=true then (1:Int) else 0)=some (.int n)∧0≤n∧n≤60:=by
    split
    · exact ⟨w2,rfl,c2,by omega⟩
    · exact ⟨w1,rfl,c1,by omega⟩
   refine ⟨bl,_,_,_,rfl,rfl,SqL.of eBl5,hn,n,rfl,by omega,by omega,?_⟩
   refine for_range (lo:=0) (n:=n.toNat) (fun i σ G=>DrawsAt G d∧Kp d H G∧(∃ (vs:List V) (ps:List (Int×Int)),G lk=some (.lst vs)∧Prs K G ps vs∧ps.length=i∧∀ q∈ps,0≤q.1∧q.1<many∧0≤q.2∧q.2<many) ∧
    ∃ kv,σ=[some (.ref d),some (.int many),some (.ref lk),kv]) ?_ ?_ ?_
   · exact ⟨h5,KH,⟨[],[],K5 _ _ eLk lkd,prs_nil,rfl,fun q hq=>by simp at hq⟩,none,rfl⟩
   · rintro i σ G hi ⟨c1,c2,⟨vs,ps,c4,c5,c6,c7⟩,kv,rfl⟩
     refine ⟨_,rfl,.inl ⟨rfl,_,SqL.of c4⟩,?_⟩
     refine ⟨_,rfl,d,144,rfl,by decide,c1,fun x G6 x0 x1 h6 k6=>⟨_,rfl,_,_,rfl,rfl,(by show (0:Int)<many;omega),?_⟩⟩
     refine ⟨_,rfl,d,144,rfl,by decide,h6,fun y G7 y0 y1 h7 k7=>⟨_,rfl,_,_,rfl,rfl,(by show (0:Int)<many;omega),?_⟩⟩
     refine ⟨(by show 2≤sizeLine;decide),fun t HE sE nE eE=>?_⟩
     have kpE:Kp d G HE:=k6.trans (k7.trans (Same.kpd sE))
     have klE:KL G HE:=c1.kl kpE
     have lkE:HE lk=some (.lst vs):=kpE _ _ c4 lkd
     have hE:=h7.same sE
     refine ⟨lk,vs,_,rfl,rfl,lkE,?_,?_⟩
     · rw [c5.len,c6]
       exact small1000 (by omega)
     have klF:KL HE (upd HE lk (.lst (vs ++ [.ref t]))):=KL.set lkE
     refine ⟨?_,fun x o e n=>?_,⟨vs ++ [.ref t],ps ++ [(x % many,y % many)],upd_same,?_,?_,?_⟩,_,rfl⟩
     · obtain ⟨ns,e,z⟩:=hE
       exact ⟨ns,by rw [upd_ne lkd.symm];exact e,z⟩
     · rw [upd_ne (ne_of_none e lkn)]
       exact kpE _ o (c2 _ o e n) n
     · exact Prs.snoc (p:=(x % many,y % many)) (klF.seqT (SqT.of eE)) ((c5.kl klE).kl klF)
     · rw [List.length_append,List.length_singleton];omega
     · intro q hq
       rcases List.mem_append.mp hq with hq | hq
       · exact c7 q hq
       · simp at hq
         subst hq
         exact ⟨Int.emod_nonneg _ (by omega),Int.emod_lt_of_pos _ (by omega),Int.emod_nonneg _ (by omega),Int.emod_lt_of_pos _ (by omega)⟩
   · rintro σ G ⟨c1,c2,⟨vs,ps,c4,c5,c6,c7⟩,kv,rfl⟩
     refine ⟨_,rfl,_,rfl,lk,vs,ps,rfl,SqL.of c4,c5,by omega,fun us ms D2 HD pm up hp2 sD hD2 eD2=>?_⟩
     refine ⟨D2,us,rfl,SqL.of eD2,fun ws HF sF nF eF=>?_⟩
     refine ⟨(by show 2≤sizeLine;decide),fun wa HG sG nG eG=>?_⟩
     have sAll:Same G HG:=sD.trans (sF.trans sG)
     refine k wa HG many ms ⟨m1,m12,?_,up,fun q hq=>c7 q (pm.mem_iff.mp hq)⟩ ⟨ws,us,eG,sG _ _ eF,(hp2.kl sF.kl).kl sG.kl⟩ (c1.same sAll) (c2.trans (Same.kpd sAll))
     rw [pm.length_eq,c6]
     omega
theorem scLLeap:FnScope ["draws","below","above"] ["draws"] (defScope sLLeap):=⟨rfl,rfl,rfl,by decide +kernel,rfl,by decide +kernel,by decide +kernel⟩
set_option maxHeartbeats 0 in
theorem d_law_leap (S:Fnd K mg "_law_leap" sLLeap ["draws"]) (T:Txt mg) (Tk:Def P w K mg base 1 "_law_take" ["draws","many"] spTake) (Fr:Def P w K mg base 1 "_law_fraction" ["above","below"] spMadeS):Def P w K mg base 2 "_law_leap" ["draws"] (spLeapD K):=S.def fun f fd F=>by
 have nd:=scLLeap.nd
 refine F.ok scLLeap (fun vs H Q E h=>?_) (fun cdv A' outer s H vs Q E hr h=>?_)
 · obtain ⟨_,rfl,_⟩:=h
   rfl
 · obtain ⟨d,rfl,hd,k⟩:=h
   refine ⟨_,(@pss_cons _ _ _ _ _ (@ps_setX _ _ 1 _ _ _ _ (by rfl) (Or.inl rfl) nd rfl (Or.inl rfl) (pe_ix ix_list (@pe_lstS _ _ _ _ (@pa_consX _ _ _ _ _ (by rfl) pe_int (@pa_consX _ _ _ _ _ (by rfl) pe_int (@pa_consX _ _ _ _ _ (by rfl) pe_int (@pa_consX _ _ _ _ _ (by rfl) (pe_op op_sub (pe_op op_pow pe_int pe_int) pe_int) pa_nil))))) (pe_def (by rfl) (by rfl) (by rfl) (by decide) Tk (hr.mono (by decide)) (@pa_consX _ _ _ _ _ (by rfl) (pv 0) (@pa_consX _ _ _ _ _ (by rfl) pe_int pa_nil))) (fun _ _=>rfl)))
    (@pss_cons _ _ _ _ _ (@ps_setX _ _ 2 _ _ _ _ (by rfl) (Or.inl rfl) nd rfl (Or.inl rfl) (pe_op op_mul (pe_def (by rfl) (by rfl) (by rfl) (by decide) Tk (hr.mono (by decide)) (@pa_consX _ _ _ _ _ (by rfl) (pv 0) (@pa_consX _ _ _ _ _ (by rfl) pe_int pa_nil))) (pe_op op_pow pe_int pe_int)))
    (@pss_cons _ _ _ _ _ (@ps_setX _ _ 2 _ _ _ _ (by rfl) (Or.inl rfl) nd rfl (Or.inl rfl) (pe_op op_add (pv 2) (pe_op op_mul (pe_def (by rfl) (by rfl) (by rfl) (by decide) Tk (hr.mono (by decide)) (@pa_consX _ _ _ _ _ (by rfl) (pv 0) (@pa_consX _ _ _ _ _ (by rfl) pe_int pa_nil))) (pe_op op_pow pe_int pe_int))))
    (@pss_cons _ _ _ _ _ (@ps_setX _ _ 2 _ _ _ _ (by rfl) (Or.inl rfl) nd rfl (Or.inl rfl) (pe_op op_add pe_int (pe_op op_mod (pe_op op_add (pv 2) (pe_def (by rfl) (by rfl) (by rfl) (by decide) Tk (hr.mono (by decide)) (@pa_consX _ _ _ _ _ (by rfl) (pv 0) (@pa_consX _ _ _ _ _ (by rfl) pe_int pa_nil)))) (pv 1))))
    (@pss_one _ _ _ (@ps_ret _ _ _ _ (pe_ix ix_list (@pe_lstS _ _ _ _ (@pa_consX _ _ _ _ _ (by rfl) (@pe_tupS _ _ _ _ _ (@pa_consX _ _ _ _ _ (by rfl) pe_int (@pa_consX _ _ _ _ _ (by rfl) pe_int pa_nil))) (@pa_consX _ _ _ _ _ (by rfl) (@pe_tupS _ _ _ _ _ (@pa_consX _ _ _ _ _ (by rfl) pe_int (@pa_consX _ _ _ _ _ (by rfl) pe_int pa_nil))) (@pa_consX _ _ _ _ _ (by rfl) (@pe_tupS _ _ _ _ _ (@pa_consX _ _ _ _ _ (by rfl) pe_int (@pa_consX _ _ _ _ _ (by rfl) pe_int pa_nil))) (@pa_consX _ _ _ _ _ (by rfl) (pe_def (by rfl) (by rfl) (by rfl) (by decide) Fr (hr.mono (by decide)) (@pa_consX _ _ _ _ _ (by rfl) (pv 2) (@pa_consX _ _ _ _ _ (by rfl) (pv 1) pa_nil))) pa_nil))))) (pe_def (by rfl) (by rfl) (by rfl) (by decide) Tk (hr.mono (by decide)) (@pa_consX _ _ _ _ _ (by rfl) (pv 0) (@pa_consX _ _ _ _ _ (by rfl) pe_int pa_nil))) (fun _ _=>rfl)))))))),?_⟩
   refine ⟨_,_,rfl,rfl,⟨by decide,by decide,by decide⟩,_,_,rfl,rfl,(by show 4≤sizeLine;decide),fun b1 G1 t1 hb1 eb1=>?_⟩
   refine ⟨_,rfl,d,4,rfl,by decide,hd.same t1,fun x G2 x0 x1 h2 k2=>?_⟩
   have hb1d:b1≠d:=hd.ne hb1
   obtain ⟨below,e2,b2,b3⟩:∃ below:Int,atI [V.int 2,V.int 7,V.int 100,V.int (10 ^ (12:Int).toNat - 1)] x=some (.int below)∧0<below∧below<1000000000000:=by
    have:x=0∨x=1∨x=2∨x=3:=by omega
    rcases this with rfl | rfl | rfl | rfl
    · exact ⟨2,rfl,by decide,by decide⟩
    · exact ⟨7,rfl,by decide,by decide⟩
    · exact ⟨100,rfl,by decide,by decide⟩
    · exact ⟨_,rfl,by decide,by decide⟩
   refine ⟨b1,_,_,_,rfl,rfl,SqL.of (k2 _ _ eb1 hb1d),e2,?_⟩
   refine ⟨_,rfl,d,1000,rfl,by decide,h2,fun y G3 y0 y1 h3 k3=>⟨_,_,rfl,rfl,⟨by decide,by decide,by decide⟩,_,_,rfl,rfl,.inl ⟨by omega,by omega⟩,?_⟩⟩
   refine ⟨_,rfl,_,rfl,d,1000,rfl,by decide,h3,fun z G4 z0 z1 h4 k4=>⟨_,_,rfl,rfl,⟨by decide,by decide,by decide⟩,_,_,rfl,rfl,.inl ⟨by omega,by omega⟩,_,_,rfl,rfl,?_⟩⟩
   refine ⟨_,rfl,_,rfl,d,1000,rfl,by decide,h4,fun u G5 u0 u1 h5 k5=>⟨_,_,rfl,rfl,_,rfl,_,_,rfl,rfl,b2,_,_,rfl,rfl,?_⟩⟩
   have p0:=Int.emod_nonneg (y * 10 ^ (9:Int).toNat+z * 10 ^ (5:Int).toNat+u) (show below≠0 by omega)
   have p1:=Int.emod_lt_of_pos (y * 10 ^ (9:Int).toNat+z * 10 ^ (5:Int).toNat+u) b2
   have za:Sz 41 (1+(y * 10 ^ (9:Int).toNat+z * 10 ^ (5:Int).toNat+u) % below):=sz_of 41 (by omega)
   have zb:Sz 41 below:=sz_of 41 (by omega)
   have ha0:0<1+(y * 10 ^ (9:Int).toNat+z * 10 ^ (5:Int).toNat+u) % below:=by omega
   have ha1:1+(y * 10 ^ (9:Int).toNat+z * 10 ^ (5:Int).toNat+u) % below≤below:=by omega
   refine ⟨(by show 2≤sizeLine;decide),fun q1 G6 t6 hq1 eq1=>⟨(by show 2≤sizeLine;decide),fun q2 G7 t7 hq2 eq2=>⟨(by show 2≤sizeLine;decide),fun q3 G8 t8 hq3 eq3=>?_⟩⟩⟩
   refine ⟨_,rfl,_,rfl,_,_,rfl,by omega,za.mono (by decide),zb.mono (by decide),fun q4 G9 t9 f4=>?_⟩
   refine ⟨(by show 4≤sizeLine;decide),fun l G10 t10 hl el=>?_⟩
   have h9:=((((h5.same t6).same t7).same t8).same t9)
   have h10:=h9.same t10
   have hld:l≠d:=h9.ne hl
   refine ⟨_,rfl,d,4,rfl,by decide,h10,fun w G11 w0 w1 h11 k11=>?_⟩
   have s6:Same G5 G10:=t6.trans (t7.trans (t8.trans (t9.trans t10)))
   have KK:Kp d H G11:=(Same.kpd t1).trans (k2.trans (k3.trans (k4.trans (k5.trans ((Same.kpd s6).trans k11)))))
   have e1':FrA K G10 q1 (1,2):=t10 _ _ (t9 _ _ (t8 _ _ (t7 _ _ eq1)))
   have e2':FrA K G10 q2 (1,1):=t10 _ _ (t9 _ _ (t8 _ _ eq2))
   have e3':FrA K G10 q3 (3,20):=t10 _ _ (t9 _ _ eq3)
   have e4':=t10 _ _ f4
   obtain ⟨q,A,hat,fA,cA,a0,a1,sA⟩:∃ (q:Addr) (A:Int×Int),atI [V.ref q1,V.ref q2,V.ref q3,V.ref q4] w=some (.ref q)∧FrA K G10 q A∧Pw.Canon A∧0<A.1∧A.1≤A.2∧Sz2 41 A:=by
    have:w=0∨w=1∨w=2∨w=3:=by omega
    rcases this with rfl | rfl | rfl | rfl
    · exact ⟨q1,(1,2),rfl,e1',⟨by decide,by decide⟩,by decide,by decide,⟨sz_of 10 (by decide),sz_of 10 (by decide)⟩⟩
    · exact ⟨q2,(1,1),rfl,e2',⟨by decide,by decide⟩,by decide,by decide,⟨sz_of 10 (by decide),sz_of 10 (by decide)⟩⟩
    · exact ⟨q3,(3,20),rfl,e3',⟨by decide,by decide⟩,by decide,by decide,⟨sz_of 10 (by decide),sz_of 10 (by decide)⟩⟩
    · exact ⟨q4,_,rfl,e4',Pw.canon_mk (by omega),Pw.mk_pos b2 ha0,Pw.mk_le1 b2 ha1,mk_sz (by omega) za zb⟩
   refine ⟨l,_,w,.ref q,rfl,rfl,SqL.of (k11 _ _ el hld),hat,?_⟩
   exact k q G11 A cA a0 a1 sA h11 (k11 _ _ fA (h10.neT fA)) KK
theorem scLLeaps:FnScope ["draws","many","way","weights"] ["draws","many"] (defScope sLLeaps):=⟨rfl,rfl,rfl,by decide +kernel,rfl,by decide +kernel,by decide +kernel⟩
set_option maxHeartbeats 0 in
theorem d_law_leaps (S:Fnd K mg "_law_leaps" sLLeaps ["draws","many"]) (T:Txt mg) (Tk:Def P w K mg base 1 "_law_take" ["draws","many"] spTake) (Fr:Def P w K mg base 1 "_law_fraction" ["above","below"] spMadeS):Def P w K mg base 2 "_law_leaps" ["draws","many"] (spLeapsE K):=S.def fun f fd F=>by
 have nd:=scLLeaps.nd
 refine F.ok scLLeaps (fun vs H Q E h=>?_) (fun cdv A' outer s H vs Q E hr h=>?_)
 · obtain ⟨_,_,rfl,_⟩:=h
   rfl
 · obtain ⟨d,pages,rfl,plo,phi,hd,k⟩:=h
   refine ⟨_,(@pss_cons _ _ _ _ _ (@ps_setX _ _ 2 _ _ _ _ (by rfl) (Or.inl rfl) nd rfl (Or.inl rfl) (pe_def (by rfl) (by rfl) (by rfl) (by decide) Tk (hr.mono (by decide)) (@pa_consX _ _ _ _ _ (by rfl) (pv 0) (@pa_consX _ _ _ _ _ (by rfl) pe_int pa_nil))))
    (@pss_cons _ _ _ _ _ (@ps_setX _ _ 3 _ _ _ _ (by rfl) (Or.inl rfl) nd rfl (Or.inr rfl) (pe_op op_repS (@pe_lstS _ _ _ _ (@pa_consX _ _ _ _ _ (by rfl) pe_int pa_nil)) (pv 1)))
    (@pss_mid _ _ _ _ _ (@ps_if _ _ _ _ _ _ _ _ (pt_cmpR op_eq (pv 2) pe_int (nomark _))
     (@pss_cons _ _ _ _ _ (@ps_setX _ _ 3 _ _ _ _ (by rfl) (Or.inl rfl) nd rfl (Or.inr rfl) (pe_op op_repS (@pe_lstS _ _ _ _ (@pa_consX _ _ _ _ _ (by rfl) pe_int pa_nil)) (pv 1)))
    (@pss_one _ _ _ (ps_asg pe_int (pg_sub (pv 3) (pe_def (by rfl) (by rfl) (by rfl) (by decide) Tk (hr.mono (by decide)) (@pa_consX _ _ _ _ _ (by rfl) (pv 0) (@pa_consX _ _ _ _ _ (by rfl) (pv 1) pa_nil))) set_list))))
     pss_nil)
    (@pss_mid _ _ _ _ _ (@ps_if _ _ _ _ _ _ _ _ (pt_cmpR op_eq (pv 2) pe_int (nomark _))
     (@pss_cons _ _ _ _ _ (@ps_setX _ _ 3 _ _ _ _ (by rfl) (Or.inl rfl) nd rfl (Or.inr rfl) (pe_compC ["page","draws"] [none,some 0] rfl (pi_range1 rfl T.range (@pa_consX _ _ _ _ _ (by rfl) (pv 1) pa_nil)) (by show ∀ y:Str×NameKind,y∈_→y.2=NameKind.free→(defScope sLLeaps).names.lookup y.1=some .cell;decide +kernel) (by decide) rfl (by decide +kernel) ⟨⟨rfl,rfl,.inl rfl⟩,trivial⟩
      (fun cl C s H fp=>(pg_name (i:=0) (show (["page","draws"]:List Str).Nodup by decide +kernel) rfl (Or.inl rfl) (.inr rfl)))
      (fun cl C s H fp=>pts_nil)
      (fun cl C s H fp=>(pe_def (by rfl) (by rfl) (by rfl) (by decide) Tk (hr.mono (by decide)) (@pa_consX _ _ _ _ _ (by rfl) (pv 1) (@pa_consX _ _ _ _ _ (by rfl) pe_int pa_nil))))))
    (@pss_cons _ _ _ _ _ (ps_asg (pe_op op_add pe_int (pe_def (by rfl) (by rfl) (by rfl) (by decide) Tk (hr.mono (by decide)) (@pa_consX _ _ _ _ _ (by rfl) (pv 0) (@pa_consX _ _ _ _ _ (by rfl) pe_int pa_nil)))) (pg_sub (pv 3) (pe_def (by rfl) (by rfl) (by rfl) (by decide) Tk (hr.mono (by decide)) (@pa_consX _ _ _ _ _ (by rfl) (pv 0) (@pa_consX _ _ _ _ _ (by rfl) (pv 1) pa_nil))) set_list))
    (@pss_one _ _ _ (@ps_if _ _ _ _ _ _ _ _ (PW.pt (pw_and (pt_cmpR op_lt (pv 1) pe_int (nomark _)) (pw_and1 (pt_cmpR op_eq (pe_def (by rfl) (by rfl) (by rfl) (by decide) Tk (hr.mono (by decide)) (@pa_consX _ _ _ _ _ (by rfl) (pv 0) (@pa_consX _ _ _ _ _ (by rfl) pe_int pa_nil))) pe_int (nomark _)))))
     (@pss_one _ _ _ (@ps_setX _ _ 3 _ _ _ _ (by rfl) (Or.inl rfl) nd rfl (Or.inr rfl) (pe_compC ["k","weight"] [none,none] rfl (pi_enLK (by rfl) (by rfl) rfl T.enu (@pa_consX _ _ _ _ _ (by rfl) (pv 3) pa_nil)) (by show ∀ y:Str×NameKind,y∈_→y.2=NameKind.free→(defScope sLLeaps).names.lookup y.1=some .cell;decide +kernel) (by decide) rfl (by decide +kernel) trivial
      (fun cl C s H fp=>(pg_tupK (K:=K) 2 rfl rfl (pgs_cons (pg_name (i:=0) (show (["k","weight"]:List Str).Nodup by decide +kernel) rfl (Or.inl rfl) (.inr rfl)) (pgs_cons (pg_name (i:=1) (show (["k","weight"]:List Str).Nodup by decide +kernel) rfl (Or.inl rfl) (.inr rfl)) pgs_nil))))
      (fun cl C s H fp=>pts_nil)
      (fun cl C s H fp=>(pe_op op_add (pe_op op_mul (pv 1) (pe_op op_pow pe_int pe_int)) (pv 0))))))
     pss_nil))))
     pss_nil)
    (@pss_one _ _ _ (@ps_ret _ _ _ _ (pe_callTy call_tupOf (by rfl) T.tup boot_tuple (@pa_consX _ _ _ _ _ (by rfl) (pe_compC ["weight","weights"] [none,some 3] rfl (@pi_list _ _ _ _ (pv 3)) (by show ∀ y:Str×NameKind,y∈_→y.2=NameKind.free→(defScope sLLeaps).names.lookup y.1=some .cell;decide +kernel) (by decide) rfl (by decide +kernel) ⟨⟨rfl,rfl,.inl rfl⟩,trivial⟩
     (fun cl C s H fp=>(pg_name (i:=0) (show (["weight","weights"]:List Str).Nodup by decide +kernel) rfl (Or.inl rfl) (.inr rfl)))
     (fun cl C s H fp=>pts_nil)
     (fun cl C s H fp=>(pe_def (by rfl) (by rfl) (by rfl) (by decide) Fr (hr.mono (by decide)) (@pa_consX _ _ _ _ _ (by rfl) (pv 0) (@pa_consX _ _ _ _ _ (by rfl) (pe_callB (call_sumK (K:=K) rfl rfl) (by rfl) T.sum boot_sum (@pa_consX _ _ _ _ _ (by rfl) (pv 1) pa_nil)) pa_nil))))) pa_nil)))))))),?_⟩
   refine ⟨_,rfl,d,3,rfl,by decide,hd,fun way A1 w0 w3 hd1 kd1=>?_⟩
   refine ⟨(by show 1≤sizeLine;decide),fun l0 A2 ta2 hl0 el0=>?_⟩
   have rep1:∀ (n:Nat) (x:Int),(List.replicate n [V.int x]).flatten=(List.replicate n x).map V.int:=fun n x=>by rw [List.flatten_replicate_singleton,List.map_replicate]
   refine ⟨_,rfl,l0,pages,_,rfl,rfl,el0,by omega,by omega,(by show 1 * pages.toNat≤sizeLine;exact Nat.le_of_lt (small1000 (by omega))),fun W0 A3 ta3 hW0 eW0=>?_⟩
   rw [rep1] at eW0
   have hA3:DrawsAt A3 d:=(hd1.same ta2).same ta3
   have kA3:Kp d H A3:=kd1.trans ((Same.kpd ta2).trans (Same.kpd ta3))
   have setD:∀ {G:Hp} {D:Addr} {o:HO},DrawsAt G d→D≠d→DrawsAt (upd G D o) d:=fun {G D o} h n=>by
    obtain ⟨ns',e',z'⟩:=h
    exact ⟨ns',by rw [upd_ne (Ne.symm n)];exact e',z'⟩
   have wt0:Wts pages (List.replicate pages.toNat 1)∧(7≤pages→∀ w∈List.replicate pages.toNat (1:Int),w≤100):=by
    have hs:(List.replicate pages.toNat (1:Int)).sum=pages:=by rw [List.sum_replicate_int];omega
    refine ⟨⟨by rw [List.length_replicate];omega,fun w hw=>?_,by rw [hs];omega⟩,fun _ w hw=>?_⟩
    · rw [(List.mem_replicate.mp hw).2];decide
    · rw [(List.mem_replicate.mp hw).2];decide
   refine ⟨fun σ G=>DrawsAt G d∧Kp d H G∧∃ (W:Addr) (ws:List Int),(Wts pages ws∧(7≤pages→∀ w∈ws,w≤100))∧G W=some (.lst (ws.map V.int))∧σ=[some (.ref d),some (.int pages),some (.int way),some (.ref W)],?_,?_⟩
   · refine ⟨_,rfl,rfl,_,rfl,if2 (fun _=>?_) (fun _=>?_)⟩
     · refine ⟨(by show 1≤sizeLine;decide),fun l1 A4 ta4 hl1 el1=>?_⟩
       refine ⟨_,rfl,l1,pages,_,rfl,rfl,el1,by omega,by omega,(by show 1 * pages.toNat≤sizeLine;exact Nat.le_of_lt (small1000 (by omega))),fun D A5 ta5 hD eD=>?_⟩
       rw [rep1] at eD
       have h5:=(hA3.same ta4).same ta5
       have hDd:D≠d:=(hA3.same ta4).ne hD
       have k5:Kp d H A5:=kA3.trans ((Same.kpd ta4).trans (Same.kpd ta5))
       have hDn:H D=none:=(kA3.trans (Same.kpd ta4)).freeD (hA3.same ta4) hD
       refine ⟨_,rfl,_,rfl,_,rfl,d,pages,rfl,by omega,h5,fun v' H4 a4 b4 h4 k4=>?_⟩
       obtain ⟨j,rfl⟩:∃ j:Nat,v'=j:=⟨v'.toNat,by omega⟩
       have e4:H4 D=some (.lst ((List.replicate pages.toNat (0:Int)).map V.int)):=k4 _ _ eD hDd
       refine ⟨D,_,(j:Int),j,rfl,rfl,e4,?_,setD h4 hDd,?_,D,(List.replicate pages.toNat (0:Int)).set j 1,?_,?_,rfl⟩
       · unfold ixN
         rw [if_pos (by omega),if_pos (by rw [List.length_map,List.length_replicate];omega),Int.toNat_natCast]
       · exact fun b o e n=>by rw [upd_ne (ne_of_none e hDn)];exact k4 _ _ (k5 _ _ e n) n
       · have nn:∀ n∈(List.replicate pages.toNat (0:Int)).set j 1,0≤n∧n<2 ^ 37:=fun n hn=>by
          rcases List.mem_or_eq_of_mem_set hn with hn | hn
          · rw [(List.mem_replicate.mp hn).2];decide
          · omega
         exact ⟨⟨by rw [List.length_set,List.length_replicate];omega,nn,Pw.sum_pos (m:=1) (fun n hn=>(nn n hn).1) (List.mem_set (by rw [List.length_replicate];omega) _) (by decide)⟩,fun _ n hn=>by
          rcases List.mem_or_eq_of_mem_set hn with hn | hn
          · rw [(List.mem_replicate.mp hn).2];decide
          · omega⟩
       · rw [upd_same,List.map_set]
     · exact ⟨hA3,kA3,W0,_,wt0,eW0,rfl⟩
   rintro σ B1 ⟨hB1,kB1,W1,ws1,wt1,eW1,rfl⟩
   refine ⟨fun σ G=>DrawsAt G d∧Kp d H G∧∃ (W:Addr) (ws:List Int),(Wts pages ws∧(7≤pages→∀ w∈ws,w≤100))∧G W=some (.lst (ws.map V.int))∧σ=[some (.ref d),some (.int pages),some (.int way),some (.ref W)],?_,?_⟩
   · refine ⟨_,rfl,rfl,_,rfl,if2 (fun _=>?_) (fun _=>?_)⟩
     · refine ⟨_,rfl,pages,rfl,by omega,by omega,fun D hD=>?_⟩
       have hDd:=hB1.ne hD
       have hDn:H D=none:=kB1.freeD hB1 hD
       refine comp_rng (lo:=0) (n:=pages.toNat) (D:=D) (fun i ys σ H'=>DrawsAt H' d∧Kp d H H'∧H' D=some (.lst ys)∧(∃ ns:List Int,ys=ns.map V.int∧ns.length=i∧∀ n∈ns,0≤n∧n<99)∧∃ x,σ=[x,some (.ref d)]) ?_ ?_ ?_ ?_
       · exact ⟨hB1.same (Same.new hD),kB1.trans (Kp.new hD),upd_same,⟨[],rfl,rfl,fun n hn=>by simp at hn⟩,none,rfl⟩
       · rintro i ys σ H' ⟨_,_,e,_⟩
         exact e
       · rintro i ys σ H' hi ⟨g1,g2,g3,⟨ns,rfl,g4,g5⟩,x,rfl⟩
         dsimp only [gName]
         rw [if_pos rfl]
         refine ⟨_,rfl,d,4,rfl,by decide,g1,fun v HL v0 v4 hL kL=>?_⟩
         have g3':HL D=_:=kL D _ g3 hDd
         refine ⟨g3',small1000 (by rw [List.length_map];omega),Wt.next hi ⟨setD hL hDd,fun b o e n=>?_,upd_same,⟨ns ++ [v],?_,?_,?_⟩,_,rfl⟩⟩
         · rw [upd_ne (ne_of_none e hDn)];exact kL b o (g2 b o e n) n
         · rw [List.map_append];rfl
         · rw [List.length_append,List.length_singleton];omega
         · intro n hn
           rcases List.mem_append.mp hn with hn | hn
           · exact g5 n hn
           · simp at hn
             omega
       rintro ys σ H2 ⟨g1,g2,g3,⟨ns,rfl,g4,g5⟩,_⟩
       refine ⟨_,rfl,d,99,rfl,by decide,g1,fun u H3 u0 u9 h3 k3=>⟨_,_,rfl,rfl,?_⟩⟩
       refine ⟨_,rfl,_,rfl,_,rfl,d,pages,rfl,by omega,h3,fun v' H4 a4 b4 h4 k4=>?_⟩
       obtain ⟨j,rfl⟩:∃ j:Nat,v'=j:=⟨v'.toNat,by omega⟩
       have hj:j<ns.length:=by omega
       have e4:H4 D=some (.lst (ns.map V.int)):=k4 _ _ (k3 _ _ g3 hDd) hDd
       refine ⟨D,_,(j:Int),j,rfl,rfl,e4,?_,?_⟩
       · unfold ixN
         rw [if_pos (by omega),if_pos (by rw [List.length_map];omega),Int.toNat_natCast]
       have eU:(upd H4 D (.lst ((ns.map V.int).set j (.int (1+u))))) D=some (.lst ((ns.set j (1+u)).map V.int)):=by rw [upd_same,List.map_set]
       have hU:DrawsAt (upd H4 D (.lst ((ns.map V.int).set j (.int (1+u))))) d:=setD h4 hDd
       have kU:Kp d H (upd H4 D (.lst ((ns.map V.int).set j (.int (1+u))))):=fun b o e n=>by
        rw [upd_ne (ne_of_none e hDn)]
        exact k4 _ _ (k3 _ _ (g2 _ _ e n) n) n
       have nn:∀ n∈ns.set j (1+u),0≤n∧n≤99:=fun n hn=>by
        rcases List.mem_or_eq_of_mem_set hn with hn | hn
        · have:=g5 n hn
          omega
        · omega
       have ln:(ns.set j (1+u)).length=pages.toNat:=by rw [List.length_set];omega
       have mm:1+u∈ns.set j (1+u):=List.mem_set hj _
       have wU:Wts pages (ns.set j (1+u))∧(7≤pages→∀ w∈ns.set j (1+u),w≤100):=⟨⟨by omega,fun n hn=>by have:=nn n hn;omega,Pw.sum_pos (m:=1+u) (fun n hn=>(nn n hn).1) mm (by omega)⟩,fun _ w hw=>by have:=nn w hw;omega⟩
       refine ⟨_,rfl,_,_,rfl,rfl,_,rfl,if2 (fun hp7=>?_) (fun _=>?_)⟩
       · refine ⟨_,rfl,d,4,rfl,by decide,hU,fun q H5 q0 q4 h5 k5=>⟨rfl,_,rfl,if2 (fun _=>?_) (fun _=>?_)⟩⟩
         · have e5:=k5 _ _ eU hDd
           generalize ns.set j (1+u)=vs at nn ln mm wU e5
           refine ⟨_,rfl,D,_,rfl,SqL.of e5,fun D2 hD2=>?_⟩
           have hD2n:H D2=none:=(kU.trans k5).freeD h5 hD2
           refine comp_enL (K:=K) (a:=D) (D:=D2) (xs:=vs.map V.int) (fun i ys σ G=>Same H5 G∧G D2=some (.lst ys)∧ys=((List.range i).map fun t=>vs.getD t 0 * 10 ^ (9:Int).toNat+((t:Nat):Int)).map V.int∧∃ x y,σ=[x,y]) ?_ ?_ ?_ ?_
           · exact ⟨Same.new hD2,upd_same,rfl,none,none,rfl⟩
           · rintro i ys σ G ⟨t1,e1,_⟩
             exact ⟨SqL.of (t1 _ _ e5),e1⟩
           · rintro i x ys σ G TT G' hi hlt ⟨t1,e1,rfl,x',y',rfl⟩ hTT sG eT
             rw [List.length_map] at hlt
             have ex:x=.int (vs.getD i 0):=by
              rw [List.getElem?_map,getD_mapI (by omega)] at hi
              cases hi;rfl
             subst ex
             have hv:=nn _ (List.mem_of_getElem? (getD_mapI (show i<vs.length by omega)))
             refine ⟨TT,_,rfl,SqT.of eT,rfl,_,_,rfl,_,_,rfl,rfl,?_⟩
             dsimp only [gName]
             rw [if_pos rfl]
             refine ⟨_,rfl,_,_,rfl,rfl,⟨by decide,by decide,by decide⟩,_,_,rfl,rfl,.inl ⟨by omega,by omega⟩,_,rfl,_,_,rfl,rfl,sG _ _ e1,?_,Wt.next (by rw [List.length_map];exact hlt) ⟨fun b o e=>?_,upd_same,?_,_,_,rfl⟩⟩
             · rw [List.length_map,List.length_map,List.length_range]
               exact small1000 (by omega)
             · rw [upd_ne (ne_of_none e hD2)];exact sG _ _ (t1 _ _ e)
             · rw [List.range_succ,List.map_append,List.map_append];rfl
           · rintro ys σ G ⟨t1,e1,rfl,_⟩
             rw [List.length_map,ln] at e1
             refine ⟨h5.same t1,kU.trans (k5.trans (Same.kpd t1)),D2,_,?_,e1,rfl⟩
             have e9:(10:Int) ^ (9:Int).toNat=1000000000:=by decide
             have nn2:∀ n∈(List.range pages.toNat).map (fun t=>vs.getD t 0 * 10 ^ (9:Int).toNat+((t:Nat):Int)),0≤n∧n<2 ^ 37:=fun n hn=>by
              obtain ⟨t,ht,rfl⟩:=List.mem_map.mp hn
              have ht:=List.mem_range.mp ht
              have hv:=nn _ (List.mem_of_getElem? (getD_mapI (show t<vs.length by omega)))
              rw [e9]
              omega
             obtain ⟨i0,hi0,ei0⟩:=List.getElem_of_mem mm
             refine ⟨⟨by rw [List.length_map,List.length_range];omega,nn2,Pw.sum_pos (m:=vs.getD i0 0 * 10 ^ (9:Int).toNat+((i0:Nat):Int)) (fun n hn=>(nn2 n hn).1) (List.mem_map.mpr ⟨i0,List.mem_range.mpr (by omega),rfl⟩) ?_⟩,fun h7=>by have:pages<7:=of_decide_eq_true hp7;omega⟩
             rw [List.getD_eq_getElem?_getD,List.getElem?_eq_getElem hi0]
             show 0<vs[i0] * _+_
             rw [ei0,e9]
             omega
         · exact ⟨h5,kU.trans k5,D,_,wU,k5 _ _ eU hDd,rfl⟩
       · exact ⟨hU,kU,D,_,wU,eU,rfl⟩
     · exact ⟨hB1,kB1,W1,ws1,wt1,eW1,rfl⟩
   rintro σ G ⟨hG,kG,W,ws,⟨wt,wt7⟩,eW,rfl⟩
   have hl:=wt.len
   refine ⟨_,rfl,W,rfl,⟨_,SqL.of eW⟩,fun D3 hD3=>?_⟩
   have hp:=wt.pos
   have zs:=wt.sz phi
   have hW3:W≠D3:=ne_of_none eW hD3
   refine comp_lst (K:=K) (a:=W) (D:=D3) (xs:=ws.map V.int) (fun i ys σ G'=>Same G G'∧G' D3=some (.lst ys)∧FrL K G' ((lps ws).take i) ys∧∃ x,σ=[x,some (.ref W)]) ?_ ?_ ?_ ?_
   · exact ⟨Same.new hD3,upd_same,rfl,none,rfl⟩
   · rintro i ys σ G' ⟨t4,e4,_⟩
     exact ⟨SqL.of (t4 _ _ eW),e4⟩
   · rintro i u ys σ G' hi hlt ⟨t4,e4,fl,x,rfl⟩
     rw [List.length_map] at hlt
     have eu:u=.int (ws.getD i 0):=by
      rw [List.getElem?_map,getD_mapI (by omega)] at hi
      cases hi;rfl
     subst eu
     have mW:ws.getD i 0∈ws:=List.mem_of_getElem? (getD_mapI (by omega))
     have hw:=wt.nn _ mW
     dsimp only [gName]
     rw [if_pos rfl]
     refine ⟨_,rfl,_,rfl,W,ws,rfl,SqL.of (t4 _ _ eW),_,_,rfl,by omega,(sz_of 41 (by omega)),zs.mono (by decide),fun r G1 t1 f1=>?_⟩
     have f1:FrA K G1 r (Pw.mk (ws.getD i 0) ws.sum):=f1
     have hI:(lps ws)[i]?=some (Pw.mk (ws.getD i 0) ws.sum):=by
      unfold lps
      rw [List.getElem?_map,getD_mapI (by omega)];rfl
     have e5:=t1 _ _ e4
     refine ⟨e5,by rw [fl.len,List.length_take];exact small1000 (by omega),Wt.next (by rw [List.length_map];exact hlt) ⟨fun b o e=>?_,upd_same,?_,_,rfl⟩⟩
     · rw [upd_ne (ne_of_none e hD3)];exact t1 _ _ (t4 _ _ e)
     · rw [List.take_succ,hI]
       exact ((fl.same t1).snoc f1).kp (KL.set e5)
   · rintro ys σ G' ⟨t4,e4,fl,_⟩
     refine ⟨D3,ys,rfl,SqL.of e4,fun t G1 t1 _ e1=>?_⟩
     rw [List.length_map,List.take_of_length_le (by rw [lps_len];exact Nat.le_refl _)] at fl
     have sA:=t4.trans t1
     exact k t G1 ws ys wt wt7 (hG.same sA) e1 (fl.same t1) (kG.trans (Same.kpd sA))
end
end Lw

set_option pp.maxSteps 800
namespace Lw
open PySem L2 PyProof.Rows
section
variable {P:Program} {w:World} {K:PySem.W.Frag} {mg:Str→Option Value} {base:Heap}
theorem sc_law_pages_right:FnScope ["web","leap","leaps","told","some","ahead","page","steps","back"] ["web","leap","leaps","told","some"] (defScope s_law_pages_right):=⟨rfl,rfl,rfl,by decide +kernel,rfl,by decide +kernel,by decide +kernel⟩
set_option maxHeartbeats 0 in
theorem d_law_pages_right (S:Fnd K mg "_law_pages_right" s_law_pages_right ["web","leap","leaps","told","some"]) (T:Txt mg) (St:Def P w K mg base 7 "steps_to" ["web","leap","leaps","page"] (spSteps K)) (Bk:Def P w K mg base 7 "steps_back" ["web","leap","leaps","page"] (spBack K)) (Lp:Def P w K mg base 2 "_law_product" ["one","other"] (spF2G K Pw.ftimes)) (Un:Def P w K mg base 1 "_law_under" ["one","other"] (spLess K)) (Lu:Def P w K mg base 2 "_law_sum" ["one","other"] (spF2G K Pw.fplus)):Def P w K mg base 8 "_law_pages_right" ["web","leap","leaps","told","some"] (spPages44 K):=S.def fun f fd F=>by
 have nd:=sc_law_pages_right.nd
 refine F.ok sc_law_pages_right (fun vs H Q E h=>?_) (fun cdv A' outer s H vs Q E hr h=>?_)
 · obtain ⟨_,_,_,_,_,_,_,_,_,_,_,_,_,_,_,rfl,_⟩:=h
   rfl
 · obtain ⟨wa,lp,ls,td,so,n,a,b,ps,A,Bs,Ss,us,ys,S,rfl,i,zA,zS,ha,hb,ok,etd,ftd,eso,k⟩:=h
   refine ⟨_,(@pss_cons _ _ _ _ _ (ps_setC 5 ["page","web","leap","leaps"] [none,some 0,some 1,some 2] (by rfl) nd rfl rfl rfl (@pi_list _ _ _ _ (pv 4)) (by show ∀ y:Str×NameKind,y∈_→y.2=NameKind.free→(defScope s_law_pages_right).names.lookup y.1=some .cell;decide +kernel) (by decide) rfl (by decide +kernel) ⟨⟨rfl,rfl,.inl rfl⟩,⟨rfl,rfl,.inl rfl⟩,⟨rfl,rfl,.inl rfl⟩,trivial⟩
    (fun cl C s H fp=>(pg_name (i:=0) (show (["page","web","leap","leaps"]:List Str).Nodup by decide +kernel) rfl (Or.inl rfl) (.inr rfl)))
    (fun cl C s H fp=>pts_nil)
    (fun cl C s H fp=>(pe_def (by rfl) (by rfl) (by rfl) (by decide) St (hr.mono (by decide)) (@pa_consX _ _ _ _ _ (by rfl) (pv 1) (@pa_consX _ _ _ _ _ (by rfl) (pv 2) (@pa_consX _ _ _ _ _ (by rfl) (pv 3) (@pa_consX _ _ _ _ _ (by rfl) (pv 0) pa_nil)))))))
    (@pss_cons _ _ _ _ _ (@ps_forX _ _ _ _ _ _ _ _ (fun _=>rfl) PassesOwn.never rfl (pi_zipSK (by rfl) (by rfl) (by rfl) rfl T.zip (@pa_consX _ _ _ _ _ (by rfl) (pv 4) (@pa_consX _ _ _ _ _ (by rfl) (pv 5) pa_nil))) (pg_tup rfl (pgs_cons (pg_name (i:=6) nd rfl (Or.inl rfl)) (pgs_cons (pg_name (i:=7) nd rfl (Or.inl rfl)) pgs_nil)))
     (@pss_cons _ _ _ _ _ (@ps_setX _ _ 8 _ _ _ _ (by rfl) (Or.inl rfl) nd rfl (Or.inl rfl) (pe_def (by rfl) (by rfl) (by rfl) (by decide) Bk (hr.mono (by decide)) (@pa_consX _ _ _ _ _ (by rfl) (pv 0) (@pa_consX _ _ _ _ _ (by rfl) (pv 1) (@pa_consX _ _ _ _ _ (by rfl) (pv 2) (@pa_consX _ _ _ _ _ (by rfl) (pv 6) pa_nil))))))
    (@pss_cons _ _ _ _ _ (@ps_if _ _ _ _ _ _ _ _ (PW.pt (pw_or (pt_cmpR op_ne (pe_cmpR op_isN (pv 8) pe_non (nomark _)) (pe_cmpR (op_eqD hr) (pe_ix ix_tup (pv 3) (pv 6) (fun _ _=>rfl)) (@pe_tupS _ _ _ _ _ (@pa_consX _ _ _ _ _ (by rfl) pe_int (@pa_consX _ _ _ _ _ (by rfl) pe_int pa_nil))) (nomark _)) (nomark _)) (pw_or1 (pt_cmpR op_ne (pe_cmpR op_isN (pv 7) pe_non (nomark _)) (pe_cmpR op_isN (pv 8) pe_non (nomark _)) (nomark _)))))
     (@pss_one _ _ _ (@ps_ret _ _ _ _ pe_bl))
     pss_nil)
    (@pss_one _ _ _ (@ps_if _ _ _ _ _ _ _ _ (PW.pt (pw_and (pt_cmpR op_notN (pv 8) pe_non (nomark _)) (pw_and1 (pt_cmpR (op_neD hr) (pe_def (by rfl) (by rfl) (by rfl) (by decide) Lp (hr.mono (by decide)) (@pa_consX _ _ _ _ _ (by rfl) (pv 8) (@pa_consX _ _ _ _ _ (by rfl) (pe_ix ix_tup (pv 3) (pv 6) (fun _ _=>rfl)) pa_nil))) (@pe_tupS _ _ _ _ _ (@pa_consX _ _ _ _ _ (by rfl) pe_int (@pa_consX _ _ _ _ _ (by rfl) pe_int pa_nil))) (nomark _)))))
     (@pss_one _ _ _ (@ps_ret _ _ _ _ pe_bl))
     pss_nil)))))
    (@pss_cons _ _ _ _ _ (@ps_if _ _ _ _ _ _ _ _ (PW.pt (pw_and (pt_cmpR op_notN (pe_ix ix_list (pv 5) pe_int (fun _ _=>rfl)) pe_non (nomark _)) (pw_and1 (pt_cmpR op_notN (pe_ix ix_list (pv 5) pe_int (fun _ _=>rfl)) pe_non (nomark _)))))
     (@pss_one _ _ _ (@ps_forX _ _ _ _ _ _ _ _ (fun _=>rfl) PassesOwn.never rfl (pi_range1 rfl T.range (@pa_consX _ _ _ _ _ (by rfl) (pe_ix ix_tup (pv 0) pe_int (fun _ _=>rfl)) pa_nil)) (pg_name (i:=6) nd rfl (Or.inl rfl))
     (@pss_one _ _ _ (@ps_if _ _ _ _ _ _ _ _ (pt_val (pe_def (by rfl) (by rfl) (by rfl) (by decide) Un (hr.mono (by decide)) (@pa_consX _ _ _ _ _ (by rfl) (pe_def (by rfl) (by rfl) (by rfl) (by decide) Lu (hr.mono (by decide)) (@pa_consX _ _ _ _ _ (by rfl) (pe_ix ix_tup (pe_ix ix_list (pv 5) pe_int (fun _ _=>rfl)) (pv 6) (fun _ _=>rfl)) (@pa_consX _ _ _ _ _ (by rfl) (pe_ix ix_tup (pe_ix ix_list (pv 5) pe_int (fun _ _=>rfl)) (pe_ix ix_list (pv 4) pe_int (fun _ _=>rfl)) (fun _ _=>rfl)) pa_nil))) (@pa_consX _ _ _ _ _ (by rfl) (pe_ix ix_tup (pe_ix ix_list (pv 5) pe_int (fun _ _=>rfl)) (pv 6) (fun _ _=>rfl)) pa_nil))))
     (@pss_one _ _ _ (@ps_ret _ _ _ _ pe_bl))
     pss_nil))))
     pss_nil)
    (@pss_one _ _ _ (@ps_ret _ _ _ _ pe_bl))))),?_⟩
   have hn:Bs.length=n:=by have:=i.g.len;omega
   have n12:=i.n12
   have lk:∀ p∈ps,0≤p.2∧p.2<(n:Int):=fun p hp=>(i.g.lk p hp).2.2
   obtain ⟨Ss',V',ok',hV,zV,dv⟩:=sh_ex i.g.few lk i.g.ca i.g.cb hn n12 i.pr zA zS
   obtain rfl:=ok.unique lk i.g.ca i.g.cb hn i.pr ok'
   have rwS:=Rw.ofSh ok hV (by decide) zV dv
   have lS:=ok.len
   have gS:∀ j,j<n→Ss[j]?=some (Ss.getD j (0,1)):=fun j hj=>by rw [List.getD_eq_getElem?_getD,List.getElem?_eq_getElem (by omega)];rfl
   obtain ⟨L,hL⟩:∃ L,Pw.IsLcm Bs L:=Pw.lcm_ex i.g.cb
   refine ⟨_,rfl,so,rfl,⟨_,SqL.of eso⟩,fun D hD=>?_⟩
   have hab:∀ (j:Nat) (u:V),([.int (a:Int),.int (b:Int)]:List V)[j]?=some u→∃ c:Nat,u=.int (c:Int)∧c<n∧c=[a,b].getD j 0:=fun j u hu=>by
    match j,hu with
    | 0,hu=>cases hu;exact ⟨a,rfl,ha,rfl⟩
    | 1,hu=>cases hu;exact ⟨b,rfl,hb,rfl⟩
   refine comp_lst (K:=K) (a:=so) (D:=D) (xs:=[.int (a:Int),.int (b:Int)]) (fun j zs σ G=>Same H G∧G D=some (.lst zs)∧zs.length=j∧(∀ (q:Nat) (v:V),zs[q]?=some v→StAt K G ps A Bs Ss L n ([a,b].getD q 0) v)∧∃ x,σ=[x,some (.ref wa),some (.ref lp),some (.ref ls)]) ?_ ?_ ?_ ?_
   · exact ⟨Same.new hD,upd_same,rfl,fun q v hv=>by simp at hv,none,rfl⟩
   · rintro j zs σ G ⟨sG,eG,_⟩
     exact ⟨SqL.of (sG _ _ eso),eG⟩
   · rintro j u zs σ G hu hj ⟨sG,eG,lz,hz,x,rfl⟩
     obtain ⟨c,rfl,hc,ec⟩:=hab j u hu
     dsimp only [gName]
     rw [if_pos rfl]
     have app:∀ (G':Hp) (v:V),Same G G'→StAt K G' ps A Bs Ss L n c v→G' D=some (.lst zs)∧zs.length<sizeLine∧∃ m',m'<([.int (a:Int),.int (b:Int)]:List V).length - j∧Wt (fun j zs σ G=>Same H G∧G D=some (.lst zs)∧zs.length=j∧(∀ (q:Nat) (v:V),zs[q]?=some v→StAt K G ps A Bs Ss L n ([a,b].getD q 0) v)∧∃ x,σ=[x,some (.ref wa),some (.ref lp),some (.ref ls)]) ([.int (a:Int),.int (b:Int)]:List V).length (j+1) m' (zs ++ [v]) [some (.int (c:Int)),some (.ref wa),some (.ref lp),some (.ref ls)] (upd G' D (.lst (zs ++ [v]))):=fun G' v sG' hv=>by
      have eD:=sG' _ _ eG
      have kl:KL G' (upd G' D (.lst (zs ++ [v]))):=KL.set eD
      have hj2:j<2:=hj
      refine ⟨eD,small1000 (by omega),Wt.next hj ⟨fun b o e=>?_,upd_same,by rw [List.length_append,lz];rfl,fun q w hw=>?_,_,rfl⟩⟩
      · rw [upd_ne (ne_of_none e hD)];exact sG' _ _ (sG _ _ e)
      · have kst:∀ {q:Nat} {w:V},StAt K G' ps A Bs Ss L n q w→StAt K (upd G' D (.lst (zs ++ [v]))) ps A Bs Ss L n q w:=fun {q w} h=>by
         rcases h with h | ⟨h,t,xs,e,e1,f1⟩
         · exact .inl h
         · exact .inr ⟨h,t,xs,e,kl.tup e1,f1.kp kl⟩
        by_cases hq:q<zs.length
        · rw [List.getElem?_append_left hq] at hw
          exact kst ((hz q w hw).same sG')
        · rw [List.getElem?_append_right (by omega)] at hw
          have hq0:q - zs.length=0:=by
           rcases Nat.eq_zero_or_pos (q - zs.length) with h | h
           · exact h
           · rw [List.getElem?_eq_none (by simp;omega)] at hw;cases hw
          rw [hq0] at hw
          cases hw
          have eq:q=j:=by omega
          subst eq
          rw [← ec]
          exact kst hv
     refine ⟨_,rfl,_,rfl,_,rfl,_,rfl,wa,lp,ls,n,c,ps,A,Bs,Ss,us,S,rfl,i.same sG,zA,zS,hc,ok,fun h0 G' s'=>?_,fun hp t G' L' xs hL' s' e' f'=>?_⟩
     · exact app G' .non s' (.inl ⟨h0,rfl⟩)
     · obtain rfl:=hL.uniq hL'
       exact app G' (.ref t) s' (.inr ⟨hp,t,xs,rfl,e',f'⟩)
   rintro zs σ G1 ⟨s1,e1,lz,hz,_⟩
   have lz:zs.length=2:=lz
   obtain ⟨v0,v1,rfl⟩:∃ v0 v1,zs=[v0,v1]:=by
    match zs,lz with
    | [v0,v1],_=>exact ⟨v0,v1,rfl⟩
   have h0:StAt K G1 ps A Bs Ss L n a v0:=hz 0 v0 rfl
   have h1:StAt K G1 ps A Bs Ss L n b v1:=hz 1 v1 rfl
   have eso1:=s1 _ _ eso
   refine ⟨_,rfl,_,rfl,true,true,so,D,_,_,rfl,SqL.of eso1,SqL.of e1,?_⟩
   refine for_zipS (K:=K) (b1:=true) (b2:=true) (a:=so) (b:=D) (xs:=[.int (a:Int),.int (b:Int)]) (zs:=[v0,v1]) rfl (fun j σ G=>Same G1 G∧∃ v6 v7 v8:Option V,σ=[some (.ref wa),some (.ref lp),some (.ref ls),some (.ref td),some (.ref so),some (.ref D),v6,v7,v8]) ?_ ?_ ?_ ?_
   · exact ⟨Same.refl _,none,none,none,rfl⟩
   · rintro j σ G ⟨sG,_⟩
     exact ⟨SqL.of (sG _ _ eso1),SqL.of (sG _ _ e1)⟩
   · rintro j u v σ G TT G' hu hv hj ⟨sG,v6,v7,v8,rfl⟩ mT sT eT
     obtain ⟨c,rfl,hc,ec⟩:=hab j u hu
     have hst:=(hz j v hv).same (sG.trans sT)
     rw [← ec] at hst
     have sGT:=s1.trans (sG.trans sT)
     refine ⟨TT,_,rfl,SqT.of eT,rfl,_,_,rfl,_,_,rfl,rfl,?_⟩
     obtain ⟨pc,epc,fpc⟩:=(ftd.same sGT).at (gS c hc)
     have etd':=sGT _ _ etd
     have cS:=ok.canon.getD c
     have mS:=mem_getD (Bs:=Ss) (t:=c) (by omega)
     have fin:∀ G2,Same G' G2→Same G1 G2:=fun G2 s2=>sG.trans (sT.trans s2)
     refine ⟨_,rfl,_,rfl,_,rfl,_,rfl,wa,lp,ls,n,c,ps,A,Bs,Ss,us,S,rfl,i.same sGT,hc,ok,fun h0 G2 s2=>?_,fun hp fo G2 s2 f2=>?_⟩
     · have e0:Ss.getD c (0,1)=(0,1):=(Pw.val0 cS).mp h0
       rw [e0] at fpc
       refine ⟨_,rfl,rfl,_,rfl,_,rfl,td,_,_,_,rfl,rfl,SqT.of (s2 _ _ etd'),atI_nat epc,(by show 2≤sizeLine;decide),fun zz G3 s3 m3 e3=>?_⟩
       refine eqF (A:=(0,1)) (B:=(0,1)) ((s2.trans s3) _ _ fpc) e3 ⟨rfl,_,rfl,ifF (by simp) ?_⟩
       have ev:v=.non:=by
        rcases hst with ⟨_,e⟩ | ⟨h,_⟩
        · exact e
        · rw [h0] at h;exact absurd h (by decide)
       subst ev
       refine ⟨_,rfl,rfl,_,rfl,rfl,rfl,_,rfl,ifF (by simp) ?_⟩
       refine ⟨_,rfl,rfl,_,rfl,ifF rfl ?_⟩
       exact ⟨fin _ (s2.trans s3),_,_,_,rfl⟩
     · have n0:Ss.getD c (0,1)≠(0,1):=fun e=>by
        have:=(Pw.val0 cS).mpr e
        rw [this] at hp;exact absurd hp (by decide)
       refine ⟨_,rfl,rfl,_,rfl,_,rfl,td,_,_,_,rfl,rfl,SqT.of (s2 _ _ etd'),atI_nat epc,(by show 2≤sizeLine;decide),fun zz G3 s3 m3 e3=>?_⟩
       have s23:=s2.trans s3
       refine eqF (A:=Ss.getD c (0,1)) (B:=(0,1)) (s23 _ _ fpc) e3 ⟨rfl,_,rfl,ifF (by rw [decide_eq_false n0];rfl) ?_⟩
       obtain ⟨t,xs,rfl,et,ft⟩:∃ (t:Addr) (xs:List V),v=.ref t∧G' t=some (.tup xs)∧FrL K G' (Pw.arXs ps A Bs L n (eSt c) 1) xs:=by
        rcases hst with ⟨h,_⟩ | ⟨_,h⟩
        · rw [h] at hp;exact absurd hp (by decide)
        · exact h
       refine ⟨_,rfl,rfl,_,rfl,rfl,rfl,_,rfl,ifF (by simp) ?_⟩
       refine ⟨_,rfl,rfl,_,rfl,ifT rfl ?_⟩
       have np:=Pw.num_pos cS hp
       have cT:=Pw.canon_turn cS np
       have zz':=rwS.sz2 mS
       refine ⟨_,rfl,_,rfl,_,rfl,td,_,_,_,rfl,rfl,SqT.of (s23 _ _ etd'),atI_nat epc,fo,pc,_,_,rfl,SqF.of (s3 _ _ f2),SqF.of (s23 _ _ fpc),cT.1,cS.1,⟨zz'.2.mono (by decide),zz'.1.mono (by decide)⟩,zz'.mono (by decide),fun r Ga sa fa=>?_⟩
       have e11:Pw.ftimes ((Ss.getD c (0,1)).2,(Ss.getD c (0,1)).1) (Ss.getD c (0,1))=(1,1):=by
        refine Pw.val_inj (Pw.canon_ftimes (Pw.canon_ne cT) (Pw.canon_ne cS)) ⟨by decide,by decide⟩ ?_
        rw [Pw.val_ftimes (Pw.canon_ne cT) (Pw.canon_ne cS),Pw.val_turn cS np,Pw.v11]
       rw [e11] at fa
       refine ⟨(by show 2≤sizeLine;decide),fun o Gb sb mb eb=>neF (A:=(1,1)) (B:=(1,1)) (sb _ _ fa) eb ⟨_,rfl,ifF (by simp) ?_⟩⟩
       exact ⟨fin _ (s23.trans (sa.trans sb)),_,_,_,rfl⟩
   · rintro σ G ⟨sG,v6,v7,v8,rfl⟩
     have e1G:=sG _ _ e1
     have done:∀ G2,Same G G2→Same H G2:=fun G2 s2=>s1.trans (sG.trans s2)
     refine ⟨_,rfl,D,_,_,_,rfl,rfl,SqL.of e1G,rfl,rfl,_,rfl,?_⟩
     rcases h0 with ⟨p0,rfl⟩ | ⟨p0,t0,xs0,rfl,et0,ft0⟩
     · refine ifF rfl ?_
       exact k _ (done _ (Same.refl _))
     refine ifT rfl ?_
     refine ⟨_,rfl,D,_,_,_,rfl,rfl,SqL.of e1G,rfl,rfl,_,rfl,?_⟩
     rcases h1 with ⟨p1,rfl⟩ | ⟨p1,t1,xs1,rfl,et1,ft1⟩
     · refine ifF rfl ?_
       exact k _ (done _ (Same.refl _))
     refine ifT rfl ?_
     have iG:=i.same (s1.trans sG)
     obtain ⟨_,_,ewG,_,_⟩:=id iG.g.web
     have eSt01:∀ {c:Nat},∀ j v,eSt c j=some v→v=0∨v=1:=fun {c} j v hv=>by unfold eSt at hv;split at hv <;> cases hv;exact .inl rfl
     obtain ⟨_,_,ax,DX,rwX,zzX⟩:=Pw.ar_all (E:=eSt a) (st:=1) i.g.few lk i.g.ca i.g.cb hn n12 i.pr hL zA zS (.inr rfl) eSt01 ok ha (by unfold eSt;rw [if_pos rfl];rfl) p0
     obtain ⟨_,_,ay,DY,rwY,zzY⟩:=Pw.ar_all (E:=eSt b) (st:=1) i.g.few lk i.g.ca i.g.cb hn n12 i.pr hL zA zS (.inr rfl) eSt01 ok hb (by unfold eSt;rw [if_pos rfl];rfl) p1
     have tri:=Pw.steps_tri lk i.g.ca i.g.cb hn i.pr ok ha hb ax ay p0 p1
     have lX:=rwX.len
     have lY:=rwY.len
     have gX:∀ j,j<n→(Pw.arXs ps A Bs L n (eSt a) 1)[j]?=some ((Pw.arXs ps A Bs L n (eSt a) 1).getD j (0,1)):=fun j hj=>by rw [List.getD_eq_getElem?_getD,List.getElem?_eq_getElem (by omega)];rfl
     have gY:∀ j,j<n→(Pw.arXs ps A Bs L n (eSt b) 1)[j]?=some ((Pw.arXs ps A Bs L n (eSt b) 1).getD j (0,1)):=fun j hj=>by rw [List.getD_eq_getElem?_getD,List.getElem?_eq_getElem (by omega)];rfl
     refine ⟨_,rfl,wa,_,_,_,rfl,rfl,SqT.of ewG,rfl,(n:Int),rfl,by omega,by omega,?_⟩
     rw [Int.toNat_natCast]
     refine for_range (lo:=0) (n:=n) (fun j σ G2=>Same G G2∧∃ v6:Option V,σ=[some (.ref wa),some (.ref lp),some (.ref ls),some (.ref td),some (.ref so),some (.ref D),v6,v7,v8]) ?_ ?_ ?_
     · exact ⟨Same.refl _,v6,rfl⟩
     · rintro j σ G2 hj ⟨s2,w6,rfl⟩
       rw [Int.zero_add]
       have s02:=sG.trans s2
       have eD2:=s02 _ _ e1
       have eso2:=s02 _ _ eso1
       have et0':=s02 _ _ et0
       have et1':=s02 _ _ et1
       obtain ⟨q0,eq0,fq0⟩:=(ft0.same s02).at (gX j hj)
       obtain ⟨q1,eq1,fq1⟩:=(ft1.same s02).at (gY a ha)
       obtain ⟨q2,eq2,fq2⟩:=(ft1.same s02).at (gY j hj)
       have c0:=rwX.canon.getD j
       have c1:=rwY.canon.getD a
       have c2:=rwY.canon.getD j
       have z0:=rwX.szF zzX (mem_getD (Bs:=Pw.arXs ps A Bs L n (eSt a) 1) (t:=j) (by omega))
       have z1:=rwY.szF zzY (mem_getD (Bs:=Pw.arXs ps A Bs L n (eSt b) 1) (t:=a) (by omega))
       have z2:=rwY.sz2 (mem_getD (Bs:=Pw.arXs ps A Bs L n (eSt b) 1) (t:=j) (by omega))
       have tr:=tri j hj
       generalize (Pw.arXs ps A Bs L n (eSt a) 1).getD j (0,1)=X0 at *
       generalize (Pw.arXs ps A Bs L n (eSt b) 1).getD a (0,1)=Y0 at *
       generalize (Pw.arXs ps A Bs L n (eSt b) 1).getD j (0,1)=Y1 at *
       refine ⟨_,rfl,D,_,_,_,rfl,rfl,SqL.of eD2,rfl,_,rfl,t0,_,_,_,rfl,rfl,SqT.of et0',atI_nat eq0,?_⟩
       refine ⟨_,rfl,D,_,_,_,rfl,rfl,SqL.of eD2,rfl,_,rfl,so,_,_,_,rfl,rfl,SqL.of eso2,rfl,t1,_,_,_,rfl,rfl,SqT.of et1',atI_nat eq1,?_⟩
       refine ⟨q0,q1,X0,Y0,rfl,SqF.of fq0,SqF.of fq1,c0.1,c1.1,z0.mono (by decide),z1.mono (by decide),fun r Ga sa fa=>?_⟩
       refine ⟨_,rfl,D,_,_,_,rfl,rfl,SqL.of (sa _ _ eD2),rfl,_,rfl,t1,_,_,_,rfl,rfl,SqT.of (sa _ _ et1'),atI_nat eq2,?_⟩
       have cP:=Pw.canon_fplus (Pw.canon_ne c0) (Pw.canon_ne c1)
       have zP:=fplus_sz z0 z1 (Pw.canon_ne c0) (Pw.canon_ne c1)
       refine ⟨r,q2,_,Y1,rfl,fa,sa _ _ fq2,zP.mono (by decide),z2.mono (by decide),_,rfl,ifF (decide_eq_false (Pw.not_lt_of cP c2 (by rw [Pw.val_fplus (Pw.canon_ne c0) (Pw.canon_ne c1)];exact tr))) ?_⟩
       exact ⟨s2.trans sa,_,rfl⟩
     · rintro σ G2 ⟨s2,w6,rfl⟩
       exact k _ (done _ s2)
end
end Lw

set_option pp.maxSteps 800
namespace Lw
open PySem L2 PyProof.Rows
section
variable {P:Program} {w:World} {K:PySem.W.Frag} {mg:Str→Option Value} {base:Heap}
theorem sc_law_two_right:FnScope ["web","leap","leaps","one","other","found","back"] ["web","leap","leaps","one","other"] (defScope s_law_two_right):=⟨rfl,rfl,rfl,by decide +kernel,rfl,by decide +kernel,by decide +kernel⟩
set_option maxHeartbeats 0 in
theorem d_law_two_right (S:Fnd K mg "_law_two_right" s_law_two_right ["web","leap","leaps","one","other"]) (T:Txt mg) (Fi:Def P w K mg base 7 "first_to" ["web","leap","leaps","one","other"] (spFirst K)) (Lu:Def P w K mg base 2 "_law_sum" ["one","other"] (spF2G K Pw.fplus)):Def P w K mg base 8 "_law_two_right" ["web","leap","leaps","one","other"] (spTwo44 K):=S.def fun f fd F=>by
 have nd:=sc_law_two_right.nd
 refine F.ok sc_law_two_right (fun vs H Q E h=>?_) (fun cdv A' outer s H vs Q E hr h=>?_)
 · obtain ⟨_,_,_,_,_,_,_,_,_,_,_,rfl,_⟩:=h
   rfl
 · obtain ⟨wa,lp,ls,n,x,y,ps,A,Bs,us,S,rfl,i,zA,zS,hx,hy,hxy,k⟩:=h
   refine ⟨_,(@pss_cons _ _ _ _ _ (@ps_setX _ _ 5 _ _ _ _ (by rfl) (Or.inl rfl) nd rfl (Or.inl rfl) (pe_def (by rfl) (by rfl) (by rfl) (by decide) Fi (hr.mono (by decide)) (@pa_consX _ _ _ _ _ (by rfl) (pv 0) (@pa_consX _ _ _ _ _ (by rfl) (pv 1) (@pa_consX _ _ _ _ _ (by rfl) (pv 2) (@pa_consX _ _ _ _ _ (by rfl) (pv 3) (@pa_consX _ _ _ _ _ (by rfl) (pv 4) pa_nil)))))))
    (@pss_cons _ _ _ _ _ (@ps_setX _ _ 6 _ _ _ _ (by rfl) (Or.inl rfl) nd rfl (Or.inl rfl) (pe_def (by rfl) (by rfl) (by rfl) (by decide) Fi (hr.mono (by decide)) (@pa_consX _ _ _ _ _ (by rfl) (pv 0) (@pa_consX _ _ _ _ _ (by rfl) (pv 1) (@pa_consX _ _ _ _ _ (by rfl) (pv 2) (@pa_consX _ _ _ _ _ (by rfl) (pv 4) (@pa_consX _ _ _ _ _ (by rfl) (pv 3) pa_nil)))))))
    (@pss_cons _ _ _ _ _ (@ps_if _ _ _ _ _ _ _ _ (PW.pt (pw_or (pt_cmpR op_isN (pv 5) pe_non (nomark _)) (pw_or1 (pt_cmpR op_isN (pv 6) pe_non (nomark _)))))
     (@pss_one _ _ _ (@ps_ret _ _ _ _ (pe_and (pe_cmpR op_isN (pv 5) pe_non (nomark _)) (pe_one (pe_cmpR op_isN (pv 6) pe_non (nomark _))))))
     pss_nil)
    (@pss_one _ _ _ (@ps_ret _ _ _ _ (pe_cmpR (op_eqNil hr) (pe_compC ["low","high"] [none,none] rfl (pi_zipSK (by rfl) (by rfl) (by rfl) rfl T.zip (@pa_consX _ _ _ _ _ (by rfl) (pv 5) (@pa_consX _ _ _ _ _ (by rfl) (pv 6) pa_nil))) (by show ∀ y:Str×NameKind,y∈_→y.2=NameKind.free→(defScope s_law_two_right).names.lookup y.1=some .cell;decide +kernel) (by decide) rfl (by decide +kernel) trivial
     (fun cl C s H fp=>(pg_tupK (K:=K) 2 rfl rfl (pgs_cons (pg_name (i:=0) (show (["low","high"]:List Str).Nodup by decide +kernel) rfl (Or.inl rfl) (.inr rfl)) (pgs_cons (pg_name (i:=1) (show (["low","high"]:List Str).Nodup by decide +kernel) rfl (Or.inl rfl) (.inr rfl)) pgs_nil))))
     (fun cl C s H fp=>(pts_one (pt_cmpR (op_neDK (K:=K) rfl hr) (pe_def (by rfl) (by rfl) (by rfl) (by decide) Lu (hr.mono (by decide)) (@pa_consX _ _ _ _ _ (by rfl) (pv 0) (@pa_consX _ _ _ _ _ (by rfl) (pv 1) pa_nil))) (@pe_tupS _ _ _ _ _ (@pa_consX _ _ _ _ _ (by rfl) pe_int (@pa_consX _ _ _ _ _ (by rfl) pe_int pa_nil))) (nomark _))))
     (fun cl C s H fp=>pe_int)) (@pe_lstS _ _ _ _ pa_nil) (nomark _))))))),?_⟩
   have hn:Bs.length=n:=by have:=i.g.len;omega
   have n12:=i.n12
   have lk:∀ p∈ps,0≤p.2∧p.2<(n:Int):=fun p hp=>(i.g.lk p hp).2.2
   obtain ⟨Ss,ok,_,_⟩:=i.szz i.sA.2 i.sS
   refine ⟨_,rfl,_,rfl,_,rfl,_,rfl,_,rfl,wa,lp,ls,n,x,y,ps,A,Bs,Ss,us,S,rfl,i,zA,zS,hx,hy,hxy,ok,fun h0 G1 s1=>?_,fun hp t G1 L xs hL s1 e1 f1=>?_⟩
   · refine ⟨_,rfl,_,rfl,_,rfl,_,rfl,_,rfl,wa,lp,ls,n,y,x,ps,A,Bs,Ss,us,S,rfl,i.same s1,zA,zS,hy,hx,(fun z=>hxy z.symm),ok,fun _ G2 s2=>?_,fun hp=>?_⟩
     · refine ⟨_,rfl,rfl,_,rfl,ifT rfl ?_⟩
       refine ⟨_,rfl,rfl,_,rfl,ifT rfl ?_⟩
       refine ⟨_,rfl,rfl,?_⟩
       exact k G2 (s1.trans s2)
     · rw [h0.1,h0.2] at hp
       exact absurd hp (by decide)
   refine ⟨_,rfl,_,rfl,_,rfl,_,rfl,_,rfl,wa,lp,ls,n,y,x,ps,A,Bs,Ss,us,S,rfl,i.same s1,zA,zS,hy,hx,(fun z=>hxy z.symm),ok,fun h0=>?_,fun _ t2 G2 L2 xs2 hL2 s2 e2 f2=>?_⟩
   · rw [h0.1,h0.2] at hp
     exact absurd hp (by decide)
   obtain rfl:=hL.uniq hL2
   refine ⟨_,rfl,rfl,_,rfl,ifF rfl ?_⟩
   refine ⟨_,rfl,rfl,_,rfl,ifF rfl ?_⟩
   have e1':=s2 _ _ e1
   have f1':=f1.same s2
   have eFi01:∀ {x y:Nat},∀ j v,eFi x y j=some v→v=0∨v=1:=fun {x y} j v hv=>by
    unfold eFi at hv
    split at hv
    · cases hv;exact .inr rfl
    · split at hv
      · cases hv;exact .inl rfl
      · cases hv
   obtain ⟨_,_,ax,DX,rwX,_⟩:=Pw.ar_all (E:=eFi x y) (st:=0) i.g.few lk i.g.ca i.g.cb hn n12 i.pr hL zA zS (.inl rfl) eFi01 ok (e:=if 0<Pw.val (Ss.getD x (0,1)) then x else y) (by split <;> assumption) (by
    unfold eFi
    split
    · rw [if_pos rfl];rfl
    · rw [if_neg (fun z=>hxy z.symm),if_pos rfl];rfl) (by
    split
    · assumption
    · rename_i h
      exact hp.resolve_left h)
   obtain ⟨_,_,ay,DY,rwY,_⟩:=Pw.ar_all (E:=eFi y x) (st:=0) i.g.few lk i.g.ca i.g.cb hn n12 i.pr hL zA zS (.inl rfl) eFi01 ok (e:=if 0<Pw.val (Ss.getD x (0,1)) then x else y) (by split <;> assumption) (by
    by_cases hc:0<Pw.val (Ss.getD x (0,1))
    · rw [if_pos hc];unfold eFi;rw [if_neg hxy,if_pos rfl];rfl
    · rw [if_neg hc];unfold eFi;rw [if_pos rfl];rfl) (by
    split
    · assumption
    · rename_i h
      exact hp.resolve_left h)
   have one:=Pw.first_one lk i.g.ca i.g.cb hn i.pr ok hx hy hxy ax ay hp
   have lX:=rwX.len
   have lY:=rwY.len
   have lx:=f1'.len
   have ly:=f2.len
   refine ⟨_,rfl,_,rfl,false,false,t,t2,xs,xs2,rfl,SqT.of e1',SqT.of e2,fun D hD=>?_⟩
   refine comp_zipS (K:=K) (b1:=false) (b2:=false) (a:=t) (b:=t2) (D:=D) (xs:=xs) (zs:=xs2) (by omega) (fun j zs σ G=>Same G2 G∧G D=some (.lst zs)∧zs=[]∧∃ u v,σ=[u,v]) ?_ ?_ ?_ ?_
   · exact ⟨Same.new hD,upd_same,rfl,none,none,rfl⟩
   · rintro j zs σ G ⟨sG,eG,_⟩
     exact ⟨SqT.of (sG _ _ e1'),SqT.of (sG _ _ e2),eG⟩
   · rintro j u v zs σ G TT G' hu hv hj ⟨sG,eG,rfl,p0,q0,rfl⟩ mT sT eT
     have sGT:=sG.trans sT
     obtain ⟨pu,eu,fu⟩:=(f1'.same sGT).at (j:=j) (A:=(Pw.arXs ps A Bs L n (eFi x y) 0).getD j (0,1)) (by rw [List.getD_eq_getElem?_getD,List.getElem?_eq_getElem (by omega)];rfl)
     obtain ⟨pw,ew,fw⟩:=(f2.same sGT).at (j:=j) (A:=(Pw.arXs ps A Bs L n (eFi y x) 0).getD j (0,1)) (by rw [List.getD_eq_getElem?_getD,List.getElem?_eq_getElem (by omega)];rfl)
     rw [hu] at eu
     rw [hv] at ew
     cases eu
     cases ew
     have c1:=rwX.canon.getD j
     have c2:=rwY.canon.getD j
     have z1:=rwX.sz2 (mem_getD (Bs:=Pw.arXs ps A Bs L n (eFi x y) 0) (t:=j) (by omega))
     have z2:=rwY.sz2 (mem_getD (Bs:=Pw.arXs ps A Bs L n (eFi y x) 0) (t:=j) (by omega))
     have o1:=one j (by omega)
     generalize (Pw.arXs ps A Bs L n (eFi x y) 0).getD j (0,1)=X at *
     generalize (Pw.arXs ps A Bs L n (eFi y x) 0).getD j (0,1)=Y at *
     refine ⟨TT,_,rfl,SqT.of eT,rfl,_,_,rfl,_,_,rfl,rfl,?_⟩
     refine ⟨_,rfl,_,rfl,pu,pw,X,Y,rfl,SqF.of fu,SqF.of fw,c1.1,c2.1,z1.mono (by decide),z2.mono (by decide),fun r Ga sa fa=>?_⟩
     rw [Pw.fplus_ofQ (Pw.canon_ne c1) (Pw.canon_ne c2),o1,show Pw.ofQ 1=(1,1) from rfl] at fa
     refine ⟨(by show 2≤sizeLine;decide),fun o Gb sb mb eb=>neF (A:=(1,1)) (B:=(1,1)) (sb _ _ fa) eb ⟨_,rfl,ifF (by simp) ?_⟩⟩
     exact Wt.next hj ⟨sGT.trans (sa.trans sb),(sa.trans sb) _ _ (sT _ _ eG),rfl,_,_,rfl⟩
   rintro zs σ G ⟨sG,eG,rfl,_⟩
   refine ⟨(by show 0≤sizeLine;decide),fun l G3 s3 _ e3=>?_⟩
   refine ⟨D,l,[],rfl,rfl,.inr ⟨SqL.of (s3 _ _ eG),SqL.of e3⟩,?_⟩
   exact k _ (s1.trans (s2.trans (sG.trans s3)))
end
end Lw

set_option pp.maxSteps 800
namespace Lw
open PySem L2 PyProof.Rows
section
variable {P:Program} {w:World} {K:PySem.W.Frag} {mg:Str→Option Value} {base:Heap}
theorem sc_law_same_from_all:FnScope ["web","leap","leaps","told","sums","ahead","start","some"] ["web","leap","leaps","told"] (defScope s_law_same_from_all):=⟨rfl,rfl,rfl,by decide +kernel,rfl,by decide +kernel,by decide +kernel⟩
set_option maxHeartbeats 0 in
theorem d_law_same_from_all (S:Fnd K mg "_law_same_from_all" s_law_same_from_all ["web","leap","leaps","told"]) (T:Txt mg) (zset:mg "set"=none) (St:Def P w K mg base 7 "steps_to" ["web","leap","leaps","page"] (spSteps K)) (Lt:Def P w K mg base 3 "_law_total" ["row"] (spTotX K)) (Lp:Def P w K mg base 2 "_law_product" ["one","other"] (spF2G K Pw.ftimes)):Def P w K mg base 8 "_law_same_from_all" ["web","leap","leaps","told"] (spSame44 K):=S.def fun f fd F=>by
 have nd:=sc_law_same_from_all.nd
 refine F.ok sc_law_same_from_all (fun vs H Q E h=>?_) (fun cdv A' outer s H vs Q E hr h=>?_)
 · obtain ⟨_,_,_,_,_,_,_,_,_,_,_,_,rfl,_⟩:=h
   rfl
 · obtain ⟨wa,lp,ls,td,n,ps,A,Bs,Ss,us,ys,S,rfl,i,fi,ok,etd,ftd,k⟩:=h
   refine ⟨_,(@pss_cons _ _ _ _ _ (@ps_setX _ _ 4 _ _ _ _ (by rfl) (Or.inl rfl) nd rfl (Or.inl rfl) (@pe_lstS _ _ _ _ pa_nil))
    (@pss_cons _ _ _ _ _ (@ps_setX _ _ 5 _ _ _ _ (by rfl) (Or.inl rfl) nd rfl (Or.inr rfl) (pe_compC ["page","web","leap","leaps"] [none,some 0,some 1,some 2] rfl (pi_range1 rfl T.range (@pa_consX _ _ _ _ _ (by rfl) (pe_ix ix_tup (pv 0) pe_int (fun _ _=>rfl)) pa_nil)) (by show ∀ y:Str×NameKind,y∈_→y.2=NameKind.free→(defScope s_law_same_from_all).names.lookup y.1=some .cell;decide +kernel) (by decide) rfl (by decide +kernel) ⟨⟨rfl,rfl,.inl rfl⟩,⟨rfl,rfl,.inl rfl⟩,⟨rfl,rfl,.inl rfl⟩,trivial⟩
     (fun cl C s H fp=>(pg_name (i:=0) (show (["page","web","leap","leaps"]:List Str).Nodup by decide +kernel) rfl (Or.inl rfl) (.inr rfl)))
     (fun cl C s H fp=>pts_nil)
     (fun cl C s H fp=>(pe_def (by rfl) (by rfl) (by rfl) (by decide) St (hr.mono (by decide)) (@pa_consX _ _ _ _ _ (by rfl) (pv 1) (@pa_consX _ _ _ _ _ (by rfl) (pv 2) (@pa_consX _ _ _ _ _ (by rfl) (pv 3) (@pa_consX _ _ _ _ _ (by rfl) (pv 0) pa_nil))))))))
    (@pss_cons _ _ _ _ _ (@ps_forX _ _ _ _ _ _ _ _ (fun _=>rfl) PassesOwn.never rfl (pi_range1 rfl T.range (@pa_consX _ _ _ _ _ (by rfl) (pe_ix ix_tup (pv 0) pe_int (fun _ _=>rfl)) pa_nil)) (pg_name (i:=6) nd rfl (Or.inr rfl))
     (@pss_one _ _ _ (@ps_if _ _ _ _ _ _ _ _ (pt_cmpR (op_neD hr) (pe_ix ix_tup (pv 3) (pv 6) (fun _ _=>rfl)) (@pe_tupS _ _ _ _ _ (@pa_consX _ _ _ _ _ (by rfl) pe_int (@pa_consX _ _ _ _ _ (by rfl) pe_int pa_nil))) (nomark _))
     (@pss_cons _ _ _ _ _ (ps_setC 7 ["page","ahead"] [none,some 5] (by rfl) nd rfl rfl rfl (pi_range1 rfl T.range (@pa_consX _ _ _ _ _ (by rfl) (pe_ix ix_tup (pv 0) pe_int (fun _ _=>rfl)) pa_nil)) (by show ∀ y:Str×NameKind,y∈_→y.2=NameKind.free→(defScope s_law_same_from_all).names.lookup y.1=some .cell;decide +kernel) (by decide) rfl (by decide +kernel) ⟨⟨rfl,rfl,.inl rfl⟩,trivial⟩
      (fun cl C s H fp=>(pg_name (i:=0) (show (["page","ahead"]:List Str).Nodup by decide +kernel) rfl (Or.inl rfl) (.inr rfl)))
      (fun cl C s H fp=>(pts_one (pt_cmpR op_notN (pe_ix (ix_listK (K:=K) rfl) (pv 1) (pv 0) (fun _ _=>rfl)) pe_non (nomark _))))
      (fun cl C s H fp=>(pv 0)))
    (@pss_one _ _ _ (ps_expr (pe_bm PySem.F.plainAttrs_list PySem.F.slot_list_append PySem.F.type_list_append mt_append (pv 4) (@pa_consX _ _ _ _ _ (by rfl) (pe_def (by rfl) (by rfl) (by rfl) (by decide) Lt (hr.mono (by decide)) (@pa_consX _ _ _ _ _ (by rfl) (pe_compC ["page","told","start","ahead"] [none,some 3,some 6,some 5] rfl (@pi_list _ _ _ _ (pv 7)) (by show ∀ y:Str×NameKind,y∈_→y.2=NameKind.free→(defScope s_law_same_from_all).names.lookup y.1=some .cell;decide +kernel) (by decide) rfl (by decide +kernel) ⟨⟨rfl,rfl,.inl rfl⟩,⟨rfl,rfl,.inl rfl⟩,⟨rfl,rfl,.inl rfl⟩,trivial⟩
     (fun cl C s H fp=>(pg_name (i:=0) (show (["page","told","start","ahead"]:List Str).Nodup by decide +kernel) rfl (Or.inl rfl) (.inr rfl)))
     (fun cl C s H fp=>pts_nil)
     (fun cl C s H fp=>(pe_def (by rfl) (by rfl) (by rfl) (by decide) Lp (hr.mono (by decide)) (@pa_consX _ _ _ _ _ (by rfl) (pe_ix (ix_tupK (K:=K) rfl) (pv 1) (pv 0) (fun _ _=>rfl)) (@pa_consX _ _ _ _ _ (by rfl) (pe_ix (ix_tupK (K:=K) rfl) (pe_ix (ix_listK (K:=K) rfl) (pv 3) (pv 0) (fun _ _=>rfl)) (pv 2) (fun _ _=>rfl)) pa_nil))))) pa_nil)) pa_nil)))))
     pss_nil)))
    (@pss_one _ _ _ (@ps_ret _ _ _ _ (pe_cmpR op_eq (pe_lenset (K:=K) hr rfl (by rfl) T.len (by rfl) zset (@pa_consX _ _ _ _ _ (by rfl) (pv 4) pa_nil)) pe_int (nomark _))))))),?_⟩
   have hn:Bs.length=n:=by have:=i.g.len;omega
   have n12:=i.n12
   have lk:∀ p∈ps,0≤p.2∧p.2<(n:Int):=fun p hp=>(i.g.lk p hp).2.2
   have zA:=fi.a
   have zS:=fi.s
   obtain ⟨Ss',V',ok',hV,zV,dv⟩:=sh_ex i.g.few lk i.g.ca i.g.cb hn n12 i.pr zA zS
   obtain rfl:=ok.unique lk i.g.ca i.g.cb hn i.pr ok'
   have rwS:=Rw.ofSh ok hV (by decide) zV dv
   have lS:=ok.len
   have gS:∀ j,j<n→Ss[j]?=some (Ss.getD j (0,1)):=fun j hj=>by rw [List.getD_eq_getElem?_getD,List.getElem?_eq_getElem (by omega)];rfl
   obtain ⟨L,hL⟩:∃ L,Pw.IsLcm Bs L:=Pw.lcm_ex i.g.cb
   have arOk:∀ j,j<n→0<Pw.val (Ss.getD j (0,1))→Pw.ArOk ps A Bs n (eSt j) 1 (Pw.arXs ps A Bs L n (eSt j) 1):=fun j hj sj =>
    (Pw.ar_all (E:=eSt j) (st:=1) i.g.few lk i.g.ca i.g.cb hn n12 i.pr hL zA zS (.inr rfl) (fun j v hv=>by unfold eSt at hv;split at hv <;> cases hv;exact .inl rfl) ok hj (by unfold eSt;rw [if_pos rfl];rfl) sj).2.2.1
   refine ⟨(by show 0≤sizeLine;decide),fun su H1 s1 m1 e1=>?_⟩
   have i1:=i.same s1
   obtain ⟨_,_,ew1,_,_⟩:=id i1.g.web
   refine ⟨_,rfl,wa,_,_,_,rfl,rfl,SqT.of ew1,rfl,(n:Int),rfl,by omega,by omega,fun D hD=>?_⟩
   rw [Int.toNat_natCast]
   refine comp_rng (lo:=0) (n:=n) (D:=D) (fun j zs σ G=>Same H1 G∧G D=some (.lst zs)∧zs.length=j∧(∀ (q:Nat) (v:V),zs[q]?=some v→StAt K G ps A Bs Ss L n q v)∧∃ x,σ=[x,some (.ref wa),some (.ref lp),some (.ref ls)]) ?_ ?_ ?_ ?_
   · exact ⟨Same.new hD,upd_same,rfl,fun q v hv=>by simp at hv,none,rfl⟩
   · rintro j zs σ G ⟨sG,eG,_⟩
     exact eG
   · rintro j zs σ G hj ⟨sG,eG,lz,hz,x,rfl⟩
     rw [Int.zero_add]
     dsimp only [gName]
     rw [if_pos rfl]
     have app:∀ (G':Hp) (v:V),Same G G'→StAt K G' ps A Bs Ss L n j v→G' D=some (.lst zs)∧zs.length<sizeLine∧∃ m',m'<n - j∧Wt (fun j zs σ G=>Same H1 G∧G D=some (.lst zs)∧zs.length=j∧(∀ (q:Nat) (v:V),zs[q]?=some v→StAt K G ps A Bs Ss L n q v)∧∃ x,σ=[x,some (.ref wa),some (.ref lp),some (.ref ls)]) n (j+1) m' (zs ++ [v]) [some (.int (j:Int)),some (.ref wa),some (.ref lp),some (.ref ls)] (upd G' D (.lst (zs ++ [v]))):=fun G' v sG' hv=>by
      have eD:=sG' _ _ eG
      have kl:KL G' (upd G' D (.lst (zs ++ [v]))):=KL.set eD
      refine ⟨eD,small1000 (by omega),Wt.next hj ⟨fun b o e=>?_,upd_same,by rw [List.length_append,lz];rfl,fun q w hw=>?_,_,rfl⟩⟩
      · rw [upd_ne (ne_of_none e hD)];exact sG' _ _ (sG _ _ e)
      · have kst:∀ {q:Nat} {w:V},StAt K G' ps A Bs Ss L n q w→StAt K (upd G' D (.lst (zs ++ [v]))) ps A Bs Ss L n q w:=fun {q w} h=>by
         rcases h with h | ⟨h,t,xs,e,e1,f1⟩
         · exact .inl h
         · exact .inr ⟨h,t,xs,e,kl.tup e1,f1.kp kl⟩
        by_cases hq:q<zs.length
        · rw [List.getElem?_append_left hq] at hw
          exact kst ((hz q w hw).same sG')
        · rw [List.getElem?_append_right (by omega)] at hw
          have hq0:q - zs.length=0:=by
           rcases Nat.eq_zero_or_pos (q - zs.length) with h | h
           · exact h
           · rw [List.getElem?_eq_none (by simp;omega)] at hw;cases hw
          rw [hq0] at hw
          cases hw
          have eq:q=j:=by omega
          subst eq
          exact kst hv
     refine ⟨_,rfl,_,rfl,_,rfl,_,rfl,wa,lp,ls,n,j,ps,A,Bs,Ss,us,S,rfl,i1.same sG,zA,zS,hj,ok,fun h0 G' s'=>?_,fun hp t G' L' xs hL' s' e' f'=>?_⟩
     · exact app G' .non s' (.inl ⟨h0,rfl⟩)
     · obtain rfl:=hL.uniq hL'
       exact app G' (.ref t) s' (.inr ⟨hp,t,xs,rfl,e',f'⟩)
   rintro zs σ G1 ⟨sG1,eD1,lz,hz,_⟩
   have s11:=s1.trans sG1
   have iG:=i.same s11
   obtain ⟨_,_,ewG,_,_⟩:=id iG.g.web
   have esu:=sG1 _ _ e1
   obtain ⟨e0,he0,se0⟩:∃ e0,e0<n∧0<Pw.val (Ss.getD e0 (0,1)):=by
    refine Classical.byContradiction fun no=>?_
    have z:Pw.qs n (fun t=>Pw.val (Ss.getD t (0,1)))=0:=by
     rw [Pw.qs_congr (g:=fun _=>0) fun t ht=>Rat.le_antisymm (Rat.not_lt.mp fun h=>no ⟨t,ht,h⟩) (ok.v_nn ht),Pw.qs_zero]
    rw [ok.one] at z
    exact absurd z (by decide)
   generalize hF:Pw.ofQ (Pw.kem Ss n (fun j=>Pw.arXs ps A Bs L n (eSt j) 1) e0)=F'
   have hDsu:D≠su:=fun z=>by rw [z] at hD;rw [e1] at hD;cases hD
   have neT:∀ {G:Hp} {p:Addr} {xs:List V},G1 p=some (.tup xs)→p≠su:=fun {G p xs} e z=>by rw [z,esu] at e;cases e
   refine ⟨_,rfl,wa,_,_,_,rfl,rfl,SqT.of ewG,rfl,(n:Int),rfl,by omega,by omega,?_⟩
   rw [Int.toNat_natCast]
   refine for_range (lo:=0) (n:=n) (fun j σ G=>Kp su G1 G∧(∃ ws:List V,G su=some (.lst ws)∧ws.length≤j∧(∀ u∈ws,∃ q,u=.ref q∧FrA K G q F')∧(ws=[]→∀ t,t<j→¬ 0<Pw.val (Ss.getD t (0,1))))∧∃ v6 v7:Option V,σ=[some (.ref wa),some (.ref lp),some (.ref ls),some (.ref td),some (.ref su),some (.ref D),v6,v7]) ?_ ?_ ?_
   · exact ⟨Kp.refl _ _,⟨[],esu,Nat.le_refl _,fun u hu=>by simp at hu,fun _ t ht=>by omega⟩,none,none,rfl⟩
   · rintro j σ G hj ⟨kG,⟨ws,ews,lw,hw,hw0⟩,v6,v7,rfl⟩
     rw [Int.zero_add]
     have klG:KL G1 G:=fun b o e nl=>kG b o e fun z=>by rw [z,esu] at e;cases e;exact nl _ rfl
     have etdG:G td=some (.tup ys):=klG.tup (s11 _ _ etd)
     have ftdG:FrL K G Ss ys:=(ftd.same s11).kp klG
     have eDG:G D=some (.lst zs):=kG _ _ eD1 hDsu
     have hzG:∀ (q:Nat) (v:V),zs[q]?=some v→StAt K G ps A Bs Ss L n q v:=fun q v hv=>by
      rcases hz q v hv with h | ⟨h,t,xs,e,e1,f1⟩
      · exact .inl h
      · exact .inr ⟨h,t,xs,e,klG.tup e1,f1.kp klG⟩
     have ewG2:=klG.tup ewG
     obtain ⟨pc,epc,fpc⟩:=ftdG.at (gS j hj)
     have cS:=ok.canon.getD j
     refine ⟨_,rfl,_,rfl,td,_,_,_,rfl,rfl,SqT.of etdG,atI_nat epc,(by show 2≤sizeLine;decide),fun zz G2 s2 m2 e2=>?_⟩
     refine neF (A:=Ss.getD j (0,1)) (B:=(0,1)) (s2 _ _ fpc) e2 ⟨_,rfl,?_⟩
     have next0:∀ {G':Hp},Same G G'→Kp su G1 G':=fun {G'} s'=>kG.trans (Same.kp s')
     by_cases sj:0<Pw.val (Ss.getD j (0,1))
     · have n0:Ss.getD j (0,1)≠(0,1):=fun e=>by
        have:=(Pw.val0 cS).mpr e
        rw [this] at sj;exact absurd sj (by decide)
       refine ifT (by rw [decide_eq_false n0];rfl) ?_
       refine ⟨_,rfl,wa,_,_,_,rfl,rfl,SqT.of (s2 _ _ ewG2),rfl,(n:Int),rfl,by omega,by omega,fun D2 hD2=>?_⟩
       rw [Int.toNat_natCast]
       refine comp_rng (lo:=0) (n:=n) (D:=D2) (fun q z2 σ G'=>Same G2 G'∧G' D2=some (.lst z2)∧z2=natV ((List.range q).filter fun t=>decide (0<Pw.val (Ss.getD t (0,1))))∧∃ x,σ=[x,some (.ref D)]) ?_ ?_ ?_ ?_
       · exact ⟨Same.new hD2,upd_same,rfl,none,rfl⟩
       · rintro q z2 σ G' ⟨_,e,_⟩
         exact e
       · rintro q z2 σ G' hq ⟨s',e',rfl,x,rfl⟩
         rw [Int.zero_add]
         obtain ⟨v,hv⟩:∃ v,zs[q]?=some v:=⟨_,List.getElem?_eq_getElem (by omega)⟩
         refine ⟨_,rfl,_,rfl,D,_,_,_,rfl,rfl,SqL.of ((s2.trans s') _ _ eDG),atI_nat hv,rfl,_,rfl,?_⟩
         rcases hzG q v hv with ⟨h0,rfl⟩ | ⟨h0,t,xs,rfl,_,_⟩
         · refine ifF rfl (Wt.next hq ⟨s',e',?_,_,rfl⟩)
           rw [List.range_succ,List.filter_append,List.filter_cons_of_neg (by rw [h0];decide),List.filter_nil,List.append_nil]
         · refine ifT rfl ⟨_,rfl,e',?_,Wt.next hq ⟨fun b o e=>?_,upd_same,?_,_,rfl⟩⟩
           · rw [natV_len]
             have:=List.length_filter_le (fun t=>decide (0<Pw.val (Ss.getD t (0,1)))) (List.range q)
             rw [List.length_range] at this
             exact small1000 (by omega)
           · rw [upd_ne (ne_of_none e hD2)];exact s' _ _ e
           · rw [List.range_succ,List.filter_append,natV_app,List.filter_cons_of_pos (by simpa using h0),List.filter_nil];rfl
       rintro z2 σ G3 ⟨s3,e3,rfl,_⟩
       have s23:=s2.trans s3
       have s03:=s23
       refine ⟨_,rfl,.inl ⟨rfl,_,SqL.of (s03 _ _ ews)⟩,_,rfl,?_⟩
       obtain ⟨ck,lk12,z22,z59,eK⟩:=Pw.kem_row i.g.few lk i.g.ca i.g.cb hn n12 i.pr hL fi ok hj
       have lk':(Pw.kemL ps A Bs Ss L n j).length=(Pw.posL Ss n).length:=by unfold Pw.kemL;rw [List.length_map]
       have e3:G3 D2=some (.lst (natV (Pw.posL Ss n))):=e3
       refine ⟨D2,rfl,⟨_,SqL.of e3⟩,fun D3 hD3=>?_⟩
       refine comp_lst (K:=K) (a:=D2) (D:=D3) (xs:=natV (Pw.posL Ss n)) (fun q z3 σ G'=>Same G3 G'∧G' D3=some (.lst z3)∧FrL K G' ((Pw.kemL ps A Bs Ss L n j).take q) z3∧∃ x,σ=[x,some (.ref td),some (.int (j:Int)),some (.ref D)]) ?_ ?_ ?_ ?_
       · exact ⟨Same.new hD3,upd_same,rfl,none,rfl⟩
       · rintro q z3 σ G' ⟨s',e',_⟩
         exact ⟨SqL.of (s' _ _ e3),e'⟩
       · rintro q u z3 σ G' hu hq ⟨s',e',f',x,rfl⟩
         rw [natV_len] at hq
         rw [natV_get hq] at hu
         cases hu
         have mc:(Pw.posL Ss n)[q]∈Pw.posL Ss n:=List.getElem_mem hq
         have hI:(Pw.kemL ps A Bs Ss L n j)[q]?=some (Pw.ftimes (Ss.getD (Pw.posL Ss n)[q] (0,1)) ((Pw.arXs ps A Bs L n (eSt (Pw.posL Ss n)[q]) 1).getD j (0,1))):=by
          unfold Pw.kemL
          rw [List.getElem?_map,List.getElem?_eq_getElem hq];rfl
         have hcn:(Pw.posL Ss n)[q]<n:=List.mem_range.mp (List.mem_filter.mp mc).1
         have sc:0<Pw.val (Ss.getD (Pw.posL Ss n)[q] (0,1)):=of_decide_eq_true (List.mem_filter.mp mc).2
         generalize (Pw.posL Ss n)[q]=c at *
         dsimp only [gName]
         rw [if_pos rfl]
         have sA:=s03.trans s'
         obtain ⟨v,hv⟩:∃ v,zs[c]?=some v:=⟨_,List.getElem?_eq_getElem (by omega)⟩
         obtain ⟨t,xs,rfl,et,ft⟩:∃ (t:Addr) (xs:List V),v=.ref t∧G t=some (.tup xs)∧FrL K G (Pw.arXs ps A Bs L n (eSt c) 1) xs:=by
          rcases hzG c v hv with ⟨h,_⟩ | ⟨_,h⟩
          · rw [h] at sc;exact absurd sc (by decide)
          · exact h
         obtain ⟨_,_,ax,DX,rwX,zzX⟩:=Pw.ar_all (E:=eSt c) (st:=1) i.g.few lk i.g.ca i.g.cb hn n12 i.pr hL zA zS (.inr rfl) (fun j v hv=>by unfold eSt at hv;split at hv <;> cases hv;exact .inl rfl) ok hcn (by unfold eSt;rw [if_pos rfl];rfl) sc
         have lX:=rwX.len
         obtain ⟨p1,ep1,fp1⟩:=(ftdG.same sA).at (gS c hcn)
         obtain ⟨p2,ep2,fp2⟩:=(ft.same sA).at (j:=j) (A:=(Pw.arXs ps A Bs L n (eSt c) 1).getD j (0,1)) (by rw [List.getD_eq_getElem?_getD,List.getElem?_eq_getElem (by omega)];rfl)
         have c1:=ok.canon.getD c
         have c2:=rwX.canon.getD j
         have z1:=rwS.sz2 (mem_getD (Bs:=Ss) (t:=c) (by omega))
         have z2:=rwX.sz2 (mem_getD (Bs:=Pw.arXs ps A Bs L n (eSt c) 1) (t:=j) (by omega))
         refine ⟨_,rfl,_,rfl,td,ys,(c:Int),.ref p1,rfl,rfl,SqT.of (sA _ _ etdG),atI_nat ep1,_,rfl,_,rfl,D,zs,(c:Int),.ref t,rfl,rfl,SqL.of (sA _ _ eDG),atI_nat hv,_,rfl,t,xs,(j:Int),.ref p2,rfl,rfl,SqT.of (sA _ _ et),atI_nat ep2,p1,p2,_,_,rfl,SqF.of fp1,SqF.of fp2,c1.1,c2.1,z1.mono (by decide),z2.mono (by decide),fun r Ga sa fa=>?_⟩
         have eD5:=sa _ _ e'
         refine ⟨eD5,?_,Wt.next (by rw [natV_len];exact hq) ⟨fun b o e=>?_,upd_same,?_,_,rfl⟩⟩
         · rw [f'.len,List.length_take];exact small1000 (by omega)
         · rw [upd_ne (ne_of_none e hD3)];exact sa _ _ (s' _ _ e)
         · rw [List.take_add_one,hI]
           exact ((f'.same sa).snoc fa).kp (KL.set eD5)
       rintro z3 σ G4 ⟨s4,e4,f4,_⟩
       rw [natV_len,List.take_of_length_le (by omega)] at f4
       refine ⟨true,D3,z3,_,_,rfl,SqL.of e4,f4,rfl,by omega,ck,z22,z59,fun r G5 s5 f5=>?_⟩
       have pj:j∈Pw.posL Ss n:=List.mem_filter.mpr ⟨List.mem_range.mpr hj,decide_eq_true sj⟩
       have f5:=f5 (by rw [lk'];exact List.length_pos_of_mem pj)
       rw [eK,Pw.kem_same lk i.g.ca i.g.cb hn i.pr ok arOk hj he0 sj se0,hF] at f5
       have s05:=s03.trans (s4.trans s5)
       have ews5:=s05 _ _ ews
       refine ⟨su,ws,_,rfl,rfl,ews5,small1000 (by omega),?_⟩
       have kl5:KL G5 (upd G5 su (.lst (ws ++ [.ref r]))):=KL.set ews5
       refine ⟨fun b o e nb=>by rw [upd_ne nb];exact s05 _ _ (kG b o e nb),⟨ws ++ [.ref r],upd_same,by rw [List.length_append];show ws.length+1≤j+1;omega,fun u hu=>?_,fun h=>by simp at h⟩,_,_,rfl⟩
       rcases List.mem_append.mp hu with hu | hu
       · obtain ⟨q,e,f⟩:=hw u hu
         exact ⟨q,e,kl5.tup (s05 _ _ f)⟩
       · rw [List.mem_singleton.mp hu]
         exact ⟨r,rfl,kl5.tup f5⟩
     · have n0:Ss.getD j (0,1)=(0,1):=(Pw.val0 cS).mp (Rat.le_antisymm (Rat.not_lt.mp sj) (ok.v_nn hj))
       refine ifF (by rw [decide_eq_true n0];rfl) ?_
       refine ⟨next0 s2,⟨ws,s2 _ _ ews,by omega,fun u hu=>?_,fun h t ht=>?_⟩,_,_,rfl⟩
       · obtain ⟨q,e,f⟩:=hw u hu
         exact ⟨q,e,s2 _ _ f⟩
       · by_cases h':t<j
         · exact hw0 h t h'
         · have:t=j:=by omega
           rw [this];exact sj
   · rintro σ G ⟨kG,⟨ws,ews,lw,hw,hw0⟩,v6,v7,rfl⟩
     refine ⟨_,rfl,su,ws,F',rfl,ews,fun z=>hw0 z e0 he0 se0,hw,?_⟩
     exact ⟨rfl,k _ (Kp.same m1 ((Same.kp s11).trans kG))⟩
end
end Lw

set_option pp.maxSteps 800
namespace Lw
open PySem L2 PyProof.Rows
section
variable {P:Program} {w:World} {K:PySem.W.Frag} {mg:Str→Option Value} {base:Heap}
theorem scLaw:FnScope ["script","draws","many","web","leap","leaps","told","some","twice"] ["script"] (defScope sLaw):=⟨rfl,rfl,rfl,by decide +kernel,rfl,by decide +kernel,by decide +kernel⟩
set_option maxHeartbeats 0 in
theorem ok_law {f:Addr} {fd:FuncData} (F:Fun K "law" "law" sLaw f fd) (T:Txt mg) (Dr:Def P w K mg base 1 "_law_draws" ["script"] (spDraws K)) (Tk:Def P w K mg base 1 "_law_take" ["draws","many"] spTake) (We:Def P w K mg base 2 "_law_web" ["draws"] (spWebD K)) (Lq:Def P w K mg base 2 "_law_leap" ["draws"] (spLeapD K)) (Ls:Def P w K mg base 2 "_law_leaps" ["draws","many"] (spLeapsE K)) (Sh:Def P w K mg base 6 "shares" ["web","leap","leaps"] (spSh K)) (St:Def P w K mg base 7 "steps_to" ["web","leap","leaps","page"] (spSteps K)) (Pg:Def P w K mg base 8 "_law_pages_right" ["web","leap","leaps","told","some"] (spPages44 K)) (Tw:Def P w K mg base 8 "_law_two_right" ["web","leap","leaps","one","other"] (spTwo44 K)) (Sm:Def P w K mg base 8 "_law_same_from_all" ["web","leap","leaps","told"] (spSame44 K)):FnOk P w K mg base CX0 9 f fd ["script"] (spLaw K):=by
 have nd:=scLaw.nd
 refine F.ok scLaw (fun vs H Q E h=>?_) (fun cdv A' outer s H vs Q E hr h=>?_)
 · obtain ⟨_,_,rfl,_⟩:=h
   rfl
 · obtain ⟨a,ns,rfl,hS,hlen,k⟩:=h
   refine ⟨_,(@pss_cons _ _ _ _ _ (@ps_setX _ _ 1 _ _ _ _ (by rfl) (Or.inl rfl) nd rfl (Or.inr rfl) (pe_def (by rfl) (by rfl) (by rfl) (by decide) Dr (hr.mono (by decide)) (@pa_consX _ _ _ _ _ (by rfl) (pv 0) pa_nil)))
    (@pss_cons _ _ _ _ _ (@ps_setX _ _ 2 _ _ _ _ (by rfl) (Or.inl rfl) nd rfl (Or.inl rfl) pe_int)
    (@pss_cons _ _ _ _ _ (ps_while PassesOwn.never (PW.pt (pw_or (pt_cmpR op_lt (pv 2) pe_int (nomark _)) (pw_or1 (PW.pt (pw_and (pt_cmpR (op_neNil hr) (pv 1) (@pe_lstS _ _ _ _ pa_nil) (nomark _)) (pw_and1 (pt_cmpR op_lt (pv 2) pe_int (nomark _))))))))
     (@pss_cons _ _ _ _ _ (@ps_setX _ _ 3 _ _ _ _ (by rfl) (Or.inl rfl) nd rfl (Or.inr rfl) (pe_def (by rfl) (by rfl) (by rfl) (by decide) We (hr.mono (by decide)) (@pa_consX _ _ _ _ _ (by rfl) (pv 1) pa_nil)))
    (@pss_cons _ _ _ _ _ (@ps_setX _ _ 4 _ _ _ _ (by rfl) (Or.inl rfl) nd rfl (Or.inl rfl) (pe_def (by rfl) (by rfl) (by rfl) (by decide) Lq (hr.mono (by decide)) (@pa_consX _ _ _ _ _ (by rfl) (pv 1) pa_nil)))
    (@pss_mid _ _ _ _ _ (@ps_if _ _ _ _ _ _ _ _ (PW.pt (pw_and (pt_cmpR op_gt (pe_ix ix_tup (pv 3) pe_int (fun _ _=>rfl)) pe_int (nomark _)) (pw_and1 (pt_cmpR op_gt (pe_ix ix_tup (pv 4) pe_int (fun _ _=>rfl)) pe_int (nomark _)))))
     (@pss_one _ _ _ (@ps_setX _ _ 4 _ _ _ _ (by rfl) (Or.inl rfl) nd rfl (Or.inl rfl) (@pe_tupS _ _ _ _ _ (@pa_consX _ _ _ _ _ (by rfl) pe_int (@pa_consX _ _ _ _ _ (by rfl) pe_int pa_nil)))))
     pss_nil)
    (@pss_cons _ _ _ _ _ (@ps_setX _ _ 5 _ _ _ _ (by rfl) (Or.inl rfl) nd rfl (Or.inl rfl) (pe_def (by rfl) (by rfl) (by rfl) (by decide) Ls (hr.mono (by decide)) (@pa_consX _ _ _ _ _ (by rfl) (pv 1) (@pa_consX _ _ _ _ _ (by rfl) (pe_ix ix_tup (pv 3) pe_int (fun _ _=>rfl)) pa_nil))))
    (@pss_cons _ _ _ _ _ (@ps_setX _ _ 6 _ _ _ _ (by rfl) (Or.inl rfl) nd rfl (Or.inl rfl) (pe_def (by rfl) (by rfl) (by rfl) (by decide) Sh (hr.mono (by decide)) (@pa_consX _ _ _ _ _ (by rfl) (pv 3) (@pa_consX _ _ _ _ _ (by rfl) (pv 4) (@pa_consX _ _ _ _ _ (by rfl) (pv 5) pa_nil)))))
    (@pss_cons _ _ _ _ _ (ps_setC 7 ["k","draws","web"] [none,some 1,some 3] (by rfl) nd rfl rfl rfl (pi_range1 rfl T.range (@pa_consX _ _ _ _ _ (by rfl) pe_int pa_nil)) (by show ∀ y:Str×NameKind,y∈_→y.2=NameKind.free→(defScope sLaw).names.lookup y.1=some .cell;decide +kernel) (by decide) rfl (by decide +kernel) ⟨⟨rfl,rfl,.inl rfl⟩,⟨rfl,rfl,.inl rfl⟩,trivial⟩
     (fun cl C s H fp=>(pg_name (i:=0) (show (["k","draws","web"]:List Str).Nodup by decide +kernel) rfl (Or.inl rfl) (.inr rfl)))
     (fun cl C s H fp=>pts_nil)
     (fun cl C s H fp=>(pe_def (by rfl) (by rfl) (by rfl) (by decide) Tk (hr.mono (by decide)) (@pa_consX _ _ _ _ _ (by rfl) (pv 1) (@pa_consX _ _ _ _ _ (by rfl) (pe_ix (ix_tupK (K:=K) rfl) (pv 2) pe_int (fun _ _=>rfl)) pa_nil)))))
    (@pss_cons _ _ _ _ _ (@ps_if _ _ _ _ _ _ _ _ (pt_not (pt_val (pe_def (by rfl) (by rfl) (by rfl) (by decide) Pg (hr.mono (by decide)) (@pa_consX _ _ _ _ _ (by rfl) (pv 3) (@pa_consX _ _ _ _ _ (by rfl) (pv 4) (@pa_consX _ _ _ _ _ (by rfl) (pv 5) (@pa_consX _ _ _ _ _ (by rfl) (pv 6) (@pa_consX _ _ _ _ _ (by rfl) (pv 7) pa_nil))))))))
     (@pss_one _ _ _ (@ps_ret _ _ _ _ pe_bl))
     pss_nil)
    (@pss_cons _ _ _ _ _ (@ps_if _ _ _ _ _ _ _ _ (pt_not (pt_val (pe_def (by rfl) (by rfl) (by rfl) (by decide) Sm (hr.mono (by decide)) (@pa_consX _ _ _ _ _ (by rfl) (pv 3) (@pa_consX _ _ _ _ _ (by rfl) (pv 4) (@pa_consX _ _ _ _ _ (by rfl) (pv 5) (@pa_consX _ _ _ _ _ (by rfl) (pv 6) pa_nil)))))))
     (@pss_one _ _ _ (@ps_ret _ _ _ _ pe_bl))
     pss_nil)
    (@pss_mid _ _ _ _ _ (@ps_if _ _ _ _ _ _ _ _ (PW.pt (pw_and (pt_cmpR op_ne (pe_ix ix_list (pv 7) pe_int (fun _ _=>rfl)) (pe_ix ix_list (pv 7) pe_int (fun _ _=>rfl)) (nomark _)) (pw_and1 (pt_not (pt_val (pe_def (by rfl) (by rfl) (by rfl) (by decide) Tw (hr.mono (by decide)) (@pa_consX _ _ _ _ _ (by rfl) (pv 3) (@pa_consX _ _ _ _ _ (by rfl) (pv 4) (@pa_consX _ _ _ _ _ (by rfl) (pv 5) (@pa_consX _ _ _ _ _ (by rfl) (pe_ix ix_list (pv 7) pe_int (fun _ _=>rfl)) (@pa_consX _ _ _ _ _ (by rfl) (pe_ix ix_list (pv 7) pe_int (fun _ _=>rfl)) pa_nil)))))))))))
     (@pss_one _ _ _ (@ps_ret _ _ _ _ pe_bl))
     pss_nil)
    (@pss_mid _ _ _ _ _ (@ps_setX _ _ 8 _ _ _ _ (by rfl) (Or.inl rfl) nd rfl (Or.inl rfl) (@pe_tupS _ _ _ _ _ (@pa_consX _ _ _ _ _ (by rfl) (pe_ix ix_tup (pv 3) pe_int (fun _ _=>rfl)) (@pa_consX _ _ _ _ _ (by rfl) (pe_callTy call_tupOf (by rfl) T.tup boot_tuple (@pa_consX _ _ _ _ _ (by rfl) (pe_callB call_sortedPA (by rfl) T.srt boot_sorted (@pa_consX _ _ _ _ _ (by rfl) (pe_op op_catTS (pe_ix ix_tup (pv 3) pe_int (fun _ _=>rfl)) (pe_ix ix_tup (pv 3) pe_int (fun _ _=>rfl))) pa_nil)) pa_nil)) pa_nil))))
    (@pss_mid _ _ _ _ _ (@ps_if _ _ _ _ _ _ _ _ (pt_cmpR op_lt (pe_callB call_len_seq (by rfl) T.len PySem.boot_len (@pa_consX _ _ _ _ _ (by rfl) (pe_ix ix_tup (pv 3) pe_int (fun _ _=>rfl)) pa_nil)) pe_int (nomark _))
     (@pss_one _ _ _ (@ps_if _ _ _ _ _ _ _ _ (pt_cmpR (op_neDN hr) (pe_def (by rfl) (by rfl) (by rfl) (by decide) St (hr.mono (by decide)) (@pa_consX _ _ _ _ _ (by rfl) (pv 8) (@pa_consX _ _ _ _ _ (by rfl) (pv 4) (@pa_consX _ _ _ _ _ (by rfl) (pv 5) (@pa_consX _ _ _ _ _ (by rfl) (pe_ix ix_list (pv 7) pe_int (fun _ _=>rfl)) pa_nil))))) (pe_def (by rfl) (by rfl) (by rfl) (by decide) St (hr.mono (by decide)) (@pa_consX _ _ _ _ _ (by rfl) (pv 3) (@pa_consX _ _ _ _ _ (by rfl) (pv 4) (@pa_consX _ _ _ _ _ (by rfl) (pv 5) (@pa_consX _ _ _ _ _ (by rfl) (pe_ix ix_list (pv 7) pe_int (fun _ _=>rfl)) pa_nil))))) (nomark _))
     (@pss_one _ _ _ (@ps_ret _ _ _ _ pe_bl))
     pss_nil))
     pss_nil)
    (@pss_one _ _ _ (@ps_setX _ _ 2 _ _ _ _ (by rfl) (Or.inl rfl) nd rfl (Or.inl rfl) (pe_op op_add (pv 2) pe_int)))))))))))))))
    (@pss_one _ _ _ (@ps_ret _ _ _ _ pe_bl))))),?_⟩
   refine ⟨_,rfl,a,ns,rfl,hS,hlen,fun d H1 s1 hd0 hd=>?_⟩
   refine while_in (fun σ G=>DrawsAt G d∧∃ (m:Int) (v3 v4 v5 v6 v7 v8:Option V),0≤m∧σ=[some (.ref a),some (.ref d),some (.int m),v3,v4,v5,v6,v7,v8])
    (fun σ _=>match σ with | [_,_,some (.int m),_,_,_,_,_,_]=>(2 - m).toNat | _=>0) ⟨hd,0,none,none,none,none,none,none,by decide,rfl⟩ ?_
   rintro σ G ⟨hG,mm,v3,v4,v5,v6,v7,v8,mm0,rfl⟩
   refine wtest (d:=d) (m:=mm) rfl rfl hG (by decide) (fun hm G0 t0=>ifT rfl ⟨_,wN,?_⟩) (fun G0 t0=>ifF rfl (k _))
   have h0:=hG.same t0
   refine ⟨_,rfl,d,rfl,h0,fun wa G1 pages ps ok hw h1 k1=>?_⟩
   have plo:=ok.lo
   have phi:=ok.hi
   obtain ⟨n,rfl⟩:∃ n:Nat,pages=(n:Int):=⟨pages.toNat,by omega⟩
   refine ⟨_,rfl,d,rfl,h1,fun lp0 G2 A0 ca0 a00 a10 sa0 h2 fA0 k2=>?_⟩
   have hw2:=hw.kl (h1.kl k2)
   refine ⟨fun σ G=>∃ (lp:Addr) (A:Int×Int),DrawsAt G d∧WebAt K G wa (n:Int) ps∧FrA K G lp A∧Pw.Canon A∧0<A.1∧A.1≤A.2∧Sz2 41 A∧(n≤6∨A.2≤20)∧σ=[some (.ref a),some (.ref d),some (.int mm),some (.ref wa),some (.ref lp),v5,v6,v7,v8],?_,?_⟩
   · obtain ⟨ws2,uw2,hwa2,_,_⟩:=id hw2
     refine ⟨_,rfl,wa,_,_,_,rfl,rfl,SqT.of hwa2,rfl,_,_,rfl,rfl,_,rfl,if2 (fun _=>?_) (fun h6=>?_)⟩
     · refine ⟨_,rfl,lp0,_,_,_,rfl,rfl,SqT.of fA0,rfl,_,_,rfl,rfl,_,rfl,if2 (fun _=>?_) (fun h20=>?_)⟩
       · refine ⟨(by show 2≤sizeLine;decide),fun lq G3 s3 m3 e3=>?_⟩
         exact ⟨lq,(3,20),h2.same s3,hw2.kl s3.kl,e3,⟨by decide,by decide⟩,by decide,by decide,⟨sz_of 41 (by decide),sz_of 41 (by decide)⟩,.inr (by decide),rfl⟩
       · exact ⟨lp0,A0,h2,hw2,fA0,ca0,a00,a10,sa0,.inr (Int.not_lt.mp (of_decide_eq_false h20)),rfl⟩
     · exact ⟨lp0,A0,h2,hw2,fA0,ca0,a00,a10,sa0,.inl (by have:=of_decide_eq_false h6;omega),rfl⟩
   clear fA0 ca0 a00 a10 sa0 hw2 h2
   rintro σ G2 ⟨lp,A,h2,hw2,fA,ca,a0,a1,sa,n6,rfl⟩
   obtain ⟨ws2,uw2,hwa2,_,_⟩:=id hw2
   refine ⟨_,rfl,_,rfl,wa,_,_,_,rfl,rfl,SqT.of hwa2,rfl,d,(n:Int),rfl,plo,phi,h2,fun ls G3 ws us wt wt7 h3 eLs fl k3=>?_⟩
   have hw3:=hw2.kl (h2.kl k3)
   have fA3:=k3 _ _ fA (h2.neT fA)
   have few:ps.length≤60:=ok.few
   have i3:=shin_w hw3 (by omega) ok.lk fA3 ca a0 a1 sa (by omega) (by omega) wt eLs fl
   have zS:=w_sz (n:=n) (by omega) wt
   have fine:Fine n A ws.sum:=by
    rcases n6 with h | h
    · exact .inl ⟨h,sa.2,zS⟩
    · by_cases h7:7≤(n:Int)
      · refine .inr ⟨sz_of 11 (by have:=ca.1;omega),?_⟩
        have hs:=sum_le100 (fun w hw=>⟨(wt.nn w hw).1,wt7 h7 w hw⟩)
        have hl:=wt.len
        have hp:=wt.pos
        exact sz_of 11 (by omega)
      · exact .inl ⟨by omega,sa.2,zS⟩
   refine ⟨_,rfl,_,rfl,_,rfl,wa,lp,ls,n,ps,A,lps ws,us,ws.sum,rfl,i3,fun td G4 Ss ys okS _ s4 e4 f4=>?_⟩
   have h4:=h3.same s4
   have i4:=i3.same s4
   refine ⟨2,rfl,by decide,by decide,fun D hD=>?_⟩
   have hDd:=h4.ne hD
   refine comp_rng (lo:=0) (n:=(2:Int).toNat) (D:=D) (fun j zs σ G=>DrawsAt G d∧Kp d G4 G∧G D=some (.lst zs)∧(∃ ms:List Nat,zs=natV ms∧ms.length=j∧∀ m∈ms,m<n)∧∃ x,σ=[x,some (.ref d),some (.ref wa)]) ?_ ?_ ?_ ?_
   · exact ⟨h4.same (Same.new hD),Kp.new hD,upd_same,⟨[],rfl,rfl,fun m hm=>by simp at hm⟩,none,rfl⟩
   · rintro j zs σ G ⟨_,_,e,_⟩
     exact e
   · rintro j zs σ G hj ⟨g1,g2,g3,⟨ms,rfl,lm,hm'⟩,x,rfl⟩
     dsimp only [gName]
     rw [if_pos rfl]
     have iG:=i4.kl (h4.kl g2)
     obtain ⟨_,_,ewG,_,_⟩:=id iG.g.web
     refine ⟨_,rfl,_,rfl,wa,_,_,_,rfl,rfl,SqT.of ewG,rfl,d,(n:Int),rfl,by omega,g1,fun v G' v0 v1 g1' k'=>?_⟩
     obtain ⟨c,rfl⟩:∃ c:Nat,v=(c:Int):=⟨v.toNat,by omega⟩
     have g3':G' D=some (.lst (natV ms)):=k' _ _ g3 hDd
     have hj2:j<2:=hj
     refine ⟨g3',small1000 (by rw [natV_len];omega),Wt.next hj ⟨?_,fun b o e nb=>?_,upd_same,⟨ms ++ [c],?_,?_,?_⟩,_,rfl⟩⟩
     · obtain ⟨ns',e',z'⟩:=g1'
       exact ⟨ns',by rw [upd_ne (Ne.symm hDd)];exact e',z'⟩
     · rw [upd_ne (ne_of_none e hD)];exact k' _ _ (g2 b o e nb) nb
     · rw [natV_app];rfl
     · rw [List.length_append,lm];rfl
     · intro m hm
       rcases List.mem_append.mp hm with hm | hm
       · exact hm' m hm
       · rw [List.mem_singleton.mp hm];omega
   rintro zs σ G5 ⟨h5,k5,e5,⟨ms,rfl,lm,hms⟩,_⟩
   have lm:ms.length=2:=lm
   obtain ⟨pa,pb,rfl⟩:∃ pa pb,ms=[pa,pb]:=by
    match ms,lm with
    | [pa,pb],_=>exact ⟨pa,pb,rfl⟩
   have ha:pa<n:=hms pa (by simp)
   have hb:pb<n:=hms pb (by simp)
   have e5:G5 D=some (.lst [.int (pa:Int),.int (pb:Int)]):=e5
   have kl5:=h4.kl k5
   have i5:=i4.kl kl5
   have etd5:=kl5.tup e4
   have ftd5:=f4.kp kl5
   refine ⟨_,rfl,_,rfl,_,rfl,_,rfl,_,rfl,wa,lp,ls,td,D,n,pa,pb,ps,A,lps ws,Ss,us,ys,ws.sum,rfl,i5,sa.2,zS,ha,hb,okS,etd5,ftd5,e5,fun G6 s6=>⟨_,rfl,ifF rfl ?_⟩⟩
   refine ⟨_,rfl,_,rfl,_,rfl,_,rfl,wa,lp,ls,td,n,ps,A,lps ws,Ss,us,ys,ws.sum,rfl,i5.same s6,fine,okS,s6 _ _ etd5,ftd5.same s6,fun G7 s7=>⟨_,rfl,ifF rfl ?_⟩⟩
   have s57:=s6.trans s7
   refine ⟨fun σ G=>Same G7 G∧σ=[some (.ref a),some (.ref d),some (.int mm),some (.ref wa),some (.ref lp),some (.ref ls),some (.ref td),some (.ref D),v8],?_,?_⟩
   · have e7:=s57 _ _ e5
     refine ⟨_,rfl,D,_,_,_,rfl,rfl,SqL.of e7,rfl,_,rfl,D,_,_,_,rfl,rfl,SqL.of e7,rfl,rfl,_,rfl,if2 (fun hne=>?_) (fun _=>?_)⟩
     · have hne:pa≠pb:=fun z=>by rw [z] at hne;simp at hne
       refine ⟨_,rfl,_,rfl,_,rfl,_,rfl,D,_,_,_,rfl,rfl,SqL.of e7,rfl,_,rfl,D,_,_,_,rfl,rfl,SqL.of e7,rfl,wa,lp,ls,n,pa,pb,ps,A,lps ws,us,ws.sum,rfl,i5.same s57,sa.2,zS,ha,hb,hne,fun G8 s8=>⟨_,rfl,ifF rfl ?_⟩⟩
       exact ⟨s8,rfl⟩
     · exact ⟨Same.refl _,rfl⟩
   rintro σ G8 ⟨s8,rfl⟩
   have s58:=s57.trans s8
   have i8:=i5.same s58
   obtain ⟨tw,uw,ew8,et8,hp8⟩:=id i8.g.web
   have luw:=hp8.len
   refine ⟨fun σ G=>Same G8 G∧∃ (tp tt:Addr) (u2:List V),G tp=some (.tup [.int (n:Int),.ref tt])∧G tt=some (.tup u2)∧(ps.length<32→∃ ms:List (Int×Int),ms.Perm (ps ++ ps)∧Prs K G ms u2)∧σ=[some (.ref a),some (.ref d),some (.int mm),some (.ref wa),some (.ref lp),some (.ref ls),some (.ref td),some (.ref D),some (.ref tp)],?_,?_⟩
   · refine ⟨_,rfl,wa,_,_,_,rfl,rfl,SqT.of ew8,rfl,_,rfl,wa,_,_,_,rfl,rfl,SqT.of ew8,rfl,_,rfl,wa,_,_,_,rfl,rfl,SqT.of ew8,rfl,tw,tw,uw,uw,rfl,rfl,et8,et8,Nat.le_of_lt (small1000 (by omega)),fun p2 Ga sa ea=>?_⟩
     have pa2:Prs K Ga (ps ++ ps) (uw ++ uw):=Prs.append (hp8.kl sa.kl) (hp8.kl sa.kl)
     refine ⟨p2,uw ++ uw,ps ++ ps,rfl,SqT.of ea,pa2,by rw [List.length_append];omega,fun hs u3 ms D3 Gb pm _ pb sb hD3 eb=>?_,fun hs u3 D3 Gb lu _ sb hD3 eb=>?_⟩
     · refine ⟨D3,u3,rfl,SqL.of eb,fun tt Gc sc mc ec=>⟨(by show 2≤sizeLine;decide),fun tp Gd sd md ed=>?_⟩⟩
       exact ⟨sa.trans (sb.trans (sc.trans sd)),tp,tt,u3,ed,sd _ _ ec,fun _=>⟨ms,pm,(pb.kl sc.kl).kl sd.kl⟩,rfl⟩
     · refine ⟨D3,u3,rfl,SqL.of eb,fun tt Gc sc mc ec=>⟨(by show 2≤sizeLine;decide),fun tp Gd sd md ed=>?_⟩⟩
       exact ⟨sa.trans (sb.trans (sc.trans sd)),tp,tt,u3,ed,sd _ _ ec,fun hl=>by rw [List.length_append] at hs;omega,rfl⟩
   rintro σ G9 ⟨s9,tp,tt,u2,etp,ett,htw,rfl⟩
   have s59:=s58.trans s9
   have i9:=i5.same s59
   obtain ⟨tw9,uw9,ew9,et9,hp9⟩:=id i9.g.web
   have luw9:=hp9.len
   refine ⟨fun σ G=>Same G9 G∧σ=[some (.ref a),some (.ref d),some (.int mm),some (.ref wa),some (.ref lp),some (.ref ls),some (.ref td),some (.ref D),some (.ref tp)],?_,?_⟩
   · refine ⟨_,rfl,wa,_,_,_,rfl,rfl,SqT.of ew9,rfl,tw9,uw9,rfl,.inr (SqT.of et9),_,_,rfl,rfl,_,rfl,if2 (fun hlt=>?_) (fun _=>?_)⟩
     · have hlt:(uw9.length:Int)<31:=of_decide_eq_true hlt
       obtain ⟨ms,pm,pms⟩:=htw (by omega)
       have lms:=pm.length_eq
       rw [List.length_append] at lms
       have lk:∀ p∈ps,0≤p.2∧p.2<(n:Int):=fun p hp=>(ok.lk p hp).2.2
       have hnB:(lps ws).length=n:=by have:=i3.g.len;omega
       have gM:Gv K G9 tp lp ls (n:Int) ms A (lps ws) us:=⟨⟨tt,u2,etp,ett,pms⟩,by omega,fun p hp=>i9.g.lk p (by rcases List.mem_append.mp (pm.mem_iff.mp hp) with h | h <;> exact h),i9.g.leap,i9.g.ca,i9.g.sa,i9.g.leaps,i9.g.row,i9.g.cb,i9.g.sb,i9.g.len,i9.g.plo,i9.g.phi⟩
       have iM:ShIn K G9 tp lp ls n ms A (lps ws) us ws.sum:=⟨gM,i9.pr,i9.n12,i9.sA,i9.sS⟩
       have lkM:∀ p∈ms,0≤p.2∧p.2<(n:Int):=fun p hp=>(gM.lk p hp).2.2
       have okM:Pw.ShOk ms A (lps ws) n Ss:=okS.ways fun j t hj ht=>Pw.way_twice i9.g.ca i9.g.cb hnB lk pm ht
       have e9:=s59 _ _ e5
       refine ⟨_,rfl,_,rfl,_,rfl,_,rfl,D,_,_,_,rfl,rfl,SqL.of e9,rfl,tp,lp,ls,n,pa,ms,A,lps ws,Ss,us,ws.sum,rfl,iM,sa.2,zS,ha,okM,fun z0 Ga sa'=>?_,fun p0 t Ga L xs hL sa' ea fa=>?_⟩
       · refine ⟨_,rfl,_,rfl,_,rfl,_,rfl,D,_,_,_,rfl,rfl,SqL.of (sa' _ _ e9),rfl,wa,lp,ls,n,pa,ps,A,lps ws,Ss,us,ws.sum,rfl,i9.same sa',sa.2,zS,ha,okS,fun _ Gb sb=>?_,fun p0=>?_⟩
         · refine .inl ⟨rfl,rfl,_,rfl,ifF rfl ?_⟩
           exact ⟨sa'.trans sb,rfl⟩
         · rw [z0] at p0;exact absurd p0 (by decide)
       · refine ⟨_,rfl,_,rfl,_,rfl,_,rfl,D,_,_,_,rfl,rfl,SqL.of (sa' _ _ e9),rfl,wa,lp,ls,n,pa,ps,A,lps ws,Ss,us,ws.sum,rfl,i9.same sa',sa.2,zS,ha,okS,fun z0=>?_,fun _ t2 Gb L2 xs2 hL2 sb eb fb=>?_⟩
         · rw [z0] at p0;exact absurd p0 (by decide)
         · obtain rfl:=hL.uniq hL2
           have eSt01:∀ j v,eSt pa j=some v→v=0∨v=1:=fun j v hv=>by unfold eSt at hv;split at hv <;> cases hv;exact .inl rfl
           have aX:=(Pw.ar_all (E:=eSt pa) (st:=1) i9.g.few lk i9.g.ca i9.g.cb hnB i9.n12 i9.pr hL sa.2 zS (.inr rfl) eSt01 okS ha (by unfold eSt;rw [if_pos rfl];rfl) p0).2.2.1
           have aM:=(Pw.ar_all (E:=eSt pa) (st:=1) gM.few lkM i9.g.ca i9.g.cb hnB i9.n12 i9.pr hL sa.2 zS (.inr rfl) eSt01 okM ha (by unfold eSt;rw [if_pos rfl];rfl) p0).2.2.1
           have eX:=Pw.ar_unique lkM i9.g.ca i9.g.cb hnB i9.pr okM aM (aX.ways fun j t hj ht=>Pw.way_twice i9.g.ca i9.g.cb hnB lk pm ht) ha (by unfold eSt;rw [if_pos rfl];rfl) p0
           rw [eX] at fa
           refine .inr (neTT (SqT.of (sb _ _ ea)) (SqT.of eb) (fa.same sb) fb ⟨_,rfl,ifF rfl ?_⟩)
           exact ⟨sa'.trans sb,rfl⟩
     · exact ⟨Same.refl _,rfl⟩
   rintro σ G10 ⟨s10,rfl⟩
   refine ⟨_,rfl,_,_,rfl,rfl,?_⟩
   refine ⟨⟨h5.same (s59.trans s10),mm+1,_,_,_,_,_,_,by omega,rfl⟩,?_⟩
   show (2 - (mm+1)).toNat<(2 - mm).toNat
   omega
end
end Lw

namespace Lw
open PySem L2 PyProof.Rows
set_option maxHeartbeats 0 in
theorem all_mk {l:PySem.W.OpenLaw} {w:World} {K:PySem.W.Frag} {h:Heap} {mg:Str→Option Value} {fa f46 zZERO zONE:Addr} (XK:K.In h) (G:h.Ns mainGlobals mg) (hfa:mg "law"=some (.ref fa))
 {odZERO:Option Addr} {slZERO:Array (Option Value)} {nZERO:Nat} {tZERO uZERO:Tok}
 {odONE:Option Addr} {slONE:Array (Option Value)} {nONE:Nat} {tONE uONE:Tok}
 {od an:Option Addr} {sl:Array (Option Value)} {oc kV dc pm cd ct:Value}
 (aZERO:PySem.W.nsIn K mainGlobals "ZERO"=some (some (.ref zZERO))) (lZERO:K.lookup zZERO=some ⟨.type "tuple",odZERO,.seq #[.int 0 tZERO,.int 1 uZERO] nZERO,slZERO⟩)
 (aONE:PySem.W.nsIn K mainGlobals "ONE"=some (some (.ref zONE))) (lONE:K.lookup zONE=some ⟨.type "tuple",odONE,.seq #[.int 1 tONE,.int 1 uONE] nONE,slONE⟩)
 (A3:FnAt K "common" sCommon)
 (A4:FnAt K "made" sMade)
 (A5:FnAt K "by" sBy)
 (A6:FnAt K "shared_below" sBelow)
 (A7:FnAt K "aboves" sAboves)
 (A9:FnAt K "cleared" sCleared)
 (A10:FnAt K "solved" sSolved)
 (A12:FnAt K "leads" sLeads)
 (A14:FnAt K "parts" sParts)
 (A15:FnAt K "factor" sFactor)
 (A16:FnAt K "equation" sEquation)
 (A17:FnAt K "visits" sVisits)
 (A18:FnAt K "shares" sShares)
 (A20:FnAt K "going" s_going)
 (A21:FnAt K "leaping" s_leaping)
 (A22:FnAt K "staying" s_staying)
 (A23:FnAt K "arrived" s_arrived)
 (A24:FnAt K "steps_to" s_steps_to)
 (A25:FnAt K "steps_back" s_steps_back)
 (A26:FnAt K "first_to" s_first_to)
 (A28:FnAt K "_law_draws" s_law_draws)
 (A29:FnAt K "_law_take" s_law_take)
 (A30:FnAt K "_law_fraction" s_law_fraction)
 (A31:FnAt K "_law_sum" s_law_sum)
 (A33:FnAt K "_law_product" s_law_product)
 (A34:FnAt K "_law_under" s_law_under)
 (A35:FnAt K "_law_total" s_law_total)
 (A37:FnAt K "_law_web" sWeb)
 (A38:FnAt K "_law_leap" sLLeap)
 (A39:FnAt K "_law_leaps" sLLeaps)
 (A43:FnAt K "_law_pages_right" s_law_pages_right)
 (A44:FnAt K "_law_two_right" s_law_two_right)
 (A45:FnAt K "_law_same_from_all" s_law_same_from_all)
 (aL:PySem.W.nsIn K mainGlobals "law"=some (some (.ref f46))) (lL:K.lookup f46=some ⟨oc,od,.func (PySem.W.fnOf "law" "law" (defArgs sLaw) (defBody sLaw) (defScope sLaw) .none kV dc pm an cd ct),sl⟩) (cL:PySem.W.codeIn K cd "law"=true) (kL:PySem.W.keepIn K (.ref f46)=true)
 (zabs:PySem.W.nsIn K mainGlobals "abs"=some none)
 (zisi:PySem.W.nsIn K mainGlobals "isinstance"=some none)
 (ztup:PySem.W.nsIn K mainGlobals "tuple"=some none)
 (zint:PySem.W.nsIn K mainGlobals "int"=some none)
 (zbool:PySem.W.nsIn K mainGlobals "bool"=some none)
 (zlst:PySem.W.nsIn K mainGlobals "list"=some none)
 (zenu:PySem.W.nsIn K mainGlobals "enumerate"=some none)
 (zlen:PySem.W.nsIn K mainGlobals "len"=some none)
 (zrange:PySem.W.nsIn K mainGlobals "range"=some none)
 (zsrt:PySem.W.nsIn K mainGlobals "sorted"=some none)
 (zsum:PySem.W.nsIn K mainGlobals "sum"=some none)
 (zzip:PySem.W.nsIn K mainGlobals "zip"=some none)
 (zmax:PySem.W.nsIn K mainGlobals "max"=some none)
 (zmin:PySem.W.nsIn K mainGlobals "min"=some none)
 (zset:PySem.W.nsIn K mainGlobals "set"=some none)
:∃ fd:FuncData,(∀ (s:Shared) (v:Value),BindsTo s fd ⟨[v],[]⟩ [("script",v)])∧∀ base:Heap,K.In base→base.Ns mainGlobals mg→FnOk l.prog w K mg base CX0 9 fa fd ["script"] (spLaw K):=by
 have e:=hfa.symm.trans (PySem.W.mg_of XK G aL)
 cases e
 have F46:=fun_mk (st:=sLaw) lL cL kL
 have nCommon:=A3.fnd ["one","other"] XK G fun _ _ _ _ _ _ us hl=>match us,hl with | [_,_],_=>rfl
 have nMade:=A4.fnd ["above","below"] XK G fun _ _ _ _ _ _ us hl=>match us,hl with | [_,_],_=>rfl
 have nBy:=A5.fnd ["one","other"] XK G fun _ _ _ _ _ _ us hl=>match us,hl with | [_,_],_=>rfl
 have nBelow:=A6.fnd ["some"] XK G fun _ _ _ _ _ _ us hl=>match us,hl with | [_],_=>rfl
 have nAboves:=A7.fnd ["some","below"] XK G fun _ _ _ _ _ _ us hl=>match us,hl with | [_,_],_=>rfl
 have nCleared:=A9.fnd ["equation","chosen","place","before"] XK G fun _ _ _ _ _ _ us hl=>match us,hl with | [_,_,_,_],_=>rfl
 have nSolved:=A10.fnd ["equations"] XK G fun _ _ _ _ _ _ us hl=>match us,hl with | [_],_=>rfl
 have nLeads:=A12.fnd ["web","page"] XK G fun _ _ _ _ _ _ us hl=>match us,hl with | [_,_],_=>rfl
 have nParts:=A14.fnd ["web","page"] XK G fun _ _ _ _ _ _ us hl=>match us,hl with | [_,_],_=>rfl
 have nFactor:=A15.fnd ["web","leap","here","there"] XK G fun _ _ _ _ _ _ us hl=>match us,hl with | [_,_,_,_],_=>rfl
 have nEquation:=A16.fnd ["web","leap","page","start"] XK G fun _ _ _ _ _ _ us hl=>match us,hl with | [_,_,_,_],_=>rfl
 have nVisits:=A17.fnd ["web","leap","leaps"] XK G fun _ _ _ _ _ _ us hl=>match us,hl with | [_,_,_],_=>rfl
 have nShares:=A18.fnd ["web","leap","leaps"] XK G fun _ _ _ _ _ _ us hl=>match us,hl with | [_,_,_],_=>rfl
 have n_going:=A20.fnd ["web","leap","page","steps"] XK G fun _ _ _ _ _ _ us hl=>match us,hl with | [_,_,_,_],_=>rfl
 have n_leaping:=A21.fnd ["leaps"] XK G fun _ _ _ _ _ _ us hl=>match us,hl with | [_],_=>rfl
 have n_staying:=A22.fnd ["web","page","value"] XK G fun _ _ _ _ _ _ us hl=>match us,hl with | [_,_,_],_=>rfl
 have n_arrived:=A23.fnd ["web","leap","leaps","ends","steps"] XK G fun _ _ _ _ _ _ us hl=>match us,hl with | [_,_,_,_,_],_=>rfl
 have n_steps_to:=A24.fnd ["web","leap","leaps","page"] XK G fun _ _ _ _ _ _ us hl=>match us,hl with | [_,_,_,_],_=>rfl
 have n_steps_back:=A25.fnd ["web","leap","leaps","page"] XK G fun _ _ _ _ _ _ us hl=>match us,hl with | [_,_,_,_],_=>rfl
 have n_first_to:=A26.fnd ["web","leap","leaps","one","other"] XK G fun _ _ _ _ _ _ us hl=>match us,hl with | [_,_,_,_,_],_=>rfl
 have n_law_draws:=A28.fnd ["script"] XK G fun _ _ _ _ _ _ us hl=>match us,hl with | [_],_=>rfl
 have n_law_take:=A29.fnd ["draws","many"] XK G fun _ _ _ _ _ _ us hl=>match us,hl with | [_,_],_=>rfl
 have n_law_fraction:=A30.fnd ["above","below"] XK G fun _ _ _ _ _ _ us hl=>match us,hl with | [_,_],_=>rfl
 have n_law_sum:=A31.fnd ["one","other"] XK G fun _ _ _ _ _ _ us hl=>match us,hl with | [_,_],_=>rfl
 have n_law_product:=A33.fnd ["one","other"] XK G fun _ _ _ _ _ _ us hl=>match us,hl with | [_,_],_=>rfl
 have n_law_under:=A34.fnd ["one","other"] XK G fun _ _ _ _ _ _ us hl=>match us,hl with | [_,_],_=>rfl
 have n_law_total:=A35.fnd ["row"] XK G fun _ _ _ _ _ _ us hl=>match us,hl with | [_],_=>rfl
 have nWeb:=A37.fnd ["draws"] XK G fun _ _ _ _ _ _ us hl=>match us,hl with | [_],_=>rfl
 have nLLeap:=A38.fnd ["draws"] XK G fun _ _ _ _ _ _ us hl=>match us,hl with | [_],_=>rfl
 have nLLeaps:=A39.fnd ["draws","many"] XK G fun _ _ _ _ _ _ us hl=>match us,hl with | [_,_],_=>rfl
 have n_law_pages_right:=A43.fnd ["web","leap","leaps","told","some"] XK G fun _ _ _ _ _ _ us hl=>match us,hl with | [_,_,_,_,_],_=>rfl
 have n_law_two_right:=A44.fnd ["web","leap","leaps","one","other"] XK G fun _ _ _ _ _ _ us hl=>match us,hl with | [_,_,_,_,_],_=>rfl
 have n_law_same_from_all:=A45.fnd ["web","leap","leaps","told"] XK G fun _ _ _ _ _ _ us hl=>match us,hl with | [_,_,_,_],_=>rfl
 have T:Txt mg:=⟨PySem.W.mg_none_of XK G zabs,PySem.W.mg_none_of XK G zisi,PySem.W.mg_none_of XK G ztup,PySem.W.mg_none_of XK G zint,PySem.W.mg_none_of XK G zbool,PySem.W.mg_none_of XK G zlst,PySem.W.mg_none_of XK G zenu,PySem.W.mg_none_of XK G zlen,PySem.W.mg_none_of XK G zrange,PySem.W.mg_none_of XK G zsrt,PySem.W.mg_none_of XK G zsum,PySem.W.mg_none_of XK G zzip,PySem.W.mg_none_of XK G zmax⟩
 have zmin:=PySem.W.mg_none_of XK G zmin
 have zset:=PySem.W.mg_none_of XK G zset
 have hZERO:∀ H,SqF K H zZERO (0,1):=fun H=>.inr ⟨_,_,_,lZERO,rfl,rfl,(by show 2≤sizeLine;decide),.cons ⟨_,rfl⟩ (.cons ⟨_,rfl⟩ .nil)⟩
 have mZERO:=PySem.W.mg_of XK G aZERO
 have hONE:∀ H,SqF K H zONE (1,1):=fun H=>.inr ⟨_,_,_,lONE,rfl,rfl,(by show 2≤sizeLine;decide),.cons ⟨_,rfl⟩ (.cons ⟨_,rfl⟩ .nil)⟩
 have mONE:=PySem.W.mg_of XK G aONE
 refine ⟨PySem.W.fnOf "law" "law" (defArgs sLaw) (defBody sLaw) (defScope sLaw) .none kV dc pm an cd ct,fun s v=>.of_eq rfl,fun base _ _=>?_⟩
 · skip
   have dTk:Def l.prog w K mg base 1 "_law_take" ["draws","many"] spTake:=d_law_take n_law_take T
   have dFr9:Def l.prog w K mg base 1 "_law_fraction" ["above","below"] spMade9:=d_law_fraction n_law_fraction T
   have dFr:=made9 dFr9
   have dDr:Def l.prog w K mg base 1 "_law_draws" ["script"] (spDraws K):=d_law_draws n_law_draws T zmin
   have dLuH:=d_law_sum n_law_sum dFr9
   have dLpH:=d_law_product n_law_product dFr9
   have dLu:=f2H dLuH
   have dLp:=f2H dLpH
   have dM:Def l.prog w K mg base 2 "made" ["above","below"] spMadeS:=d_made nMade nCommon T
   have dCo:Def l.prog w K mg base 1 "common" ["one","other"] spCommon:=d_common nCommon
   have dBe:=d_below nBelow dCo
   have dAb:Def l.prog w K mg base 1 "aboves" ["some","below"] (spAboves K):=d_aboves nAboves
   have dLd:Def l.prog w K mg base 1 "leads" ["web","page"] (spLinks K Pw.outs):=d_leads nLeads
   have dPa:=d_parts nParts T dLd
   have dFa:=d_factor nFactor T dPa
   have dEq:=d_equation nEquation T dFa
   have dCl:Def l.prog w K mg base 1 "cleared" ["equation","chosen","place","before"] (spCleared K):=d_cleared nCleared T
   have dSoN:=d_solved nSolved T dCl
   have dSo:=solvedN dSoN
   have dVi:=d_visits nVisits T dAb dBe dSo dEq dPa
   have dSh:=d_shares nShares T dVi dM
   have dSs:=dSh.sh
   have dGo:=d_going n_going T dFa dPa
   have dLg:=d_leaping n_leaping T dBe dAb
   have dSy:Def l.prog w K mg base 1 "staying" ["web","page","value"] (spStaying K):=d_staying n_staying T
   have dAr:=d_arrived n_arrived T dSy dGo dLg dSoN dM
   have dWe:=d_law_web nWeb T dTk
   have dLq:=d_law_leap nLLeap T dTk dFr
   have dLs:=d_law_leaps nLLeaps T dTk dFr
   have dSt:=d_steps_to n_steps_to T mZERO hZERO dSs dAr
   have dFi:=d_first_to n_first_to T mZERO hZERO dSs dAr
   have dBy:=d_by nBy T dM
   have dBk:=d_steps_back n_steps_back T mZERO hZERO mONE hONE dSs dBy
   have dUn:Def l.prog w K mg base 1 "_law_under" ["one","other"] (spLess K):=d_law_under n_law_under T
   have dLuX:=d_law_sumX n_law_sum dFr9
   have dLtX:=d_law_totalX n_law_total T dLuX
   have dPg:=d_law_pages_right n_law_pages_right T dSt dBk dLp dUn dLu
   have dTw:=d_law_two_right n_law_two_right T dFi dLu
   have dSm:=d_law_same_from_all n_law_same_from_all T zset dSt dLtX dLp
   exact ok_law F46 T dDr dTk dWe dLq dLs dSs dSt dPg dTw dSm

theorem walk {l:PySem.W.OpenLaw} {q:Program} {loose:List Str} {XP:(Str→Option Value)→Heap→Prop} {YP:World→Heap→Prop} {d:DefRec} {K:Params→PySem.W.Frag} (hn:l.most=some 63) (hdf:d.params.defaults=[])
 (hY:∀ (w:World) (h:Heap),YP w h→(K w.params).In h)
 (F:∀ (w:World) (mg:Str→Option Value) (fa:Addr) (h:Heap),(K w.params).In h→h.Ns mainGlobals mg→mg d.name=some (.ref fa) →
  ∃ fd:FuncData,(∀ (s:Shared) (u:Value),BindsTo s fd ⟨[u],[]⟩ [("script",u)])∧∀ base:Heap,(K w.params).In base→base.Ns mainGlobals mg→FnOk l.prog w (K w.params) mg base CX0 9 fa fd ["script"] (spLaw (K w.params))) :
 PySem.W.WalkO q loose XP YP l.row.toRowW d [] (fun f vs=>PySem.call f vs) :=
 L2.walk_of (n:=63) (k:=9) (x:="script") (CX:=fun _=>CX0) (sp:=fun w=>spLaw (K w.params)) hn (by decide) hdf ⟨rfl,by decide,by decide,rfl⟩ hY F (fun _ _ a ns hl _ hS=>⟨a,ns,rfl,hS,hl,fun _=>rfl⟩) fun _ _ _ _ _ z=>z
end Lw

open PySem PySem.W PyProof.Rows
set_option maxRecDepth 100000 in
set_option maxHeartbeats 0 in
theorem PySem.Challenge.cw_pagewalks_k44_whole_arrivals_together_holds : PySem.Challenge.rw_pagewalks_k44_whole_arrivals_together.Holds := by
 w_on;o_law;(set_option synthInstance.maxSize 1 in k_head);(case hw=>w_witness2)
 k_fill
 refine Lw.walk (l:=PySem.Challenge.rw_pagewalks_k44_whole_arrivals_together) rfl rfl (fun w h Y=>PySem.W.kIn_of Y) ?F
 case F =>
  intro w mg fa h KX G hmg
  refine' Lw.all_mk KX G hmg ?aZERO ?lZERO ?aONE ?lONE ?A3 ?A4 ?A5 ?A6 ?A7 ?A9 ?A10 ?A12 ?A14 ?A15 ?A16 ?A17 ?A18 ?A20 ?A21 ?A22 ?A23 ?A24 ?A25 ?A26 ?A28 ?A29 ?A30 ?A31 ?A33 ?A34 ?A35 ?A37 ?A38 ?A39 ?A43 ?A44 ?A45 ?aL ?lL ?cL ?kL ?zabs ?zisi ?ztup ?zint ?zbool ?zlst ?zenu ?zlen ?zrange ?zsrt ?zsum ?zzip ?zmax ?zmin ?zset
  (case aZERO=>k_is)
  (case lZERO=>k_is)
  (case aONE=>k_is)
  (case lONE=>k_is)
  (case A3=>refine' L2.FnAt.of ?a ?l ?c ?k;(case a=>k_is);(case l=>k_is);(case c=>k_is);(case k=>k_is))
  (case A4=>refine' L2.FnAt.of ?a ?l ?c ?k;(case a=>k_is);(case l=>k_is);(case c=>k_is);(case k=>k_is))
  (case A5=>refine' L2.FnAt.of ?a ?l ?c ?k;(case a=>k_is);(case l=>k_is);(case c=>k_is);(case k=>k_is))
  (case A6=>refine' L2.FnAt.of ?a ?l ?c ?k;(case a=>k_is);(case l=>k_is);(case c=>k_is);(case k=>k_is))
  (case A7=>refine' L2.FnAt.of ?a ?l ?c ?k;(case a=>k_is);(case l=>k_is);(case c=>k_is);(case k=>k_is))
  (case A9=>refine' L2.FnAt.of ?a ?l ?c ?k;(case a=>k_is);(case l=>k_is);(case c=>k_is);(case k=>k_is))
  (case A10=>refine' L2.FnAt.of ?a ?l ?c ?k;(case a=>k_is);(case l=>k_is);(case c=>k_is);(case k=>k_is))
  (case A12=>refine' L2.FnAt.of ?a ?l ?c ?k;(case a=>k_is);(case l=>k_is);(case c=>k_is);(case k=>k_is))
  (case A14=>refine' L2.FnAt.of ?a ?l ?c ?k;(case a=>k_is);(case l=>k_is);(case c=>k_is);(case k=>k_is))
  (case A15=>refine' L2.FnAt.of ?a ?l ?c ?k;(case a=>k_is);(case l=>k_is);(case c=>k_is);(case k=>k_is))
  (case A16=>refine' L2.FnAt.of ?a ?l ?c ?k;(case a=>k_is);(case l=>k_is);(case c=>k_is);(case k=>k_is))
  (case A17=>refine' L2.FnAt.of ?a ?l ?c ?k;(case a=>k_is);(case l=>k_is);(case c=>k_is);(case k=>k_is))
  (case A18=>refine' L2.FnAt.of ?a ?l ?c ?k;(case a=>k_is);(case l=>k_is);(case c=>k_is);(case k=>k_is))
  (case A20=>refine' L2.FnAt.of ?a ?l ?c ?k;(case a=>k_is);(case l=>k_is);(case c=>k_is);(case k=>k_is))
  (case A21=>refine' L2.FnAt.of ?a ?l ?c ?k;(case a=>k_is);(case l=>k_is);(case c=>k_is);(case k=>k_is))
  (case A22=>refine' L2.FnAt.of ?a ?l ?c ?k;(case a=>k_is);(case l=>k_is);(case c=>k_is);(case k=>k_is))
  (case A23=>refine' L2.FnAt.of ?a ?l ?c ?k;(case a=>k_is);(case l=>k_is);(case c=>k_is);(case k=>k_is))
  (case A24=>refine' L2.FnAt.of ?a ?l ?c ?k;(case a=>k_is);(case l=>k_is);(case c=>k_is);(case k=>k_is))
  (case A25=>refine' L2.FnAt.of ?a ?l ?c ?k;(case a=>k_is);(case l=>k_is);(case c=>k_is);(case k=>k_is))
  (case A26=>refine' L2.FnAt.of ?a ?l ?c ?k;(case a=>k_is);(case l=>k_is);(case c=>k_is);(case k=>k_is))
  (case A28=>refine' L2.FnAt.of ?a ?l ?c ?k;(case a=>k_is);(case l=>k_is);(case c=>k_is);(case k=>k_is))
  (case A29=>refine' L2.FnAt.of ?a ?l ?c ?k;(case a=>k_is);(case l=>k_is);(case c=>k_is);(case k=>k_is))
  (case A30=>refine' L2.FnAt.of ?a ?l ?c ?k;(case a=>k_is);(case l=>k_is);(case c=>k_is);(case k=>k_is))
  (case A31=>refine' L2.FnAt.of ?a ?l ?c ?k;(case a=>k_is);(case l=>k_is);(case c=>k_is);(case k=>k_is))
  (case A33=>refine' L2.FnAt.of ?a ?l ?c ?k;(case a=>k_is);(case l=>k_is);(case c=>k_is);(case k=>k_is))
  (case A34=>refine' L2.FnAt.of ?a ?l ?c ?k;(case a=>k_is);(case l=>k_is);(case c=>k_is);(case k=>k_is))
  (case A35=>refine' L2.FnAt.of ?a ?l ?c ?k;(case a=>k_is);(case l=>k_is);(case c=>k_is);(case k=>k_is))
  (case A37=>refine' L2.FnAt.of ?a ?l ?c ?k;(case a=>k_is);(case l=>k_is);(case c=>k_is);(case k=>k_is))
  (case A38=>refine' L2.FnAt.of ?a ?l ?c ?k;(case a=>k_is);(case l=>k_is);(case c=>k_is);(case k=>k_is))
  (case A39=>refine' L2.FnAt.of ?a ?l ?c ?k;(case a=>k_is);(case l=>k_is);(case c=>k_is);(case k=>k_is))
  (case A43=>refine' L2.FnAt.of ?a ?l ?c ?k;(case a=>k_is);(case l=>k_is);(case c=>k_is);(case k=>k_is))
  (case A44=>refine' L2.FnAt.of ?a ?l ?c ?k;(case a=>k_is);(case l=>k_is);(case c=>k_is);(case k=>k_is))
  (case A45=>refine' L2.FnAt.of ?a ?l ?c ?k;(case a=>k_is);(case l=>k_is);(case c=>k_is);(case k=>k_is))
  (case aL=>k_is)
  (case lL=>k_is)
  (case cL=>k_is)
  (case kL=>k_is)
  (case zabs=>k_is)
  (case zisi=>k_is)
  (case ztup=>k_is)
  (case zint=>k_is)
  (case zbool=>k_is)
  (case zlst=>k_is)
  (case zenu=>k_is)
  (case zlen=>k_is)
  (case zrange=>k_is)
  (case zsrt=>k_is)
  (case zsum=>k_is)
  (case zzip=>k_is)
  (case zmax=>k_is)
  (case zmin=>k_is)
  (case zset=>k_is)

import PyProof.Rows.All
import Wide.All
import OpenK.AllK
import Wide.FinOn
import Lean
import PyProof.EqAt
import PyProof.EqKinds
import PyProof.TupleCall
import PyProof.NeKinds
import PyProof.EnumMake
import PyProof.Draws
import PyProof.ListNew
import PyProof.Rows.IntBool
import KE.LcSums
import PyProof.ListMulRoad
import PyProof.WalksT
import PyProof.ZipIter
import PyProof.Rows.ZipGen
import PyProof.SumWalk
import PyProof.Rows.CallKwBuiltin
import PyProof.AutoListH
import PyProof.WalkInts
import KE.KRevIter
import PyProof.ListStr
import PyProof.ListRange
import KE.KSortTup
import KE.KLam
import KE.KNestM
import KE.KFind
import KE.KTryDeep
import KE.KIsAll
import PyProof.ExcArgsOwn
import PyProof.Rows.SetFrom
import PyProof.StrWalks
import PyProof.CollectIter
import PyProof.FactsAll.set
import PyProof.StrCalls2
import PyProof.StrLawsIn
import PyProof.SliceStr2
import PyProof.StrOps2
import PySem.Challenge.RW_pagewalks_k37_leaps_by_kinds
set_option maxHeartbeats 1000000
set_option Elab.async false
set_option bootstrap.genMatcherCode false
set_option genSizeOfSpec false
set_option genSizeOf false
set_option linter.all false
set_option maxRecDepth 100000
namespace L2
open PySem PySem.Spec PyProof.Rows

noncomputable abbrev Key := Sum Int Str
noncomputable def keyIs : Key → Value → Bool
 | .inl k, v => Value.isInt k v
 | .inr x, v => Value.isStrOf x v
noncomputable def keyH (w : World) : Key → Int
 | .inl k => hashInt k
 | .inr x => hashStr w x
theorem keyIs_shape : ∀ {k : Key} {v : Value}, keyIs k v = true → (∃ i t, k = Sum.inl i ∧ v = Value.int i t) ∨ (∃ x t, k = Sum.inr x ∧ v = Value.str x t)
 | .inl i, v, h => by
   obtain ⟨t, e⟩ := Value.isInt_shape (k := i) (v := v) h
   exact .inl ⟨i, t, rfl, e⟩
 | .inr x, v, h => by
   obtain ⟨t, e⟩ := Value.isStrOf_shape (x := x) (v := v) h
   exact .inr ⟨x, t, rfl, e⟩
theorem key_ll (a b : Int) : decide ((Sum.inl a : Key) = Sum.inl b) = (a == b) := by
 by_cases e : a = b
 · subst e; simp
 · have h : ¬ (Sum.inl a : Key) = Sum.inl b := fun q => e (Sum.inl.inj q)
   rw [decide_eq_false h]
   exact (beq_eq_false_iff_ne.mpr e).symm
theorem key_rr (a b : Str) : decide ((Sum.inr a : Key) = Sum.inr b) = decide (a = b) := by
 by_cases e : a = b
 · subst e; simp
 · have h : ¬ (Sum.inr a : Key) = Sum.inr b := fun q => e (Sum.inr.inj q)
   rw [decide_eq_false h, decide_eq_false e]
theorem key_lr (a : Int) (b : Str) : decide ((Sum.inl a : Key) = Sum.inr b) = false := decide_eq_false (fun q => nomatch q)
theorem key_rl (a : Str) (b : Int) : decide ((Sum.inr a : Key) = Sum.inl b) = false := decide_eq_false (fun q => nomatch q)

noncomputable def mixKind (prog : Program) (w : World) : PySem.KeyKind prog w Key where
 is := keyIs
 hash := keyH w
 inj := fun v a b ha hb => by
  rcases keyIs_shape ha with ⟨i, t, rfl, rfl⟩ | ⟨x, t, rfl, rfl⟩
  · rcases keyIs_shape hb with ⟨j, u, rfl, e⟩ | ⟨y, u, rfl, e⟩
    · injection e with e1 _; rw [e1]
    · exact nomatch e
  · rcases keyIs_shape hb with ⟨j, u, rfl, e⟩ | ⟨y, u, rfl, e⟩
    · exact nomatch e
    · injection e with e1 _; rw [e1]
 byValue := fun k v h => by
  rcases keyIs_shape h with ⟨i, t, rfl, rfl⟩ | ⟨x, t, rfl, rfl⟩ <;> rfl
 pyHash := fun hv h => by
  rcases keyIs_shape hv with ⟨i, t, rfl, rfl⟩ | ⟨x, t, rfl, rfl⟩
  · exact wpAny_pyHash_int h
  · exact wpAny_pyHash_str h
 eqBool := fun hu hv h => by
  rcases keyIs_shape hu with ⟨i, t, rfl, rfl⟩ | ⟨x, t, rfl, rfl⟩
  · rcases keyIs_shape hv with ⟨j, u, rfl, rfl⟩ | ⟨y, u, rfl, rfl⟩
    · rw [key_ll] at h; exact wpAny_eqBool_int h
    · rw [key_lr] at h; exact SeqAt.EqAt.int_str i t y u _ _ _ _ h
  · rcases keyIs_shape hv with ⟨j, u, rfl, rfl⟩ | ⟨y, u, rfl, rfl⟩
    · rw [key_rl] at h; exact SeqAt.EqAt.str_int x t j u _ _ _ _ h
    · rw [key_rr] at h; exact wpAny_eqBool_str h
 «strs» := fun k x t v h => by
  rcases keyIs_shape h with ⟨i, u, rfl, e⟩ | ⟨y, u, rfl, e⟩
  · exact nomatch e
  · injection e with e1 _
    subst e1
    cases v <;> rfl

end L2

namespace L2
open PySem PySem.Spec PyProof.Rows

inductive V where
 | non | bl (b : Bool) | int (i : Int) | str (x : Str) | byt (b : Array UInt8) | flt (b : UInt64) | ref (a : Addr) | ty (n : String)
 deriving DecidableEq

noncomputable def RelV : V → Value → Prop
 | .non, u => u = Value.none
 | .bl b, u => u = Value.bool b
 | .int i, u => ∃ t, u = Value.int i t
 | .str x, u => ∃ t, u = Value.str x t
 | .byt b, u => ∃ t, u = Value.bytes b t
 | .flt b, u => ∃ t, u = Value.float b t
 | .ref a, u => u = Value.ref a
 | .ty n, u => u = Value.type n

noncomputable abbrev Vals : List V → List Value → Prop := Paired RelV
theorem Vals.length {xs : List V} {us : List Value} (r : Vals xs us) : xs.length = us.length := Paired.length r
theorem Vals.get : ∀ {xs : List V} {us : List Value} {i : Nat} {x : V}, Vals xs us → xs[i]? = some x → ∃ u, us[i]? = some u ∧ RelV x u
 | _, _, _, _, .nil, e => by simp at e
 | _, _, 0, _, .cons r _, e => by simp at e; subst e; exact ⟨_, rfl, r⟩
 | _, _, i + 1, x, .cons _ t, e => by
   obtain ⟨u, h1, h2⟩ := Vals.get (i := i) (x := x) t (by simpa using e)
   exact ⟨u, by simpa using h1, h2⟩
theorem Vals.append : ∀ {xs ys : List V} {us ws : List Value}, Vals xs us → Vals ys ws → Vals (xs ++ ys) (us ++ ws)
 | _, _, _, _, .nil, s => s
 | _, _, _, _, .cons r t, s => .cons r (Vals.append t s)
theorem Vals.take : ∀ {xs : List V} {us : List Value} (n : Nat), Vals xs us → Vals (xs.take n) (us.take n)
 | _, _, 0, _ => .nil
 | _, _, _ + 1, .nil => .nil
 | _, _, n + 1, .cons r t => .cons r (Vals.take n t)
theorem Vals.drop : ∀ {xs : List V} {us : List Value} (n : Nat), Vals xs us → Vals (xs.drop n) (us.drop n)
 | _, _, 0, r => r
 | _, _, _ + 1, .nil => .nil
 | _, _, n + 1, .cons _ t => Vals.drop n t
noncomputable def RelO : Option V → Option Value → Prop
 | some v, some u => RelV v u
 | none, none => True
 | _, _ => False
noncomputable def KV {κ : Type} : List (κ × V) → List (κ × Value) → Prop := Paired fun (p : κ × V) (q : κ × Value) => p.1 = q.1 ∧ RelV p.2 q.2

noncomputable def kV : Key → V
 | .inl i => .int i
 | .inr x => .str x

inductive HO where
 | lst (xs : List V)
 | tup (xs : List V)
 | dK (kvs : List (Key × V)) | dT (kvs : List (List Key × V))
 | set (S : Int → Bool) (n : Nat)
 | ins (C dx : Addr) (fs : List (Str × V))
 | own (x : Addr)
 | xd (fs : List (Str × V))
 | met (f x : Addr)
 | rng (lo hi : Int)
 | frz (o : Obj) (u : HO)
 | tbl (ps : Array Value)
 | ext (φ : Heap → Prop)

noncomputable abbrev Hp := Addr → Option HO
noncomputable def upd (H : Hp) (a : Addr) (o : HO) : Hp := fun b => if b = a then some o else H b
theorem upd_same {H : Hp} {a : Addr} {o : HO} : upd H a o a = some o := by unfold upd; rw [if_pos rfl]
theorem upd_ne {H : Hp} {a b : Addr} {o : HO} (h : b ≠ a) : upd H a o b = H b := by unfold upd; rw [if_neg h]
theorem ne_of {H : Hp} {a b : Addr} {o u : HO} (h : H a = some o) (h' : H b = some u) (d : o ≠ u) : a ≠ b := by
 intro e; subst e; rw [h] at h'; exact d (Option.some.inj h')
theorem ne_of_none {H : Hp} {a b : Addr} {o : HO} (h : H a = some o) (h' : H b = none) : a ≠ b := by
 intro e; subst e; rw [h] at h'; cases h'

noncomputable def IsTupN (h : Heap) (a : Addr) (items : Array Value) : Prop := ∃ o, h.get? a = some o ∧ (o.cls, o.dict) = (Value.type "tuple", (none : Option Addr)) ∧ ∃ n, o.data = .seq items n
theorem IsTupN.tup {h : Heap} {a : Addr} {items : Array Value} (p : IsTupN h a items) : PyProof.Rows.IsTup h a items := by
 obtain ⟨o, e, c, n, d⟩ := p
 exact ⟨o, e, congrArg Prod.fst c, n, d⟩
theorem IsTupN.new (h : Heap) (items : Array Value) : IsTupN (h.push { cls := .type "tuple", data := .seq items }) h.objs.size items := ⟨_, Heap.get?_push_size _ rfl, rfl, _, rfl⟩

section
variable (P : Program) (w : World)
noncomputable def ObjOk (H : Hp) (h : Heap) (a : Addr) : HO → Prop
 | .lst xs => xs.length ≤ sizeLine ∧ ∃ (its : List Value) (n : Nat), Vals xs its ∧ h.get? a = some { cls := .type "list", data := .seq its.toArray n }
 | .tup xs => xs.length ≤ sizeLine ∧ ∃ its : List Value, Vals xs its ∧ IsTupN h a its.toArray
 | .dK kvs => kvs.length ≤ sizeLine ∧ (a == sysModules) = false ∧ ∃ vs, KV kvs vs ∧ h.DictOf (mixKind P w) a vs
 | .dT kvs => kvs.length ≤ sizeLine ∧ (a == sysModules) = false ∧ ∃ xs : List (List Key × Addr × Value),
  Paired (fun (p : List Key × V) (q : List Key × Addr × Value) => p.1 = q.1 ∧ H q.2.1 = some (.tup (p.1.map kV)) ∧ RelV p.2 q.2.2) kvs xs ∧
  ∃ o es ep, h.get? a = some o ∧ o.ExactDict ∧ o.data = .dict es ep ∧ es.toList = xs.map (entryOfKey (tupleKind (mixKind P w))) ∧ (xs.map (·.1)).Nodup
 | .set S n => h.SetOf (intKind P w) a S n
 | .ins C dx fs => H dx = some (.own a) ∧ fs.length ≤ 1000 ∧ dx ≠ a ∧ h.get? a = some (PySem.W.instObj C dx) ∧
  ∃ mA, h.Ns1 dx mA ∧ (∀ f, RelO (fs.lookup f) (mA f)) ∧ PySem.Within mA (fs.map (·.1))
 | .own _ => ∃ o, h.get? a = some o
 | .xd fs => ∃ mA, h.Ns1 a mA ∧ ∀ f, RelO (fs.lookup f) (mA f)
 | .rng lo hi => ∃ t u v, h.get? a = some { cls := .type "range", data := .fields #[.int lo t, .int hi u, .int 1 v] }
 | .frz o u => h.get? a = some o ∧ ObjOk H h a u
 | .tbl ps => h.get? a = some { cls := .none, data := .fields ps }
 | .met f x => h.get? a = some (PySem.W.methodObj (.ref f) (.ref x))
 | .ext φ => φ h ∧ (∃ o, h.get? a = some o) ∧ ∀ h1 h2 : Heap, φ h1 → (∀ o, h1.get? a = some o → h2.get? a = some o) → φ h2
noncomputable def HOk (H : Hp) (h : Heap) : Prop := ∀ a o, H a = some o → ObjOk P w H h a o
end

section
variable {P : Program} {w : World} {H H' : Hp} {h h' : Heap} {a : Addr} {o : HO}
theorem ObjOk.lt (x : ObjOk P w H h a o) : a < h.objs.size := by
 cases o with
 | lst xs => obtain ⟨_, _, _, _, e⟩ := x; exact Heap.lt_size e
 | tup xs => obtain ⟨_, _, _, p⟩ := x; exact p.tup.lt
 | dK kvs => obtain ⟨_, _, _, _, o, _, _, e, _⟩ := x; exact Heap.lt_size e
 | dT kvs => obtain ⟨_, _, _, _, o, _, _, e, _⟩ := x; exact Heap.lt_size e
 | set S n => obtain ⟨o, _, _, _, e, _⟩ := x; exact Heap.lt_size e
 | ins C dx fs => obtain ⟨_, _, _, e, _⟩ := x; exact Heap.lt_size e
 | own y => obtain ⟨_, e⟩ := x; exact Heap.lt_size e
 | xd fs => obtain ⟨_, ⟨_, _, _, e, _⟩, _⟩ := x; exact Heap.lt_size e
 | rng lo hi => obtain ⟨_, _, _, e⟩ := x; exact Heap.lt_size e
 | frz ob u => obtain ⟨e, _⟩ := x; exact Heap.lt_size e
 | tbl ps => exact Heap.lt_size (show h.get? a = some _ from x)
 | met f y => exact Heap.lt_size (show h.get? a = some _ from x)
 | ext φ => obtain ⟨_, ⟨_, e⟩, _⟩ := x; exact Heap.lt_size e
theorem Paired.mapP {α β : Type} {F G : α → β → Prop} : ∀ {l₁ : List α} {l₂ : List β}, Paired F l₁ l₂ → (∀ a b, F a b → G a b) → Paired G l₁ l₂
 | _, _, .nil, _ => .nil
 | _, _, .cons r t, f => .cons (f _ _ r) (Paired.mapP t f)
theorem ObjOk.stay (x : ObjOk P w H h a o) (k : ∀ b u, (b = a ∨ H b = some (.own a)) → h.get? b = some u → h'.get? b = some u)
 (ho : ∀ b, H b = some (.own a) → H' b = some (.own a)) (ht : ∀ b xs, H b = some (.tup xs) → H' b = some (.tup xs)) : ObjOk P w H' h' a o := by
 induction o with
 | lst xs => obtain ⟨z, its, n, r, e⟩ := x; exact ⟨z, its, n, r, k _ _ (.inl rfl) e⟩
 | tup xs => obtain ⟨z, its, r, ob, e, c⟩ := x; exact ⟨z, its, r, ob, k _ _ (.inl rfl) e, c⟩
 | dK kvs => obtain ⟨z, y, vs, r, ob, es, ep, e, c⟩ := x; exact ⟨z, y, vs, r, ob, es, ep, k _ _ (.inl rfl) e, c⟩
 | dT kvs =>
   obtain ⟨z, y, xs, r, ob, es, ep, e, c⟩ := x
   exact ⟨z, y, xs, Paired.mapP r fun p q z => ⟨z.1, ht _ _ z.2.1, z.2.2⟩, ob, es, ep, k _ _ (.inl rfl) e, c⟩
 | set S n => obtain ⟨ob, es, ep, t, e, c⟩ := x; exact ⟨ob, es, ep, t, k _ _ (.inl rfl) e, c⟩
 | ins C dx fs =>
   obtain ⟨d, z, ne, e, mA, ⟨od, es, ep, e2, c⟩, r⟩ := x
   exact ⟨ho _ d, z, ne, k _ _ (.inl rfl) e, mA, ⟨od, es, ep, k _ _ (.inr d) e2, c⟩, r⟩
 | own y => obtain ⟨ob, e⟩ := x; exact ⟨ob, k _ _ (.inl rfl) e⟩
 | xd fs => obtain ⟨mA, ⟨od, es, ep, e, c⟩, r⟩ := x; exact ⟨mA, ⟨od, es, ep, k _ _ (.inl rfl) e, c⟩, r⟩
 | rng lo hi => obtain ⟨t, u, v, e⟩ := x; exact ⟨t, u, v, k _ _ (.inl rfl) e⟩
 | frz ob u ih => obtain ⟨e, q⟩ := x; exact ⟨k _ _ (.inl rfl) e, ih q⟩
 | tbl ps =>
   have e : h.get? a = some { cls := .none, data := .fields ps } := x
   show h'.get? a = some { cls := .none, data := .fields ps }
   exact k a _ (.inl rfl) e
 | met f y =>
   have e : h.get? a = some (PySem.W.methodObj (.ref f) (.ref y)) := x
   show h'.get? a = some (PySem.W.methodObj (.ref f) (.ref y))
   exact k a _ (.inl rfl) e
 | ext φ => obtain ⟨p, ⟨o, e⟩, st⟩ := x; exact ⟨st _ _ p fun o q => k _ _ (.inl rfl) q, ⟨o, k _ _ (.inl rfl) e⟩, st⟩
theorem HOk.lt (x : HOk P w H h) (e : H a = some o) : a < h.objs.size := (x a o e).lt
theorem HOk.fresh (x : HOk P w H h) (e : h.objs.size ≤ a) : H a = none := by
 cases q : H a with
 | none => rfl
 | some u => exact absurd (Nat.lt_of_lt_of_le (x.lt q) e) (Nat.lt_irrefl _)
theorem HOk.kept (x : HOk P w H h) (k : ∀ b u, h.get? b = some u → h'.get? b = some u) : HOk P w H h' := fun a o e =>
 (x a o e).stay (fun b u _ q => k b u q) (fun _ q => q) fun _ _ q => q
theorem HOk.laid (x : HOk P w H h) (k : ∀ b u, h.get? b = some u → h'.get? b = some u) (hp : h.objs.size ≤ a) (new : ObjOk P w (upd H a o) h' a o) : HOk P w (upd H a o) h' := fun b u e => by
 have hn := x.fresh hp
 by_cases hb : b = a
 · subst hb; rw [upd_same] at e; cases e; exact new
 · rw [upd_ne hb] at e
   exact (x b u e).stay (fun c v _ q => k c v q) (fun c q => by rw [upd_ne (ne_of_none q hn)]; exact q) fun c xs q => by rw [upd_ne (ne_of_none q hn)]; exact q
end

noncomputable def Rd (H : Hp) (a : Addr) (u : HO) : Prop := H a = some u ∨ ∃ o, H a = some (.frz o u)
theorem Rd.ok {P : Program} {w : World} {H : Hp} {h : Heap} {a : Addr} {u : HO} (r : Rd H a u) (x : HOk P w H h) : ObjOk P w H h a u := by
 rcases r with r | ⟨o, r⟩
 · exact x a u r
 · obtain ⟨_, q⟩ := x a _ r
   exact q
noncomputable def Mut : Option HO → Prop
 | some (.lst _) => True
 | some (.dK _) => True
 | some (.dT _) => True
 | some (.set _ _) => True
 | some (.ins _ _ _) => True
 | some (.ext _) => True
 | _ => False
section
variable {P : Program} {w : World} {H : Hp} {h h' : Heap} {x e : Addr} {o' : HO}
theorem HOk.write (ok : HOk P w H h) (mu : Mut (H x)) (he : e = x ∨ H e = some (.own x)) (k : ∀ b u, b ≠ e → h.get? b = some u → h'.get? b = some u) (heo : ∃ u, h'.get? e = some u)
 (new : ObjOk P w (upd H x o') h' x o') : HOk P w (upd H x o') h' := fun b u q => by
 have nown : ∀ c y, H c = some (.own y) → c ≠ x := fun c y r z => by subst z; rw [r] at mu; exact mu
 have ntup : ∀ c xs, H c = some (.tup xs) → c ≠ x := fun c xs r z => by subst z; rw [r] at mu; exact mu
 by_cases hb : b = x
 · subst hb; rw [upd_same] at q; cases q; exact new
 · rw [upd_ne hb] at q
   by_cases hbe : b = e
   · have q' : H b = some (.own x) := by
      rcases he with z | z
      · exact absurd (hbe.trans z) hb
      · rw [hbe]; exact z
     rw [q] at q'; cases q'
     obtain ⟨v, hv⟩ := heo
     exact ⟨v, by rw [hbe]; exact hv⟩
   · refine (ok b u q).stay (fun c v hc r => k c v ?_ r) (fun c r => by rw [upd_ne (nown c b r)]; exact r) fun c xs r => by rw [upd_ne (ntup c xs r)]; exact r
     rcases hc with rfl | hc
     · exact hbe
     · rintro rfl
       rcases he with z | z
       · exact nown c b hc z
       · rw [hc] at z; cases z; exact hb rfl
end

structure Un (fs ex : List Addr) (H H' : Hp) (h h' : Heap) : Prop where
 keep : ∀ b o, h.get? b = some o → H b = none → b ∉ fs → b ∉ ex → h'.get? b = some o
 slot : ∀ b o, h.get? b = some o → H b = none → b ∈ fs → b ∉ ex → ∃ sl, h'.get? b = some { o with slots := sl }
 free : ∀ b o, h.get? b = some o → H b = none → b ∉ ex → H' b = none
 there : ∀ b o, h.get? b = some o → b ∉ ex → ∃ o', h'.get? b = some o'
 tups : ∀ b xs, H b = some (.tup xs) → H' b = some (.tup xs)
 frzs : ∀ b o u, H b = some (.frz o u) → H' b = some (.frz o u)
 tbls : ∀ b ps, H b = some (.tbl ps) → ∃ more, H' b = some (.tbl (ps ++ more))
section
variable {fs fs' ex ex' : List Addr} {H H1 H2 : Hp} {h h1 h2 h' : Heap} {a x e : Addr} {o : HO}
theorem Un.any (u : Un fs ex H H1 h h1) {b : Addr} {ob : Obj} (q : h.get? b = some ob) (n : H b = none) (hx : b ∉ ex) : ∃ sl, h1.get? b = some { ob with slots := sl } := by
 by_cases hb : b ∈ fs
 · exact u.slot b ob q n hb hx
 · exact ⟨ob.slots, u.keep b ob q n hb hx⟩
theorem Un.kept (k : ∀ b u, h.get? b = some u → h'.get? b = some u) : Un fs ex H H h h' :=
 ⟨fun b ob q _ _ _ => k b ob q, fun b ob q _ _ _ => ⟨ob.slots, k b ob q⟩, fun _ _ _ n _ => n, fun b ob q _ => ⟨ob, k b ob q⟩, fun _ _ q => q, fun _ _ _ q => q, fun _ ps q => ⟨#[], by rw [q]; simp⟩⟩
theorem Un.refl : Un fs ex H H h h := Un.kept fun _ _ q => q
theorem Un.laid (k : ∀ b u, h.get? b = some u → h'.get? b = some u) (hp : h.objs.size ≤ a) (hn : H a = none) : Un fs ex H (upd H a o) h h' where
 keep := fun b u q _ _ _ => k b u q
 slot := fun b u q _ _ _ => ⟨u.slots, k b u q⟩
 free := fun b u q n _ => by rw [upd_ne (Nat.ne_of_lt (Nat.lt_of_lt_of_le (Heap.lt_size q) hp))]; exact n
 there := fun b u q _ => ⟨u, k b u q⟩
 tups := fun b xs q => by rw [upd_ne (ne_of_none q hn)]; exact q
 frzs := fun b u xs q => by rw [upd_ne (ne_of_none q hn)]; exact q
 tbls := fun b ps q => ⟨#[], by rw [upd_ne (ne_of_none q hn), q]; simp⟩
theorem Un.write (mu : Mut (H x)) (he : e = x ∨ H e = some (.own x)) (k : ∀ b u, b ≠ e → h.get? b = some u → h'.get? b = some u) (heo : ∃ u, h'.get? e = some u) : Un fs ex H (upd H x o) h h' := by
 have hx : ∀ b, H b = none → b ≠ x := fun b n z => by subst z; rw [n] at mu; exact mu
 have hb : ∀ b, H b = none → b ≠ e := fun b n z => by
  subst z
  rcases he with r | r
  · exact hx b n r
  · rw [n] at r; cases r
 have hm : ∀ b u, H b = some u → ¬ Mut (some u) → b ≠ x := fun b u q nm z => by subst z; rw [q] at mu; exact nm mu
 refine ⟨fun b u q n _ _ => k b u (hb b n) q, fun b u q n _ _ => ⟨u.slots, k b u (hb b n) q⟩, fun b u q n _ => by rw [upd_ne (hx b n)]; exact n, fun b u q _ => ?_,
  fun b xs q => by rw [upd_ne (hm b _ q fun z => z)]; exact q, fun b u xs q => by rw [upd_ne (hm b _ q fun z => z)]; exact q, fun b ps q => ⟨#[], by rw [upd_ne (hm b _ q fun z => z), q]; simp⟩⟩
 by_cases hbe : b = e
 · subst hbe; exact heo
 · exact ⟨u, k b u hbe q⟩
end

noncomputable def trk (h : Heap) (H : Hp) : List Addr := (List.range h.objs.size).filter fun a => (H a).isSome
noncomputable def hidT (h : Heap) (H : Hp) : Heap := PySem.W.hideAll h (trk h H)
theorem hidT_size (h : Heap) (H : Hp) : (hidT h H).objs.size = h.objs.size := PySem.W.hideAll_size _ _
theorem hidT_get {h : Heap} {H : Hp} {b : Addr} {o : Obj} (e : h.get? b = some o) (n : H b = none) : (hidT h H).get? b = some o :=
 PySem.W.hideAll_get _ e fun hm => by
  have q : (H b).isSome = true := (List.mem_filter.mp hm).2
  rw [n] at q; simp at q
theorem of_hidT {h : Heap} {H : Hp} {b : Addr} {o : Obj} (e : (hidT h H).get? b = some o) : h.get? b = some o ∧ H b = none := by
 have e' : h.get? b = some o := PySem.W.of_hideAll (trk h H) e
 refine ⟨e', ?_⟩
 cases q : H b with
 | none => rfl
 | some x =>
   have hm : b ∈ trk h H := List.mem_filter.mpr ⟨List.mem_range.mpr (Heap.lt_size e'), by simp [q]⟩
   have z : (hidT h H).get? b = none := PySem.W.hideAll_none (trk h H) hm
   rw [z] at e; cases e

noncomputable def allNews (g h : Heap) (L : Addr) : List (Addr × Obj) := (List.range h.objs.size).filterMap fun a => if a = L ∨ (g.get? a).isSome = true then none else (h.get? a).map fun o => (a, o)
theorem mem_allNews {g h : Heap} {L a : Addr} {o : Obj} (h1 : a ≠ L) (h2 : g.get? a = none) (h3 : h.get? a = some o) : (a, o) ∈ allNews g h L :=
 List.mem_filterMap.mpr ⟨a, List.mem_range.mpr (Heap.lt_size h3), by simp [h1, h2, h3]⟩
theorem of_mem_allNews {g h : Heap} {L : Addr} {p : Addr × Obj} (hp : p ∈ allNews g h L) : p.1 ≠ L ∧ g.get? p.1 = none ∧ h.get? p.1 = some p.2 := by
 obtain ⟨b, _, e⟩ := List.mem_filterMap.mp hp
 split at e
 · cases e
 · rename_i hn
   cases q : h.get? b with
   | none => rw [q] at e; simp at e
   | some u =>
     rw [q] at e
     simp only [Option.map_some, Option.some.injEq] at e
     subst e
     refine ⟨fun z => hn (.inl z), ?_, q⟩
     show g.get? b = none
     cases r : g.get? b with
     | none => rfl
     | some v => exact (hn (.inr (by simp [r]))).elim
theorem news_all {g h : Heap} {L : Addr} : News g L h (allNews g h L) := fun p hp => let ⟨a, b, c⟩ := of_mem_allNews hp; ⟨c, a, b⟩
end L2

namespace L2
open PySem PySem.Spec PyProof.Rows

structure Mod (K : PySem.W.Frag) (mg : Str → Option Value) (base : Heap) : Prop where
 kin : K.In base
 glob : base.Ns mainGlobals mg
 blt : ∃ mb, base.Ns builtinsNs mb ∧ ∀ x : Str, x ≠ "__name__" → mb x = bootBuiltins x
 nolimit : base.NoLimit

set_option genInjectivity false in
set_option genInjectivity false in
structure Cx where
 prog : Program
 w : World
 K : PySem.W.Frag
 mg : Str → Option Value
 base : Heap
 A : Around
 N : List Str
 s₀ : Shared
 H₀ : Hp
 env : Env
 outer : List Env
 stack : List Env
 ex : List Addr
 fn : Str → Bool
 calm : Bool
 pn : List (Addr × Obj)
 xe : Value → Shared → Prop
noncomputable def frs (l : List Env) : List Addr := l.filterMap (·.frame)
noncomputable abbrev Cx.fs (X : Cx) : List Addr := frs X.outer

noncomputable def Vis (sc : Scope) (x : Str) : Prop := sc.names.lookup x = some .local ∨ sc.names.lookup x = some .cell ∨ sc.names.lookup x = some .free
noncomputable def Loc (sc : Scope) (x : Str) : Prop := sc.names.lookup x = some .local ∨ sc.names.lookup x = some .cell
noncomputable def Look (env : Env) (h : Heap) (m : Str → Option Value) (x : Str) (u : Value) : Prop :=
 (env.kindOf x = some .local ∧ m x = some u) ∨ ((env.kindOf x = some .cell ∨ env.kindOf x = some .free) ∧ ∃ c, env.cells.lookup x = some c ∧ h.IsCell c (some u))

set_option genInjectivity false in
structure Cx.Ok (X : Cx) : Prop where
 mod : Mod X.K X.mg X.base
 kind : X.env.scope.kind = .function
 glob : X.env.globals = mainGlobals
 blt : X.env.builtins = builtinsNs
 above : X.s₀.heap.objs.size ≤ X.env.locals
 inj : ∀ x y c, X.env.cells.lookup x = some c → X.env.cells.lookup y = some c → x = y
 has : ∀ x, (X.env.kindOf x = some .cell ∨ X.env.kindOf x = some .free) → ∃ c, X.env.cells.lookup x = some c
 cab : ∀ x c, X.fn x = true → X.env.cells.lookup x = some c → X.s₀.heap.objs.size ≤ c
 hd : X.calm = true → X.A.handled = none
 frames : X.A.frames = some X.stack
 stk : X.stack = X.outer ∨ (X.stack = X.env :: X.outer ∧ X.env.frame = some X.env.locals)
 exf : ∀ b ∈ X.ex, b ≠ X.env.locals ∧ ∀ x c, X.env.cells.lookup x = some c → c ≠ b
 bs : ∀ b o, X.base.get? b = some o → X.s₀.heap.get? b = some o ∧ X.H₀ b = none
 bsz : X.base.objs.size ≤ X.s₀.heap.objs.size
 noex : ∀ b o, X.base.get? b = some o → b ∉ X.ex
 exfs : ∀ b ∈ X.ex, b ∉ X.fs
 funs : X.s₀.heap.FunFrames X.base X.outer
 frf : ∀ b ∈ X.fs, X.H₀ b = none

set_option genInjectivity false in
structure Inv (X : Cx) (pins : List (Addr × Obj)) (σ : List (Option V)) (H : Hp) (s : Shared) : Prop where
 ok : X.Ok
 os : s.os = X.s₀.os
 bare : AllBare s.gens
 base : Un X.fs X.ex X.H₀ H X.s₀.heap s.heap
 loc : ∃ m, s.heap.Ns X.env.locals m ∧ ∀ (i : Nat) (x : Str) (v : V), X.N[i]? = some x → σ[i]? = some (some v) → Vis X.env.scope x → ∃ u, RelV v u ∧ Look X.env s.heap m x u
 cell : ∀ x c, X.env.cells.lookup x = some c → ∃ v, s.heap.IsCell c v
 free : H X.env.locals = none
 freeC : ∀ x c, X.env.cells.lookup x = some c → H c = none
 pin : ∀ p ∈ X.pn ++ pins, s.heap.get? p.1 = some p.2 ∧ H p.1 = none ∧ p.1 ≠ X.env.locals ∧ p.1 ∉ X.fs ∧ ∀ v, p.2.data ≠ .cell v
 hok : HOk X.prog X.w H s.heap
 len : σ.length = X.N.length

section
variable {X : Cx} {pins : List (Addr × Obj)} {σ : List (Option V)} {H H' : Hp} {s : Shared} {h' : Heap}

theorem Cx.Ok.nofr (ok : X.Ok) {b : Addr} {o : Obj} (e : X.base.get? b = some o) : b ∉ X.fs := fun hb => by
 have := (ok.funs.mem hb).1
 rw [e] at this; cases this
theorem Inv.bs (I : Inv X pins σ H s) : ∀ b o, X.base.get? b = some o → s.heap.get? b = some o ∧ H b = none := fun b o e =>
 ⟨I.base.keep b o (I.ok.bs b o e).1 (I.ok.bs b o e).2 (I.ok.nofr e) (I.ok.noex b o e), I.base.free b o (I.ok.bs b o e).1 (I.ok.bs b o e).2 (I.ok.noex b o e)⟩
theorem Inv.bk (I : Inv X pins σ H s) : ∀ b o, X.base.get? b = some o → s.heap.get? b = some o := fun b o e => (I.bs b o e).1
theorem Inv.mod (I : Inv X pins σ H s) : Mod X.K X.mg X.base := I.ok.mod
theorem Inv.kIn (I : Inv X pins σ H s) : X.K.In s.heap := I.ok.mod.kin.keeps I.bk
theorem Inv.lt (I : Inv X pins σ H s) : X.env.locals < s.heap.objs.size := let ⟨_, hn, _⟩ := I.loc; hn.lt
theorem Inv.sz (I : Inv X pins σ H s) : X.s₀.heap.objs.size ≤ s.heap.objs.size := Nat.le_trans I.ok.above (Nat.le_of_lt I.lt)
theorem Inv.nofs (I : Inv X pins σ H s) {a : Addr} (h : s.heap.objs.size ≤ a) : a ∉ X.fs := fun hb => by
 obtain ⟨_, o, ho, _⟩ := I.ok.funs.mem hb
 exact absurd (Nat.lt_of_lt_of_le (Heap.lt_size ho) (Nat.le_trans I.sz h)) (Nat.lt_irrefl _)
theorem Inv.cne (I : Inv X pins σ H s) : ∀ x c, X.env.cells.lookup x = some c → c ≠ X.env.locals := fun x c e z => by
 obtain ⟨v, o, ho, hd⟩ := I.cell x c e
 obtain ⟨m, ⟨o', es, ep, ho', hd', _⟩, _⟩ := I.loc
 rw [z, ho'] at ho; cases ho; rw [hd'] at hd; cases hd
theorem Inv.funs (I : Inv X pins σ H s) : s.heap.FunFrames X.base X.outer := by
 have all : ∀ (l : List Env), (∀ b ∈ frs l, b ∈ X.fs) → X.s₀.heap.FunFrames X.base l → s.heap.FunFrames X.base l := by
  intro l
  induction l with
  | nil => intro _ _; trivial
  | cons env r ih =>
    intro hs hl
    obtain ⟨hk, ⟨L, o, hf, hn, ho, hd⟩, hr⟩ := hl
    have hL : L ∈ X.fs := hs L (by unfold frs; rw [List.filterMap_cons, hf]; exact List.mem_cons_self)
    obtain ⟨sl, e⟩ := I.base.slot L o ho (I.ok.frf L hL) hL fun z => I.ok.exfs L z hL
    exact ⟨hk, ⟨L, _, hf, hn, e, hd⟩, ih (fun b hb => hs b (by unfold frs; rw [List.filterMap_cons, hf]; exact List.mem_cons_of_mem _ hb)) hr⟩
 exact all X.outer (fun _ hb => hb) I.ok.funs

theorem Inv.stack (I : Inv X pins σ H s) : s.heap.FunFrames X.base X.stack := by
 rcases I.ok.stk with e | ⟨e, hf⟩
 · rw [e]; exact I.funs
 · rw [e]
   obtain ⟨m, hn, _⟩ := I.loc
   refine .cons (by rw [I.ok.kind]; decide) hf hn ?_ I.funs
   exact Heap.get?_none_of_le (Nat.le_trans I.ok.bsz I.ok.above)
theorem Inv.stkSub (I : Inv X pins σ H s) : ∀ b ∈ frs X.stack, b ∈ X.env.locals :: X.fs := fun b hb => by
 rcases I.ok.stk with e | ⟨e, hf⟩
 · rw [e] at hb; exact List.mem_cons_of_mem _ hb
 · rw [e] at hb
   unfold frs at hb
   rw [List.filterMap_cons, hf] at hb
   exact hb
theorem Inv.stkFree (I : Inv X pins σ H s) : ∀ b ∈ frs X.stack, H b = none := fun b hb => by
 rcases List.mem_cons.mp (I.stkSub b hb) with e | hb
 · rw [e]; exact I.free
 · obtain ⟨_, o, ho, _⟩ := I.ok.funs.mem hb
   exact I.base.free b o ho (I.ok.frf b hb) fun z => I.ok.exfs b z hb

theorem Inv.step {g' : Array GenState} {t' : Nat} {d' : Drawn} {ch : List Addr} (I : Inv X pins σ H s)
 (hch : ∀ b ∈ ch, (b ∈ X.ex ∨ X.s₀.heap.objs.size ≤ b) ∧ b ≠ X.env.locals ∧ (∀ x c, X.env.cells.lookup x = some c → c ≠ b) ∧ ∀ p ∈ X.pn ++ pins, p.1 ≠ b)
 (keep : ∀ b o, b ≠ X.env.locals → b ∉ X.fs → b ∉ ch → s.heap.get? b = some o → H b = none → h'.get? b = some o)
 (slot : ∀ b o, b ≠ X.env.locals → b ∈ X.fs → b ∉ ch → s.heap.get? b = some o → H b = none → ∃ sl, h'.get? b = some { o with slots := sl }) (free : ∀ b o, b ∉ ch → s.heap.get? b = some o → H b = none → H' b = none)
 (there : ∀ b o, b ∉ ch → s.heap.get? b = some o → ∃ o', h'.get? b = some o')
 (tups : ∀ b xs, H b = some (.tup xs) → H' b = some (.tup xs)) (frzs : ∀ b o u, H b = some (.frz o u) → H' b = some (.frz o u)) (tbls : ∀ b ps, H b = some (.tbl ps) → ∃ more, H' b = some (.tbl (ps ++ more)))
 (ns : ∀ m, s.heap.Ns X.env.locals m → h'.Ns X.env.locals m) (hok : HOk X.prog X.w H' h') (hg : AllBare g') :
 Inv X pins σ H' { s with heap := h', gens := g', drawn := d', toks := t' } := by
 have neL : ∀ b o, X.s₀.heap.get? b = some o → b ≠ X.env.locals := fun b o e => Nat.ne_of_lt (Nat.lt_of_lt_of_le (Heap.lt_size e) I.ok.above)
 have neC : ∀ b o, X.s₀.heap.get? b = some o → b ∉ X.ex → b ∉ ch := fun b o e hx hb => by
  rcases (hch b hb).1 with z | z
  · exact hx z
  · exact absurd (Nat.lt_of_lt_of_le (Heap.lt_size e) z) (Nat.lt_irrefl _)
 have cellK : ∀ x c, X.env.cells.lookup x = some c → ∀ v, s.heap.IsCell c v → h'.IsCell c v := fun x c e v ⟨o, ho, hd⟩ => by
  have nch : c ∉ ch := fun z => (hch c z).2.2.1 x c e rfl
  by_cases hc : c ∈ X.fs
  · obtain ⟨sl, q⟩ := slot c o (I.cne x c e) hc nch ho (I.freeC x c e)
    exact ⟨_, q, hd⟩
  · exact ⟨o, keep c o (I.cne x c e) hc nch ho (I.freeC x c e), hd⟩
 refine ⟨I.ok, I.os, hg, ⟨fun b o e n hb hx => ?_, fun b o e n hb hx => ?_, fun b o e n hx => ?_, fun b o e hx => ?_, fun b xs e => tups b xs (I.base.tups b xs e), fun b o xs e => frzs b o xs (I.base.frzs b o xs e), fun b ps e => ?_⟩, ?_, fun x c e => ?_, ?_, fun x c e => ?_, fun p hp => ?_, hok, I.len⟩
 · exact keep b o (neL b o e) hb (neC b o e hx) (I.base.keep b o e n hb hx) (I.base.free b o e n hx)
 · obtain ⟨sl, e1⟩ := I.base.slot b o e n hb hx
   obtain ⟨sl', e2⟩ := slot b _ (neL b o e) hb (neC b o e hx) e1 (I.base.free b o e n hx)
   exact ⟨sl', e2⟩
 · obtain ⟨o', e1⟩ := I.base.there b o e hx
   exact free b o' (neC b o e hx) e1 (I.base.free b o e n hx)
 · obtain ⟨o', e1⟩ := I.base.there b o e hx
   exact there b o' (neC b o e hx) e1
 · obtain ⟨m1, e1⟩ := I.base.tbls b ps e
   obtain ⟨m2, e2⟩ := tbls b _ e1
   exact ⟨m1 ++ m2, by rw [e2, Array.append_assoc]⟩
 · obtain ⟨m, hn, hl⟩ := I.loc
   refine ⟨m, ns m hn, fun i x v e1 e2 e3 => ?_⟩
   obtain ⟨u, r, l⟩ := hl i x v e1 e2 e3
   refine ⟨u, r, ?_⟩
   rcases l with l | ⟨k, c, e, z⟩
   · exact .inl l
   · exact .inr ⟨k, c, e, cellK x c e _ z⟩
 · obtain ⟨v, z⟩ := I.cell x c e
   exact ⟨v, cellK x c e v z⟩
 · obtain ⟨m, ⟨o, _, _, ho, _⟩, _⟩ := I.loc
   exact free _ o (fun z => (hch _ z).2.1 rfl) ho I.free
 · obtain ⟨v, o, ho, hd⟩ := I.cell x c e
   exact free c o (fun z => (hch c z).2.2.1 x c e rfl) ho (I.freeC x c e)
 · obtain ⟨e, n, ne, nf, d⟩ := I.pin p hp
   have nch : p.1 ∉ ch := fun z => (hch p.1 z).2.2.2 p hp rfl
   exact ⟨keep p.1 p.2 ne nf nch e n, free p.1 p.2 nch e n, ne, nf, d⟩
theorem Inv.un {t' : Nat} (I : Inv X pins σ H s) (u : Un X.fs [] H H' s.heap h') (hok : HOk X.prog X.w H' h') : Inv X pins σ H' { s with heap := h', toks := t' } := by
 obtain ⟨m, ⟨o, es, ep, ho, r⟩, _⟩ := id I.loc
 obtain ⟨sl, hL⟩ := u.any ho I.free (by simp)
 exact I.step (g' := s.gens) (d' := s.drawn) (ch := []) (fun _ z => nomatch z) (fun b o _ hb _ e n => u.keep b o e n hb (by simp)) (fun b o _ hb _ e n => u.slot b o e n hb (by simp)) (fun b o _ e n => u.free b o e n (by simp)) (fun b o _ e => u.there b o e (by simp)) u.tups u.frzs u.tbls (fun m' hm => by
  obtain ⟨o', es', ep', ho', r'⟩ := hm
  rw [ho] at ho'; cases ho'
  exact ⟨_, es', ep', hL, r'⟩) hok I.bare
theorem Inv.call {g' : Array GenState} {t' : Nat} {d' : Drawn} {ch : List Addr} (I : Inv X pins σ H s) (u : Un (frs X.stack) ch H H' s.heap h') (hok : HOk X.prog X.w H' h') (hg : AllBare g')
 (hch : ∀ b ∈ ch, (b ∈ X.ex ∨ X.s₀.heap.objs.size ≤ b) ∧ b ≠ X.env.locals ∧ (∀ x c, X.env.cells.lookup x = some c → c ≠ b) ∧ ∀ p ∈ X.pn ++ pins, p.1 ≠ b) :
 Inv X pins σ H' { s with heap := h', gens := g', drawn := d', toks := t' } := by
 obtain ⟨m, ⟨o, es, ep, ho, r⟩, _⟩ := id I.loc
 obtain ⟨sl, hL⟩ := u.any ho I.free fun z => (hch _ z).2.1 rfl
 exact I.step (ch := ch) hch (fun b o hL hb hc e n => u.keep b o e n (fun z => (List.mem_cons.mp (I.stkSub b z)).elim hL hb) hc) (fun b o _ _ hc e n => u.any e n hc) (fun b o hc e n => u.free b o e n hc) (fun b o hc e => u.there b o e hc) u.tups u.frzs u.tbls (fun m' hm => by
  obtain ⟨o', es', ep', ho', r'⟩ := hm
  rw [ho] at ho'; cases ho'
  exact ⟨_, es', ep', hL, r'⟩) hok hg
theorem Inv.turned {t' : Nat} {it : Addr} (I : Inv X pins σ H s) (k : ∀ b o, b ≠ it → s.heap.get? b = some o → h'.get? b = some o) (hn : H it = none) (hL : it ≠ X.env.locals)
 (h1 : it ∈ X.ex ∨ X.s₀.heap.objs.size ≤ it) (h2 : ∀ x c, X.env.cells.lookup x = some c → c ≠ it) (h3 : ∀ p ∈ X.pn ++ pins, p.1 ≠ it) : Inv X pins σ H { s with heap := h', toks := t' } := by
 have nit : ∀ b u, H b = some u → b ≠ it := fun b u e z => by rw [z, hn] at e; cases e
 refine I.step (g' := s.gens) (d' := s.drawn) (ch := [it]) (fun b hb => ?_) (fun b o _ _ hc e _ => k b o (fun z => hc (by simp [z])) e) (fun b o _ _ hc e _ => ⟨o.slots, k b o (fun z => hc (by simp [z])) e⟩) (fun _ _ _ _ n => n)
  (fun b o hc e => ⟨o, k b o (fun z => hc (by simp [z])) e⟩) (fun _ _ e => e) (fun _ _ _ e => e) (fun b ps e => ⟨#[], by rw [e]; simp⟩) (fun m hm => ?_) (fun b u e => ?_) I.bare
 · have e : b = it := by simpa using hb
   subst e
   exact ⟨h1, hL, h2, h3⟩
 · obtain ⟨o, es, ep, ho, r⟩ := hm
   exact ⟨o, es, ep, k _ o (Ne.symm hL) ho, r⟩
 · refine (I.hok b u e).stay (fun c v hc q => k c v ?_ q) (fun _ q => q) fun _ _ q => q
   rcases hc with z | z
   · rw [z]; exact nit b u e
   · exact nit c _ z
theorem Inv.tok (I : Inv X pins σ H s) (t : Nat) : Inv X pins σ H { s with toks := t } := I.un (h' := s.heap) (t' := t) Un.refl I.hok
theorem Inv.kept {t' : Nat} (I : Inv X pins σ H s) (k : ∀ b u, s.heap.get? b = some u → h'.get? b = some u) : Inv X pins σ H { s with heap := h', toks := t' } := I.un (Un.kept k) (I.hok.kept k)
theorem Inv.laid {a : Addr} {o : HO} {t' : Nat} (I : Inv X pins σ H s) (k : ∀ b u, s.heap.get? b = some u → h'.get? b = some u) (hp : s.heap.objs.size ≤ a) (new : ObjOk X.prog X.w (upd H a o) h' a o) :
 Inv X pins σ (upd H a o) { s with heap := h', toks := t' } := I.un (Un.laid k hp (I.hok.fresh hp)) (I.hok.laid k hp new)
theorem Inv.write {x e : Addr} {o : HO} {t' : Nat} (I : Inv X pins σ H s) (mu : Mut (H x)) (he : e = x ∨ H e = some (.own x)) (k : ∀ b u, b ≠ e → s.heap.get? b = some u → h'.get? b = some u) (heo : ∃ u, h'.get? e = some u)
 (new : ObjOk X.prog X.w (upd H x o) h' x o) : Inv X pins σ (upd H x o) { s with heap := h', toks := t' } := I.un (Un.write mu he k heo) (I.hok.write mu he k heo new)
theorem Inv.weak {σ' : List (Option V)} (I : Inv X pins σ H s) (hl : σ'.length = σ.length) (w : ∀ (i : Nat) v, σ'[i]? = some (some v) → σ[i]? = some (some v)) : Inv X pins σ' H s :=
 ⟨I.ok, I.os, I.bare, I.base, let ⟨m, hn, hl'⟩ := I.loc; ⟨m, hn, fun i x v e1 e2 e3 => hl' i x v e1 (w i v e2) e3⟩, I.cell, I.free, I.freeC, I.pin, I.hok, hl.trans I.len⟩
theorem Inv.pins_of {pins' : List (Addr × Obj)} (I : Inv X pins σ H s) (h : ∀ p ∈ pins', s.heap.get? p.1 = some p.2 ∧ H p.1 = none ∧ p.1 ≠ X.env.locals ∧ p.1 ∉ X.fs ∧ ∀ v, p.2.data ≠ .cell v) : Inv X pins' σ H s :=
 ⟨I.ok, I.os, I.bare, I.base, I.loc, I.cell, I.free, I.freeC, fun p hp => (List.mem_append.mp hp).elim (fun z => I.pin p (List.mem_append_left _ z)) (h p), I.hok, I.len⟩

theorem nodup_ix {N : List Str} (hN : N.Nodup) {i j : Nat} {x : Str} (a : N[i]? = some x) (b : N[j]? = some x) : i = j := by
 obtain ⟨h1, e1⟩ := List.getElem?_eq_some_iff.mp a
 obtain ⟨h2, e2⟩ := List.getElem?_eq_some_iff.mp b
 exact (List.getElem_inj hN).mp (e1.trans e2.symm)

theorem store_ok2 {M : Model} {A : Around} {E : Value → Shared → Prop} {i : Nat} {x : Str} {v : V} {u : Value} {Q : Unit → Shared → Prop} (I : Inv X pins σ H s) (hN : X.N.Nodup) (hi : X.N[i]? = some x) (hx : Loc X.env.scope x) (r : RelV v u)
 (h : ∀ s', Inv X pins (σ.set i (some v)) H s' → (∃ a, Heap.SameBut a s.heap s'.heap ∧ (a = X.env.locals ∨ X.env.cells.lookup x = some a)) → Q () s') (hf : X.fn x = true ∨ X.env.scope.names.lookup x = some .local := by first | exact .inl rfl | exact .inr rfl | assumption) : wpAny M A (storeName X.env x u) Q E s := by
 obtain ⟨m, hn, hl⟩ := id I.loc
 have hcls : (X.env.scope.kind == .class || (X.env.scope.kind == .module && X.env.locals != X.env.globals)) = false := by rw [I.ok.kind]; rfl
 have hiσ : i < σ.length := by rw [I.len]; exact (List.getElem?_eq_some_iff.mp hi).1
 have cne := I.cne
 have tracked : ∀ {a : Addr} {h' : Heap}, (∃ o, s.heap.get? a = some o ∧ H a = none) → Heap.SameBut a s.heap h' → HOk X.prog X.w H h' := fun {a h'} ha hs b ob e => by
  obtain ⟨_, _, hfree⟩ := ha
  refine (I.hok b ob e).stay (fun c w' hc q => (hs.2 c ?_).trans q) (fun _ q => q) fun _ _ q => q
  rintro rfl
  rcases hc with rfl | hc
  · rw [hfree] at e; cases e
  · rw [hfree] at hc; cases hc
 rcases hx with hk | hk
 · refine wpAny_storeName_local hk hn (fun h' hn' hs => ?_) hcls
   obtain ⟨oL, _, _, hoL, _⟩ := id hn
   refine h _ ⟨I.ok, I.os, I.bare, ⟨fun b o e n hb hx => ?_, fun b o e n hb hx => ?_, I.base.free, fun b o e hx => ?_, I.base.tups, I.base.frzs, I.base.tbls⟩, ⟨_, hn', fun j y v' e1 e2 e3 => ?_⟩, fun y c e => ?_, I.free, I.freeC, fun p hp => ?_, tracked ⟨oL, hoL, I.free⟩ hs, by simpa using I.len⟩ ⟨_, hs, .inl rfl⟩
   · exact (hs.2 b (Nat.ne_of_lt (Nat.lt_of_lt_of_le (Heap.lt_size e) I.ok.above))).trans (I.base.keep b o e n hb hx)
   · obtain ⟨sl, e1⟩ := I.base.slot b o e n hb hx
     exact ⟨sl, (hs.2 b (Nat.ne_of_lt (Nat.lt_of_lt_of_le (Heap.lt_size e) I.ok.above))).trans e1⟩
   · obtain ⟨o', e1⟩ := I.base.there b o e hx
     exact ⟨o', (hs.2 b (Nat.ne_of_lt (Nat.lt_of_lt_of_le (Heap.lt_size e) I.ok.above))).trans e1⟩
   · by_cases hj : j = i
     · subst hj
       rw [hi] at e1; cases e1
       rw [List.getElem?_set_self hiσ] at e2
       cases e2
       exact ⟨u, r, .inl ⟨hk, by simp⟩⟩
     · rw [List.getElem?_set_ne (Ne.symm hj)] at e2
       obtain ⟨u', r', q⟩ := hl j y v' e1 e2 e3
       refine ⟨u', r', ?_⟩
       rcases q with ⟨k, e⟩ | ⟨k, c, e, z⟩
       · refine .inl ⟨k, ?_⟩
         have : y ≠ x := fun e => hj (nodup_ix hN e1 (e ▸ hi))
         simp [this, e]
       · exact .inr ⟨k, c, e, z.sameBut hs (cne y c e)⟩
   · obtain ⟨w', z⟩ := I.cell y c e
     exact ⟨w', z.sameBut hs (cne y c e)⟩
   · obtain ⟨e, n, ne, nf, d⟩ := I.pin p hp
     exact ⟨(hs.2 p.1 ne).trans e, n, ne, nf, d⟩
 · have hfn : X.fn x = true := by
    rcases hf with z | z
    · exact z
    · rw [z] at hk; cases hk
   obtain ⟨c, hc⟩ := I.ok.has x (.inl hk)
   obtain ⟨w', z⟩ := I.cell x c hc
   refine wpAny_storeName_cell I.ok.kind hk hc z (fun h' hc' hs => ?_)
   obtain ⟨oc, hoc, hocd⟩ := id z
   refine h { s with heap := h' } ⟨I.ok, I.os, I.bare, ⟨fun b o e n hb hx => ?_, fun b o e n hb hx => ?_, I.base.free, fun b o e hx => ?_, I.base.tups, I.base.frzs, I.base.tbls⟩, ⟨m, hn.sameBut hs (Ne.symm (cne x c hc)), fun j y v' e1 e2 e3 => ?_⟩, fun y c' e => ?_, I.free, I.freeC, fun p hp => ?_, tracked ⟨oc, hoc, I.freeC x c hc⟩ hs, by simpa using I.len⟩ ⟨c, hs, .inr hc⟩
   · exact (hs.2 b (Nat.ne_of_lt (Nat.lt_of_lt_of_le (Heap.lt_size e) (I.ok.cab x c hfn hc)))).trans (I.base.keep b o e n hb hx)
   · obtain ⟨sl, e1⟩ := I.base.slot b o e n hb hx
     exact ⟨sl, (hs.2 b (Nat.ne_of_lt (Nat.lt_of_lt_of_le (Heap.lt_size e) (I.ok.cab x c hfn hc)))).trans e1⟩
   · obtain ⟨o', e1⟩ := I.base.there b o e hx
     exact ⟨o', (hs.2 b (Nat.ne_of_lt (Nat.lt_of_lt_of_le (Heap.lt_size e) (I.ok.cab x c hfn hc)))).trans e1⟩
   · by_cases hj : j = i
     · subst hj
       rw [hi] at e1; cases e1
       rw [List.getElem?_set_self hiσ] at e2
       cases e2
       exact ⟨u, r, .inr ⟨.inl hk, c, hc, hc'⟩⟩
     · rw [List.getElem?_set_ne (Ne.symm hj)] at e2
       obtain ⟨u', r', q⟩ := hl j y v' e1 e2 e3
       refine ⟨u', r', ?_⟩
       rcases q with q | ⟨k, c', e, z'⟩
       · exact .inl q
       · refine .inr ⟨k, c', e, z'.sameBut hs ?_⟩
         rintro rfl
         exact hj (nodup_ix hN e1 (I.ok.inj _ _ _ e hc ▸ hi))
   · by_cases hcc : c' = c
     · subst hcc; exact ⟨_, hc'⟩
     · obtain ⟨w2, z2⟩ := I.cell y c' e
       exact ⟨w2, z2.sameBut hs hcc⟩
   · obtain ⟨e, n, ne, nf, d⟩ := I.pin p hp
     refine ⟨(hs.2 p.1 ?_).trans e, n, ne, nf, d⟩
     intro q
     rw [q, hoc] at e
     have q' : oc = p.2 := Option.some.inj e
     exact d w' (by rw [← q']; exact hocd)
theorem store_ok {M : Model} {A : Around} {E : Value → Shared → Prop} {i : Nat} {x : Str} {v : V} {u : Value} {Q : Unit → Shared → Prop} (I : Inv X pins σ H s) (hN : X.N.Nodup) (hi : X.N[i]? = some x) (hx : Loc X.env.scope x) (r : RelV v u)
 (h : ∀ s', Inv X pins (σ.set i (some v)) H s' → Q () s') (hf : X.fn x = true ∨ X.env.scope.names.lookup x = some .local := by first | exact .inl rfl | exact .inr rfl | assumption) : wpAny M A (storeName X.env x u) Q E s :=
 store_ok2 I hN hi hx r (fun s' I' _ => h s' I') hf
theorem Inv.call' {s' : Shared} {ch : List Addr} (I : Inv X pins σ H s) (ho : s'.os = s.os) (u : Un (frs X.stack) ch H H' s.heap s'.heap) (hok : HOk X.prog X.w H' s'.heap) (hg : AllBare s'.gens)
 (hch : ∀ b ∈ ch, (b ∈ X.ex ∨ X.s₀.heap.objs.size ≤ b) ∧ b ≠ X.env.locals ∧ (∀ x c, X.env.cells.lookup x = some c → c ≠ b) ∧ ∀ p ∈ X.pn ++ pins, p.1 ≠ b) : Inv X pins σ H' s' := by
 obtain ⟨h', g', d', t', o'⟩ := s'
 have e : o' = s.os := ho
 subst e
 exact I.call (g' := g') (t' := t') (d' := d') u hok hg hch
end

noncomputable abbrev XK := Value → Option Addr → Hp → Prop
noncomputable abbrev St := List (Option V)
noncomputable abbrev VK := V → Hp → Prop
noncomputable abbrev TE := St → Hp → VK → Prop
noncomputable abbrev TT := St → Hp → (Bool → Hp → Prop) → Prop
noncomputable abbrev TA := St → Hp → (List V → Hp → Prop) → Prop
set_option genInjectivity false in
structure Ends where
 nx : St → Hp → Prop
 rt : VK
 bk : St → Hp → Prop := fun _ _ => False
 ct : St → Hp → Prop := fun _ _ => False
noncomputable abbrev TS := Ends → St → Hp → Prop

noncomputable def EP (X : Cx) (pins : List (Addr × Obj)) (σ : St) (Q : VK) (u : Value) (s' : Shared) : Prop := ∃ v H', Inv X pins σ H' s' ∧ RelV v u ∧ Q v H'
noncomputable def TP (X : Cx) (pins : List (Addr × Obj)) (σ : St) (Q : Bool → Hp → Prop) (b : Bool) (s' : Shared) : Prop := ∃ H', Inv X pins σ H' s' ∧ Q b H'
noncomputable def AP (X : Cx) (pins : List (Addr × Obj)) (σ : St) (Q : List V → Hp → Prop) (us : List Value) (s' : Shared) : Prop := ∃ vs H', Inv X pins σ H' s' ∧ Vals vs us ∧ Q vs H'
noncomputable def SP (X : Cx) (pins : List (Addr × Obj)) (D : Ends) (f : Flow) (s' : Shared) : Prop :=
 match f with
 | .next => ∃ σ' H', Inv X pins σ' H' s' ∧ D.nx σ' H'
 | .brk => ∃ σ' H', Inv X pins σ' H' s' ∧ D.bk σ' H'
 | .cont => ∃ σ' H', Inv X pins σ' H' s' ∧ D.ct σ' H'
 | .ret u => ∃ v σ' H', Inv X pins σ' H' s' ∧ RelV v u ∧ D.rt v H'

noncomputable def PE (X : Cx) (e : Expr) (t : TE) : Prop :=
 ∀ (pins : List (Addr × Obj)) (s : Shared) (σ : St) (H : Hp) (Q : VK), Inv X pins σ H s → t σ H Q → wpAny (model X.prog X.w) X.A (eval e X.env) (EP X pins σ Q) X.xe s
noncomputable def PT (X : Cx) (e : Expr) (t : TT) : Prop :=
 ∀ (pins : List (Addr × Obj)) (s : Shared) (σ : St) (H : Hp) (Q : Bool → Hp → Prop), Inv X pins σ H s → t σ H Q → wpAny (model X.prog X.w) X.A (isTrue e X.env (eval e X.env)) (TP X pins σ Q) X.xe s
noncomputable def PW (X : Cx) (e : Expr) (t : TT) : Prop :=
 ∀ (whole : Sem Value) (pins : List (Addr × Obj)) (s : Shared) (σ : St) (H : Hp) (Q : Bool → Hp → Prop), Inv X pins σ H s → t σ H Q → wpAny (model X.prog X.w) X.A (isTrue e X.env whole) (TP X pins σ Q) X.xe s
theorem PW.pt {X : Cx} {e : Expr} {t : TT} (h : PW X e t) : PT X e t := h _
noncomputable def PA (X : Cx) (es : List Expr) (t : TA) : Prop :=
 ∀ (pos : Pos) (pins : List (Addr × Obj)) (s : Shared) (σ : St) (H : Hp) (Q : List V → Hp → Prop), Inv X pins σ H s → t σ H Q → wpAny (model X.prog X.w) X.A (spliced (backTo pos (starEach es X.env))) (AP X pins σ Q) X.xe s
noncomputable def PS (X : Cx) (st : Stmt) (t : TS) : Prop :=
 ∀ (pins : List (Addr × Obj)) (s : Shared) (σ : St) (H : Hp) (D : Ends), Inv X pins σ H s → t D σ H → wpAny (model X.prog X.w) X.A (exec st X.env) (SP X pins D) X.xe s
noncomputable def PSs (X : Cx) (st : List Stmt) (t : TS) : Prop :=
 ∀ (pins : List (Addr × Obj)) (s : Shared) (σ : St) (H : Hp) (D : Ends), Inv X pins σ H s → t D σ H → wpAny (model X.prog X.w) X.A (execs st X.env) (SP X pins D) X.xe s
theorem thn {α : Type} {t : Sem α} {Q Q' : α → Shared → Prop} {M : Model} {A : Around} {E : Value → Shared → Prop} {s : Shared} (h : wpAny M A t Q E s) (hQ : ∀ a s, Q a s → Q' a s) : wpAny M A t Q' E s := wpAny_mono h hQ fun _ _ x => x
end L2

namespace L2
open PySem PySem.Spec PyProof.Rows
section
variable {X : Cx}

noncomputable def tVar (i : Nat) : TE := fun σ H Q => ∃ v, σ[i]? = some (some v) ∧ Q v H
noncomputable def tC (v : V) : TE := fun _ H Q => Q v H
theorem pe_var {i : Nat} {x : Str} {pos : Pos} (hN : X.N[i]? = some x) (hv : Vis X.env.scope x) (hd : (x == ("__debug__" : Str)) = false := by decide) (hcd : (x == ("__classdict__" : Str)) = false := by decide) : PE X (.Name x pos) (tVar i) := by
 intro pins s σ H Q I h
 obtain ⟨v, e, h⟩ := h
 obtain ⟨m, hn, hl⟩ := I.loc
 obtain ⟨u, r, l⟩ := hl i x v hN e hv
 have fin : EP X pins σ Q u s := ⟨v, H, I, r, h⟩
 rcases l with ⟨hk, hm⟩ | ⟨hk, c, hc, hcell⟩
 · exact wpAny_Name (wpAny_loadName_local I.ok.kind hk hn hm fin) hd
 · rcases hk with hk | hk
   · exact wpAny_Name (wpAny_loadName_cell I.ok.kind hk hc hcell fin) hd
   · exact wpAny_Name (wpAny_loadName_free I.ok.kind hk hc hcell fin hcd) hd
theorem pe_int {i j pos} : PE X (.Constant (.int i) j pos) (tC (.int i)) := fun _ _ _ H _ I h => wpAny_Constant_int ⟨.int i, H, I.tok _, ⟨_, rfl⟩, h⟩
theorem pe_bl {b j pos} : PE X (.Constant (.bool b) j pos) (tC (.bl b)) := fun _ _ _ H _ I h => Constant_bool ⟨.bl b, H, I, rfl, h⟩
theorem pe_non {j pos} : PE X (.Constant .none j pos) (tC .non) := fun _ _ _ H _ I h => Constant_none ⟨.non, H, I, rfl, h⟩
theorem pe_str {x j pos} : PE X (.Constant (.str x) j pos) (tC (.str x)) := fun _ _ _ H _ I h => Calls.Constant_str ⟨.str x, H, I.tok _, ⟨_, rfl⟩, h⟩

noncomputable def Gl (X : Cx) (x : Str) : Prop := X.env.kindOf x = some .globalImplicit
theorem ld_glob {E : Value → Shared → Prop} {pins : List (Addr × Obj)} {s : Shared} {σ : St} {H : Hp} {x : Str} {u : Value} {pos : Pos} {Q : Value → Shared → Prop} (I : Inv X pins σ H s) (hg : Gl X x) (hm : X.mg x = some u) (h : Q u s)
 (hd : (x == ("__debug__" : Str)) = false := by decide) : wpAny (model X.prog X.w) X.A (eval (.Name x pos) X.env) Q E s :=
 Calls.Name_function_global I.ok.kind hg (Calls.loadGlobal_global (by rw [I.ok.glob]; exact I.mod.glob.keeps I.bk) hm h) hd
theorem ld_blt {E : Value → Shared → Prop} {pins : List (Addr × Obj)} {s : Shared} {σ : St} {H : Hp} {x : Str} {u : Value} {pos : Pos} {Q : Value → Shared → Prop} (I : Inv X pins σ H s) (hg : Gl X x) (hm : X.mg x = none) (hv : bootBuiltins x = some u) (h : Q u s)
 (hn : x ≠ "__name__" := by decide) (hd : (x == ("__debug__" : Str)) = false := by decide) : wpAny (model X.prog X.w) X.A (eval (.Name x pos) X.env) Q E s := by
 obtain ⟨mb, h1, h2⟩ := I.mod.blt
 exact Calls.Name_function_global I.ok.kind hg (Calls.loadGlobal_builtin (by rw [I.ok.glob]; exact I.mod.glob.keeps I.bk) hm (by rw [I.ok.blt]; exact h1.keeps I.bk) ((h2 x hn).trans hv) h) hd
theorem pe_glob {x : Str} {v : V} {u : Value} {pos : Pos} (hg : Gl X x) (hm : X.mg x = some u) (r : RelV v u) (hd : (x == ("__debug__" : Str)) = false := by decide) : PE X (.Name x pos) (tC v) :=
 fun _ _ _ H _ I h => ld_glob I hg hm ⟨v, H, I, r, h⟩ hd
theorem pe_bltn {x : Str} {v : V} {u : Value} {pos : Pos} (hg : Gl X x) (hm : X.mg x = none) (hv : bootBuiltins x = some u) (r : RelV v u) (hn : x ≠ "__name__" := by decide) (hd : (x == ("__debug__" : Str)) = false := by decide) : PE X (.Name x pos) (tC v) :=
 fun _ _ _ H _ I h => ld_blt I hg hm hv ⟨v, H, I, r, h⟩ hn hd

variable {a b : Expr} {ta tb : TE} {pos : Pos}
noncomputable def tB (t : TE) : TT := fun σ H Q => t σ H fun x H1 => ∃ c, x = .bl c ∧ Q c H1
theorem pt_val {e : Expr} {t : TE} (h : PE X e t) (he : ∀ whole, isTrue e X.env whole = (do let v ← whole; standAt e.pos; holding [v] (truthy v)) := by intro _; rfl) : PT X e (tB t) := by
 intro pins s σ H Q I hw
 refine isTrue_plain (thn (h pins s σ H _ I hw) fun v s1 ⟨x, H1, I1, r1, q1⟩ => ?_) (he _)
 obtain ⟨d, rfl, q⟩ := q1
 cases r1
 exact wpAny_truthy_bool ⟨H1, I1, q⟩

variable {tA tB' : TT} {rest : List Expr}
noncomputable def tAnd (t u : TT) : TT := fun σ H Q => t σ H fun c H1 => if c = true then u σ H1 Q else Q false H1
noncomputable def tOr (t u : TT) : TT := fun σ H Q => t σ H fun c H1 => if c = true then Q true H1 else u σ H1 Q
noncomputable def tNot (t : TT) : TT := fun σ H Q => t σ H fun c H1 => Q (!c) H1
theorem pw_and1 (ha : PT X a tA) : PW X (.BoolOp .And [a] pos) tA := by
 intro wh pins s σ H Q I h
 refine isTrue_and (thn (ha pins s σ H Q I h) fun c s1 e => ?_)
 cases c with
 | true => exact isTrue_and_nil e
 | false => exact e
theorem pw_or1 (ha : PT X a tA) : PW X (.BoolOp .Or [a] pos) tA := by
 intro wh pins s σ H Q I h
 refine isTrue_or (thn (ha pins s σ H Q I h) fun c s1 e => ?_)
 cases c with
 | false => exact isTrue_or_nil e
 | true => exact e
theorem pw_and (ha : PT X a tA) (hb : PW X (.BoolOp .And (b :: rest) pos) tB') : PW X (.BoolOp .And (a :: b :: rest) pos) (tAnd tA tB') := by
 intro wh pins s σ H Q I h
 refine isTrue_and (thn (ha pins s σ H _ I h) fun c s1 ⟨H1, I1, q1⟩ => ?_)
 cases c with
 | true => exact hb wh pins s1 σ H1 Q I1 q1
 | false => exact ⟨H1, I1, q1⟩
theorem pw_or (ha : PT X a tA) (hb : PW X (.BoolOp .Or (b :: rest) pos) tB') : PW X (.BoolOp .Or (a :: b :: rest) pos) (tOr tA tB') := by
 intro wh pins s σ H Q I h
 refine isTrue_or (thn (ha pins s σ H _ I h) fun c s1 ⟨H1, I1, q1⟩ => ?_)
 cases c with
 | true => exact ⟨H1, I1, q1⟩
 | false => exact hb wh pins s1 σ H1 Q I1 q1
theorem pt_not (ha : PT X a tA) : PT X (.UnaryOp .Not a pos) (tNot tA) := by
 intro pins s σ H Q I h
 exact isTrue_not (ha pins s σ H (fun c H1 => Q (!c) H1) I h)
noncomputable def tIf (t : TT) (ta tb : TE) : TE := fun σ H Q => t σ H fun c H1 => if c = true then ta σ H1 Q else tb σ H1 Q
theorem pe_ifExp {c : Expr} (hc : PT X c tA) (ha : PE X a ta) (hb : PE X b tb) : PE X (.IfExp c a b pos) (tIf tA ta tb) := by
 intro pins s σ H Q I h
 refine wpAny_IfExp (thn (hc pins s σ H _ I h) fun d s1 ⟨H1, I1, q1⟩ => ?_)
 cases d with
 | true => exact ha pins s1 σ H1 Q I1 q1
 | false => exact hb pins s1 σ H1 Q I1 q1
end
end L2

namespace L2
open PySem PySem.Spec PyProof.Rows

noncomputable def SqL (K : PySem.W.Frag) (H : Hp) (a : Addr) (xs : List V) : Prop :=
 Rd H a (.lst xs) ∨
  ∃ (o : Obj) (its : Array Value) (n : Nat), K.lookup a = some o ∧ o.cls = .type "list" ∧ o.dict = none ∧ o.data = .seq its n ∧ its.size ≤ sizeLine ∧ Vals xs its.toList
noncomputable def SqT (K : PySem.W.Frag) (H : Hp) (a : Addr) (xs : List V) : Prop :=
 Rd H a (.tup xs) ∨
  ∃ (o : Obj) (its : Array Value) (n : Nat), K.lookup a = some o ∧ o.cls = .type "tuple" ∧ o.data = .seq its n ∧ its.size ≤ sizeLine ∧ Vals xs its.toList
noncomputable def absV : Value → Option V
 | .none => some .non
 | .bool b => some (.bl b)
 | .int i _ => some (.int i)
 | .str x _ => some (.str x)
 | .bytes b _ => some (.byt b)
 | .float b _ => some (.flt b)
 | .ref a => some (.ref a)
 | .type n => some (.ty n)
 | _ => none
theorem RelV.abs {x : V} {u : Value} (r : RelV x u) : absV u = some x := by
 cases x with
 | non => cases r; rfl
 | bl _ => cases r; rfl
 | int _ => obtain ⟨t, rfl⟩ := r; rfl
 | str _ => obtain ⟨t, rfl⟩ := r; rfl
 | byt _ => obtain ⟨t, rfl⟩ := r; rfl
 | flt _ => obtain ⟨t, rfl⟩ := r; rfl
 | ref _ => cases r; rfl
 | ty _ => cases r; rfl
theorem RelV.inj {x y : V} {u : Value} (r : RelV x u) (q : RelV y u) : x = y := Option.some.inj (r.abs.symm.trans q.abs)
theorem Vals.inj : ∀ {xs ys : List V} {us : List Value}, Vals xs us → Vals ys us → xs = ys
 | _, _, _, .nil, .nil => rfl
 | _, _, _, .cons r t, .cons r' t' => by rw [r.inj r', Vals.inj t t']
section
variable {X : Cx} {pins : List (Addr × Obj)} {σ : St} {H : Hp} {s : Shared} {a : Addr} {xs ys : List V}
theorem SqL.of {K : PySem.W.Frag} (h : H a = some (.lst xs)) : SqL K H a xs := .inl (.inl h)
theorem SqT.of {K : PySem.W.Frag} (h : H a = some (.tup xs)) : SqT K H a xs := .inl (.inl h)
theorem Inv.list (I : Inv X pins σ H s) (h : SqL X.K H a xs) : ∃ its : List Value, Vals xs its ∧ PlainL s.heap a its.toArray ∧ xs.length ≤ sizeLine := by
 rcases h with h | ⟨o, its, n, hk, hc, hd, hs, hz, r⟩
 · obtain ⟨z, its, n, r, e⟩ := h.ok I.hok
   exact ⟨its, r, ⟨_, n, e, rfl, rfl, rfl⟩, z⟩
 · refine ⟨its.toList, r, ⟨o, n, I.kIn a o hk, hc, hd, by simpa using hs⟩, ?_⟩
   have e := r.length
   simp only [Array.length_toList] at e
   omega
theorem Inv.tuple (I : Inv X pins σ H s) (h : SqT X.K H a xs) : ∃ its : List Value, Vals xs its ∧ IsTup s.heap a its.toArray ∧ xs.length ≤ sizeLine := by
 rcases h with h | ⟨o, its, n, hk, hc, hs, hz, r⟩
 · obtain ⟨z, its, r, p⟩ := h.ok I.hok
   exact ⟨its, r, p.tup, z⟩
 · refine ⟨its.toList, r, ⟨o, I.kIn a o hk, hc, n, by simpa using hs⟩, ?_⟩
   have e := r.length
   simp only [Array.length_toList] at e
   omega
theorem Inv.list_inj (I : Inv X pins σ H s) (h : SqL X.K H a xs) (h' : SqL X.K H a ys) : xs = ys := by
 obtain ⟨its, r, ⟨o, n, e, _, _, d⟩, _⟩ := I.list h
 obtain ⟨its', r', ⟨o', n', e', _, _, d'⟩, _⟩ := I.list h'
 rw [e] at e'; cases e'
 rw [d] at d'
 injection d' with d1 _
 have : its = its' := by simpa using congrArg Array.toList d1
 subst this
 exact r.inj r'
theorem Inv.tuple_inj (I : Inv X pins σ H s) (h : SqT X.K H a xs) (h' : SqT X.K H a ys) : xs = ys := by
 obtain ⟨its, r, ⟨o, e, _, n, d⟩, _⟩ := I.tuple h
 obtain ⟨its', r', ⟨o', e', _, n', d'⟩, _⟩ := I.tuple h'
 rw [e] at e'; cases e'
 rw [d] at d'
 injection d' with d1 _
 have : its = its' := by simpa using congrArg Array.toList d1
 subst this
 exact r.inj r'
end

noncomputable abbrev Cx.wish (X : Cx) (E : Value → Shared → Prop) : Cx := { X with xe := E }
noncomputable abbrev Cx.nox (X : Cx) : Cx := X.wish fun _ _ => False
theorem Cx.Ok.wish {X : Cx} (ok : X.Ok) (E : Value → Shared → Prop) : (X.wish E).Ok :=
 ⟨ok.mod, ok.kind, ok.glob, ok.blt, ok.above, ok.inj, ok.has, ok.cab, ok.hd, ok.frames, ok.stk, ok.exf, ok.bs, ok.bsz, ok.noex, ok.exfs, ok.funs, ok.frf⟩
theorem Cx.Ok.unwish {X : Cx} {E : Value → Shared → Prop} (ok : (X.wish E).Ok) : X.Ok :=
 ⟨ok.mod, ok.kind, ok.glob, ok.blt, ok.above, ok.inj, ok.has, ok.cab, ok.hd, ok.frames, ok.stk, ok.exf, ok.bs, ok.bsz, ok.noex, ok.exfs, ok.funs, ok.frf⟩
section
variable {X : Cx} {pins : List (Addr × Obj)} {σ : St} {H : Hp} {s : Shared} {E : Value → Shared → Prop}
theorem Inv.wish (I : Inv X pins σ H s) (E : Value → Shared → Prop) : Inv (X.wish E) pins σ H s := ⟨I.ok.wish E, I.os, I.bare, I.base, I.loc, I.cell, I.free, I.freeC, I.pin, I.hok, I.len⟩
theorem Inv.unwish (I : Inv (X.wish E) pins σ H s) : Inv X pins σ H s := ⟨I.ok.unwish, I.os, I.bare, I.base, I.loc, I.cell, I.free, I.freeC, I.pin, I.hok, I.len⟩
theorem SP.unwish {D : Ends} {f : Flow} {s' : Shared} (h : SP (X.wish E) pins D f s') : SP X pins D f s' := by
 cases f with
 | next => obtain ⟨σ', H', I, q⟩ := h; exact ⟨σ', H', I.unwish, q⟩
 | brk => obtain ⟨σ', H', I, q⟩ := h; exact ⟨σ', H', I.unwish, q⟩
 | cont => obtain ⟨σ', H', I, q⟩ := h; exact ⟨σ', H', I.unwish, q⟩
 | ret u => obtain ⟨v, σ', H', I, r, q⟩ := h; exact ⟨v, σ', H', I.unwish, r, q⟩
theorem PSs.nox {st : List Stmt} {t : TS} (h : PSs X.nox st t) : PSs X st t := fun pins s σ H D I hw =>
 wpAny_mono (h pins s σ H D (I.wish _) hw) (fun _ _ q => q.unwish) fun _ _ z => False.elim z
end

section
variable {X : Cx} {st : Stmt} {rest : List Stmt} {t u : TS} {e : Expr} {te : TE} {pos : Pos}
noncomputable def tNext : TS := fun D σ H => D.nx σ H
noncomputable def tSeq (t u : TS) : TS := fun D σ H => t { D with nx := u D } σ H
theorem pss_nil : PSs X [] tNext := fun _ _ σ H _ I h => wpAny_execs_nil ⟨σ, H, I, h⟩
theorem pss_cons (h1 : PS X st t) (h2 : PSs X rest u) : PSs X (st :: rest) (tSeq t u) := by
 intro pins s σ H D I h
 refine wpAny_execs_cons (thn (h1 pins s σ H { D with nx := u D } I h) fun f s1 q => ?_)
 cases f with
 | next =>
   obtain ⟨σ', H', I', q⟩ := q
   exact h2 pins s1 σ' H' D I' q
 | ret v => exact q
 | brk => exact q
 | cont => exact q
theorem pss_one (h1 : PS X st t) : PSs X [st] t := by
 intro pins s σ H D I h
 refine wpAny_execs_cons (thn (h1 pins s σ H D I h) fun f s1 q => ?_)
 cases f with
 | next => exact wpAny_execs_nil q
 | ret v => exact q
 | brk => exact q
 | cont => exact q
theorem Inv.quiet {pins : List (Addr × Obj)} {σ : St} {H : Hp} {s : Shared} (I : Inv X pins σ H s) : interactive X.env = false := by simp [interactive, I.ok.kind]
noncomputable def tDrop (te : TE) : TS := fun D σ H => te σ H fun _ H1 => D.nx σ H1
theorem ps_expr (he : PE X e te) (hs : swapsWith e none pos.line X.env = pure false := by rfl) : PS X (.Expr e pos) (tDrop te) := by
 intro pins s σ H D I h
 exact wpAny_Expr_any (thn (he pins s σ H _ I h) fun v s1 ⟨x, H1, I1, r1, q1⟩ => ⟨σ, H1, I1, q1⟩) I.quiet hs
noncomputable def tRet (te : TE) : TS := fun D σ H => te σ H D.rt
theorem ps_ret (he : PE X e te) : PS X (.Return (some e) pos) (tRet te) := by
 intro pins s σ H D I h
 exact wpAny_Return_some (thn (he pins s σ H _ I h) fun v s1 ⟨x, H1, I1, r1, q1⟩ => ⟨x, σ, H1, I1, r1, q1⟩)
noncomputable def tIfS (c : TT) (t u : TS) : TS := fun D σ H => c σ H fun b H1 => if b = true then t D σ H1 else u D σ H1
theorem ps_if {c : Expr} {a b : List Stmt} {tc : TT} (hc : PT X c tc) (ha : PSs X a t) (hb : PSs X b u) : PS X (.If c a b pos) (tIfS tc t u) := by
 intro pins s σ H D I h
 refine wpAny_If (thn (hc pins s σ H _ I h) fun d s1 ⟨H1, I1, q1⟩ => ?_)
 cases d with
 | true => exact ha pins s1 σ H1 D I1 q1
 | false => exact hb pins s1 σ H1 D I1 q1
end

noncomputable abbrev TG := V → St → Hp → (St → Hp → Prop) → Prop
noncomputable def PG (X : Cx) (target : Expr) (t : TG) : Prop :=
 ∀ (pins : List (Addr × Obj)) (s : Shared) (σ : St) (H : Hp) (v : V) (u : Value) (Q : St → Hp → Prop), Inv X pins σ H s → RelV v u → t v σ H Q →
   wpAny (model X.prog X.w) X.A (assign target X.env u) (fun _ s' => ∃ σ' H', Inv X pins σ' H' s' ∧ Q σ' H') X.xe s
section
variable {X : Cx} {pos : Pos}
noncomputable def gName (i : Nat) : TG := fun v σ H Q => Q (σ.set i (some v)) H
theorem pg_name {i : Nat} {x : Str} (hN : X.N.Nodup) (hi : X.N[i]? = some x) (hx : Loc X.env.scope x) (hf : X.fn x = true ∨ X.env.scope.names.lookup x = some .local := by first | exact .inl rfl | exact .inr rfl | assumption) : PG X (.Name x pos) (gName i) := by
 intro pins s σ H v u Q I r h
 exact wpAny_assign_Name (store_ok I hN hi hx r (fun s' I' => ⟨_, H, I', h⟩) hf)
noncomputable def tAsg (te : TE) (g : TG) : TS := fun D σ H => te σ H fun x H1 => g x σ H1 D.nx
theorem ps_set {i : Nat} {x : Str} {e : Expr} {te : TE} {pos' : Pos} (hN : X.N.Nodup) (hi : X.N[i]? = some x) (hx : Loc X.env.scope x) (he : PE X e te) (hs : swapsWith e (some (.Name x pos')) pos.line X.env = pure false := by rfl) (hf : X.fn x = true ∨ X.env.scope.names.lookup x = some .local := by first | exact .inl rfl | exact .inr rfl | assumption) :
 PS X (.Assign [.Name x pos'] e pos) (tAsg te (gName i)) := by
 intro pins s σ H D I h
 refine wpAny_Assign_Name (thn (he pins s σ H _ I h) fun v s1 ⟨y, H1, I1, r1, q1⟩ => ?_) hs
 exact store_ok I1 hN hi hx r1 (fun s2 I2 => ⟨_, H1, I2, q1⟩) hf
noncomputable def tPar (i j : Nat) (ta : TA) : TS := fun D σ H => ta σ H fun vs H1 => ∃ v w, vs = [v, w] ∧ D.nx ((σ.set i (some v)).set j (some w)) H1
theorem ps_par {i j : Nat} {x y : Str} {a b : Expr} {ta : TA} {px py pt : Pos} {kt k2 pt2} (hc : X.calm = true) (hN : X.N.Nodup) (hi : X.N[i]? = some x) (hj : X.N[j]? = some y) (hij : i ≠ j)
 (hx : X.env.scope.names.lookup x = some .local) (hy : X.env.scope.names.lookup y = some .local) (ha : PA X [a, b] ta)
 (hw : swappedStores [.Tuple [.Name x px, .Name y py] kt pt] (.Tuple [a, b] k2 pt2) X.env = pure (some [x, y]))
 (hs : swapsWithSole [.Tuple [.Name x px, .Name y py] kt pt] (.Tuple [a, b] k2 pt2) pos.line X.env = pure false := by rfl) :
 PS X (.Assign [.Tuple [.Name x px, .Name y py] kt pt] (.Tuple [a, b] k2 pt2) pos) (tPar i j ta) := by
 intro pins s σ H D I h
 rw [exec_Assign_arm]
 refine wpAny_bind (wpAny_standAt ?_)
 rw [hs]
 refine wpAny_bind (wpAny_pure ?_)
 rw [if_neg (by decide)]
 refine wpAny_bind (Tuple_ (thn (ha _ pins s σ H _ I h) fun us s1 ⟨vs, H1, I1, r1, q1⟩ => ?_))
 obtain ⟨v, w, e1, q1⟩ := q1
 subst e1
 obtain ⟨u1, u2, rfl, rv, rw'⟩ : ∃ u1 u2, us = [u1, u2] ∧ RelV v u1 ∧ RelV w u2 := by
  cases r1 with
  | cons p q =>
    cases q with
    | cons p' q' =>
      cases q'
      exact ⟨_, _, rfl, p, p'⟩
 refine wpAny_newObj_type ?_ (by show 2 ≤ sizeLine; decide)
 have I2 : Inv X pins σ H1 { s1 with heap := s1.heap.push { cls := .type "tuple", data := .seq [u1, u2].toArray } } := I1.kept (t' := s1.toks) fun b o e => Heap.get?_push_of_some _ e
 rw [hw]
 refine wpAny_bind (wpAny_pure ?_)
 show wpAny (model X.prog X.w) X.A (do rule "assign.swapped-stores"; let items ← unpackItems (.ref s1.heap.objs.size) 2 none; assignInOrder [fun v => bindName X.env y v, fun v => bindName X.env x v] items.reverse; pure Flow.next) _ _ _
 refine wpAny_bind (wpAny_rule (wpAny_bind (unpackItems_tuple (items := #[u1, u2]) (I.ok.hd hc) (IsTup.new s1.heap _) fun h' hx' => ?_)))
 have I3 := I2.kept (h' := h') (t' := s1.toks) fun b o e => hx' b o (Nat.ne_of_lt (Heap.lt_size e)) e
 show wpAny _ _ (assignInOrder [fun v => bindName X.env y v, fun v => bindName X.env x v] [u2, u1] >>= fun _ => pure Flow.next) _ _ _
 refine wpAny_bind (assignInOrder_cons (wpAny_bindName (store_ok I3 hN hj (.inl hy) rw' (fun s2 I4 => ?_) (.inr hy))))
 refine assignInOrder_cons (wpAny_bindName (store_ok I4 hN hi (.inl hx) rv (fun s3 I5 => assignInOrder_nil (wpAny_pure ?_)) (.inr hx)))
 rw [List.set_comm _ _ (Ne.symm hij)] at I5
 exact ⟨_, H1, I5, q1⟩
end

section
variable {X : Cx} {pos : Pos}
noncomputable def tWhile (c : TT) (tb : TS) : TS := fun D σ H => ∃ W : Nat → St → Hp → Prop, (∃ m, W m σ H) ∧ ∀ m σ H, W m σ H →
 c σ H fun b H1 => if b = true then ∃ N : St → Hp → Prop, (∀ σ' H', N σ' H' → ∃ m', m' < m ∧ W m' σ' H') ∧ tb { D with nx := N, ct := N, bk := D.nx } σ H1 else D.nx σ H1
theorem ps_while {c : Expr} {body : List Stmt} {tc : TT} {tb : TS} (hp : PassesOwn (model X.prog X.w) X.A X.env X.xe) (hc : PT X c tc) (hb : PSs X body tb) : PS X (.While c body [] pos) (tWhile tc tb) := by
 intro pins s σ H D I h
 obtain ⟨W, ⟨m0, w0⟩, turn⟩ := h
 refine wpAny_While (codeAny_whileLoop (fun n s' => ∃ σ' H', Inv X pins σ' H' s' ∧ W n σ' H') ?_ m0 ⟨σ, H, I, w0⟩)
 rintro n s1 ⟨σ1, H1, I1, w1⟩
 refine wpAny_passesOwn hp (thn (hc pins s1 σ1 H1 _ I1 (turn n σ1 H1 w1)) fun b s2 ⟨H2, I2, q2⟩ => ?_)
 cases b with
 | true =>
   obtain ⟨N, hN, q2⟩ := q2
   rw [if_pos rfl]
   refine wpAny_passesOwn hp (thn (hb pins s2 σ1 H2 _ I2 q2) fun f s3 q3 => ?_)
   cases f with
   | next =>
     obtain ⟨σ3, H3, I3, n3⟩ := q3
     obtain ⟨m', hm, w3⟩ := hN σ3 H3 n3
     exact ⟨m', hm, σ3, H3, I3, w3⟩
   | cont =>
     obtain ⟨σ3, H3, I3, n3⟩ := q3
     obtain ⟨m', hm, w3⟩ := hN σ3 H3 n3
     exact ⟨m', hm, σ3, H3, I3, w3⟩
   | brk => exact q3
   | ret v => exact q3
 | false =>
   rw [if_neg Bool.false_ne_true]
   exact wpAny_execs_nil ⟨σ1, H2, I2, q2⟩
end

set_option genInjectivity false in
structure It where
 go : Nat → Hp → Prop
 yld : Nat → Hp → V → Hp → Prop
 stop : Nat → Hp → Prop
noncomputable def FpOk (X : Cx) (pins : List (Addr × Obj)) (H : Hp) (b : Addr) : Prop :=
 H b = none ∧ b ≠ X.env.locals ∧ b ∉ X.fs ∧ (b ∈ X.ex ∨ X.s₀.heap.objs.size ≤ b) ∧ (∀ x c, X.env.cells.lookup x = some c → c ≠ b) ∧ ∀ p ∈ X.pn ++ pins, p.1 ≠ b
theorem Inv.fpOk {X : Cx} {pins : List (Addr × Obj)} {σ : St} {H H' : Hp} {s : Shared} {b : Addr} (I : Inv X pins σ H s) (hb : s.heap.objs.size ≤ b) (hn : H' b = none) : FpOk X pins H' b := by
 refine ⟨hn, Nat.ne_of_gt (Nat.lt_of_lt_of_le I.lt hb), I.nofs hb, .inr (Nat.le_trans I.sz hb), fun x c e z => ?_, fun p hp z => ?_⟩
 · obtain ⟨v, q⟩ := I.cell x c e
   exact absurd (Nat.lt_of_lt_of_le q.lt (by rw [z]; exact hb)) (Nat.lt_irrefl _)
 · exact absurd (Nat.lt_of_lt_of_le (Heap.lt_size (I.pin p hp).1) (by rw [z]; exact hb)) (Nat.lt_irrefl _)
structure Turn (P : Program) (w : World) (K : PySem.W.Frag) (tg : Expr) (J : It) (fp : List Addr) (it : Addr) (tn : Nat → Heap → Prop) : Prop where
 mem : it ∈ fp
 obj : ∀ i h, tn i h → ∀ b ∈ fp, ∃ o, h.get? b = some o ∧ ∀ v, o.data ≠ .cell v
 keep : ∀ i h h', tn i h → (∀ b ∈ fp, ∀ o, h.get? b = some o → h'.get? b = some o) → tn i h'
 item : ∀ (X : Cx), X.prog = P → X.w = w → X.K = K → X.calm = true → ∀ (i : Nat) (pins : List (Addr × Obj)) (s : Shared) (σ : St) (H : Hp) (E : Value → Shared → Prop), Inv X pins σ H s → (∀ b ∈ fp, FpOk X pins H b) → tn i s.heap → J.go i H →
  wpAny (model P w) X.A (pyNext (.ref it)) (fun r s1 => ∃ u, r = some u ∧
   wpAny (model P w) X.A (letOwnedTupleGo tg (.ref it) u) (fun _ s2 => ∃ x H', Inv X pins σ H' s2 ∧ RelV x u ∧ J.yld i H x H' ∧ tn (i + 1) s2.heap ∧ ∀ b ∈ fp, H' b = none) E s1) E s
 done : ∀ (X : Cx), X.prog = P → X.w = w → X.K = K → X.calm = true → ∀ (i : Nat) (pins : List (Addr × Obj)) (s : Shared) (σ : St) (H : Hp) (E : Value → Shared → Prop), Inv X pins σ H s → (∀ b ∈ fp, FpOk X pins H b) → tn i s.heap → J.stop i H →
  wpAny (model P w) X.A (pyNext (.ref it)) (fun r s1 => r = none ∧ Inv X pins σ H s1) E s
 self : ∀ (A : Around) (i : Nat) (s : Shared) (Q : Value → Shared → Prop) (E : Value → Shared → Prop), tn i s.heap → Q (.ref it) s → wpAny (model P w) A (pyIter (.ref it)) Q E s
noncomputable abbrev TI := St → Hp → (It → Hp → Prop) → Prop
noncomputable def PIE (X : Cx) (pins : List (Addr × Obj)) (σ : St) (tg : Expr) (R : It → Hp → Prop) (itv : Value) (s2 : Shared) : Prop :=
 ∃ (it : Addr) (fp : List Addr) (tn : Nat → Heap → Prop) (J : It) (H' : Hp), itv = .ref it ∧ Inv X pins σ H' s2 ∧ Turn X.prog X.w X.K tg J fp it tn ∧ tn 0 s2.heap ∧ (∀ b ∈ fp, FpOk X pins H' b) ∧ R J H'
noncomputable def PI (X : Cx) (tg iter : Expr) (wi : TI) : Prop :=
 ∀ (pins : List (Addr × Obj)) (s : Shared) (σ : St) (H : Hp) (R : It → Hp → Prop), Inv X pins σ H s → wi σ H R →
   wpAny (model X.prog X.w) X.A (eval iter X.env) (fun v s1 => wpAny (model X.prog X.w) X.A (pyIter v) (PIE X pins σ tg R) X.xe s1) X.xe s

theorem go_of {M : Model} {A : Around} {E : Value → Shared → Prop} {s : Shared} {tg : Expr} {it : Addr} {u : Value} {o : Obj} {n : String} {vs : Array Value} {Q : Unit → Shared → Prop} (ho : s.heap.get? it = some o) (hc : o.cls = .type n) (hd : o.data = .fields vs)
 (hn : ["enumerate", "zip", "dict_itemiterator", "dict_reverseitemiterator", "odict_iterator", "itertools.zip_longest", "itertools.pairwise"].contains n = false) (hQ : Q () s) : wpAny M A (letOwnedTupleGo tg (.ref it) u) Q E s := by
 unfold letOwnedTupleGo
 cases tg <;> first
  | exact wpAny_pure hQ
  | (cases u <;> first
   | exact wpAny_pure hQ
   | (refine wpAny_bind (wpAny_load ho ?_)
      rw [hc, hd]
      show wpAny M A (if (["enumerate", "zip", "dict_itemiterator", "dict_reverseitemiterator", "odict_iterator", "itertools.zip_longest", "itertools.pairwise"].contains n && vs[0]? == some (rawInt _)) = true then _ else _) Q E s
      rw [if_neg (by intro h; rw [hn, Bool.false_and] at h; cases h)]
      exact wpAny_pure hQ))

noncomputable def Itl (K : PySem.W.Frag) (a : Addr) : It :=
 ⟨fun i H => ∃ xs x, SqL K H a xs ∧ xs[i]? = some x, fun i H x H' => H' = H ∧ ∀ xs, SqL K H a xs → xs[i]? = some x, fun i H => ∃ xs, SqL K H a xs ∧ xs.length ≤ i⟩
noncomputable def Itt (K : PySem.W.Frag) (a : Addr) : It :=
 ⟨fun i H => ∃ xs x, SqT K H a xs ∧ xs[i]? = some x, fun i H x H' => H' = H ∧ ∀ xs, SqT K H a xs → xs[i]? = some x, fun i H => ∃ xs, SqT K H a xs ∧ xs.length ≤ i⟩
noncomputable def Itr (lo : Int) (n : Nat) : It := ⟨fun i _ => i < n, fun i H x H' => H' = H ∧ x = .int (lo + i), fun i _ => n ≤ i⟩
theorem turn_list {P : Program} {w : World} {K : PySem.W.Frag} {tg : Expr} (a it : Addr) : Turn P w K tg (Itl K a) [it] it (fun i h => h.IsListIter it a i) where
 mem := by simp
 obj := fun i h st b hb => by
  have e : b = it := by simpa using hb
  subst e
  obtain ⟨o, e, c, d⟩ := st
  exact ⟨o, e, fun v z => by rw [d] at z; cases z⟩
 keep := fun i h h' st k => st.at fun o e => k it (by simp) o e
 item := by
  intro X hP hw hK hc i pins s σ H E I hf st hg
  subst hP hw hK
  obtain ⟨xs, x, hq, hx⟩ := hg
  obtain ⟨its, rv, p, hz⟩ := I.list hq
  obtain ⟨u, hu, ru⟩ := rv.get hx
  obtain ⟨f0, f1, f2, f3, f4, f5⟩ := hf it (by simp)
  refine wpAny_pyNext_list_item st p.isList (x := u) (by simpa using hu) fun h' st' sb => ?_
  have I1 : Inv X pins σ H { s with heap := h' } := I.turned (t' := s.toks) (fun b o hb e => (sb.2 b hb).trans e) f0 f1 f3 f4 f5
  obtain ⟨o, e, c, d⟩ := id st'
  exact ⟨u, rfl, go_of (s := { s with heap := h' }) e c d (by decide) ⟨x, H, I1, ru, ⟨rfl, fun ys hy => by rw [I.list_inj hy hq]; exact hx⟩, st', fun b hb => (hf b hb).1⟩⟩
 done := by
  intro X hP hw hK hc i pins s σ H E I hf st hg
  subst hP hw hK
  obtain ⟨xs, hq, hx⟩ := hg
  obtain ⟨its, rv, p, hz⟩ := I.list hq
  obtain ⟨f0, f1, f2, f3, f4, f5⟩ := hf it (by simp)
  have hl := rv.length
  exact wpAny_pyNext_list_end (I.ok.hd hc) st p.isList (by simp; omega) fun h' eb => ⟨rfl, I.turned (t' := s.toks) (fun b o hb e => eb b o hb e) f0 f1 f3 f4 f5⟩
 self := fun _ _ _ _ _ st h => wpAny_pyIter_listiter st h
theorem turn_tuple {P : Program} {w : World} {K : PySem.W.Frag} {tg : Expr} (a it : Addr) : Turn P w K tg (Itt K a) [it] it (fun i h => h.IsTupleIter it a i) where
 mem := by simp
 obj := fun i h st b hb => by
  have e : b = it := by simpa using hb
  subst e
  obtain ⟨o, e, c, d⟩ := st
  exact ⟨o, e, fun v z => by rw [d] at z; cases z⟩
 keep := fun i h h' st k => st.at fun o e => k it (by simp) o e
 item := by
  intro X hP hw hK hc i pins s σ H E I hf st hg
  subst hP hw hK
  obtain ⟨xs, x, hq, hx⟩ := hg
  obtain ⟨its, rv, p, hz⟩ := I.tuple hq
  obtain ⟨u, hu, ru⟩ := rv.get hx
  obtain ⟨f0, f1, f2, f3, f4, f5⟩ := hf it (by simp)
  refine wpAny_pyNext_tuple_item st (show s.heap.IsTuple a its.toArray from p) (x := u) (by simpa using hu) fun h' st' sb => ?_
  have I1 : Inv X pins σ H { s with heap := h' } := I.turned (t' := s.toks) (fun b o hb e => (sb.2 b hb).trans e) f0 f1 f3 f4 f5
  obtain ⟨o, e, c, d⟩ := id st'
  exact ⟨u, rfl, go_of (s := { s with heap := h' }) e c d (by decide) ⟨x, H, I1, ru, ⟨rfl, fun ys hy => by rw [I.tuple_inj hy hq]; exact hx⟩, st', fun b hb => (hf b hb).1⟩⟩
 done := by
  intro X hP hw hK hc i pins s σ H E I hf st hg
  subst hP hw hK
  obtain ⟨xs, hq, hx⟩ := hg
  obtain ⟨its, rv, p, hz⟩ := I.tuple hq
  obtain ⟨f0, f1, f2, f3, f4, f5⟩ := hf it (by simp)
  have hl := rv.length
  exact wpAny_pyNext_tuple_end (I.ok.hd hc) st (show s.heap.IsTuple a its.toArray from p) (by simp; omega) fun h' eb => ⟨rfl, I.turned (t' := s.toks) (fun b o hb e => eb b o hb e) f0 f1 f3 f4 f5⟩
 self := fun _ _ _ _ _ st h => wpAny_pyIter_tupleiter st h
theorem turn_range {P : Program} {w : World} {K : PySem.W.Frag} {tg : Expr} (it : Addr) (lo : Int) (n : Nat) : Turn P w K tg (Itr lo n) [it] it (fun i h => IsRangeIter h it (lo + (i : Nat) * 1) ((n : Int) - (i : Nat)) 1) where
 mem := by simp
 obj := fun i h st b hb => by
  have e : b = it := by simpa using hb
  subst e
  exact ⟨_, st, fun v z => by
   have z' : Data.fields _ = Data.cell v := z
   cases z'⟩
 keep := fun i h h' st k => k it (by simp) _ st
 item := by
  intro X hP hw hK hc i pins s σ H E I hf st hg
  subst hP hw hK
  obtain ⟨f0, f1, f2, f3, f4, f5⟩ := hf it (by simp)
  have W := Walks.range (prog := X.prog) (w := X.w) (I.ok.hd hc) it lo 1 n
  refine W.item i s _ _ hg st fun v h' tk hv st' kk => ?_
  obtain ⟨t, rfl⟩ := hv
  have I1 : Inv X pins σ H { s with heap := h', toks := tk } := I.turned (fun b o hb e => kk b o (by simpa using hb) e) f0 f1 f3 f4 f5
  refine ⟨_, rfl, go_of (s := { s with heap := h', toks := tk }) (n := "range_iterator") st' rfl rfl (by decide) ⟨.int (lo + i), H, I1, ⟨t, ?_⟩, ⟨rfl, rfl⟩, st', fun b hb => (hf b hb).1⟩⟩
  rw [Int.mul_one]
 done := by
  intro X hP hw hK hc i pins s σ H E I hf st hg
  subst hP hw hK
  obtain ⟨f0, f1, f2, f3, f4, f5⟩ := hf it (by simp)
  exact wpAny_pyNext_range_end (I.ok.hd hc) st (by have : n ≤ i := hg; omega) fun h' eb => ⟨rfl, I.turned (t' := s.toks) (fun b o hb e => eb b o hb e) f0 f1 f3 f4 f5⟩
 self := fun _ _ _ _ _ st h => wpAny_pyIter_rangeiter st h
end L2

namespace L2
open PySem PySem.Spec PyProof.Rows
section
variable {X : Cx} {tg : Expr}
noncomputable def iList (K : PySem.W.Frag) (tl : TE) : TI := fun σ H R => tl σ H fun x H1 => ∃ a, x = .ref a ∧ (∃ xs, SqL K H1 a xs) ∧ R (Itl K a) H1
noncomputable def iTup (K : PySem.W.Frag) (tl : TE) : TI := fun σ H R => tl σ H fun x H1 => ∃ a, x = .ref a ∧ (∃ xs, SqT K H1 a xs) ∧ R (Itt K a) H1
theorem pi_list {l : Expr} {tl : TE} (hl : PE X l tl) : PI X tg l (iList X.K tl) := by
 intro pins s σ H R I h
 refine thn (hl pins s σ H _ I h) fun v s1 ⟨x, H1, I1, r1, q1⟩ => ?_
 obtain ⟨a, e, ⟨xs, hq⟩, q⟩ := q1
 subst e
 cases r1
 obtain ⟨its, rv, p, hz⟩ := I1.list hq
 refine wpAny_pyIter_list p.isList ?_
 refine ⟨s1.heap.objs.size, [s1.heap.objs.size], _, _, H1, rfl, I1.kept (t' := s1.toks) fun b o e => Heap.get?_push_of_some _ e, turn_list a _, ⟨_, Heap.get?_push_size _ rfl, rfl, rfl⟩, fun b hb => ?_, q⟩
 have e : b = s1.heap.objs.size := by simpa using hb
 subst e
 exact I1.fpOk (Nat.le_refl _) (I1.hok.fresh (Nat.le_refl _))
theorem pi_tup {l : Expr} {tl : TE} (hl : PE X l tl) : PI X tg l (iTup X.K tl) := by
 intro pins s σ H R I h
 refine thn (hl pins s σ H _ I h) fun v s1 ⟨x, H1, I1, r1, q1⟩ => ?_
 obtain ⟨a, e, ⟨xs, hq⟩, q⟩ := q1
 subst e
 cases r1
 obtain ⟨its, rv, p, hz⟩ := I1.tuple hq
 refine wpAny_pyIter_tuple (show s1.heap.IsTuple a its.toArray from p) ?_
 refine ⟨s1.heap.objs.size, [s1.heap.objs.size], _, _, H1, rfl, I1.kept (t' := s1.toks) fun b o e => Heap.get?_push_of_some _ e, turn_tuple a _, ⟨_, Heap.get?_push_size _ rfl, rfl, rfl⟩, fun b hb => ?_, q⟩
 have e : b = s1.heap.objs.size := by simpa using hb
 subst e
 exact I1.fpOk (Nat.le_refl _) (I1.hok.fresh (Nat.le_refl _))
theorem range_it {pins : List (Addr × Obj)} {σ : St} {H : Hp} {s : Shared} {R : It → Hp → Prop} {E : Value → Shared → Prop} {lo hi : Int} {t u v : Tok} {tk : Nat} (I : Inv X pins σ H s) (h1 : -(2 ^ 62) ≤ lo) (h2 : lo < 2 ^ 62) (h3 : -(2 ^ 62) ≤ hi) (h4 : hi < 2 ^ 62)
 (q : R (Itr lo (hi - lo).toNat) H) : wpAny (model X.prog X.w) X.A (pyIter (.ref s.heap.objs.size)) (PIE X pins σ tg R) E { s with heap := s.heap.push { cls := .type "range", data := .fields #[.int lo t, .int hi u, .int 1 v] }, toks := tk } := by
 refine wpAny_pyIter_range (IsRange.new ..) (small_one h1 h2 h3 h4) ?_
 have I1 : Inv X pins σ H { s with heap := s.heap.push { cls := .type "range", data := .fields #[.int lo t, .int hi u, .int 1 v] }, toks := tk } := I.kept fun b o e => Heap.get?_push_of_some _ e
 refine ⟨(s.heap.push { cls := .type "range", data := .fields #[.int lo t, .int hi u, .int 1 v] }).objs.size, [(s.heap.push { cls := .type "range", data := .fields #[.int lo t, .int hi u, .int 1 v] }).objs.size], _, _, H, rfl,
  I1.kept (t' := tk) fun b o e => Heap.get?_push_of_some _ e, turn_range _ lo (hi - lo).toNat, ?_, fun b hb => ?_, q⟩
 · have e1 : lo + ((0 : Nat) : Int) * 1 = lo := by simp
   have e2 : (((hi - lo).toNat : Nat) : Int) - ((0 : Nat) : Int) = Builtin.Range.rangeSize lo hi 1 := by rw [rangeSize_one]; split <;> omega
   show IsRangeIter _ _ (lo + ((0 : Nat) : Int) * 1) ((((hi - lo).toNat : Nat) : Int) - ((0 : Nat) : Int)) 1
   rw [e1, e2]
   exact Heap.get?_push_size _ rfl
 · have e : b = (s.heap.push { cls := .type "range", data := .fields #[.int lo t, .int hi u, .int 1 v] }).objs.size := by simpa using hb
   subst e
   exact I1.fpOk (Nat.le_refl _) (I1.hok.fresh (Nat.le_refl _))
noncomputable def iRng1 (ta : TA) : TI := fun σ H R => ta σ H fun vs H1 => ∃ j : Int, vs = [.int j] ∧ -(2 ^ 62) ≤ j ∧ j < 2 ^ 62 ∧ R (Itr 0 j.toNat) H1
theorem pi_range1 {a : Expr} {ta : TA} {p pos : Pos} (hg : Gl X "range") (hm : X.mg "range" = none) (ha : PA X [a] ta) (hs : starEach [a] X.env = [(false, eval a X.env)] := by rfl) : PI X tg (.Call (.Name "range" p) [a] [] pos) (iRng1 ta) := by
 intro pins s σ H R I h
 refine Call_ (ld_blt I hg hm boot_range (PyProof.Rows.callWith_type1 (thn (ha pos pins s σ H _ I h) fun us s1 ⟨vs, H1, I1, r1, q1⟩ => ?_) hs rfl))
 obtain ⟨j, e, q1, q2, q⟩ := q1
 subst e
 cases r1 with
 | cons r rr =>
   cases rr
   obtain ⟨t, rfl⟩ := r
   exact call_range_1 (range_it I1 (by omega) (by omega) q1 q2 (by simpa using q))
noncomputable def tFor (wi : TI) (g : TG) (tb : TS) : TS := fun D σ H => wi σ H fun J H1 => ∃ W : Nat → Nat → St → Hp → Prop, (∃ m, W 0 m σ H1) ∧ ∀ i m σ H, W i m σ H →
 (J.stop i H ∧ D.nx σ H) ∨ (J.go i H ∧ ∃ N : St → Hp → Prop, (∀ σ' H', N σ' H' → ∃ m', m' < m ∧ W (i + 1) m' σ' H') ∧ ∀ x H', J.yld i H x H' → g x σ H' fun σ2 H2 => tb { D with nx := N, ct := N, bk := D.nx } σ2 H2)
noncomputable def pinsAt (fp : List Addr) (h : Heap) : List (Addr × Obj) := fp.filterMap fun b => (h.get? b).map fun o => (b, o)
theorem mem_pinsAt {fp : List Addr} {h : Heap} {b : Addr} {o : Obj} (hb : b ∈ fp) (e : h.get? b = some o) : (b, o) ∈ pinsAt fp h := List.mem_filterMap.mpr ⟨b, hb, by rw [e]; rfl⟩
theorem of_pinsAt {fp : List Addr} {h : Heap} {p : Addr × Obj} (hp : p ∈ pinsAt fp h) : p.1 ∈ fp ∧ h.get? p.1 = some p.2 := by
 obtain ⟨b, hb, e⟩ := List.mem_filterMap.mp hp
 cases q : h.get? b with
 | none => rw [q] at e; cases e
 | some o =>
   rw [q] at e
   have e' : (b, o) = p := Option.some.inj e
   subst e'
   exact ⟨hb, q⟩
theorem Inv.pinned {pins : List (Addr × Obj)} {σ : St} {H : Hp} {s : Shared} {fp : List Addr} (I : Inv X pins σ H s) (hf : ∀ b ∈ fp, FpOk X pins H b) (ho : ∀ b ∈ fp, ∃ o, s.heap.get? b = some o ∧ ∀ v, o.data ≠ .cell v) : Inv X (pins ++ pinsAt fp s.heap) σ H s :=
 I.pins_of fun p hp => (List.mem_append.mp hp).elim (fun z => I.pin p (List.mem_append_right _ z)) fun z => by
  obtain ⟨hb, e⟩ := of_pinsAt z
  obtain ⟨f0, f1, f2, _⟩ := hf p.1 hb
  obtain ⟨o, e', d⟩ := ho p.1 hb
  rw [e] at e'; cases e'
  exact ⟨e, f0, f1, f2, d⟩
theorem Inv.unpinned {pins pl : List (Addr × Obj)} {σ : St} {H : Hp} {s : Shared} (I : Inv X (pins ++ pl) σ H s) : Inv X pins σ H s := I.pins_of fun p hp => I.pin p (List.mem_append_right _ (List.mem_append_left _ hp))
theorem ps_for {iter : Expr} {body : List Stmt} {wi : TI} {g : TG} {tb : TS} {pos : Pos} (hp : PassesOwn (model X.prog X.w) X.A X.env X.xe) (hc : X.calm = true) (hi : PI X tg iter wi) (hg : PG X tg g) (hb : PSs X body tb)
 (hs : ∀ x, foldedSetIterable iter X.env x = pure x := by intro _; rfl) : PS X (.For tg iter body [] pos) (tFor wi g tb) := by
 intro pins s σ H D I h
 refine wpAny_For (thn (hi pins s σ H _ I h) fun v s1 h1 => thn h1 fun itv s2 h2 => ?_) hs
 obtain ⟨it, fp, tn, J, H2, e, I2, T, st2, f2, W, ⟨m0, w0⟩, turn⟩ := h2
 subst e
 -- what stays true of the iterator's objects through the loop
 have stat : ∀ {H' : Hp}, (∀ b ∈ fp, H' b = none) → ∀ b ∈ fp, FpOk X pins H' b := fun hn b hb => ⟨hn b hb, (f2 b hb).2⟩
 refine codeAny_forLoop_any (fun n s' => ∃ i σ' H', Inv X pins σ' H' s' ∧ tn i s'.heap ∧ (∀ b ∈ fp, H' b = none) ∧ W i n σ' H') ?_ m0 ⟨0, σ, H2, I2, st2, fun b hb => (f2 b hb).1, w0⟩
 rintro n s3 ⟨i, σ3, H3, I3, st3, fr3, w3⟩
 rcases turn i n σ3 H3 w3 with ⟨stop, qn⟩ | ⟨go, N, hN, step⟩
 · refine wpAny_passesOwn hp (thn (T.done X rfl rfl rfl hc i pins s3 σ3 H3 X.xe I3 (stat fr3) st3 stop) fun r s4 ⟨hr, I4⟩ => ?_)
   subst hr
   exact wpAny_execs_nil ⟨σ3, H3, I4, qn⟩
 · refine wpAny_passesOwn hp (thn (T.item X rfl rfl rfl hc i pins s3 σ3 H3 X.xe I3 (stat fr3) st3 go) fun r s4 ⟨u, hr, h4⟩ => ?_)
   subst hr
   refine wpAny_passesOwn hp (thn h4 fun _ s5 ⟨x, H5, I5, r5, y5, st5, fr5⟩ => ?_)
   have I5' := I5.pinned (stat fr5) (T.obj _ _ st5)
   refine wpAny_passesOwn hp (thn (hg _ s5 σ3 H5 x u _ I5' r5 (step x H5 y5)) fun _ s6 ⟨σ6, H6, I6, q6⟩ => ?_)
   refine wpAny_passesOwn hp (thn (hb _ s6 σ6 H6 _ I6 q6) fun f s7 q7 => ?_)
   have again : ∀ {σ7 : St} {H7 : Hp}, Inv X (pins ++ pinsAt fp s5.heap) σ7 H7 s7 → N σ7 H7 → ∃ m, m < n ∧ ∃ i σ' H', Inv X pins σ' H' s7 ∧ tn i s7.heap ∧ (∀ b ∈ fp, H' b = none) ∧ W i m σ' H' := fun {σ7 H7} I7 n7 => by
    obtain ⟨m', hm, w7⟩ := hN σ7 H7 n7
    refine ⟨m', hm, i + 1, σ7, H7, I7.unpinned, T.keep _ _ _ st5 fun b hb o e => (I7.pin (b, o) (List.mem_append_right _ (List.mem_append_right _ (mem_pinsAt hb e)))).1, fun b hb => ?_, w7⟩
    obtain ⟨o, e, d⟩ := T.obj _ _ st5 b hb
    exact (I7.pin (b, o) (List.mem_append_right _ (List.mem_append_right _ (mem_pinsAt hb e)))).2.1
   cases f with
   | next => obtain ⟨σ7, H7, I7, n7⟩ := q7; exact again I7 n7
   | cont => obtain ⟨σ7, H7, I7, n7⟩ := q7; exact again I7 n7
   | brk => obtain ⟨σ7, H7, I7, q7⟩ := q7; exact ⟨σ7, H7, I7.unpinned, q7⟩
   | ret v => obtain ⟨x7, σ7, H7, I7, r7, q7⟩ := q7; exact ⟨x7, σ7, H7, I7.unpinned, r7, q7⟩
end

theorem for_list {K : PySem.W.Frag} {a : Addr} {xs : List V} {g : TG} {tb : TS} {D : Ends} {σ : St} {H : Hp} (Pv : Nat → St → Hp → Prop) (h0 : Pv 0 σ H) (hl : ∀ i σ H, i ≤ xs.length → Pv i σ H → SqL K H a xs)
 (hs : ∀ i x σ H, xs[i]? = some x → Pv i σ H → g x σ H fun σ2 H2 => tb { D with nx := Pv (i + 1), ct := Pv (i + 1), bk := D.nx } σ2 H2) (hd : ∀ σ H, Pv xs.length σ H → D.nx σ H) :
 ∃ W : Nat → Nat → St → Hp → Prop, (∃ m, W 0 m σ H) ∧ ∀ i m σ H, W i m σ H →
   ((Itl K a).stop i H ∧ D.nx σ H) ∨ ((Itl K a).go i H ∧ ∃ N : St → Hp → Prop, (∀ σ' H', N σ' H' → ∃ m', m' < m ∧ W (i + 1) m' σ' H') ∧ ∀ x H', (Itl K a).yld i H x H' → g x σ H' fun σ2 H2 => tb { D with nx := N, ct := N, bk := D.nx } σ2 H2) := by
 refine ⟨fun i m σ H => m = xs.length - i ∧ i ≤ xs.length ∧ Pv i σ H, ⟨xs.length, by simp, Nat.zero_le _, h0⟩, ?_⟩
 rintro i m σ H ⟨rfl, hi, p⟩
 have q := hl i σ H hi p
 by_cases hlt : i < xs.length
 · refine .inr ⟨⟨xs, xs[i], q, by simp [hlt]⟩, Pv (i + 1), fun σ' H' p' => ⟨xs.length - (i + 1), by omega, rfl, hlt, p'⟩, fun x H' y => ?_⟩
   obtain ⟨e, y⟩ := y
   subst e
   exact hs i x σ _ (y xs q) p
 · have e : i = xs.length := by omega
   subst e
   exact .inl ⟨⟨xs, q, Nat.le_refl _⟩, hd σ H p⟩
theorem for_tup {K : PySem.W.Frag} {a : Addr} {xs : List V} {g : TG} {tb : TS} {D : Ends} {σ : St} {H : Hp} (Pv : Nat → St → Hp → Prop) (h0 : Pv 0 σ H) (hl : ∀ i σ H, i ≤ xs.length → Pv i σ H → SqT K H a xs)
 (hs : ∀ i x σ H, xs[i]? = some x → Pv i σ H → g x σ H fun σ2 H2 => tb { D with nx := Pv (i + 1), ct := Pv (i + 1), bk := D.nx } σ2 H2) (hd : ∀ σ H, Pv xs.length σ H → D.nx σ H) :
 ∃ W : Nat → Nat → St → Hp → Prop, (∃ m, W 0 m σ H) ∧ ∀ i m σ H, W i m σ H →
   ((Itt K a).stop i H ∧ D.nx σ H) ∨ ((Itt K a).go i H ∧ ∃ N : St → Hp → Prop, (∀ σ' H', N σ' H' → ∃ m', m' < m ∧ W (i + 1) m' σ' H') ∧ ∀ x H', (Itt K a).yld i H x H' → g x σ H' fun σ2 H2 => tb { D with nx := N, ct := N, bk := D.nx } σ2 H2) := by
 refine ⟨fun i m σ H => m = xs.length - i ∧ i ≤ xs.length ∧ Pv i σ H, ⟨xs.length, by simp, Nat.zero_le _, h0⟩, ?_⟩
 rintro i m σ H ⟨rfl, hi, p⟩
 have q := hl i σ H hi p
 by_cases hlt : i < xs.length
 · refine .inr ⟨⟨xs, xs[i], q, by simp [hlt]⟩, Pv (i + 1), fun σ' H' p' => ⟨xs.length - (i + 1), by omega, rfl, hlt, p'⟩, fun x H' y => ?_⟩
   obtain ⟨e, y⟩ := y
   subst e
   exact hs i x σ _ (y xs q) p
 · have e : i = xs.length := by omega
   subst e
   exact .inl ⟨⟨xs, q, Nat.le_refl _⟩, hd σ H p⟩
theorem for_range {lo : Int} {n : Nat} {g : TG} {tb : TS} {D : Ends} {σ : St} {H : Hp} (Pv : Nat → St → Hp → Prop) (h0 : Pv 0 σ H)
 (hs : ∀ i σ H, i < n → Pv i σ H → g (.int (lo + i)) σ H fun σ2 H2 => tb { D with nx := Pv (i + 1), ct := Pv (i + 1), bk := D.nx } σ2 H2) (hd : ∀ σ H, Pv n σ H → D.nx σ H) :
 ∃ W : Nat → Nat → St → Hp → Prop, (∃ m, W 0 m σ H) ∧ ∀ i m σ H, W i m σ H →
   ((Itr lo n).stop i H ∧ D.nx σ H) ∨ ((Itr lo n).go i H ∧ ∃ N : St → Hp → Prop, (∀ σ' H', N σ' H' → ∃ m', m' < m ∧ W (i + 1) m' σ' H') ∧ ∀ x H', (Itr lo n).yld i H x H' → g x σ H' fun σ2 H2 => tb { D with nx := N, ct := N, bk := D.nx } σ2 H2) := by
 refine ⟨fun i m σ H => m = n - i ∧ i ≤ n ∧ Pv i σ H, ⟨n, by simp, Nat.zero_le _, h0⟩, ?_⟩
 rintro i m σ H ⟨rfl, hi, p⟩
 by_cases hlt : i < n
 · refine .inr ⟨hlt, Pv (i + 1), fun σ' H' p' => ⟨n - (i + 1), by omega, rfl, hlt, p'⟩, fun x H' y => ?_⟩
   obtain ⟨e, y⟩ := y
   subst e y
   exact hs i σ _ hlt p
 · have e : i = n := by omega
   subst e
   exact .inl ⟨Nat.le_refl _, hd σ H p⟩
theorem while_by {c : TT} {tb : TS} {D : Ends} {σ : St} {H : Hp} (Pv : St → Hp → Prop) (μ : St → Hp → Nat) (h0 : Pv σ H)
 (hs : ∀ σ H, Pv σ H → c σ H fun b H1 => if b = true then tb { D with nx := fun σ' H' => Pv σ' H' ∧ μ σ' H' < μ σ H, ct := fun σ' H' => Pv σ' H' ∧ μ σ' H' < μ σ H, bk := D.nx } σ H1 else D.nx σ H1)
 (mono : ∀ σ H Q Q', (∀ b H1, Q b H1 → Q' b H1) → c σ H Q → c σ H Q') : tWhile c tb D σ H := by
 refine ⟨fun m σ H => m = μ σ H ∧ Pv σ H, ⟨_, rfl, h0⟩, ?_⟩
 rintro m σ H ⟨rfl, p⟩
 refine mono σ H _ _ (fun b H1 q => ?_) (hs σ H p)
 cases b with
 | true => exact ⟨_, fun σ' H' ⟨p', l⟩ => ⟨_, l, rfl, p'⟩, q⟩
 | false => exact q
end L2

namespace L2
open PySem PySem.Spec PyProof.Rows

noncomputable abbrev R2 := V → V → Hp → VK → Prop
noncomputable def OpR (X : Cx) (f : Value → Value → Sem Value) (r : R2) : Prop :=
 ∀ (pins : List (Addr × Obj)) (s : Shared) (σ : St) (H : Hp) (x y : V) (v u : Value) (Q : VK), Inv X pins σ H s → RelV x v → RelV y u → r x y H Q →
   wpAny (model X.prog X.w) X.A (f v u) (EP X pins σ Q) X.xe s
noncomputable def UnR (X : Cx) (f : Value → Sem Value) (r : V → Hp → VK → Prop) : Prop :=
 ∀ (pins : List (Addr × Obj)) (s : Shared) (σ : St) (H : Hp) (x : V) (v : Value) (Q : VK), Inv X pins σ H s → RelV x v → r x H Q →
   wpAny (model X.prog X.w) X.A (f v) (EP X pins σ Q) X.xe s
noncomputable def CallR (X : Cx) (f : Value) (r : List V → Hp → VK → Prop) : Prop :=
 ∀ (pins : List (Addr × Obj)) (s : Shared) (σ : St) (H : Hp) (xs : List V) (us : List Value) (Q : VK), Inv X pins σ H s → Vals xs us → r xs H Q →
   wpAny (model X.prog X.w) X.A (call f us) (EP X pins σ Q) X.xe s
noncomputable def tOp (r : R2) (ta tb : TE) : TE := fun σ H Q => ta σ H fun x H1 => tb σ H1 fun y H2 => r x y H2 Q
noncomputable def tUn (r : V → Hp → VK → Prop) (ta : TE) : TE := fun σ H Q => ta σ H fun x H1 => r x H1 Q
noncomputable def rI (C : Int → Int → Prop) (g : Int → Int → V) : R2 := fun x y H Q => ∃ i j, x = .int i ∧ y = .int j ∧ C i j ∧ Q (g i j) H
noncomputable def rI0 (g : Int → Int → V) : R2 := fun x y H Q => ∃ i j, x = .int i ∧ y = .int j ∧ Q (g i j) H
noncomputable def rU (g : Int → V) : V → Hp → VK → Prop := fun x H Q => ∃ i, x = .int i ∧ Q (g i) H

section
variable {X : Cx} {a b c : Expr} {ta tb tc : TE} {pos : Pos}

theorem binT (ha : PE X a ta) (hb : PE X b tb) {pins : List (Addr × Obj)} {s : Shared} {σ : St} {H : Hp} {R : V → V → Hp → Prop} (I : Inv X pins σ H s)
 (h : ta σ H fun x H1 => tb σ H1 fun y H2 => R x y H2) {Q : Value → Shared → Prop} {f : Value → Value → Sem Value}
 (hf : ∀ v u s2 x y H2, Inv X pins σ H2 s2 → RelV x v → RelV y u → R x y H2 → wpAny (model X.prog X.w) X.A (f v u) Q X.xe s2) :
 wpAny (model X.prog X.w) X.A (eval a X.env) (fun v s₁ => wpAny (model X.prog X.w) X.A (eval b X.env) (fun u s₂ => wpAny (model X.prog X.w) X.A (f v u) Q X.xe s₂) X.xe s₁) X.xe s := by
 refine thn (ha pins s σ H _ I h) fun v s1 ⟨x, H1, I1, r1, q1⟩ => ?_
 refine thn (hb pins s1 σ H1 _ I1 q1) fun u s2 ⟨y, H2, I2, r2, q2⟩ => ?_
 exact hf v u s2 x y H2 I2 r1 r2 q2

theorem pe_op {op : Operator} {r : R2} (ho : OpR X (binaryOp op) r) (ha : PE X a ta) (hb : PE X b tb) : PE X (.BinOp a op b pos) (tOp r ta tb) := by
 intro pins s σ H Q I h
 exact wpAny_BinOp (binT ha hb I h fun v u s2 x y H2 I2 rx ry q => ho pins s2 σ H2 x y v u Q I2 rx ry q)
theorem pe_un {op : UnaryOp} {r : V → Hp → VK → Prop} (ho : UnR X (unaryOp op) r) (ha : PE X a ta) : PE X (.UnaryOp op a pos) (tUn r ta) := by
 intro pins s σ H Q I h
 exact UnaryOp_ (thn (ha pins s σ H _ I h) fun v s1 ⟨x, H1, I1, r1, q1⟩ => ho pins s1 σ H1 x v Q I1 r1 q1)
theorem opI {f : Value → Value → Sem Value} {C : Int → Int → Prop} {g : Int → Int → Int}
 (rule : ∀ (i j : Int) (t u : Tok) (s : Shared) (Q : Value → Shared → Prop) (E : Value → Shared → Prop), C i j → Q (.int (g i j) s.toks) { s with toks := s.toks + 1 } → wpAny (model X.prog X.w) X.A (f (.int i t) (.int j u)) Q E s) :
 OpR X f (rI C fun i j => .int (g i j)) := by
 intro pins s σ H x y v u Q I rx ry h
 obtain ⟨i, j, rfl, rfl, hc, q⟩ := h
 obtain ⟨t, rfl⟩ := rx
 obtain ⟨t', rfl⟩ := ry
 exact rule i j t t' s _ _ hc ⟨.int (g i j), H, I.tok _, ⟨_, rfl⟩, q⟩
theorem opI0 {f : Value → Value → Sem Value} {g : Int → Int → Int}
 (rule : ∀ (i j : Int) (t u : Tok) (s : Shared) (Q : Value → Shared → Prop) (E : Value → Shared → Prop), Q (.int (g i j) s.toks) { s with toks := s.toks + 1 } → wpAny (model X.prog X.w) X.A (f (.int i t) (.int j u)) Q E s) :
 OpR X f (rI0 fun i j => .int (g i j)) := by
 intro pins s σ H x y v u Q I rx ry h
 obtain ⟨i, j, rfl, rfl, q⟩ := h
 obtain ⟨t, rfl⟩ := rx
 obtain ⟨t', rfl⟩ := ry
 exact rule i j t t' s _ _ ⟨.int (g i j), H, I.tok _, ⟨_, rfl⟩, q⟩
theorem opB0 {f : Value → Value → Sem Value} {g : Int → Int → Bool}
 (rule : ∀ (i j : Int) (t u : Tok) (s : Shared) (Q : Value → Shared → Prop) (E : Value → Shared → Prop), Q (.bool (g i j)) s → wpAny (model X.prog X.w) X.A (f (.int i t) (.int j u)) Q E s) :
 OpR X f (rI0 fun i j => .bl (g i j)) := by
 intro pins s σ H x y v u Q I rx ry h
 obtain ⟨i, j, rfl, rfl, q⟩ := h
 obtain ⟨t, rfl⟩ := rx
 obtain ⟨t', rfl⟩ := ry
 exact rule i j t t' s _ _ ⟨.bl (g i j), H, I, rfl, q⟩

noncomputable def CDiv (i j : Int) : Prop := 0 < j ∧ j < 1073741824
noncomputable def CPow (i j : Int) : Prop := 0 ≤ j ∧ j ≤ 1000000 ∧ i.natAbs < 2 ^ 64
noncomputable def CMul (i j : Int) : Prop := (-(2 ^ 64) < i ∧ i < 2 ^ 64) ∨ (-(2 ^ 64) < j ∧ j < 2 ^ 64)
theorem CMul.ok {i j : Int} (h : CMul i j) : IntMulOk i j := by
 rcases h with ⟨h1, h2⟩ | ⟨h1, h2⟩
 · exact .of_left (intBits_le_64 h1 h2)
 · exact .of_right (intBits_le_64 h1 h2)
theorem op_add : OpR X (binaryOp .Add) (rI0 fun i j => .int (i + j)) := opI0 fun _ _ _ _ _ _ _ q => add_int q
theorem op_sub : OpR X (binaryOp .Sub) (rI0 fun i j => .int (i - j)) := opI0 fun _ _ _ _ _ _ _ q => sub_int q
theorem op_mul : OpR X (binaryOp .Mult) (rI CMul fun i j => .int (i * j)) := opI fun _ _ _ _ _ _ _ hc q => mul_int q hc.ok
theorem op_fdiv : OpR X (binaryOp .FloorDiv) (rI CDiv fun i j => .int (i / j)) := opI fun i j _ _ _ _ _ hc q => by
 have h1 : (0 : Int) < j := hc.1
 have h2 : j < 1073741824 := hc.2
 exact floordiv_int (by omega) (by rw [Int.fdiv_eq_ediv_of_nonneg i (by omega)]; exact q) (.inl (PyProof.noPylong_small (by omega)))
theorem op_mod : OpR X (binaryOp .Mod) (rI (fun _ j => 0 < j) fun i j => .int (i % j)) := opI fun i j _ _ _ _ _ hc q => by
 have h1 : (0 : Int) < j := hc
 exact mod_int' (by omega) (by rw [Int.fmod_eq_emod_of_nonneg i (by omega)]; exact q)
theorem op_pow : OpR X (binaryOp .Pow) (rI CPow fun i j => .int (i ^ j.toNat)) := opI fun _ _ _ _ _ _ _ hc q => pow_int_small hc.1 hc.2.1 hc.2.2 q
theorem unI {f : Value → Sem Value} {g : Int → Int}
 (rule : ∀ (i : Int) (t : Tok) (s : Shared) (Q : Value → Shared → Prop) (E : Value → Shared → Prop), Q (.int (g i) s.toks) { s with toks := s.toks + 1 } → wpAny (model X.prog X.w) X.A (f (.int i t)) Q E s) :
 UnR X f (rU fun i => .int (g i)) := by
 intro pins s σ H x v Q I rx h
 obtain ⟨i, rfl, q⟩ := h
 obtain ⟨t, rfl⟩ := rx
 exact rule i t s _ _ ⟨.int (g i), H, I.tok _, ⟨_, rfl⟩, q⟩
theorem un_neg : UnR X (unaryOp .USub) (rU fun i => .int (-i)) := unI fun _ _ _ _ _ q => neg_int q
end

noncomputable def scal : V → V → Bool
 | .non, .non => true | .non, .int _ => true | .int _, .non => true | .non, .bl _ => true | .bl _, .non => true | .non, .str _ => true | .str _, .non => true
 | .int _, .int _ => true | .bl _, .bl _ => true | .str _, .str _ => true | .byt _, .byt _ => true
 | .int _, .str _ => true | .str _, .int _ => true | .bl _, .str _ => true | .str _, .bl _ => true
 | _, _ => false
noncomputable def rEq : R2 := fun x y H Q => scal x y = true ∧ Q (.bl (decide (x = y))) H
noncomputable def rNe : R2 := fun x y H Q => scal x y = true ∧ Q (.bl (!decide (x = y))) H

theorem dec_int {i j : Int} : decide (V.int i = V.int j) = (i == j) := by
 rw [Bool.eq_iff_iff]
 simp
theorem dec_bl {i j : Bool} : decide (V.bl i = V.bl j) = (i == j) := by
 rw [Bool.eq_iff_iff]
 simp
theorem dec_str {i j : Str} : decide (V.str i = V.str j) = (i == j) := by
 rw [Bool.eq_iff_iff]
 simp
theorem dec_byt {i j : Array UInt8} : decide (V.byt i = V.byt j) = (i.toList == j.toList) := by
 rw [Bool.eq_iff_iff]
 cases i
 cases j
 simp

section
variable {X : Cx} {a b c : Expr} {ta tb tc : TE} {pos : Pos}
theorem fin_bl {pins : List (Addr × Obj)} {σ : St} {H : Hp} {s : Shared} {Q : VK} {k k' : Bool} (I : Inv X pins σ H s) (q : Q (.bl k) H) (e : k = k') : EP X pins σ Q (.bool k') s := by
 subst e
 exact ⟨.bl k, H, I, rfl, q⟩
theorem op_eq : OpR X (compareOp .Eq) rEq := by
 intro pins s σ H x y v u Q I rx ry h
 obtain ⟨hs, q⟩ := h
 cases x with
 | non =>
   cases rx
   cases y with
   | non => cases ry; exact PySem.EqNone.eq_none_none (fin_bl I q (by simp))
   | bl j => cases ry; exact PySem.EqNone.eq_none_bool (fin_bl I q (by simp))
   | int j => obtain ⟨t', rfl⟩ := ry; exact PySem.EqNone.eq_none_int (fin_bl I q (by simp))
   | str j => obtain ⟨t', rfl⟩ := ry; exact PySem.EqNone.eq_none_str (fin_bl I q (by simp))
   | _ => exact absurd (show false = true from hs) Bool.false_ne_true
 | bl i =>
   cases rx
   cases y with
   | non => cases ry; exact PySem.EqNone.eq_bool_none (fin_bl I q (by simp))
   | bl j => cases ry; exact eq_bool (fin_bl I q dec_bl)
   | str j => obtain ⟨t', rfl⟩ := ry; exact PySem.EqMixed.eq_bool_str (fin_bl I q (by simp))
   | _ => exact absurd (show false = true from hs) Bool.false_ne_true
 | int i =>
   obtain ⟨t, rfl⟩ := rx
   cases y with
   | non => cases ry; exact PySem.EqNone.eq_int_none (fin_bl I q (by simp))
   | int j => obtain ⟨t', rfl⟩ := ry; exact eq_int (fin_bl I q dec_int)
   | str j => obtain ⟨t', rfl⟩ := ry; exact PySem.EqMixed.eq_int_str (fin_bl I q (by simp))
   | _ => exact absurd (show false = true from hs) Bool.false_ne_true
 | str i =>
   obtain ⟨t, rfl⟩ := rx
   cases y with
   | non => cases ry; exact PySem.EqNone.eq_str_none (fin_bl I q (by simp))
   | bl j => cases ry; exact PySem.EqMixed.eq_str_bool (fin_bl I q (by simp))
   | int j => obtain ⟨t', rfl⟩ := ry; exact PySem.EqMixed.eq_str_int (fin_bl I q (by simp))
   | str j => obtain ⟨t', rfl⟩ := ry; exact eq_str (fin_bl I q dec_str)
   | _ => exact absurd (show false = true from hs) Bool.false_ne_true
 | byt i =>
   obtain ⟨t, rfl⟩ := rx
   cases y with
   | byt j => obtain ⟨t', rfl⟩ := ry; exact PySem.W.eq_bytes (fin_bl I q dec_byt)
   | _ => exact absurd (show false = true from hs) Bool.false_ne_true
 | _ => cases y <;> exact absurd (show false = true from hs) Bool.false_ne_true
theorem op_ne : OpR X (compareOp .NotEq) rNe := by
 intro pins s σ H x y v u Q I rx ry h
 obtain ⟨hs, q⟩ := h
 cases x with
 | non =>
   cases rx
   cases y with
   | non => cases ry; exact PySem.EqNone.ne_none_none (fin_bl I q (by simp))
   | bl j => cases ry; exact PySem.EqNone.ne_none_bool (fin_bl I q (by simp))
   | int j => obtain ⟨t', rfl⟩ := ry; exact PySem.EqNone.ne_none_int (fin_bl I q (by simp))
   | str j => obtain ⟨t', rfl⟩ := ry; exact PySem.EqNone.ne_none_str (fin_bl I q (by simp))
   | _ => exact absurd (show false = true from hs) Bool.false_ne_true
 | bl i =>
   cases rx
   cases y with
   | non => cases ry; exact PySem.EqNone.ne_bool_none (fin_bl I q (by simp))
   | bl j => cases ry; exact ne_bool (fin_bl I q (congrArg not dec_bl))
   | str j => obtain ⟨t', rfl⟩ := ry; exact PySem.EqMixed.ne_bool_str (fin_bl I q (by simp))
   | _ => exact absurd (show false = true from hs) Bool.false_ne_true
 | int i =>
   obtain ⟨t, rfl⟩ := rx
   cases y with
   | non => cases ry; exact PySem.EqNone.ne_int_none (fin_bl I q (by simp))
   | int j => obtain ⟨t', rfl⟩ := ry; exact ne_int (fin_bl I q (congrArg not dec_int))
   | str j => obtain ⟨t', rfl⟩ := ry; exact PySem.EqMixed.ne_int_str (fin_bl I q (by simp))
   | _ => exact absurd (show false = true from hs) Bool.false_ne_true
 | str i =>
   obtain ⟨t, rfl⟩ := rx
   cases y with
   | non => cases ry; exact PySem.EqNone.ne_str_none (fin_bl I q (by simp))
   | bl j => cases ry; exact PySem.EqMixed.ne_str_bool (fin_bl I q (by simp))
   | int j => obtain ⟨t', rfl⟩ := ry; exact PySem.EqMixed.ne_str_int (fin_bl I q (by simp))
   | str j => obtain ⟨t', rfl⟩ := ry; exact ne_str (fin_bl I q (congrArg not dec_str))
   | _ => exact absurd (show false = true from hs) Bool.false_ne_true
 | byt i =>
   obtain ⟨t, rfl⟩ := rx
   cases y with
   | byt j => obtain ⟨t', rfl⟩ := ry; exact PySem.W.ne_bytes (fin_bl I q (congrArg not dec_byt))
   | _ => exact absurd (show false = true from hs) Bool.false_ne_true
 | _ => cases y <;> exact absurd (show false = true from hs) Bool.false_ne_true

theorem op_lt : OpR X (compareOp .Lt) (rI0 fun i j => .bl (decide (i < j))) := opB0 fun _ _ _ _ _ _ _ q => lt_int q
theorem op_gt : OpR X (compareOp .Gt) (rI0 fun i j => .bl (decide (j < i))) := opB0 fun _ _ _ _ _ _ _ q => gt_int q
theorem op_ge : OpR X (compareOp .GtE) (rI0 fun i j => .bl (decide (j ≤ i))) := opB0 fun _ _ _ _ _ _ _ q => ge_int q
theorem nomark (b : Expr) {op : CmpOp} (h : op ≠ .In := by decide) (h2 : op ≠ .NotIn := by decide) : behindInMarks op b = false := by
 have e1 : (op == CmpOp.In) = false := by cases op <;> first | rfl | exact absurd rfl h
 have e2 : (op == CmpOp.NotIn) = false := by cases op <;> first | rfl | exact absurd rfl h2
 cases b <;> simp [behindInMarks, e1, e2]
theorem pe_cmpR {op : CmpOp} {r : R2} (ho : OpR X (compareOp op) r) (ha : PE X a ta) (hb : PE X b tb) (hm : behindInMarks op b = false) : PE X (.Compare a [op] [b] pos) (tOp r ta tb) := by
 intro pins s σ H Q I h
 exact wpAny_Compare1 (binT ha hb I h fun v u s2 x y H2 I2 rx ry q => ho pins s2 σ H2 x y v u Q I2 rx ry q) hm
noncomputable def tTest (t : TE) : TT := fun σ H Q => t σ H fun x H' => ∃ k, x = .bl k ∧ Q k H'
theorem pt_cmpR {op : CmpOp} {r : R2} (ho : OpR X (compareOp op) r) (ha : PE X a ta) (hb : PE X b tb) (hm : behindInMarks op b = false) : PT X (.Compare a [op] [b] pos) (tTest (tOp r ta tb)) := by
 intro pins s σ H Q I h
 refine wpAny_isTrue_Compare1 (thn (ha pins s σ H _ I h) fun v s1 ⟨x, H1, I1, r1, q1⟩ => thn (hb pins s1 σ H1 _ I1 q1) fun u s2 ⟨y, H2, I2, r2, q2⟩ =>
  thn (ho pins s2 σ H2 x y v u _ I2 r1 r2 q2) fun c s3 ⟨z, H3, I3, r3, k, e, q3⟩ => ?_) hm
 subst e
 cases r3
 exact wpAny_truthy_bool ⟨H3, I3, q3⟩
theorem line63 : (sizeLine : Nat) < 2 ^ 63 := by rw [sizeLine_eq]; decide
theorem op_add_str : OpR X (binaryOp .Add) (fun x y H Q => ∃ i j, x = .str i ∧ y = .str j ∧ i.length + j.length ≤ sizeLine ∧ Q (.str (i ++ j)) H) := by
 intro pins s σ H x y v u Q I rx ry h
 obtain ⟨i, j, rfl, rfl, hz, q⟩ := h
 obtain ⟨t, rfl⟩ := rx
 obtain ⟨t', rfl⟩ := ry
 exact add_str (fun t' tk => ⟨.str (i ++ j), H, I.tok _, ⟨_, rfl⟩, q⟩) hz
theorem vals1 {x : V} {us : List Value} (r : Vals [x] us) : ∃ u, us = [u] ∧ RelV x u := by
 cases r with
 | cons r1 r2 => cases r2; exact ⟨_, rfl, r1⟩
theorem vals2 {x y : V} {us : List Value} (r : Vals [x, y] us) : ∃ u w', us = [u, w'] ∧ RelV x u ∧ RelV y w' := by
 cases r with
 | cons r1 r2 =>
   cases r2 with
   | cons r3 r4 => cases r4; exact ⟨_, _, rfl, r1, r3⟩
theorem call_abs : CallR X (.builtin "abs") (fun xs H Q => ∃ i, xs = [.int i] ∧ Q (.int (if i < 0 then -i else i)) H) := by
 intro pins s σ H xs us Q I r h
 obtain ⟨i, rfl, q⟩ := h
 obtain ⟨u, rfl, t, rfl⟩ := vals1 r
 exact call_abs_int fun u tk => ⟨.int (if i < 0 then -i else i), H, I.tok _, ⟨_, rfl⟩, q⟩
theorem call_min2 (hc : X.calm = true) : CallR X (.builtin "min") (fun xs H Q => ∃ i j, xs = [.int i, .int j] ∧ Q (.int (if j < i then j else i)) H) := by
 intro pins s σ H xs us Q I r h
 obtain ⟨i, j, rfl, q⟩ := h
 obtain ⟨u, w', rfl, ⟨t, rfl⟩, ⟨t', rfl⟩⟩ := vals2 r
 refine min_two_ints (I.ok.hd hc) fun h' tk k => ⟨_, H, I.kept k, ?_, q⟩
 by_cases hj : j < i
 · rw [if_pos hj, if_pos hj]; exact ⟨_, rfl⟩
 · rw [if_neg hj, if_neg hj]; exact ⟨_, rfl⟩
theorem call_int1 : CallR X (.type "int") (fun xs H Q => (∃ i, xs = [.int i] ∧ Q (.int i) H) ∨ ∃ k, xs = [.bl k] ∧ Q (.int (if k then 1 else 0)) H) := by
 intro pins s σ H xs us Q I r h
 rcases h with ⟨i, rfl, q⟩ | ⟨k, rfl, q⟩
 · obtain ⟨u, rfl, t, rfl⟩ := vals1 r
   exact call_int_int ⟨.int i, H, I, ⟨_, rfl⟩, q⟩
 · obtain ⟨u, rfl, r1⟩ := vals1 r
   cases r1
   exact call_int_bool ⟨.int (if k then 1 else 0), H, I.tok _, ⟨_, rfl⟩, q⟩
end
end L2

namespace L2
open PySem PySem.Spec PyProof.Rows

structure ObjM (h : Heap) (x dx C : Addr) (mA : Str → Option Value) : Prop where
 obj : h.get? x = some (PySem.W.instObj C dx)
 ns : h.Ns1 dx mA
 ne : dx ≠ x

theorem lookIn_ns {h : Heap} {dx : Addr} {mA : Str → Option Value} (n : h.Ns1 dx mA) : ∃ od, h.get? dx = some od ∧ ∀ name, PySem.W.lookIn name od = some (mA name) := by
 obtain ⟨o, es, ep, ho, hd, hk, _, hm⟩ := n
 refine ⟨o, ho, fun name => ?_⟩
 have e := hm name
 unfold nsFind findBy at e
 rw [← Array.find?_toList] at e
 unfold PySem.W.lookIn
 rw [hd]
 dsimp only
 split
 · rename_i y q
   rw [q] at e
   exact congrArg some e
 · rename_i q
   rw [q] at e
   have a : es.toList.any (·.refKey) = false := by
    rw [List.any_eq_false]
    intro y hy
    obtain ⟨z, t, hkey⟩ := hk y (Array.mem_toList_iff.mp hy)
    simp [DictEntry.refKey, hkey]
   have a' : ¬ es.toList.any (·.refKey) = true := by rw [a]; exact Bool.false_ne_true
   rw [if_neg a']
   exact congrArg some e

theorem ObjM.look {h : Heap} {x dx C : Addr} {mA : Str → Option Value} (I : ObjM h x dx C mA) : ∃ od, PySem.W.InstAt h x (PySem.W.instObj C dx) C (some od) ∧ ∀ name, PySem.W.lookIn name od = some (mA name) :=
 let ⟨od, ho, hl⟩ := lookIn_ns I.ns
 ⟨od, ⟨I.obj, rfl, rfl, ho⟩, hl⟩

section
variable {prog : Program} {w : World} {A : Around} {E : Value → Shared → Prop} {s : Shared} {K : PySem.W.Frag} {x dx C f : Addr} {mA : Str → Option Value} {name : Str} {v : Value}

end

section
variable {P : Program} {w : World} {H H' : Hp} {h h' : Heap} {a C dx : Addr} {fs fs' : List (Str × V)}
theorem ins_get (hok : HOk P w H h) (e : H a = some (.ins C dx fs)) : ∃ mA, ObjM h a dx C mA ∧ (∀ f, RelO (fs.lookup f) (mA f)) ∧ PySem.Within mA (fs.map (·.1)) ∧ fs.length ≤ 1000 ∧ H dx = some (.own a) := by
 obtain ⟨d, z, ne, ob, mA, n, r, q⟩ := (show ObjOk P w H h a (.ins C dx fs) from hok a _ e)
 exact ⟨mA, ⟨ob, n, ne⟩, r, q, z, d⟩
end

structure Cls (K : PySem.W.Frag) (C : Addr) : Prop where
 pg : PySem.W.plainGet K C Str.empty = true
 hd : PySem.W.hasDictIn K C = true
 po : PySem.W.plainOver K C = true
 sa : PySem.W.findIn K (.ref C) "__setattr__" = some (some (.builtin "object.__setattr__"))
theorem Cls.get {K : PySem.W.Frag} {C : Addr} (c : Cls K C) (f : Str) : PySem.W.plainGet K C f = true := c.pg
section
variable {X : Cx} {pins : List (Addr × Obj)} {σ : St} {H : Hp} {s : Shared} {a C dx : Addr} {fs : List (Str × V)} {f : Str} {v : V} {A : Around} {E : Value → Shared → Prop}

end

section
variable {X : Cx} {o e value : Expr} {f : Str} {pos pos' tpos : Pos} {ta tv : TE}
end

section
variable {X : Cx} {pins : List (Addr × Obj)} {σ : St} {H : Hp} {s : Shared} {A : Around} {E : Value → Shared → Prop} {Q : Value → Shared → Prop} {c : Value} {b : Bool}
inductive TyOf (K : PySem.W.Frag) (H : Hp) : V → Value → Prop where
 | non : TyOf K H .non (.type "NoneType")
 | bl (x : Bool) : TyOf K H (.bl x) (.type "bool")
 | int (i : Int) : TyOf K H (.int i) (.type "int")
 | str (x : Str) : TyOf K H (.str x) (.type "str")
 | flt (x : UInt64) : TyOf K H (.flt x) (.type "float")
 | lst {a : Addr} {xs : List V} (e : H a = some (.lst xs)) : TyOf K H (.ref a) (.type "list")
 | frz {a : Addr} {o : Obj} {xs : List V} (e : H a = some (.frz o (.lst xs))) : TyOf K H (.ref a) (.type "list")
 | tup {a : Addr} {xs : List V} (e : H a = some (.tup xs)) : TyOf K H (.ref a) (.type "tuple")
 | dK {a : Addr} {kvs : List (Key × V)} (e : H a = some (.dK kvs)) : TyOf K H (.ref a) (.type "dict")
 | dT {a : Addr} {kvs : List (List Key × V)} (e : H a = some (.dT kvs)) : TyOf K H (.ref a) (.type "dict")
 | ins {a C dx : Addr} {fs : List (Str × V)} (e : H a = some (.ins C dx fs)) (cl : Cls K C) (ha : PySem.W.findIn K (.ref C) "__class__" = some (some (.builtin "object.__class__")))
  (hn : PySem.W.specialIn K (.builtin "object.__class__") "__get__" = some (some (.builtin "getset_descriptor.__get__"))) (htk : PySem.W.takesIn K (.builtin "object.__class__") = some true)
  (hm : PySem.W.mroIn K C (.type "object") = some true) : TyOf K H (.ref a) (.ref C)
theorem isinst_ok {x : V} {u t : Value} (I : Inv X pins σ H s) (rx : RelV x u) (ty : TyOf X.K H x t) (e : PySem.W.kitOne X.K t c = some b) (h : ∀ tk, Q (.bool b) { s with toks := tk }) :
 wpAny (model X.prog X.w) A (call (.builtin "isinstance") [u, c]) Q E s := by
 cases ty with
 | non => cases (show u = Value.none from rx); exact PySem.W.kia_one PySem.W.kitx_none I.kIn True.intro e (fun z => nomatch z) h
 | bl y => cases (show u = Value.bool y from rx); exact PySem.W.kia_one PySem.W.kitx_bool I.kIn True.intro e (fun z => nomatch z) h
 | int i => obtain ⟨t, q⟩ := (show ∃ t, u = Value.int i t from rx); cases q; exact PySem.W.kia_one PySem.W.kitx_int I.kIn True.intro e (fun z => nomatch z) h
 | str y => obtain ⟨t, q⟩ := (show ∃ t, u = Value.str y t from rx); cases q; exact PySem.W.kia_one PySem.W.kitx_str I.kIn True.intro e (fun z => nomatch z) h
 | flt y => obtain ⟨t, q⟩ := (show ∃ t, u = Value.float y t from rx); cases q; exact PySem.W.kia_one PySem.W.kitx_float I.kIn True.intro e (fun z => nomatch z) h
 | @lst a xs ea =>
   cases (show u = Value.ref a from rx)
   obtain ⟨_, _, n, _, h1⟩ := (show ObjOk X.prog X.w H s.heap a (.lst xs) from I.hok a _ ea)
   exact PySem.W.kia_one PySem.W.kitx_list I.kIn ⟨_, h1, rfl⟩ e (fun z => nomatch z) h
 | @frz a ob xs ea =>
   cases (show u = Value.ref a from rx)
   obtain ⟨_, _, _, n, _, h1⟩ := (show ObjOk X.prog X.w H s.heap a (.frz ob (.lst xs)) from I.hok a _ ea)
   exact PySem.W.kia_one PySem.W.kitx_list I.kIn ⟨_, h1, rfl⟩ e (fun z => nomatch z) h
 | @tup a xs ea =>
   cases (show u = Value.ref a from rx)
   obtain ⟨_, _, _, p⟩ := (show ObjOk X.prog X.w H s.heap a (.tup xs) from I.hok a _ ea)
   obtain ⟨o, h1, h2, _⟩ := p.tup
   exact PySem.W.kia_one PySem.W.kitx_tuple I.kIn ⟨o, h1, h2⟩ e (fun z => nomatch z) h
 | @dK a kvs ea =>
   cases (show u = Value.ref a from rx)
   obtain ⟨_, _, vs, _, p⟩ := (show ObjOk X.prog X.w H s.heap a (.dK kvs) from I.hok a _ ea)
   obtain ⟨o, es, ep, h1, h2, _⟩ := p
   exact PySem.W.kia_one PySem.W.kitx_dict I.kIn ⟨o, h1, h2.1⟩ e (fun z => nomatch z) h
 | @dT a kvs ea =>
   cases (show u = Value.ref a from rx)
   obtain ⟨_, _, xs, _, o, es, ep, h1, h2, _⟩ := (show ObjOk X.prog X.w H s.heap a (.dT kvs) from I.hok a _ ea)
   exact PySem.W.kia_one PySem.W.kitx_dict I.kIn ⟨o, h1, h2.1⟩ e (fun z => nomatch z) h
 | @ins a C dx fs ea cl ha hn htk hm =>
   cases (show u = Value.ref a from rx)
   obtain ⟨mA, O, _⟩ := ins_get I.hok ea
   obtain ⟨od, J, _⟩ := O.look
   exact PySem.W.kia_one (PySem.W.kitx_own (cl.get _) cl.hd ha hn htk hm) I.kIn J e (fun z => nomatch z) h
end
end L2

namespace L2
open PySem PySem.Spec PyProof.Rows

structure Room (k : Nat) (A : Around) : Prop where
 hd : A.handled = none
 dp : A.depth + 3 * k + 5 < recursionLimit
 un : A.units + 16 * k + 200 < cLine
 gd : A.guards = some []
theorem Room.mono {j k : Nat} {A : Around} (r : Room k A) (h : j ≤ k) : Room j A := ⟨r.hd, by have := r.dp; omega, by have := r.un; omega, r.gd⟩
theorem Room.deeper {k : Nat} {A : Around} (r : Room (k + 1) A) (env : Env) : Room k (A.deeper env) :=
 ⟨r.hd, by have := r.dp; show A.depth + 1 + 3 * k + 5 < _; omega, by have := r.un; show A.units + 3 + 16 * k + 200 < _; omega, r.gd⟩
theorem Room.depth {k : Nat} {A : Around} (r : Room k A) : A.depth < recursionLimit := by have := r.dp; omega
theorem Room.units {k : Nat} {A : Around} (r : Room k A) : A.units + 64 < cLine := by have := r.un; omega
noncomputable def tNil : TA := fun _ H Q => Q [] H
noncomputable def tCons (ta : TE) (tr : TA) : TA := fun σ H Q => ta σ H fun x H1 => tr σ H1 fun xs H2 => Q (x :: xs) H2
section
variable {X : Cx} {e : Expr} {es : List Expr} {te : TE} {t : TA} {pos : Pos}
theorem pa_nil : PA X [] tNil := fun _ _ _ _ H Q I h => Calls.spliced_nil ⟨[], H, I, .nil, h⟩
theorem pa_cons (ha : PE X e te) (hr : PA X es t) (hs : starEach (e :: es) X.env = (false, eval e X.env) :: starEach es X.env := by rfl) : PA X (e :: es) (tCons te t) := by
 intro pos pins s σ H Q I h
 rw [hs]
 show wpAny _ _ (spliced ((false, eval e X.env) :: backTo pos (starEach es X.env))) _ _ s
 refine Calls.spliced_cons (thn (ha pins s σ H _ I h) fun u s1 ⟨x, H1, I1, r1, q1⟩ => ?_)
 exact thn (hr pos pins s1 σ H1 _ I1 q1) fun us s2 ⟨xs, H2, I2, r2, q2⟩ => ⟨x :: xs, H2, I2, .cons r1 r2, q2⟩

noncomputable def tTup (t : TA) : TE := fun σ H Q => t σ H fun xs H1 => xs.length ≤ sizeLine ∧ ∀ p, H1 p = none → Q (.ref p) (upd H1 p (.tup xs))
theorem pe_tup {x1} (h : PA X es t) : PE X (.Tuple es x1 pos) (tTup t) := by
 intro pins s σ H Q I hq
 refine wpAny_Tuple_spliced (thn (h pos pins s σ H _ I hq) fun us s1 ⟨xs, H1, I1, r, z, q⟩ => ⟨by rw [← r.length]; exact z, ?_⟩)
 have hf : H1 s1.heap.objs.size = none := I1.hok.fresh (Nat.le_refl _)
 refine ⟨.ref s1.heap.objs.size, upd H1 s1.heap.objs.size (.tup xs), I1.laid (t' := s1.toks) (fun b u e => Heap.get?_push_of_some _ e) (Nat.le_refl _) ?_, rfl, q _ hf⟩
 exact ⟨z, us, r, ⟨_, Heap.get?_push_size _ rfl, rfl, _, rfl⟩⟩
end

noncomputable abbrev Sp := List V → Hp → VK → XK → Prop
noncomputable abbrev CXT := List Env → Hp → Shared → XK → Value → Shared → Prop

structure Env0 (P : Program) (w : World) (K : PySem.W.Frag) (mg : Str → Option Value) (base : Heap) (A : Around) (outer : List Env) (s : Shared) (H : Hp) : Prop where
 frames : A.frames = some outer
 mod : Mod K mg base
 bs : ∀ b o, base.get? b = some o → s.heap.get? b = some o ∧ H b = none
 bsz : base.objs.size ≤ s.heap.objs.size
 funs : s.heap.FunFrames base outer
 frf : ∀ b ∈ frs outer, H b = none
 hok : HOk P w H s.heap
 bare : AllBare s.gens
noncomputable def CE (outer : List Env) (P : Program) (w : World) (H : Hp) (s : Shared) (Q : VK) (u : Value) (s' : Shared) : Prop :=
 ∃ v H', s'.os = s.os ∧ AllBare s'.gens ∧ Un (frs outer) [] H H' s.heap s'.heap ∧ HOk P w H' s'.heap ∧ RelV v u ∧ Q v H'
noncomputable def CR (CX : CXT) (outer : List Env) (P : Program) (w : World) (H : Hp) (s : Shared) (Q : VK) (E : XK) (r : Result) (s' : Shared) : Prop :=
 match r with
 | .ok (.ret u) => CE outer P w H s Q u s'
 | .ok _ => False
 | .error e => CX outer H s E e s'
structure FnOk (P : Program) (w : World) (K : PySem.W.Frag) (mg : Str → Option Value) (base : Heap) (CX : CXT) (k : Nat) (f : Addr) (fd : FuncData) (ps : List Str) (sp : Sp) : Prop where
 len : ∀ vs H Q E, sp vs H Q E → vs.length = ps.length
 run : ∀ (A : Around) (outer : List Env) (s : Shared) (H : Hp) (args : Args) (us : List Value) (vs : List V) (Q : VK) (E : XK), Room k A → Env0 P w K mg base A outer s H → BindsTo s fd args (ps.zip us) → Vals vs us → sp vs H Q E →
  codeAny (model P w) A (.call (.ref f) args) (CR CX outer P w H s Q E) s
theorem FnOk.imp {P : Program} {w : World} {K : PySem.W.Frag} {mg : Str → Option Value} {base : Heap} {CX : CXT} {k : Nat} {f : Addr} {fd : FuncData} {ps : List Str} {sp sp' : Sp} (F : FnOk P w K mg base CX k f fd ps sp)
 (h : ∀ vs H Q E, sp' vs H Q E → sp vs H Q E) : FnOk P w K mg base CX k f fd ps sp' :=
 ⟨fun vs H Q E q => F.len vs H Q E (h _ _ _ _ q), fun A outer s H args us vs Q E hr he hb hv hs => F.run A outer s H args us vs Q E hr he hb hv (h _ _ _ _ hs)⟩

section
variable {X : Cx} {pins : List (Addr × Obj)} {σ : St} {H : Hp} {s s' : Shared}
theorem Inv.env0 (I : Inv X pins σ H s) : Env0 X.prog X.w X.K X.mg X.base X.A X.stack s H :=
 ⟨I.ok.frames, I.ok.mod, I.bs, Nat.le_trans I.ok.bsz I.sz, I.stack, I.stkFree, I.hok, I.bare⟩
theorem Inv.after {Q : VK} {u : Value} (I : Inv X pins σ H s) (h : CE X.stack X.prog X.w H s Q u s') : EP X pins σ Q u s' := by
 obtain ⟨v, H', os, bare, un, hok, r, q⟩ := h
 obtain ⟨hh, g, d, t, os'⟩ := s'
 obtain rfl : os' = s.os := os
 exact ⟨v, H', I.call (h' := hh) (g' := g) (d' := d) (t' := t) (ch := []) un hok bare (fun b z => absurd z (by simp)), r, q⟩
end

noncomputable def tCall (sp : Sp) (dvs : List V) (E : XK) (t : TA) : TE := fun σ H Q => t σ H fun vs H1 => sp (vs ++ dvs) H1 Q E
noncomputable def Binds (K : PySem.W.Frag) (fd : FuncData) (ps : List Str) (ds : List Value) : Prop :=
 ∀ (s : Shared) (us : List Value), K.In s.heap → (us ++ ds).length = ps.length → BindsTo s fd ⟨us, []⟩ (ps.zip (us ++ ds))
theorem Binds.all {K : PySem.W.Frag} {fd : FuncData} {ps : List Str} (h : ∀ us : List Value, us.length = ps.length → bindArgs fd ⟨us, []⟩ = pure (ps.zip us)) : Binds K fd ps [] := fun s us _ hl => by
 rw [List.append_nil] at hl ⊢
 exact .of_eq (h us hl)

noncomputable def Passes (CX : CXT) (X : Cx) (E : XK) : Prop := ∀ (pins : List (Addr × Obj)) (σ : St) (H : Hp) (s : Shared) (e : Value) (s' : Shared), Inv X pins σ H s → CX X.stack H s E e s' → X.xe e s'

section
variable {X : Cx} {CX : CXT} {k : Nat} {f C : Addr} {fd : FuncData} {ps : List Str} {sp : Sp} {dvs : List V} {ds : List Value} {E : XK} {x m : Str} {p pos apos : Pos} {e o : Expr} {es : List Expr} {ta : TE} {t : TA}

theorem run_fn {pins : List (Addr × Obj)} {σ : St} {H : Hp} {s : Shared} {Q : VK} {us : List Value} {vs : List V} (F : FnOk X.prog X.w X.K X.mg X.base CX k f fd ps sp) (hr : Room k X.A) (hb : Binds X.K fd ps ds) (hd : Vals dvs ds) (hx : Passes CX X E)
 (I : Inv X pins σ H s) (r : Vals vs us) (h : sp (vs ++ dvs) H Q E) : wpAny (model X.prog X.w) X.A (call (.ref f) us) (EP X pins σ Q) X.xe s := by
 have r2 : Vals (vs ++ dvs) (us ++ ds) := r.append hd
 have hl : (us ++ ds).length = ps.length := by rw [← r2.length]; exact F.len _ _ _ _ h
 refine wpAny_call (codeAny_mono (F.run X.A X.stack s H ⟨us, []⟩ (us ++ ds) (vs ++ dvs) Q E hr I.env0 (hb s us I.kIn hl) r2 h) fun r s' hq => ?_)
 cases r with
 | error e => exact hx pins σ H s e s' I hq
 | ok fl =>
   cases fl with
   | ret u => exact I.after hq
   | next => exact False.elim hq
   | brk => exact False.elim hq
   | cont => exact False.elim hq

theorem pe_call (F : FnOk X.prog X.w X.K X.mg X.base CX k f fd ps sp) (hr : Room k X.A) (hg : Gl X x) (hm : X.mg x = some (.ref f)) (hk : PySem.W.keepIn X.K (.ref f) = true) (hb : Binds X.K fd ps ds) (hd : Vals dvs ds) (hx : Passes CX X E)
 (ha : PA X (e :: es) t) (hdb : (x == ("__debug__" : Str)) = false := by decide) (he : starEach (e :: es) X.env = (false, eval e X.env) :: starEach es X.env := by rfl) (hpl : (backTo pos (starEach es X.env)).any (·.1) = false := by rfl) :
 PE X (.Call (.Name x p) (e :: es) [] pos) (tCall sp dvs E t) := by
 intro pins s σ H Q I h
 refine wpAny_Call_Name_kw (ld_glob I hg hm ?_ hdb)
 refine PySem.W.callWith_K (h₀ := X.base) I.ok.mod.kin hk (thn (ha pos pins s σ H _ I h) fun us s1 ⟨vs, H1, I1, r, q⟩ => ⟨I1.kIn, ?_⟩) he hpl
 exact run_fn F hr hb hd hx I1 r q
end

section
variable {X : Cx} {CX : CXT} {k : Nat} {f C : Addr} {fd : FuncData} {ps ks : List Str} {sp : Sp} {E : XK} {x m : Str} {p pos apos kpos : Pos} {e o : Expr} {es : List Expr} {kws : List Keyword} {te ta : TE} {t tk : TA} {nm : Option Str}
variable {g : List Value → List Value → List Value} {gV : List V → List V → List V}
end

structure FnScope (N P : List Str) (sc : Scope) : Prop where
 kind : sc.kind = .function
 co : sc.isCoroutine = false
 gen : sc.isGenerator = false
 nd : N.Nodup
 pre : N.take P.length = P
 par : ∀ x ∈ P, sc.names.lookup x = some .local ∨ sc.names.lookup x = some .cell
 nofree : ∀ y ∈ sc.names, y.2 ≠ .free

theorem bindL_out {kindOf : Str → Option NameKind} {x : Str} : ∀ {binds : List (Str × Value)} {m : Str → Option Value}, (∀ v, (x, v) ∉ binds) → bindL kindOf binds m x = m x
 | [], _, _ => rfl
 | (n, v) :: r, m, h => by
   unfold bindL
   rw [bindL_out fun w hw => h w (List.mem_cons_of_mem _ hw)]
   split
   · have : x ≠ n := by rintro rfl; exact h v List.mem_cons_self
     simp [this]
   · rfl
theorem bindC_out {kindOf : Str → Option NameKind} {x : Str} : ∀ {binds : List (Str × Value)} {m : Str → Option Value}, (∀ v, (x, v) ∉ binds) → bindC kindOf binds m x = m x
 | [], _, _ => rfl
 | (n, v) :: r, m, h => by
   unfold bindC
   rw [bindC_out fun w hw => h w (List.mem_cons_of_mem _ hw)]
   split
   · rfl
   · have : x ≠ n := by rintro rfl; exact h v List.mem_cons_self
     simp [this]
theorem bindL_get {kindOf : Str → Option NameKind} {x : Str} {v : Value} : ∀ {P : List Str} {vs : List Value} {i : Nat} {m : Str → Option Value}, P.Nodup → P[i]? = some x → vs[i]? = some v → kindOf x = some .local →
 bindL kindOf (P.zip vs) m x = some v
 | [], _, _, _, _, h, _, _ => by simp at h
 | _ :: _, [], _, _, _, _, h, _ => by simp at h
 | p :: P, w :: vs, 0, m, nd, h1, h2, hk => by
   simp at h1 h2; subst h1; subst h2
   show bindL kindOf ((p, w) :: P.zip vs) m p = _
   unfold bindL
   rw [bindL_out fun v hv => (List.nodup_cons.mp nd).1 (List.of_mem_zip hv).1, if_pos hk]
   simp
 | p :: P, w :: vs, i + 1, m, nd, h1, h2, hk => by
   show bindL kindOf ((p, w) :: P.zip vs) m x = _
   unfold bindL
   exact bindL_get (i := i) (List.nodup_cons.mp nd).2 (by simpa using h1) (by simpa using h2) hk
theorem bindC_get {kindOf : Str → Option NameKind} {x : Str} {v : Value} : ∀ {P : List Str} {vs : List Value} {i : Nat} {m : Str → Option Value}, P.Nodup → P[i]? = some x → vs[i]? = some v → kindOf x ≠ some .local →
 bindC kindOf (P.zip vs) m x = some v
 | [], _, _, _, _, h, _, _ => by simp at h
 | _ :: _, [], _, _, _, _, h, _ => by simp at h
 | p :: P, w :: vs, 0, m, nd, h1, h2, hk => by
   simp at h1 h2; subst h1; subst h2
   show bindC kindOf ((p, w) :: P.zip vs) m p = _
   unfold bindC
   rw [bindC_out fun v hv => (List.nodup_cons.mp nd).1 (List.of_mem_zip hv).1, if_neg hk]
   simp
 | p :: P, w :: vs, i + 1, m, nd, h1, h2, hk => by
   show bindC kindOf ((p, w) :: P.zip vs) m x = _
   unfold bindC
   exact bindC_get (i := i) (List.nodup_cons.mp nd).2 (by simpa using h1) (by simpa using h2) hk

noncomputable def start (N : List Str) (vs : List V) : St := vs.map some ++ List.replicate (N.length - vs.length) none

noncomputable def cxOf (CX : CXT) (P : Program) (w : World) (K : PySem.W.Frag) (mg : Str → Option Value) (base : Heap) (N : List Str) (qual : Str) (scope : Scope) (f : Addr) (cd : Value) (A : Around) (outer : List Env) (s : Shared) (H : Hp) (E : XK) : Cx where
 prog := P
 w := w
 K := K
 mg := mg
 base := base
 A := A.deeper (envOfC qual scope s.heap.objs.size f cd)
 N := N
 s₀ := s
 H₀ := H
 env := envOfC qual scope s.heap.objs.size f cd
 outer := outer
 stack := envOfC qual scope s.heap.objs.size f cd :: outer
 ex := []
 calm := true
 fn := fun _ => true
 pn := []
 xe := fun e s' => wpAny (model P w) (A.deeper (envOfC qual scope s.heap.objs.size f cd)) (leaving (envOfC qual scope s.heap.objs.size f cd) e) (fun _ s'' => CX outer H s E e s'') (fun e' s'' => CX outer H s E e' s'') s'

theorem cell_has {sc : Scope} {n : Nat} {x : Str} (h : sc.names.lookup x = some .cell) : ∃ c, (cellsFrom n sc.names []).lookup x = some c := by
 have q := PySem.W.cellsFrom_some sc.names n [] (.inl h)
 exact Option.isSome_iff_exists.mp q

theorem inv_start {CX : CXT} {P : Program} {w : World} {K : PySem.W.Frag} {mg : Str → Option Value} {base : Heap} {N ps : List Str} {qual : Str} {scope : Scope} {f : Addr} {cd : Value} {A : Around} {outer : List Env} {s s1 : Shared} {H : Hp} {E : XK} {us : List Value} {vs : List V}
 (S : FnScope N ps scope) (hd : A.handled = none) (e0 : Env0 P w K mg base A outer s H) (hl : vs.length = ps.length) (r : Vals vs us)
 (x : InCallC s s.heap.objs.size (bindL (envOfC qual scope s.heap.objs.size f cd).kindOf (ps.zip us) fun _ => none) (cellsFrom (s.heap.objs.size + 1) scope.names []) (bindC (envOfC qual scope s.heap.objs.size f cd).kindOf (ps.zip us) fun _ => none) s1) :
 Inv (cxOf CX P w K mg base N qual scope f cd A outer s H E) [] (start N vs) H s1 := by
 have hpl : ps.length ≤ N.length := by have := congrArg List.length S.pre; rw [List.length_take] at this; omega
 obtain ⟨h1, tk, rfl, hk⟩ := x.done
 have noA : ∀ b : Addr, b ∉ (cxOf CX P w K mg base N qual scope f cd A outer s H E).ex := fun b z => absurd (show b ∈ ([] : List Addr) from z) (by simp)
 refine ⟨⟨e0.mod, S.kind, rfl, rfl, Nat.le_refl _, fun y z c h1 h2 => ?_, fun y hy => ?_, fun y c _ h => ?_, fun _ => hd, Around.frames_deeper e0.frames, .inr ⟨rfl, rfl⟩, fun b z => absurd z (noA b), e0.bs, e0.bsz, fun b _ _ => noA b, fun b z => absurd z (noA b), e0.funs, e0.frf⟩,
  rfl, e0.bare, Un.kept hk, ⟨_, x.toInCall.ns, fun i y v h1 h2 h3 => ?_⟩, fun y c h => ⟨_, x.cell y c h⟩, e0.hok.fresh (Nat.le_refl _), fun y c h => ?_, fun p hp => absurd (show p ∈ ([] : List (Addr × Obj)) from hp) (by simp), e0.hok.kept hk, ?_⟩
 · exact name_of_addr x.apart (PySem.mem_of_lookup h1) (PySem.mem_of_lookup h2)
 · have hy : scope.names.lookup y = some .cell ∨ scope.names.lookup y = some .free := hy
   rcases hy with hy | hy
   · exact cell_has hy
   · exact absurd rfl (S.nofree _ (PySem.mem_of_lookup hy))
 · exact Nat.le_of_lt (x.above y c (PySem.mem_of_lookup h))
 · have hi : i < vs.length := by
    unfold start at h2
    by_cases hi : i < vs.length
    · exact hi
    · rw [List.getElem?_append_right (by simpa using hi)] at h2
      rw [List.getElem?_replicate] at h2
      split at h2 <;> cases h2
   have ha : vs[i]? = some v := by
    unfold start at h2
    rw [List.getElem?_append_left (by simpa using hi), List.getElem?_map] at h2
    cases e : vs[i]? with
    | none => rw [e] at h2; cases h2
    | some a => rw [e] at h2; cases h2; rfl
   obtain ⟨u, hu, rv⟩ := r.get ha
   have hp : ps[i]? = some y := by
    rw [← S.pre, List.getElem?_take_of_lt (by omega)]; exact h1
   have ndP : ps.Nodup := by rw [← S.pre]; exact S.nd.sublist (List.take_sublist _ _)
   refine ⟨u, rv, ?_⟩
   rcases S.par y (List.mem_of_getElem? hp) with k | k
   · exact .inl ⟨k, bindL_get ndP hp hu k⟩
   · obtain ⟨c, e⟩ := cell_has (n := s.heap.objs.size + 1) k
     refine .inr ⟨.inl k, c, e, ?_⟩
     have q := x.cell y c e
     rw [bindC_get ndP hp hu (by show scope.names.lookup y ≠ _; rw [k]; decide)] at q
     exact q
 · exact e0.hok.fresh (Nat.le_of_lt (x.above y c (PySem.mem_of_lookup h)))
 · unfold start
   show _ = N.length
   rw [List.length_append, List.length_map, List.length_replicate]
   omega

theorem fn_of {CX : CXT} {P : Program} {w : World} {K : PySem.W.Frag} {mg : Str → Option Value} {base : Heap} {k : Nat} {f : Addr} {name qual : Str} {params : Arguments} {body : List Stmt} {scope : Scope} {dV kV doc pm cdv ct oc : Value} {an od : Option Addr}
 {osl : Array (Option Value)} {N ps : List Str} {sp : Sp} (lk : K.lookup f = some ⟨oc, od, .func (PySem.W.fnOf name qual params body scope dV kV doc pm an cdv ct), osl⟩) (hcd : PySem.W.codeIn K cdv qual = true) (S : FnScope N ps scope)
 (len : ∀ vs H Q E, sp vs H Q E → vs.length = ps.length)
 (hbody : ∀ (A : Around) (outer : List Env) (s : Shared) (H : Hp) (vs : List V) (Q : VK) (E : XK), Room k (A.deeper (envOfC qual scope s.heap.objs.size f cdv)) → sp vs H Q E →
  ∃ t, PSs (cxOf CX P w K mg base N qual scope f cdv A outer s H E) body t ∧ t { nx := fun _ H' => Q .non H', rt := Q } (start N vs) H) :
 FnOk P w K mg base CX (k + 1) f (PySem.W.fnOf name qual params body scope dV kV doc pm an cdv ct) ps sp := by
 refine ⟨len, fun A outer s H args us vs Q E hr e0 hb r hsp => ?_⟩
 have hl := len _ _ _ _ hsp
 have KX : K.In s.heap := e0.mod.kin.keeps fun b o e => (e0.bs b o e).1
 have lim : s.heap.NoLimit := e0.mod.nolimit.keeps fun b o e => (e0.bs b o e).1
 have hkind : ∀ y ∈ ps.zip us, scope.names.lookup y.1 = some .local ∨ (scope.names.lookup y.1 = some .cell ∧ ((cellsFrom (s.heap.objs.size + 1) scope.names []).lookup y.1).isSome = true) := fun ⟨n, v⟩ hy => by
  rcases S.par n (List.of_mem_zip hy).1 with q | q
  · exact .inl q
  · exact .inr ⟨q, PySem.W.cellsFrom_some _ _ _ (.inl q)⟩
 refine codeAny_call_function hr.depth (KX _ _ lk) rfl S.co S.gen rfl (PySem.W.codeRec_of KX hcd) (hb _ _ _ _ ?_)
 refine wpAny_newFunctionEnv_cells S.kind hkind fun env he s1 x => ?_
 subst he
 refine ⟨lim.keeps x.toInCall.keep, codeAny_func ?_⟩
 obtain ⟨t, ht, hq⟩ := hbody A outer s H vs Q E (hr.deeper _) hsp
 have I : Inv (cxOf CX P w K mg base N qual scope f cdv A outer s H E) [] (start N vs) H s1 := inv_start S hr.hd e0 hl r x
 refine wpAny_mono (ht [] s1 (start N vs) H _ I hq) (fun fl s' hs => ?_) fun e s' hs => hs
 have fin : ∀ {σ' : St} {H' : Hp} {v : V} {u : Value}, Inv (cxOf CX P w K mg base N qual scope f cdv A outer s H E) [] σ' H' s' → RelV v u → Q v H' → CE outer P w H s Q u s' :=
  fun {σ' H' v u} J rv q => ⟨v, H', J.os, J.bare, J.base, J.hok, rv, q⟩
 cases fl with
 | ret u =>
   obtain ⟨v, σ', H', J, rv, q⟩ := hs
   exact fin J rv q
 | next =>
   obtain ⟨σ', H', J, q⟩ := hs
   exact fin (v := V.non) (u := Value.none) J rfl q
 | brk =>
   obtain ⟨_, _, _, q⟩ := hs
   exact False.elim q
 | cont =>
   obtain ⟨_, _, _, q⟩ := hs
   exact False.elim q
end L2

namespace L2
open PySem PySem.Spec PyProof.Rows
section
variable {X : Cx} {x : Str} {p pos : Pos} {e : Expr} {es : List Expr} {t : TA} {id T : String} {r : List V → Hp → VK → Prop}

noncomputable def tCB (r : List V → Hp → VK → Prop) (t : TA) : TE := fun σ H Q => t σ H fun vs H1 => r vs H1 Q
theorem pe_callB (hc : CallR X (.builtin id) r) (hg : Gl X x) (hm : X.mg x = none) (hv : bootBuiltins x = some (.builtin id)) (ha : PA X (e :: es) t) (hn : x ≠ "__name__" := by decide) (hdb : (x == ("__debug__" : Str)) = false := by decide)
 (he : starEach (e :: es) X.env = (false, eval e X.env) :: starEach es X.env := by rfl) (hpl : (backTo pos (starEach es X.env)).any (·.1) = false := by rfl) : PE X (.Call (.Name x p) (e :: es) [] pos) (tCB r t) := by
 intro pins s σ H Q I h
 refine wpAny_Call_Name_kw (ld_blt I hg hm hv ?_ hn hdb)
 exact PyProof.Rows.callWith_builtin1 (thn (ha pos pins s σ H _ I h) fun us s1 ⟨vs, H1, I1, r1, q1⟩ => hc pins s1 σ H1 vs us Q I1 r1 q1) he hpl
theorem pe_callTy (hc : CallR X (.type T) r) (hg : Gl X x) (hm : X.mg x = none) (hv : bootBuiltins x = some (.type T)) (ha : PA X (e :: es) t) (hn : x ≠ "__name__" := by decide) (hdb : (x == ("__debug__" : Str)) = false := by decide)
 (he : starEach (e :: es) X.env = (false, eval e X.env) :: starEach es X.env := by rfl) (hpl : (backTo pos (starEach es X.env)).any (·.1) = false := by rfl) : PE X (.Call (.Name x p) (e :: es) [] pos) (tCB r t) := by
 intro pins s σ H Q I h
 refine wpAny_Call_Name_kw (ld_blt I hg hm hv ?_ hn hdb)
 exact PyProof.Rows.callWith_type1 (thn (ha pos pins s σ H _ I h) fun us s1 ⟨vs, H1, I1, r1, q1⟩ => hc pins s1 σ H1 vs us Q I1 r1 q1) he hpl
end
end L2

namespace HT
open PySem PyProof.Rows

section
open PySem.SeqAt
open PySem.AutoSeq1 (wpAny_loadPart')
open PySem.MeetsSeq PySem.MeetsSeq2 PySem.MeetsSeq3

end

section
variable {prog : Program} {w : World} {A : Around} {E : Value → Shared → Prop} {s : Shared}

noncomputable def sIx (n d : Nat) : Option Int → Nat
 | none => d
 | some v => if v < 0 then (v + (n : Int)).toNat else min v.toNat n
theorem sIx_none (n d : Nat) : sIx n d none = d := rfl
theorem sIx_nat (n d k : Nat) : sIx n d (some (k : Int)) = min k n := by
 show (if (k : Int) < 0 then ((k : Int) + (n : Int)).toNat else min (k : Int).toNat n) = min k n
 rw [if_neg (by omega), Int.toNat_natCast]
end
end HT

namespace L2
open PySem PySem.Spec PyProof.Rows

noncomputable abbrev TO := St → Hp → (Option Int → Hp → Prop) → Prop
noncomputable def PO (X : Cx) (e : Option Expr) (t : TO) : Prop :=
 ∀ (pins : List (Addr × Obj)) (s : Shared) (σ : St) (H : Hp) (Q : Option Int → Hp → Prop), Inv X pins σ H s → t σ H Q →
   wpAny (model X.prog X.w) X.A (evalPart e X.env) (fun u s' => ∃ o H', Inv X pins σ H' s' ∧ IsPart u o ∧ Q o H') X.xe s
noncomputable def tNoPart : TO := fun _ H Q => Q none H
noncomputable def tPart (t : TE) : TO := fun σ H Q => t σ H fun x H1 => ∃ i, x = .int i ∧ Q (some i) H1

section
variable {X : Cx} {e : Expr} {te : TE} {lo hi : Option Expr} {tl th : TO} {pos p2 : Pos}

theorem po_none : PO X none tNoPart := by
 intro pins s σ H Q I h
 rw [evalPart_none]
 exact wpAny_pure ⟨none, H, I, .none, h⟩
theorem po_some (h : PE X e te) : PO X (some e) (tPart te) := by
 intro pins s σ H Q I hw
 rw [evalPart_some]
 refine thn (h pins s σ H _ I hw) fun u s1 ⟨x, H1, I1, r1, q1⟩ => ?_
 obtain ⟨i, rfl, q⟩ := q1
 obtain ⟨t, rfl⟩ := r1
 exact ⟨some i, H1, I1, .int i t, q⟩

noncomputable def SlR (X : Cx) (r : V → Option Int → Option Int → Hp → VK → Prop) : Prop :=
 ∀ (pins : List (Addr × Obj)) (s : Shared) (σ : St) (H : Hp) (x : V) (v vl vu : Value) (lo hi : Option Int) (sl : Addr) (Q : VK), Inv X pins σ H s → RelV x v → s.heap.IsSliceOf sl vl vu .none → IsPart vl lo → IsPart vu hi → r x lo hi H Q →
   ∃ T id, typeLookup (.type T) "__getitem__" = pure (some (.builtin id)) ∧ s.TypeIs v T ∧ wpAny (model X.prog X.w) X.A (getItem v (.ref sl)) (EP X pins σ Q) X.xe s
noncomputable def tSl (r : V → Option Int → Option Int → Hp → VK → Prop) (te : TE) (tl th : TO) : TE := fun σ H Q => te σ H fun x H1 => tl σ H1 fun l H2 => th σ H2 fun u H3 => r x l u H3 Q
theorem pe_slice {r : V → Option Int → Option Int → Hp → VK → Prop} (hr : SlR X r) (he : PE X e te) (hl : PO X lo tl) (hu : PO X hi th) : PE X (.Subscript e (.Slice lo hi none p2) pos) (tSl r te tl th) := by
 intro pins s σ H Q I h
 refine Subscript_ (thn (he pins s σ H _ I h) fun v s1 ⟨x, H1, I1, r1, q1⟩ => ?_)
 refine wpAny_Slice (thn (hl pins s1 σ H1 _ I1 q1) fun vl s2 ⟨l, H2, I2, pl, q2⟩ => thn (hu pins s2 σ H2 _ I2 q2) fun vu s3 ⟨u, H3, I3, pu, q3⟩ => ?_)
 rw [evalPart_none]
 refine wpAny_pure ?_
 have I4 : Inv X pins σ H3 { s3 with heap := s3.heap.push { cls := .type "slice", data := .fields #[vl, vu, .none] } } := I3.kept (t' := s3.toks) fun b ob q => Heap.get?_push_of_some _ q
 obtain ⟨T, id, hT, ht, hg⟩ := hr pins { s3 with heap := s3.heap.push { cls := .type "slice", data := .fields #[vl, vu, .none] } } σ H3 x v vl vu l u s3.heap.objs.size Q I4 r1 (Heap.IsSliceOf.new ..) pl pu q3
 show wpAny (model X.prog X.w) X.A (subscriptTail e (.Slice lo hi none p2) v (.ref s3.heap.objs.size)) (EP X pins σ Q) X.xe { s3 with heap := s3.heap.push { cls := .type "slice", data := .fields #[vl, vu, .none] } }
 exact tail_any (ops := [.ref s3.heap.objs.size, v]) ht hT hg (by with_unfolding_all rfl)

noncomputable def cutV (xs : List V) (lo hi : Option Int) : List V := (xs.drop (HT.sIx xs.length 0 lo)).take (HT.sIx xs.length xs.length hi - HT.sIx xs.length 0 lo)
theorem cutV_length (xs : List V) (lo hi : Option Int) : (cutV xs lo hi).length ≤ xs.length := by
 unfold cutV
 rw [List.length_take, List.length_drop]
 omega
end
end L2

namespace L2
open PySem PySem.Spec PyProof.Rows

noncomputable def ixN (n : Nat) (i : Int) : Option Nat := if 0 ≤ i then (if i < n then some i.toNat else none) else if -(n : Int) ≤ i then some (i + n).toNat else none
noncomputable def atI {α : Type} (xs : List α) (i : Int) : Option α := (ixN xs.length i).bind fun j => xs[j]?
theorem ixN_seq {n : Nat} {i : Int} {j : Nat} (h : ixN n i = some j) : seqIndex? i n = some j ∧ j < n ∧ -(n : Int) ≤ i ∧ i < n := by
 unfold ixN at h
 by_cases h0 : 0 ≤ i
 · rw [if_pos h0] at h
   by_cases h1 : i < n
   · rw [if_pos h1] at h
     have e : i.toNat = j := Option.some.inj h
     exact ⟨by rw [seqIndex_of h0 h1, e], by omega, by omega, h1⟩
   · rw [if_neg h1] at h; cases h
 · rw [if_neg h0] at h
   by_cases h1 : -(n : Int) ≤ i
   · rw [if_pos h1] at h
     have e : (i + n).toNat = j := Option.some.inj h
     exact ⟨by rw [seqIndex_neg (by omega) h1, e], by omega, h1, by omega⟩
   · rw [if_neg h1] at h; cases h
theorem atI_get {α : Type} {xs : List α} {i : Int} {v : α} (h : atI xs i = some v) : ∃ j, seqIndex? i xs.length = some j ∧ xs[j]? = some v ∧ j < xs.length ∧ -(xs.length : Int) ≤ i ∧ i < xs.length := by
 unfold atI at h
 cases e : ixN xs.length i with
 | none => rw [e] at h; cases h
 | some j =>
   rw [e] at h
   obtain ⟨h1, h2, h3, h4⟩ := ixN_seq e
   exact ⟨j, h1, h, h2, h3, h4⟩
theorem atI_nat {α : Type} {xs : List α} {j : Nat} {v : α} (h : xs[j]? = some v) : atI xs (j : Int) = some v := by
 have hj : j < xs.length := (List.getElem?_eq_some_iff.mp h).1
 have e : ixN xs.length (j : Int) = some j := by
  unfold ixN
  rw [if_pos (by omega), if_pos (by omega)]; simp
 unfold atI; rw [e]; exact h
noncomputable def PlainIx (b : Expr) : Prop := ∀ o i, subscripted b false o i = operate [o, i] (getItem o i)
noncomputable def IxR (X : Cx) (r : R2) : Prop :=
 ∀ (value slice : Expr) (pins : List (Addr × Obj)) (s : Shared) (σ : St) (H : Hp) (x y : V) (v u : Value) (Q : VK), Inv X pins σ H s → RelV x v → RelV y u → r x y H Q →
   subscripted slice false v u = operate [v, u] (getItem v u) → wpAny (model X.prog X.w) X.A (subscriptTail value slice v u) (EP X pins σ Q) X.xe s
noncomputable def MtR (X : Cx) (id : String) (r : V → List V → Hp → VK → Prop) : Prop :=
 ∀ (pins : List (Addr × Obj)) (s : Shared) (σ : St) (H : Hp) (x : V) (xs : List V) (v : Value) (us : List Value) (Q : VK), Inv X pins σ H s → RelV x v → Vals xs us → r x xs H Q →
   wpAny (model X.prog X.w) X.A (call (.builtin id) (v :: us)) (EP X pins σ Q) X.xe s
section
variable {X : Cx} {a b : Expr} {ta tb : TE} {pos : Pos}
theorem pe_ix {r : R2} (hr : IxR X r) (ha : PE X a ta) (hb : PE X b tb) (hs : PlainIx b) : PE X (.Subscript a b pos) (tOp r ta tb) := by
 intro pins s σ H Q I h
 exact Subscript_ (binT ha hb I h fun v u s2 x y H2 I2 rx ry q => hr a b pins s2 σ H2 x y v u Q I2 rx ry q (hs _ _))

noncomputable def rIxL (K : PySem.W.Frag) : R2 := fun x y H Q => ∃ p xs i v, x = .ref p ∧ y = .int i ∧ SqL K H p xs ∧ atI xs i = some v ∧ Q v H
noncomputable def rIxT (K : PySem.W.Frag) : R2 := fun x y H Q => ∃ p xs i v, x = .ref p ∧ y = .int i ∧ SqT K H p xs ∧ atI xs i = some v ∧ Q v H
noncomputable def rIxS : R2 := fun x y H Q => ∃ z i c, x = .str z ∧ y = .int i ∧ z.length ≤ sizeLine ∧ atI z.cps.toList i = some c ∧ Q (.str ⟨#[c]⟩) H
theorem ix_list : IxR X (rIxL X.K) := by
 intro value slice pins s σ H x y v u Q I rx ry h hs
 obtain ⟨p, xs, i, z, rfl, rfl, hq, he, q⟩ := h
 cases rx
 obtain ⟨t, rfl⟩ := ry
 obtain ⟨its, r, pl, hz⟩ := I.list hq
 obtain ⟨j, h1, h2, h3, h4, h5⟩ := atI_get he
 obtain ⟨w, ew, rw'⟩ := r.get h2
 have hl := r.length
 have hn := line63
 have fin : EP X pins σ Q w s := ⟨z, H, I, rw', q⟩
 by_cases h0 : 0 ≤ i
 · have hj : i.toNat = j := by
    rw [seqIndex_of h0 h5] at h1
    exact Option.some.inj h1
   exact item_listR pl.isList h0 (by omega) (by rw [hj]; simpa using ew) fin hs
 · have hj : (i + (its.toArray.size : Int)).toNat = j := by
    rw [seqIndex_neg (by omega) h4] at h1
    rw [List.size_toArray, ← hl]
    exact Option.some.inj h1
   exact subscriptTail_builtinR (x := w) pl.isList.typeIs slot_list_getitem.lookup
    (wpAny_getItem_list_neg (Q := fun r s' => r = w ∧ EP X pins σ Q r s') pl.isList (by omega) (by rw [List.size_toArray] <;> omega) (by omega) (by rw [hj]; simpa using ew) ⟨rfl, fin⟩) hs
theorem ix_tup : IxR X (rIxT X.K) := by
 intro value slice pins s σ H x y v u Q I rx ry h hs
 obtain ⟨p, xs, i, z, rfl, rfl, hq, he, q⟩ := h
 cases rx
 obtain ⟨t, rfl⟩ := ry
 obtain ⟨its, r, pl, hz⟩ := I.tuple hq
 obtain ⟨j, h1, h2, h3, h4, h5⟩ := atI_get he
 obtain ⟨w, ew, rw'⟩ := r.get h2
 have hl := r.length
 have hn := line63
 have fin : EP X pins σ Q w s := ⟨z, H, I, rw', q⟩
 exact subscriptTail_builtinR (x := w) pl.typeIs slot_tuple_getitem.lookup
  (getItem_tuple (j := j) (Q := fun r s' => r = w ∧ EP X pins σ Q r s') pl (by omega) (by omega) (by rw [List.size_toArray, ← hl]; exact h1) (by simpa using ew) ⟨rfl, fin⟩) hs
theorem ix_str : IxR X rIxS := by
 intro value slice pins s σ H x y v u Q I rx ry h hs
 obtain ⟨z, i, c, rfl, rfl, hz, he, q⟩ := h
 obtain ⟨t, rfl⟩ := rx
 obtain ⟨t', rfl⟩ := ry
 obtain ⟨j, h1, h2, h3, h4, h5⟩ := atI_get he
 have hl : z.cps.toList.length = z.length := by simp [Str.length]
 rw [hl] at h1 h4 h5
 have hn := line63
 exact tail_any (typeIs_str s z t) slot_str_getitem.lookup (getItem_str (c := c) (by
  have e1 : decide (i < -(2 ^ 63 : Int)) = false := decide_eq_false (by omega)
  have e2 : decide (i ≥ 2 ^ 63) = false := decide_eq_false (by omega)
  rw [e1, e2, Bool.or_false]) (by rw [h1]; simpa using h2) ⟨.str ⟨#[c]⟩, H, I.tok _, ⟨_, rfl⟩, q⟩) hs
theorem slice_bounds (lo hi : Option Int) (n : Nat) : (sliceBounds lo hi none n).1 = ((HT.sIx n 0 lo : Nat) : Int) ∧ (sliceBounds lo hi none n).2.1 = ((HT.sIx n n hi : Nat) : Int) ∧ (sliceBounds lo hi none n).2.2 = 1 := by
 refine ⟨?_, ?_, rfl⟩
 · cases lo with
   | none => simp [sliceBounds, HT.sIx]
   | some i =>
     simp only [sliceBounds, HT.sIx, Option.getD_none, show (1 : Int) > 0 by decide, if_true]
     by_cases h : i < 0
     · simp only [h, if_true] <;> omega
     · simp only [h, if_false] <;> omega
 · cases hi with
   | none => simp [sliceBounds, HT.sIx]
   | some i =>
     simp only [sliceBounds, HT.sIx, Option.getD_none, show (1 : Int) > 0 by decide, if_true]
     by_cases h : i < 0
     · simp only [h, if_true] <;> omega
     · simp only [h, if_false] <;> omega
theorem slicePick_cut (its : List Value) (lo hi : Option Int) : slicePick its.toArray lo hi none = ((its.drop (HT.sIx its.length 0 lo)).take (HT.sIx its.length its.length hi - HT.sIx its.length 0 lo)).toArray := by
 obtain ⟨h1, h2, h3⟩ := slice_bounds lo hi its.toArray.size
 unfold slicePick
 rw [h1, h2, h3]
 simp only [sliceRange_one, pick_run, List.size_toArray] <;> rfl
noncomputable def rSlL (K : PySem.W.Frag) : V → Option Int → Option Int → Hp → VK → Prop := fun x lo hi H Q => ∃ a xs, x = .ref a ∧ SqL K H a xs ∧ ∀ p, H p = none → Q (.ref p) (upd H p (.lst (cutV xs lo hi)))
theorem sl_list : SlR X (rSlL X.K) := by
 intro pins s σ H x v vl vu lo hi sl Q I rx hs pl pu h
 obtain ⟨a, xs, rfl, hx, q⟩ := h
 cases rx
 obtain ⟨its, r, ht, hz⟩ := I.list hx
 have hlen := r.length
 refine ⟨"list", _, slot_list_getitem.lookup, ht.isList.typeIs, ?_⟩
 refine wpAny_getItem_list_slice ht.isList hs pl pu .none (by simp) ?_ (by rw [List.size_toArray] <;> omega)
 rw [slicePick_cut, ← hlen]
 refine ⟨.ref s.heap.objs.size, _, I.laid (t' := s.toks) (o := .lst (cutV xs lo hi)) (fun b ob q => Heap.get?_push_of_some _ q) (Nat.le_refl _) ?_, rfl, q _ (I.hok.fresh (Nat.le_refl _))⟩
 exact ⟨Nat.le_trans (cutV_length xs lo hi) hz, _, 0, (r.drop (HT.sIx xs.length 0 lo)).take (HT.sIx xs.length xs.length hi - HT.sIx xs.length 0 lo), Heap.get?_push_size _ rfl⟩

noncomputable def flatV : V → Bool
 | .non => true
 | .bl _ => true
 | .int _ => true
 | .str _ => true
 | _ => false
noncomputable def eqV : V → V → Bool
 | .non, .non => true
 | .bl a, .bl b => a == b
 | .bl a, .int b => (if a then 1 else 0) == b
 | .int a, .bl b => a == (if b then 1 else 0)
 | .int a, .int b => a == b
 | .str a, .str b => a == b
 | _, _ => false
theorem eqAt_V {A : Around} {s : Shared} {y x : V} {u v : Value} (ry : RelV y u) (rx : RelV x v) (fy : flatV y = true) (fx : flatV x = true) : SeqAt.EqAt A s u v (eqV y x) := by
 cases y with
 | non =>
   cases ry
   cases x with
   | non => cases rx; exact SeqAt.EqAt.same _
   | bl b => cases rx; exact SeqAt.EqAt.none_bool b
   | int b => obtain ⟨t, rfl⟩ := rx; exact SeqAt.EqAt.none_int b t
   | str b => obtain ⟨t, rfl⟩ := rx; exact SeqAt.EqAt.none_str b t
   | _ => exact absurd (show false = true from fx) Bool.false_ne_true
 | bl a =>
   cases ry
   cases x with
   | non => cases rx; exact SeqAt.EqAt.bool_none a
   | bl b => cases rx; exact SeqAt.EqAt.bool_bool a b
   | int b => obtain ⟨t, rfl⟩ := rx; exact SeqAt.EqAt.bool_int a b t
   | str b => obtain ⟨t, rfl⟩ := rx; exact SeqAt.EqAt.bool_str a b t
   | _ => exact absurd (show false = true from fx) Bool.false_ne_true
 | int a =>
   obtain ⟨t', rfl⟩ := ry
   cases x with
   | non => cases rx; exact SeqAt.EqAt.int_none a t'
   | bl b => cases rx; exact SeqAt.EqAt.int_bool a t' b
   | int b => obtain ⟨t, rfl⟩ := rx; exact SeqAt.EqAt.int_int a t' b t
   | str b => obtain ⟨t, rfl⟩ := rx; exact SeqAt.EqAt.int_str a t' b t
   | _ => exact absurd (show false = true from fx) Bool.false_ne_true
 | str a =>
   obtain ⟨t', rfl⟩ := ry
   cases x with
   | non => cases rx; exact SeqAt.EqAt.str_none a t'
   | bl b => cases rx; exact SeqAt.EqAt.str_bool a t' b
   | int b => obtain ⟨t, rfl⟩ := rx; exact SeqAt.EqAt.str_int a t' b t
   | str b => obtain ⟨t, rfl⟩ := rx; exact SeqAt.EqAt.str_str a t' b t
   | _ => exact absurd (show false = true from fx) Bool.false_ne_true
 | _ => exact absurd (show false = true from fy) Bool.false_ne_true
theorem op_notIn_str : OpR X (compareOp .NotIn) (fun x y H Q => ∃ i j, x = .str i ∧ y = .str j ∧ Q (.bl (!(!(Builtin.Str.occurrences j i 0 j.length 1).isEmpty))) H) := by
 intro pins s σ H x y v u Q I rx ry h
 obtain ⟨i, j, rfl, rfl, q⟩ := h
 obtain ⟨t, rfl⟩ := rx
 obtain ⟨t', rfl⟩ := ry
 exact notIn_str ⟨.bl _, H, I, rfl, q⟩

theorem call_len_seq : CallR X (.builtin "len") (fun xs H Q => ∃ p ys, xs = [.ref p] ∧ (SqL X.K H p ys ∨ SqT X.K H p ys) ∧ Q (.int ys.length) H) := by
 intro pins s σ H xs us Q I r h
 obtain ⟨p, ys, rfl, hq, q⟩ := h
 obtain ⟨u, rfl, rx⟩ := vals1 r
 cases rx
 have hn := line63
 rcases hq with hq | hq
 · obtain ⟨its, r', pl, hz⟩ := I.list hq
   have hlen := r'.length
   exact Calls.call_len_list pl.isList (by simp only [List.size_toArray] <;> omega) ⟨.int ys.length, H, I.tok _, ⟨s.toks + 1, by rw [List.size_toArray, hlen]⟩, q⟩
 · obtain ⟨its, r', pl, hz⟩ := I.tuple hq
   have hlen := r'.length
   exact len_tuple pl (by simp only [List.size_toArray] <;> omega) ⟨.int ys.length, H, I.tok _, ⟨s.toks + 1, by rw [List.size_toArray, hlen]⟩, q⟩
theorem call_len_str : CallR X (.builtin "len") (fun xs H Q => ∃ z, xs = [.str z] ∧ z.length ≤ sizeLine ∧ Q (.int z.length) H) := by
 intro pins s σ H xs us Q I r h
 obtain ⟨z, rfl, hz, q⟩ := h
 obtain ⟨u, rfl, t, rfl⟩ := vals1 r
 have hn := line63
 exact len_str (by omega) ⟨.int z.length, H, I.tok _, ⟨_, rfl⟩, q⟩
theorem call_list_of : CallR X (.type "list") (fun xs H Q => ∃ p ys, xs = [.ref p] ∧ (SqL X.K H p ys ∨ SqT X.K H p ys) ∧ ∀ l, H l = none → Q (.ref l) (upd H l (.lst ys))) := by
 intro pins s σ H xs us Q I r h
 obtain ⟨p, ys, rfl, hq, q⟩ := h
 obtain ⟨u, rfl, rx⟩ := vals1 r
 cases rx
 have fin : ∀ (its : List Value), Vals ys its → ys.length ≤ sizeLine → ∀ (h' : Heap) (c' : Nat), (∀ b o', s.heap.get? b = some o' → h'.get? b = some o') →
  h'.get? s.heap.objs.size = some { cls := .type "list", dict := none, data := .seq its.toArray c', slots := #[] } → EP X pins σ Q (.ref s.heap.objs.size) { s with heap := h' } := fun its r' hz h' c' kp e =>
  ⟨.ref s.heap.objs.size, _, I.laid (t' := s.toks) kp (Nat.le_refl _) (show ObjOk X.prog X.w _ h' _ (.lst ys) from ⟨hz, its, c', r', e⟩), rfl, q _ (I.hok.fresh (Nat.le_refl _))⟩
 rcases hq with hq | hq
 · obtain ⟨its, r', pl, hz⟩ := I.list hq
   have hlen := r'.length
   obtain ⟨o, ho, hc, n, hd⟩ := pl.isList
   exact call_list_seq p (.inl rfl) ho hc hd (fun h' c' kp e => fin its r' hz h' c' kp e) (by simp only [List.size_toArray] <;> omega)
 · obtain ⟨its, r', pl, hz⟩ := I.tuple hq
   have hlen := r'.length
   obtain ⟨o, ho, hc, n, hd⟩ := pl
   exact call_list_seq p (.inr rfl) ho hc hd (fun h' c' kp e => fin its r' hz h' c' kp e) (by simp only [List.size_toArray] <;> omega)
theorem call_tuple_of : CallR X (.type "tuple") (fun xs H Q => ∃ p ys, xs = [.ref p] ∧ ((SqL X.K H p ys ∧ ∀ l, H l = none → Q (.ref l) (upd H l (.tup ys))) ∨ (SqT X.K H p ys ∧ Q (.ref p) H))) := by
 intro pins s σ H xs us Q I r h
 obtain ⟨p, ys, rfl, h⟩ := h
 obtain ⟨u, rfl, rx⟩ := vals1 r
 cases rx
 rcases h with ⟨hq, q⟩ | ⟨hq, q⟩
 · obtain ⟨its, r', pl, hz⟩ := I.list hq
   have hlen := r'.length
   refine call_tuple_list pl.isList (fun h' kp => ?_) (by simp only [List.size_toArray] <;> omega)
   have I1 : Inv X pins σ H { s with heap := h' } := I.kept (t' := s.toks) kp
   have I2 : Inv X pins σ (upd H h'.objs.size (.tup ys)) { s with heap := h'.push { cls := .type "tuple", data := .seq its.toArray } } :=
    I1.laid (t' := s.toks) (fun b o e => Heap.get?_push_of_some _ e) (Nat.le_refl _) (show ObjOk X.prog X.w _ _ _ (.tup ys) from ⟨hz, its, r', IsTupN.new _ _⟩)
   exact ⟨.ref h'.objs.size, _, I2, rfl, q _ (I1.hok.fresh (Nat.le_refl _))⟩
 · obtain ⟨its, r', pl, hz⟩ := I.tuple hq
   exact call_tuple_same pl ⟨.ref p, H, I, rfl, q⟩

noncomputable def tyV (K : PySem.W.Frag) (T : String) (x : V) (H : Hp) : Prop := match x with
 | .str _ => T = "str"
 | .int _ => T = "int"
 | .ref p => (T = "list" ∧ ∃ xs, SqL K H p xs) ∨ (T = "tuple" ∧ ∃ o, K.lookup p = some o ∧ o.cls = .type "tuple" ∧ o.dict = none) ∨
  (T = "dict" ∧ ((∃ kvs, H p = some (.dK kvs)) ∨ ∃ kvs, H p = some (.dT kvs))) ∨ (T = "set" ∧ ∃ S n, H p = some (.set S n))
 | _ => False
theorem tyV_is {pins : List (Addr × Obj)} {σ : St} {H : Hp} {s : Shared} {T : String} {x : V} {v : Value} (I : Inv X pins σ H s) (r : RelV x v) (ty : tyV X.K T x H) :
 s.TypeIs v T ∧ ∀ a, v = .ref a → ∃ ob, s.heap.get? a = some ob ∧ ob.dict = none := by
 cases x with
 | str z =>
   obtain ⟨t, rfl⟩ := r
   cases (show T = "str" from ty)
   exact ⟨typeIs_str s z t, fun _ e => nomatch e⟩
 | int i =>
   obtain ⟨t, rfl⟩ := r
   cases (show T = "int" from ty)
   exact ⟨typeIs_int s i t, fun _ e => nomatch e⟩
 | ref p =>
   cases r
   rcases ty with ⟨rfl, xs, hq⟩ | ⟨rfl, o, hk, hc, hd⟩ | ⟨rfl, hk⟩ | ⟨rfl, S, n, hk⟩
   · obtain ⟨its, _, pl, _⟩ := I.list hq
     refine ⟨pl.isList.typeIs, fun a e => ?_⟩
     cases e
     obtain ⟨o, n, e, c, hd, _⟩ := pl
     exact ⟨o, e, hd⟩
   · refine ⟨⟨o, I.kIn p o hk, hc⟩, fun a e => ?_⟩
     cases e
     exact ⟨o, I.kIn _ o hk, hd⟩
   · have z : ∃ o, s.heap.get? p = some o ∧ o.ExactDict := by
      rcases hk with ⟨kvs, hk⟩ | ⟨kvs, hk⟩
      · obtain ⟨_, _, _, _, o, _, _, e, ex, _⟩ := I.hok p _ hk
        exact ⟨o, e, ex⟩
      · obtain ⟨_, _, _, _, o, _, _, e, ex, _⟩ := I.hok p _ hk
        exact ⟨o, e, ex⟩
     obtain ⟨o, e, ex⟩ := z
     refine ⟨⟨o, e, ex.1⟩, fun a e2 => ?_⟩
     cases e2
     exact ⟨o, e, ex.2.1⟩
   · obtain ⟨o, _, _, _, e, ex, _⟩ := I.hok p _ hk
     refine ⟨⟨o, e, ex.1⟩, fun a e2 => ?_⟩
     cases e2
     exact ⟨o, e, ex.2.1⟩
 | _ => exact False.elim ty
noncomputable def tBM (K : PySem.W.Frag) (T : String) (r : V → List V → Hp → VK → Prop) (to : TE) (t : TA) : TE := fun σ H Q => to σ H fun x H1 => tyV K T x H1 ∧ t σ H1 fun xs H2 => r x xs H2 Q
variable {o e : Expr} {es : List Expr} {to : TE} {t : TA} {name : Str} {apos cpos : Pos} {T id : String} {r : V → List V → Hp → VK → Prop}
theorem pe_bm (pa : PlainAttrs T) (slot : Slot T name id) (hty : typeOf (.builtin id) = pure (.type "method_descriptor")) (hm : MtR X id r) (ho : PE X o to) (ha : PA X (e :: es) t)
 (hbase : attributeBase o name X.env (eval o X.env) = eval o X.env := by rfl)
 (hfew : ((backTo cpos (starEach (e :: es) X.env)).all (fun x => !x.1) && (backToKw cpos (keywordEach [] X.env)).all (fun x => x.1.isSome)
  && decide ((e :: es).length + ([] : List Keyword).length + (if ([] : List Keyword).isEmpty then 0 else 1) < 30)) = true := by rfl)
 (hline : (apos.endLine == cpos.line) = true := by rfl) (hs : starEach (e :: es) X.env = (false, eval e X.env) :: starEach es X.env := by rfl) (hplain : (backTo cpos (starEach es X.env)).any (·.1) = false := by rfl) :
 PE X (.Call (.Attribute o name apos) (e :: es) [] cpos) (tBM X.K T r to t) := by
 intro pins s σ H Q I h
 refine wpAny_Call_method_late hbase hfew hline rfl (thn (ho pins s σ H _ I h) fun v s1 ⟨x, H1, I1, r1, ty, q1⟩ => ?_)
 obtain ⟨h1, h2⟩ := tyV_is I1 r1 ty
 refine ⟨T, id, pa, slot, hty, h1, h2, ?_⟩
 have hA := ha cpos pins s1 σ H1 _ I1 q1
 rw [hs] at hA ⊢
 refine Calls.callWith_builtin (by show (false || (backTo cpos (starEach es X.env)).any (·.1)) = false; rw [hplain] <;> rfl) (Calls.evalArgs_plain ?_)
 exact thn hA fun us s2 ⟨vs, H2, I2, r2, q2⟩ => hm pins s2 σ H2 x vs v us Q I2 r1 r2 q2
/- xs.append(e), list.index on a module's tuple .. are MtR facts of 06m -/
end
end L2

namespace L2
open PySem PySem.Spec PyProof.Rows

noncomputable def MtM (X : Cx) (id : String) (r : V → List V → Hp → VK → Prop) : Prop :=
 ∀ (pins : List (Addr × Obj)) (s : Shared) (σ : St) (H : Hp) (x : V) (xs : List V) (v : Value) (us : List Value) (Q : VK), Inv X pins σ H s → RelV x v → Vals xs us → r x xs H Q →
   wpAny (model X.prog X.w) X.A (call (.builtin id) (v :: us)) (EP X pins σ Q) X.xe s

theorem Vals.one : ∀ {x : V} {us : List Value}, Vals [x] us → ∃ u, us = [u] ∧ RelV x u
 | _, _, .cons r .nil => ⟨_, rfl, r⟩
theorem Vals.eraseIdx : ∀ {xs : List V} {us : List Value} (i : Nat), Vals xs us → Vals (xs.eraseIdx i) (us.eraseIdx i)
 | _, _, _, .nil => .nil
 | _, _, 0, .cons _ t => t
 | _, _, i + 1, .cons r t => .cons r (Vals.eraseIdx i t)
theorem len_erase {α : Type} : ∀ (l : List α) (i : Nat), (l.eraseIdx i).length ≤ l.length
 | [], _ => Nat.le_refl _
 | _ :: _, 0 => Nat.le_succ _
 | _ :: r, i + 1 => Nat.succ_le_succ (len_erase r i)
section
variable {X : Cx} {pins : List (Addr × Obj)} {σ : St} {H : Hp} {s : Shared} {l b : Addr} {xs ys zs : List V}

theorem Inv.lset {its its' : List Value} {n : Nat} {f : Array Value → Array Value} {t' : Nat} (I : Inv X pins σ H s) (hH : H l = some (.lst xs))
 (e : s.heap.get? l = some { cls := .type "list", data := .seq its.toArray n }) (hf : f its.toArray = its'.toArray) (hv : Vals ys its') (hz : ys.length ≤ sizeLine) :
 Inv X pins σ (upd H l (.lst ys)) { s with heap := s.heap.update l (Obj.mapSeq f), toks := t' } := by
 have q := PySem.IsL.update e f
 rw [hf] at q
 refine I.write (x := l) (e := l) (by rw [hH]; exact trivial) (.inl rfl) (fun b' u hb hu => (Heap.get?_update_other s.heap (Obj.mapSeq f) (Ne.symm hb)).trans hu) ⟨_, q⟩ ?_
 exact ⟨hz, its', _, hv, q⟩
theorem Inv.lnew {its : List Value} {t' : Nat} (I : Inv X pins σ H s) (hv : Vals ys its) (hz : ys.length ≤ sizeLine) :
 Inv X pins σ (upd H s.heap.objs.size (.lst ys)) { s with heap := s.heap.push { cls := .type "list", data := .seq its.toArray }, toks := t' } :=
 I.laid (fun _ _ q => Heap.get?_push_of_some _ q) (Nat.le_refl _) ⟨hz, its, 0, hv, Heap.get?_push_size _ rfl⟩
theorem Inv.fresh (I : Inv X pins σ H s) : H s.heap.objs.size = none := I.hok.fresh (Nat.le_refl _)
theorem Inv.lstM (I : Inv X pins σ H s) (hH : H l = some (.lst xs)) : xs.length ≤ sizeLine ∧ ∃ (its : List Value) (n : Nat), Vals xs its ∧ xs.length = its.length ∧ s.heap.get? l = some { cls := .type "list", data := .seq its.toArray n } := by
 obtain ⟨z, its, n, r, e⟩ := I.hok l _ hH
 exact ⟨z, its, n, r, r.length, e⟩

end

section
variable {X : Cx}

noncomputable def rAppend : V → List V → Hp → VK → Prop := fun x vs H Q => ∃ l xs y, x = .ref l ∧ vs = [y] ∧ H l = some (.lst xs) ∧ xs.length < sizeLine ∧ Q .non (upd H l (.lst (xs ++ [y])))
theorem mt_append : MtM X "list.append" rAppend := by
 intro pins s σ H x vs v us Q I rx rv h
 obtain ⟨l, xs, y, rfl, rfl, hH, hz, q⟩ := h
 cases rx
 obtain ⟨u, rfl, ru⟩ := rv.one
 obtain ⟨z, its, n, r, hl, e⟩ := I.lstM hH
 refine call_meets F.slot_list_append ⟨_, e, rfl⟩ F.entry_list_append (F.args_list_append_2 _ _) (PySem.list_append l its.toArray n u (by rw [List.size_toArray]; omega)) ⟨e, ?_⟩
 refine ⟨.non, _, I.lset (its' := its ++ [u]) hH e (by simp) (r.append (.cons ru .nil)) ?_, rfl, q⟩
 rw [List.length_append, List.length_singleton]
 omega

noncomputable def rPopAt : V → List V → Hp → VK → Prop := fun x vs H Q => ∃ l xs i k y, x = .ref l ∧ vs = [.int i] ∧ H l = some (.lst xs) ∧ -(2 ^ 63) ≤ i ∧ i < 2 ^ 63 ∧ seqIndex? i xs.length = some k ∧ xs[k]? = some y ∧ Q y (upd H l (.lst (xs.eraseIdx k)))
theorem mt_popAt : MtM X "list.pop" rPopAt := by
 intro pins s σ H x vs v us Q I rx rv h
 obtain ⟨l, xs, i, k, y, rfl, rfl, hH, h1, h2, hk, hy, q⟩ := h
 cases rx
 obtain ⟨u, rfl, ru⟩ := rv.one
 obtain ⟨t, rfl⟩ := ru
 obtain ⟨z, its, n, r, hl, e⟩ := I.lstM hH
 obtain ⟨w, hw, rw'⟩ := r.get hy
 refine call_meets F.slot_list_pop ⟨_, e, rfl⟩ F.entry_list_pop (F.args_list_pop_2 _ _)
  (MeetsSeq.list_pop_at l its.toArray n i t k w (fitsIndex_both h1 h2) (by rw [List.size_toArray, ← hl]; exact hk) (by rw [← Array.getElem?_toList]; exact hw) (by rw [List.size_toArray]; omega)) ⟨e, ?_⟩
 refine ⟨y, _, I.lset (its' := its.eraseIdx k) hH e ?_ (r.eraseIdx k) ?_, rw', q⟩
 · show its.toArray.eraseIdxIfInBounds k = (its.eraseIdx k).toArray
   rw [List.eraseIdxIfInBounds_toArray]
 · have := len_erase xs k
   omega

noncomputable def rCat : R2 := fun x y H Q => ∃ l b xs zs, x = .ref l ∧ y = .ref b ∧ H l = some (.lst xs) ∧ H b = some (.lst zs) ∧ xs.length + zs.length ≤ sizeLine ∧ ∀ p, H p = none → Q (.ref p) (upd H p (.lst (xs ++ zs)))
theorem op_cat : OpR X (binaryOp .Add) rCat := by
 intro pins s σ H x y v u Q I rx ry h
 obtain ⟨l, b, xs, zs, rfl, rfl, hH, hB, hz, q⟩ := h
 cases rx
 cases ry
 obtain ⟨z, its, n, r, hl, e⟩ := I.lstM hH
 obtain ⟨z2, its2, n2, r2, hl2, e2⟩ := I.lstM hB
 refine PySem.P.add_list e e2 ?_ (by rw [List.size_toArray, List.size_toArray]; omega)
 have ea : its.toArray ++ its2.toArray = (its ++ its2).toArray := by simp
 rw [ea]
 exact ⟨.ref _, _, I.lnew (t' := s.toks) (r.append r2) (by rw [List.length_append]; omega), rfl, q _ I.fresh⟩
end

section
variable {prog : Program} {w : World} {A : Around} {E : Value → Shared → Prop} {s : Shared}
end

section
variable {X : Cx}
end
end L2

namespace Att
open PySem PySem.W PySem.Calls PyProof.Rows

theorem ints_of_wellAll {P : Params} {h : Heap} : ∀ (ns : List Int) (vs : List Value), WellAll P h vs (ns.map WData.int) → IntsAre vs ns := by
 intro ns
 induction ns with
 | nil =>
   intro vs w
   rw [List.map_nil] at w
   cases w
   exact .nil
 | cons n ns ih =>
   intro vs w
   rw [List.map_cons] at w
   cases w with
   | cons a b =>
     cases a
     exact .cons _ _ (ih _ b)

theorem script_of {l : OpenLaw} {n : Nat} (hn : l.most = some n) {P : Params} {h : Heap} {args : List WData} {vals : List Value}
 (hpre : l.row.toRowW.claim.pre args = true) (hwl : WellAll P h vals args) :
 ∃ a vs ns, vals = [Value.ref a] ∧ args = [WData.list (ns.map WData.int)] ∧ h.get? a = some { cls := .type "list", data := .seq vs.toArray } ∧ IntsAre vs ns ∧ ns.length ≤ n := by
 have hsh : WShape.hasAll [] args [.list .int] = true := (pre_splitW hpre).1
 have hc : l.pre.holds [] { args := args } = true := (pre_splitW hpre).2
 obtain ⟨d, r, rfl, h1, h2⟩ := hasAllW_cons hsh
 obtain rfl := hasAllW_nil h2
 obtain ⟨xs, rfl, h3⟩ := hasW_list h1
 obtain ⟨ns, rfl⟩ := items_int h3
 have hlen : ns.length ≤ n := by
  unfold OpenLaw.pre at hc
  have h4 : (WTm.not (.lt (.lit (.int (n : Int))) (.len (.arg 0)))).holds [] { args := [.list (ns.map .int)] } = true := by
   have h4 := (holds_andW hc).1
   rw [hn] at h4
   exact h4
  have h5 := condW_of h4 (w_not (w_lt w_lit (w_len_list (w_arg rfl))))
  rw [List.length_map] at h5
  refine Nat.le_of_not_lt fun q => ?_
  have q' : (n : Int) < ((ns.length : Nat) : Int) := by omega
  first
   | (rw [decide_eq_true q'] at h5; exact absurd h5 (by decide))
   | (simp at h5; omega)
 cases hwl with
 | cons w1 w2 =>
   cases w2
   cases w1 with
   | list ho hall => exact ⟨_, _, ns, rfl, rfl, ho, ints_of_wellAll ns _ hall, hlen⟩

theorem post_true (l : OpenLaw) (args : List WData) : l.row.toRowW.claim.post args (.bool true) args = true :=
 postW_of (r := l.row.toRowW) (X := (true == true))
  (show WShape.has [] (.bool true) .bool = true by first | rfl | decide | simp [WShape.has, WShape.arms, WShape.armsAll])
  (show (WTm.eq .res (.lit (.bool true))).value [] { args := args, res := some (.bool true), after := args } = some (.bool (true == true)) from w_eq_bool (w_res rfl) w_lit) rfl

theorem attach_call {l : OpenLaw} {n : Nat} {q : Program} {loose : List Str} {XP : (Str → Option Value) → Heap → Prop} {YP : World → Heap → Prop} {d : DefRec}
 (hn : l.most = some n) (hdf : d.params.defaults = [])
 (call : ∀ (w : World) (s₀ s₁ : Shared) (mg mb : Str → Option Value) (fa : Addr) (o : Obj) (pm cd doc : Value) (a : Addr) (vs : List Value) (ns : List Int),
  Ground q loose [] XP w s₀ mg mb s₁.heap → YP w s₁.heap →
  s₁.heap.get? fa = some o → o.data = .func (docDef d.name d.params d.body d.scope pm cd doc) → s₁.heap.CodeRec cd d.name → mg d.name = some (.ref fa) →
  s₁.heap.get? a = some { cls := .type "list", data := .seq vs.toArray } → IntsAre vs ns → ns.length ≤ n → s₁.gens = #[] →
  codeAny (model l.prog w) callerA (.call (.ref fa) ⟨[.ref a], []⟩) (fun r s' => r = .ok (.ret (.bool true)) ∧ OldK s₁.heap s'.heap ∧ s'.os = s₁.os ∧ AllBare s'.gens) s₁) :
 WalkO q loose XP YP l.row.toRowW d [] (fun f vs => PySem.call f vs) := by
 intro w s₀ s₁ mg mb G Y fa o pm cd doc dV kV ho hd hcd hD hmg hg args vals as hpre hlay hrd hwl hlo
 obtain rfl : dV = .none := Dflts.none hD hdf
 obtain rfl : kV = .none := Dflts.noKw hD
 obtain ⟨a, vs, ns, rfl, rfl, hobj, hints, hlen⟩ := script_of hn hpre hwl
 refine enter_call (codeAny_mono (call w s₀ s₁ mg mb fa o pm cd doc a vs ns G Y ho (fd_plain hd) hcd hmg hobj hints hlen hg) fun r s' hq => ?_)
 obtain ⟨rfl, h2, h3, h4⟩ := hq
 exact ⟨.inl ⟨.bool true, .bool true, [], rfl, fun _ => rfl, .bool true, post_true l _, fun _ => ⟨List.Pairwise.nil, fun _ hm => (nomatch hm)⟩⟩, h2, h3, h4⟩

section
variable {prog : Program} {w : World} {A : Around} {E : Value → Shared → Prop} {s : Shared} {K : Frag}

end
end Att

namespace L2
open PySem PySem.Spec PyProof.Rows

theorem vals_ints : ∀ {vs : List Value} {ns : List Int}, IntsAre vs ns → Vals (ns.map V.int) vs
 | _, _, .nil => .nil
 | _, _, .cons n t h => .cons ⟨t, rfl⟩ (vals_ints h)

noncomputable def Only (H : Hp) : Prop := ∀ b, H b = none ∨ ∃ o xs, H b = some (.frz o (.lst xs))

theorem law_call {P : Program} {w : World} {K : PySem.W.Frag} {mg mb : Str → Option Value} {CX : CXT} {k : Nat} {fa a : Addr} {fd : FuncData} {x : Str} {sp : Sp} {s₁ : Shared} {vs : List Value} {ns : List Int}
 (KX : K.In s₁.heap) (hns : s₁.heap.Ns mainGlobals mg) (hb : s₁.heap.Ns builtinsNs mb) (hbb : ∀ x : Str, x ≠ "__name__" → mb x = bootBuiltins x) (hlim : s₁.heap.NoLimit) (hg : s₁.gens = #[])
 (ha : s₁.heap.get? a = some { cls := .type "list", data := .seq vs.toArray }) (hi : IntsAre vs ns) (hl : ns.length ≤ sizeLine) (hr : Room k callerA)
 (F : ∀ base : Heap, K.In base → base.Ns mainGlobals mg → FnOk P w K mg base CX k fa fd [x] sp) (hbind : ∀ (s : Shared) (u : Value), BindsTo s fd ⟨[u], []⟩ [(x, u)])
 (hsp : ∀ H : Hp, Only H → SqL K H a (ns.map V.int) → sp [.ref a] H (fun v _ => v = .bl true) fun _ _ _ => False)
 (hCX : ∀ H e s', CX [] H s₁ (fun _ _ _ => False) e s' → False) :
 codeAny (model P w) callerA (.call (.ref fa) ⟨[.ref a], []⟩) (fun r s' => r = .ok (.ret (.bool true)) ∧ OldK s₁.heap s'.heap ∧ s'.os = s₁.os ∧ AllBare s'.gens) s₁ := by
 have rv := vals_ints hi
 have lenV := hi.length
 -- from an abstract heap in which nothing but the script may be tracked
 have core : ∀ H : Hp, Only H → SqL K H a (ns.map V.int) → HOk P w H s₁.heap → (∀ b, H b ≠ none → b = a) → (H a ≠ none → K.lookup a = none) →
  codeAny (model P w) callerA (.call (.ref fa) ⟨[.ref a], []⟩) (fun r s' => r = .ok (.ret (.bool true)) ∧ OldK s₁.heap s'.heap ∧ s'.os = s₁.os ∧ AllBare s'.gens) s₁ := by
  intro H hO hS hok hA hK
  have base_of : ∀ {b : Addr} {o : Obj}, s₁.heap.get? b = some o → H b = none → (hidT s₁.heap H).get? b = some o := fun e n => hidT_get e n
  have noA : ∀ {b : Addr} {o : Obj} {es : Array DictEntry} {ep : Nat}, s₁.heap.get? b = some o → o.data = .dict es ep → H b = none := fun {b o es ep} e d => by
   cases q : H b with
   | none => rfl
   | some u =>
     have e' : b = a := hA b (by rw [q]; simp)
     subst e'
     rw [ha] at e; cases e
     have d' : Data.seq vs.toArray _ = Data.dict es ep := d
     cases d'
  have nsK : ∀ {b : Addr} {m : Str → Option Value}, s₁.heap.Ns b m → (hidT s₁.heap H).Ns b m := fun {b m} ⟨o, es, ep, e, d, r⟩ => ⟨o, es, ep, base_of e (noA e d), d, r⟩
  have hKb : K.In (hidT s₁.heap H) := fun b o e => base_of (KX b o e) (by
   cases q : H b with
   | none => rfl
   | some u =>
     have e' : b = a := hA b (by rw [q]; simp)
     subst e'
     rw [hK (by rw [q]; simp)] at e; cases e)
  have hM : Mod K mg (hidT s₁.heap H) := ⟨hKb, nsK hns, ⟨mb, nsK hb, hbb⟩, let ⟨mc, h1, h2⟩ := hlim; ⟨mc, nsK h1, h2⟩⟩
  have e0 : Env0 P w K mg (hidT s₁.heap H) callerA [] s₁ H := ⟨rfl, hM, fun b o e => of_hidT e, Nat.le_of_eq (hidT_size _ _), trivial, fun b hb => absurd (show b ∈ ([] : List Addr) from hb) (by simp), hok, .of_eq hg⟩
  refine codeAny_mono ((F _ hKb (nsK hns)).run callerA [] s₁ H ⟨[.ref a], []⟩ [.ref a] [.ref a] _ _ hr e0 (hbind s₁ (.ref a)) (.cons rfl .nil) (hsp H hO hS)) fun r s' h => ?_
  cases r with
  | error e => exact (hCX H e s' h).elim
  | ok fl =>
    cases fl with
    | next => exact False.elim h
    | brk => exact False.elim h
    | cont => exact False.elim h
    | ret u =>
      obtain ⟨v, H', os, bare, un, hok', r', q⟩ := h
      have q' : v = .bl true := q
      subst q'
      obtain rfl : u = Value.bool true := r'
      refine ⟨rfl, OldK.of_keep fun b o e => ?_, os, bare⟩
      cases q : H b with
      | none => exact un.keep b o e q (by intro z; exact absurd (show b ∈ ([] : List Addr) from z) (by simp)) (by simp)
      | some u =>
        rcases hO b with z | ⟨ob, xs, z⟩
        · rw [q] at z; cases z
        · have z2 := un.frzs b ob _ z
          obtain ⟨e1, _⟩ := hok b _ z
          obtain ⟨e2, _⟩ := hok' b _ z2
          rw [e] at e1; cases e1
          exact e2
 cases hk : K.lookup a with
 | some o =>
   -- the script is one of the module's own objects
   have e := KX a o hk
   rw [ha] at e
   cases e
   refine core (fun _ => none) (fun _ => .inl rfl) (.inr ⟨_, vs.toArray, _, hk, rfl, rfl, rfl, by rw [List.size_toArray, lenV]; exact hl, by simpa using rv⟩) (fun b u z => by have z' : (none : Option HO) = some u := z; cases z') (fun b z => absurd rfl z) fun z => absurd rfl z
 | none =>
   refine core (fun b => if b = a then some (.frz { cls := .type "list", data := .seq vs.toArray } (.lst (ns.map V.int))) else none) (fun b => ?_) (.inl (.inr ⟨{ cls := .type "list", data := .seq vs.toArray }, if_pos rfl⟩)) (fun b u z => ?_) (fun b z => ?_) fun _ => hk
   · by_cases hb : b = a
     · exact .inr ⟨_, _, if_pos hb⟩
     · exact .inl (if_neg hb)
   · by_cases hb : b = a
     · have z' := (if_pos hb).symm.trans z
       cases z'
       subst hb
       exact ⟨ha, by rw [List.length_map]; exact hl, vs, _, rv, ha⟩
     · have z' := (if_neg hb).symm.trans z
       cases z'
   · by_cases hb : b = a
     · exact hb
     · exact absurd (if_neg hb) z
end L2

namespace L2
open PySem PySem.Spec PyProof.Rows

theorem walk_of {l : PySem.W.OpenLaw} {n k : Nat} {q : Program} {loose : List Str} {XP : (Str → Option Value) → Heap → Prop} {YP : World → Heap → Prop} {d : DefRec} {K : Params → PySem.W.Frag} {CX : World → CXT} {sp : World → Sp} {x : Str}
 (hn : l.most = some n) (hn2 : n ≤ sizeLine) (hdf : d.params.defaults = []) (hr : Room k callerA)
 (hY : ∀ (w : World) (h : Heap), YP w h → (K w.params).In h)
 (F : ∀ (w : World) (mg : Str → Option Value) (fa : Addr) (h : Heap), (K w.params).In h → h.Ns mainGlobals mg → mg d.name = some (.ref fa) →
  ∃ fd : FuncData, (∀ (s : Shared) (u : Value), BindsTo s fd ⟨[u], []⟩ [(x, u)]) ∧
    ∀ base : Heap, (K w.params).In base → base.Ns mainGlobals mg → FnOk l.prog w (K w.params) mg base (CX w) k fa fd [x] (sp w))
 (hsp : ∀ (w : World) (H : Hp) (a : Addr) (ns : List Int), ns.length ≤ n → Only H → SqL (K w.params) H a (ns.map V.int) → sp w [.ref a] H (fun v _ => v = .bl true) fun _ _ _ => False)
 (hCX : ∀ (w : World) (H : Hp) (s : Shared) (e : Value) (s' : Shared), CX w [] H s (fun _ _ _ => False) e s' → False) :
 PySem.W.WalkO q loose XP YP l.row.toRowW d [] (fun f vs => PySem.call f vs) := by
 refine Att.attach_call hn hdf fun w s₀ s₁ mg mb fa o pm cd doc a vs ns G Y ho hd hcd hmg hobj hints hlen hg => ?_
 have KX := hY w _ Y
 obtain ⟨fd, hb, hF⟩ := F w mg fa _ KX G.T.g hmg
 exact law_call KX G.T.g G.T.b G.T.builtins G.T.nolimit hg hobj hints (Nat.le_trans hlen hn2) hr hF hb (fun H hO hS => hsp w H a ns hlen hO hS) fun H e s' => hCX w H s₁ e s'
end L2

namespace L2
open PySem PySem.Spec PyProof.Rows

noncomputable def defArgs (s : Stmt) : Arguments := match s with
 | .FunctionDef _ a _ _ _ _ _ _ _ _ => a
 | _ => { posonlyargs := [], args := [], vararg := none, kwonlyargs := [], kw_defaults := [], kwarg := none, defaults := [] }
noncomputable def defBody (s : Stmt) : List Stmt := match s with
 | .FunctionDef _ _ b _ _ _ _ _ _ _ => b
 | _ => []
noncomputable def defScope (s : Stmt) : Scope := match s with
 | .FunctionDef _ _ _ _ _ _ sc _ _ _ => sc
 | _ => { kind := .function, names := [], isGenerator := false, isCoroutine := false }

noncomputable abbrev CX0 : CXT := fun _ _ _ _ _ _ => False
noncomputable abbrev E0 : XK := fun _ _ _ => False
theorem pass0 {X : Cx} : Passes CX0 X E0 := fun _ _ _ _ _ _ _ h => h.elim

structure Fun (K : PySem.W.Frag) (x qual : Str) (st : Stmt) (f : Addr) (fd : FuncData) : Prop where
 ex : ∃ (oc : Value) (od : Option Addr) (kV doc pm : Value) (an : Option Addr) (cdv ct : Value) (osl : Array (Option Value)),
  fd = PySem.W.fnOf x qual (defArgs st) (defBody st) (defScope st) .none kV doc pm an cdv ct ∧ K.lookup f = some ⟨oc, od, .func fd, osl⟩ ∧ PySem.W.codeIn K cdv qual = true
 kp : PySem.W.keepIn K (.ref f) = true
section
variable {P : Program} {w : World} {K : PySem.W.Frag} {mg : Str → Option Value} {base : Heap}
theorem Fun.ok {x qual : Str} {st : Stmt} {f : Addr} {fd : FuncData} {N ps : List Str} {k : Nat} {sp : Sp} (F : Fun K x qual st f fd) (S : FnScope N ps (defScope st)) (len : ∀ vs H Q E, sp vs H Q E → vs.length = ps.length)
 (hbody : ∀ (cdv : Value) (A : Around) (outer : List Env) (s : Shared) (H : Hp) (vs : List V) (Q : VK) (E : XK), Room k (A.deeper (envOfC qual (defScope st) s.heap.objs.size f cdv)) → sp vs H Q E →
  ∃ t, PSs (cxOf CX0 P w K mg base N qual (defScope st) f cdv A outer s H E).nox (defBody st) t ∧ t { nx := fun _ H' => Q .non H', rt := Q } (start N vs) H) : FnOk P w K mg base CX0 (k + 1) f fd ps sp := by
 obtain ⟨oc, od, kV, doc, pm, an, cdv, ct, osl, rfl, lk, hcd⟩ := F.ex
 refine fn_of lk hcd S len fun A outer s H vs Q E hr hsp => ?_
 obtain ⟨t, h, q⟩ := hbody cdv A outer s H vs Q E hr hsp
 exact ⟨t, h.nox, q⟩
theorem Fun.binds {x qual : Str} {st : Stmt} {f : Addr} {fd : FuncData} {ps : List Str} (F : Fun K x qual st f fd)
 (h : ∀ (kV doc pm : Value) (an : Option Addr) (cdv ct : Value) (us : List Value), us.length = ps.length → bindArgs (PySem.W.fnOf x qual (defArgs st) (defBody st) (defScope st) .none kV doc pm an cdv ct) ⟨us, []⟩ = pure (ps.zip us)) : Binds K fd ps [] := by
 obtain ⟨oc, od, kV, doc, pm, an, cdv, ct, osl, rfl, lk, hcd⟩ := F.ex
 exact .all (h kV doc pm an cdv ct)
theorem fun_mk {x qual : Str} {st : Stmt} {f : Addr} {oc : Value} {od an : Option Addr} {osl : Array (Option Value)} {kV doc pm cdv ct : Value} (l : K.lookup f = some ⟨oc, od, .func (PySem.W.fnOf x qual (defArgs st) (defBody st) (defScope st) .none kV doc pm an cdv ct), osl⟩)
 (c : PySem.W.codeIn K cdv qual = true) (k : PySem.W.keepIn K (.ref f) = true) : Fun K x qual st f (PySem.W.fnOf x qual (defArgs st) (defBody st) (defScope st) .none kV doc pm an cdv ct) := ⟨⟨oc, od, kV, doc, pm, an, cdv, ct, osl, rfl, l, c⟩, k⟩
end
theorem small1000 {n : Nat} (h : n ≤ 1000) : n < sizeLine := Nat.lt_of_le_of_lt h (by decide)

section
variable {X : Cx}
theorem pv (i : Nat) {x : Str} {pos : Pos} (hN : X.N[i]? = some x := by rfl) (hv : Vis X.env.scope x := by first | exact Or.inl rfl | exact Or.inr (Or.inl rfl) | exact Or.inr (Or.inr rfl)) (hd : (x == ("__debug__" : Str)) = false := by decide)
 (hcd : (x == ("__classdict__" : Str)) = false := by decide) : PE X (.Name x pos) (tVar i) := pe_var hN hv hd hcd
end

theorem iteF {A B : Prop} (h : B) : if false = true then A else B := by
 rw [if_neg Bool.false_ne_true]
 exact h
theorem iteT {A B : Prop} (h : A) : if true = true then A else B := by
 rw [if_pos rfl]
 exact h
noncomputable def Same (H H' : Hp) : Prop := ∀ b o, H b = some o → H' b = some o
theorem Same.refl (H : Hp) : Same H H := fun _ _ h => h
theorem Same.trans {H H1 H2 : Hp} (a : Same H H1) (b : Same H1 H2) : Same H H2 := fun c o h => b c o (a c o h)
theorem Same.free {H H' : Hp} (e : Same H H') {l : Addr} (h : H' l = Option.none) : H l = Option.none := by
 cases q : H l with
 | none => rfl
 | some o =>
   rw [e l o q] at h
   cases h
theorem Same.seq {K : PySem.W.Frag} {H H' : Hp} {a : Addr} {xs : List V} (e : Same H H') (h : SqL K H a xs) : SqL K H' a xs := by
 rcases h with (h | ⟨o, h⟩) | h
 · exact .inl (.inl (e _ _ h))
 · exact .inl (.inr ⟨o, e _ _ h⟩)
 · exact .inr h

end L2

namespace L2
open PySem PySem.Spec PyProof.Rows

section
variable {prog : Program} {w : World} {A : Around} {R : Result → Shared → Prop} {s : Shared}
theorem compLoop_any {elt target iter : Expr} {ifs : List Expr} {scope : Scope} {pos : Pos} {it acc : Value} {env : Env} (I : Nat → Shared → Prop)
 (turn : ∀ n s, I n s → wpAny (model prog w) A (pyNext it) (fun r s₁ => match r with
  | none => R (.ok .next) s₁
  | some v => wpAny (model prog w) A (letOwnedTupleGo target it v) (fun _ s₁' => wpAny (model prog w) A (assign target env v) (fun _ s₂ =>
   wpAny (model prog w) A (forIn ifs true fun c r => if r = true then do let ok ← isTrue c env (eval c env); pure (ForInStep.yield ok) else pure (ForInStep.yield r)) (fun ok s₃ =>
    if ok = true then wpAny (model prog w) A (eval elt env) (fun x s₄ =>
     wpAny (model prog w) A (call (.builtin "list.append") [acc, x]) (fun _ s₅ => ∃ m, m < n ∧ I m s₅) (fun _ _ => False) s₄) (fun _ _ => False) s₃
    else ∃ m, m < n ∧ I m s₃) (fun _ _ => False) s₂) (fun _ _ => False) s₁') (fun _ _ => False) s₁) (fun _ _ => False) s)
 (n : Nat) (h : I n s) :
 codeAny (model prog w) A (.compLoop (.ListComp elt [⟨target, iter, ifs, 0⟩] scope pos) 0 it acc env) R s := by
 refine codeAny_loop rfl I (fun n s hI => ?_) n h
 show wpAny _ A ((compTurn (.ListComp elt [⟨target, iter, ifs, 0⟩] scope pos) 0 it acc env).onRaise (fun x => do noteFrame x env; theTreesLotGoes x)) _ _ s
 refine wpAny_noted ?_
 rw [compTurn_list]
 have el : ∀ {E' : Value → Shared → Prop} (x : Value) (s' : Shared), False → E' x s' := fun _ _ f => f.elim
 refine wpAny_bind (wpAny_standAt (wpAny_bind (wpAny_mono (turn n s hI) (fun r s₁ h₁ => ?_) fun _ _ f => f.elim)))
 cases r with
 | none => exact wpAny_pure h₁
 | some v =>
   refine wpAny_bind (wpAny_mono h₁ (fun _ s₁' h₁' => ?_) fun _ _ f => f.elim)
   refine wpAny_bind (wpAny_mono h₁' (fun _ s₂ h₂ => wpAny_bind (wpAny_mono h₂ (fun ok s₃ h₃ => ?_) fun _ _ f => f.elim)) fun _ _ f => f.elim)
   cases ok with
   | false => exact wpAny_pure ⟨rfl, h₃⟩
   | true =>
     exact wpAny_bind (wpAny_bind (wpAny_mono h₃ (fun x s₄ h₄ => wpAny_bind (wpAny_mono h₄ (fun _ s₅ h₅ => wpAny_pure (wpAny_pure ⟨rfl, h₅⟩)) fun _ _ f => f.elim)) fun _ _ f => f.elim))
end

noncomputable def compX (X : Cx) (N' : List Str) (scope : Scope) (cl : List (Str × Addr)) (C : Addr) (s : Shared) (H : Hp) (fp : List Addr) : Cx where
 prog := X.prog
 w := X.w
 K := X.K
 mg := X.mg
 base := X.base
 A := X.A
 N := N'
 s₀ := s
 H₀ := H
 env := compEnvC scope cl C X.env
 outer := X.stack
 stack := X.stack
 ex := fp
 fn := fun _ => false
 calm := X.calm
 pn := []
 xe := fun _ _ => False

noncomputable def PTs (X : Cx) (ifs : List Expr) (t : TT) : Prop :=
 ∀ (pins : List (Addr × Obj)) (s : Shared) (σ : St) (H : Hp) (Q : Bool → Hp → Prop), Inv X pins σ H s → t σ H Q →
   wpAny (model X.prog X.w) X.A (forIn ifs true fun c r => if r = true then do let ok ← isTrue c X.env (eval c X.env); pure (ForInStep.yield ok) else pure (ForInStep.yield r)) (TP X pins σ Q) X.xe s
theorem pts_nil {X : Cx} : PTs X [] (fun _ H Q => Q true H) := fun _ _ _ H _ I h => wpAny_pure ⟨H, I, h⟩
theorem pts_one {X : Cx} {c : Expr} {t : TT} (h : PT X c t) : PTs X [c] t := fun pins s σ H Q I hw => by
 simp only [List.forIn_cons, List.forIn_nil, if_true]
 exact wpAny_bind (wpAny_bind (wpAny_mono (h pins s σ H Q I hw) (fun b s' hb => wpAny_pure (wpAny_pure hb)) fun _ _ x => x))

noncomputable def Cap (X : Cx) (sc : Scope) : List Str → List (Option Nat) → Prop
 | [], [] => True
 | _ :: N, none :: ks => Cap X sc N ks
 | x :: N, some k :: ks => (X.N[k]? = some x ∧ X.env.scope.names.lookup x = some .cell ∧ (sc.names.lookup x = some .cell ∨ sc.names.lookup x = some .free)) ∧ Cap X sc N ks
 | _, _ => False
theorem Cap.len {X : Cx} {sc : Scope} : ∀ {N : List Str} {ks : List (Option Nat)}, Cap X sc N ks → ks.length = N.length
 | [], [], _ => rfl
 | _ :: N, none :: ks, h => by simp [Cap.len (show Cap X sc N ks from h)]
 | _ :: N, some _ :: ks, h => by simp [Cap.len (show Cap X sc N ks from h.2)]
 | [], _ :: _, h => by cases h
 | _ :: _, [], h => by cases h
theorem Cap.get {X : Cx} {sc : Scope} : ∀ {N : List Str} {ks : List (Option Nat)} {i k : Nat} {x : Str}, Cap X sc N ks → N[i]? = some x → ks[i]? = some (some k) →
 X.N[k]? = some x ∧ X.env.scope.names.lookup x = some .cell ∧ (sc.names.lookup x = some .cell ∨ sc.names.lookup x = some .free)
 | [], [], _, _, _, _, e, _ => by simp at e
 | [], _ :: _, _, _, _, h, _, _ => by cases h
 | _ :: _, [], _, _, _, h, _, _ => by cases h
 | _ :: N, none :: ks, 0, k, x, h, e1, e2 => by simp at e2
 | _ :: N, none :: ks, i + 1, k, x, h, e1, e2 => Cap.get (i := i) (show Cap X sc N ks from h) (by simpa using e1) (by simpa using e2)
 | y :: N, some j :: ks, 0, k, x, h, e1, e2 => by
   simp at e1 e2
   subst e1 e2
   exact h.1
 | _ :: N, some _ :: ks, i + 1, k, x, h, e1, e2 => Cap.get (i := i) (show Cap X sc N ks from h.2) (by simpa using e1) (by simpa using e2)
noncomputable def capt (ks : List (Option Nat)) (σ : St) : St := ks.map fun o => match o with
 | none => none
 | some k => σ.getD k none

noncomputable def CompW (J : It) (D : Addr) (g : TG) (tt : TT) (te : TE) (Q : VK) (σ0 : St) (H0 : Hp) : Prop :=
 ∃ W : Nat → Nat → List V → St → Hp → Prop, (∃ m, W 0 m [] σ0 H0) ∧ ∀ i m ys σ' H', W i m ys σ' H' → H' D = some (.lst ys) ∧
   ((J.stop i H' ∧ Q (.ref D) H') ∨ (J.go i H' ∧ ∀ x H2, J.yld i H' x H2 → g x σ' H2 fun σ3 H3 => tt σ3 H3 fun b H4 => if b = true then
     te σ3 H4 fun y H5 => H5 D = some (.lst ys) ∧ ys.length < sizeLine ∧ ∃ m', m' < m ∧ W (i + 1) m' (ys ++ [y]) σ3 (upd H5 D (.lst (ys ++ [y]))) else ∃ m', m' < m ∧ W (i + 1) m' ys σ3 H4))
noncomputable def tComp (wi : TI) (ks : List (Option Nat)) (g : TG) (tt : TT) (te : TE) : TE := fun σ H Q => wi σ H fun J H1 => ∀ D, H1 D = none → CompW J D g tt te Q (capt ks σ) (upd H1 D (.lst []))

section
variable {X : Cx}
theorem pe_comp {tg iter elt : Expr} {ifs : List Expr} {scope : Scope} {pos : Pos} {N' : List Str} {ks : List (Option Nat)} {cl : List (Str × Addr)} {wi : TI} {g : TG} {tt : TT} {te : TE}
 (hcalm : X.calm = true) (hi : PI X tg iter wi) (hclos : closureFor scope X.env = pure cl) (hcl : ∀ x c, cl.lookup x = some c → X.env.cells.lookup x = some c)
 (hcell : ∀ y ∈ scope.names, y.2 ≠ .cell) (hkind : scope.kind = .function) (hnames : ∀ y ∈ scope.names, y.2 = .local → scope.names.lookup y.1 = some .local)
 (hhas : ∀ x, ((relabel scope X.env).names.lookup x = some .cell ∨ (relabel scope X.env).names.lookup x = some .free) → ∃ c, cl.lookup x = some c)
 (hcap : Cap X (relabel scope X.env) N' ks)
 (hg : ∀ C s H fp, PG (compX X N' scope cl C s H fp) tg g) (ht : ∀ C s H fp, PTs (compX X N' scope cl C s H fp) ifs tt) (he : ∀ C s H fp, PE (compX X N' scope cl C s H fp) elt te)
 (hs : ∀ x, foldedSetIterable iter X.env x = pure x := by intro _; rfl) : PE X (.ListComp elt [⟨tg, iter, ifs, 0⟩] scope pos) (tComp wi ks g tt te) := by
 intro pins s σ H Q I h
 rw [eval_ListComp]
 refine wpAny_comprehension_free (use := none) rfl hs hclos hkind hnames (thn (hi pins s σ H _ I h) fun v s1 h1 => thn h1 fun itv s2 h2 => ?_)
 obtain ⟨it, fp, tn, J, H2, e, I2, T, st2, f2, R⟩ := h2
 subst e
 refine wpAny_newObj_type (wpAny_newFunctionEnv hcell (by intro y hy; simp at hy) (fun h₁ hns₁ hsb₁ => ?_) hkind)
 dsimp only at hns₁ hsb₁ ⊢
 have hD : H2 s2.heap.objs.size = none := I2.hok.fresh (Nat.le_refl _)
 obtain ⟨W, ⟨m0, w0⟩, turn⟩ := R _ hD
 generalize hs3 : ({ s2 with heap := s2.heap.push { cls := .type "list", dict := none, data := .seq ([] : List Value).toArray } } : Shared) = s3
 have e3 : s3.heap = s2.heap.push { cls := .type "list", dict := none, data := .seq ([] : List Value).toArray } := by rw [← hs3]
 have I3 : Inv X pins σ (upd H2 s2.heap.objs.size (.lst [])) s3 := by
  rw [← hs3]
  exact I2.laid (t' := s2.toks) (fun b o e => Heap.get?_push_of_some _ e) (Nat.le_refl _) ⟨Nat.zero_le _, [], 0, .nil, Heap.get?_push_size _ rfl⟩
 generalize hD0 : s2.heap.objs.size = D at *
 generalize hH3 : upd H2 D (.lst []) = H3 at *
 rw [← e3] at hns₁ hsb₁ ⊢
 -- what newFunctionEnv keeps
 have kp : ∀ b o, s3.heap.get? b = some o → h₁.get? b = some o := fun b o e => hsb₁.extBut b o (Nat.ne_of_lt (Heap.lt_size e)) (Heap.get?_push_of_some _ e)
 have f3 : ∀ b ∈ fp, FpOk X pins H3 b ∧ b < s3.heap.objs.size := fun b hb => by
  obtain ⟨o, ho, _⟩ := T.obj 0 _ st2 b hb
  have hlt : b < D := by rw [← hD0]; exact Heap.lt_size ho
  refine ⟨⟨?_, (f2 b hb).2⟩, ?_⟩
  · rw [← hH3, upd_ne (Nat.ne_of_lt hlt)]; exact (f2 b hb).1
  · rw [e3, Heap.size_push, hD0]; exact Nat.lt_succ_of_lt hlt
 have st3 : tn 0 h₁ := T.keep 0 s2.heap h₁ st2 fun b hb o e => kp b o (by rw [e3]; exact Heap.get?_push_of_some _ e)
 have capK : ∀ x c, cl.lookup x = some c → X.env.cells.lookup x = some c := hcl
 have stkne : ∀ b ∈ fp, b ∉ frs X.stack := fun b hb z => by
  rcases List.mem_cons.mp (I3.stkSub b z) with e | e
  · exact (f3 b hb).1.2.1 e
  · exact (f3 b hb).1.2.2.1 e
 have Cfresh : H3 s3.heap.objs.size = none := I3.hok.fresh (Nat.le_refl _)
 have ok' : (compX X N' scope cl s3.heap.objs.size s3 H3 fp).Ok := by
  refine ⟨I3.ok.mod, hkind, I3.ok.glob, I3.ok.blt, Nat.le_refl _, fun x y c h1 h2 => I3.ok.inj x y c (capK x c h1) (capK y c h2), fun x hx => hhas x hx, fun x c hf _ => absurd (show false = true from hf) Bool.false_ne_true, fun z => I3.ok.hd z, I3.ok.frames, .inl rfl,
   fun b hb => ⟨Nat.ne_of_lt (f3 b hb).2, fun x c e => (f3 b hb).1.2.2.2.2.1 x c (capK x c e)⟩, I3.bs, Nat.le_trans I3.ok.bsz I3.sz, fun b o e hb => ?_, fun b hb => stkne b hb, I3.stack, I3.stkFree⟩
  rcases (f3 b hb).1.2.2.2.1 with z | z
  · exact I3.ok.noex b o e z
  · exact absurd (Nat.lt_of_lt_of_le (Heap.lt_size e) (Nat.le_trans I3.ok.bsz z)) (Nat.lt_irrefl _)
 have I4 : Inv (compX X N' scope cl s3.heap.objs.size s3 H3 fp) [] (capt ks σ) H3 { s3 with heap := h₁, toks := s3.toks + ([] : List (Str × Value)).length } := by
  refine ⟨ok', rfl, I3.bare, Un.kept kp, ⟨_, hns₁, fun i x v e1 e2 e3' => ?_⟩, fun x c e => ?_, Cfresh, fun x c e => I3.freeC x c (capK x c e), fun p hp => absurd (show p ∈ ([] : List (Addr × Obj)) from hp) (by simp), I3.hok.kept kp, ?_⟩
  · have e2' : (capt ks σ)[i]? = some (some v) := e2
    unfold capt at e2'
    rw [List.getElem?_map] at e2'
    cases hk : ks[i]? with
    | none => rw [hk] at e2'; cases e2'
    | some o =>
      rw [hk] at e2'
      cases o with
      | none => cases e2'
      | some k =>
        have ev : σ.getD k none = some v := Option.some.inj e2'
        obtain ⟨c1, c2, c3⟩ := hcap.get e1 hk
        obtain ⟨m, hn, hl⟩ := I3.loc
        have es : σ[k]? = some (some v) := by
         rw [List.getD_eq_getElem?_getD] at ev
         cases q : σ[k]? with
         | none => rw [q] at ev; cases ev
         | some z => rw [q] at ev; exact congrArg some ev
        obtain ⟨u, r, l⟩ := hl k x v c1 es (.inr (.inl c2))
        refine ⟨u, r, .inr ⟨c3, ?_⟩⟩
        rcases l with ⟨l1, _⟩ | ⟨_, c, l2, l3⟩
        · have l1' : X.env.scope.names.lookup x = some .local := l1
          rw [c2] at l1'; cases l1'
        · obtain ⟨c', hc'⟩ := hhas x c3
          have : X.env.cells.lookup x = some c' := capK x c' hc'
          rw [l2] at this
          cases this
          refine ⟨c, hc', ?_⟩
          obtain ⟨o, ho, hd⟩ := l3
          exact ⟨o, kp c o ho, hd⟩
  · obtain ⟨v, o, ho, hd⟩ := I3.cell x c (capK x c e)
    exact ⟨v, o, kp c o ho, hd⟩
  · show (capt ks σ).length = N'.length
    unfold capt
    rw [List.length_map, hcap.len]
 -- behind the block
 have Cne : ∀ p ∈ X.pn ++ pins, p.1 ≠ s3.heap.objs.size := fun p hp => Nat.ne_of_lt (Heap.lt_size (I3.pin p hp).1)
 have back : ∀ {σ' : St} {H' : Hp} {s' : Shared}, Inv (compX X N' scope cl s3.heap.objs.size s3 H3 fp) [] σ' H' s' → ∀ h'' : Heap, Heap.SameBut s3.heap.objs.size s'.heap h'' → Inv X pins σ H' { s' with heap := h'' } := fun {σ' H' s'} I' h'' sb => by
  have J1 : Inv X pins σ H' s' := I3.call' (ch := fp) I'.os I'.base I'.hok I'.bare fun b hb => ⟨(f3 b hb).1.2.2.2.1, (f3 b hb).1.2.1, (f3 b hb).1.2.2.2.2.1, (f3 b hb).1.2.2.2.2.2⟩
  refine J1.turned (t' := s'.toks) (it := s3.heap.objs.size) (fun b o hb e => (sb.2 b hb).trans e) I'.free (Nat.ne_of_gt I3.lt) (.inr I3.sz) (fun x c e => ?_) Cne
  obtain ⟨v, q⟩ := I3.cell x c e
  exact Nat.ne_of_lt q.lt
 have fpok : ∀ {H' : Hp}, (∀ b ∈ fp, H' b = none) → ∀ b ∈ fp, FpOk (compX X N' scope cl s3.heap.objs.size s3 H3 fp) [] H' b := fun hn b hb =>
  ⟨hn b hb, Nat.ne_of_lt (f3 b hb).2, stkne b hb, .inl hb, fun x c e => (f3 b hb).1.2.2.2.2.1 x c (capK x c e), fun p hp => absurd (show p ∈ ([] : List (Addr × Obj)) from hp) (by simp)⟩
 have loop : codeAny (model X.prog X.w) X.A (.compLoop (.ListComp elt [⟨tg, iter, ifs, 0⟩] scope pos) 0 (.ref it) (.ref D) (compEnvC scope cl s3.heap.objs.size X.env))
  (compPost (model X.prog X.w) X.A X.xe none (EP X pins σ Q) (.ref D) s3.heap.objs.size) { s3 with heap := h₁, toks := s3.toks + ([] : List (Str × Value)).length } := by
  refine compLoop_any (fun n s' => ∃ i ys σ' H', Inv (compX X N' scope cl s3.heap.objs.size s3 H3 fp) [] σ' H' s' ∧ tn i s'.heap ∧ (∀ b ∈ fp, H' b = none) ∧ W i n ys σ' H') ?_ m0 ⟨0, [], _, _, I4, st3, fun b hb => (f3 b hb).1.1, w0⟩
  rintro n s5 ⟨i, ys, σ5, H5, I5, st5, fr5, w5⟩
  obtain ⟨hD5, tq⟩ := turn i n ys σ5 H5 w5
  rcases tq with ⟨stop, q⟩ | ⟨go, step⟩
  · refine thn (T.done (compX X N' scope cl s3.heap.objs.size s3 H3 fp) rfl rfl rfl hcalm i [] s5 σ5 H5 _ I5 (fpok fr5) st5 stop) fun r s6 ⟨hr, I6⟩ => ?_
    subst hr
    obtain ⟨m, hn, _⟩ := I6.loc
    exact ⟨m, hn, fun h'' sb => ⟨.ref D, H5, back I6 h'' sb, rfl, q⟩⟩
  · refine thn (T.item (compX X N' scope cl s3.heap.objs.size s3 H3 fp) rfl rfl rfl hcalm i [] s5 σ5 H5 _ I5 (fpok fr5) st5 go) fun r s6 ⟨u, hr, h6⟩ => ?_
    subst hr
    refine thn h6 fun _ s7 ⟨x, H7, I7, r7, y7, st7, fr7⟩ => ?_
    have I7' := I7.pinned (fpok fr7) (T.obj _ _ st7)
    refine thn (hg _ _ _ _ _ s7 σ5 H7 x u _ I7' r7 (step x H7 y7)) fun _ s8 ⟨σ8, H8, I8, q8⟩ => ?_
    refine thn (ht _ _ _ _ _ s8 σ8 H8 _ I8 q8) fun ok s9 ⟨H9, I9, q9⟩ => ?_
    have again : ∀ {σ' : St} {H' : Hp} {s' : Shared} {ys' : List V}, Inv (compX X N' scope cl s3.heap.objs.size s3 H3 fp) ([] ++ pinsAt fp s7.heap) σ' H' s' → (∃ m', m' < n ∧ W (i + 1) m' ys' σ' H') →
     ∃ m', m' < n ∧ ∃ i ys σ' H', Inv (compX X N' scope cl s3.heap.objs.size s3 H3 fp) [] σ' H' s' ∧ tn i s'.heap ∧ (∀ b ∈ fp, H' b = none) ∧ W i m' ys σ' H' := fun {σ' H' s' ys'} I' hw => by
     obtain ⟨m', hm, w'⟩ := hw
     refine ⟨m', hm, i + 1, ys', σ', H', I'.unpinned, T.keep _ _ _ st7 fun b hb o e => (I'.pin (b, o) (List.mem_append_right _ (List.mem_append_right _ (mem_pinsAt hb e)))).1, fun b hb => ?_, w'⟩
     obtain ⟨o, e, d⟩ := T.obj _ _ st7 b hb
     exact (I'.pin (b, o) (List.mem_append_right _ (List.mem_append_right _ (mem_pinsAt hb e)))).2.1
    cases ok with
    | false =>
      rw [if_neg Bool.false_ne_true] at q9 ⊢
      exact again I9 q9
    | true =>
      rw [if_pos rfl] at q9 ⊢
      refine thn (he _ _ _ _ _ s9 σ8 H9 _ I9 q9) fun y s10 ⟨yv, H10, I10, r10, q10, z10, w10⟩ => ?_
      refine thn (mt_append _ s10 σ8 H10 (.ref D) [yv] (.ref D) [y] (fun v H' => v = .non ∧ H' = upd H10 D (.lst (ys ++ [yv]))) I10 rfl (.cons r10 .nil) ⟨D, ys, yv, rfl, rfl, q10, z10, rfl, rfl⟩) fun _ s11 ⟨_, H11, I11, _, _, e11⟩ => ?_
      subst e11
      exact again I11 w10
 have es : ({ s3 with heap := h₁, toks := s3.toks + ([] : List (Str × Value)).length } : Shared) = { s2 with heap := h₁, toks := s2.toks + ([] : List (Str × Value)).length } := by rw [← hs3]
 rw [es] at loop
 exact codeAny_compStart_list loop (T.self _ 0 _ _ _ st3 loop)
end
end L2

namespace L2
open PySem PySem.Spec PyProof.Rows

noncomputable def Sz (n : Nat) (k : Int) : Prop := k.natAbs < 2 ^ n
theorem Sz.mono {n m : Nat} {k : Int} (h : Sz n k) (l : n ≤ m) : Sz m k := Nat.lt_of_lt_of_le h (Nat.pow_le_pow_right (by decide) l)
theorem Sz.neg {n : Nat} {a : Int} (h : Sz n a) : Sz n (-a) := by
 unfold Sz at *
 omega
theorem Sz.log2 {n : Nat} {k : Int} (h : Sz n k) (hn : 0 < n) : k.natAbs.log2 < n := by
 by_cases h0 : k.natAbs = 0
 · rw [h0]; exact hn
 · exact (Nat.log2_lt h0).mpr h
noncomputable def CDivB (_ j : Int) : Prop := j ≠ 0 ∧ Sz 9000 j
section
variable {X : Cx}
theorem op_fdivB : OpR X (binaryOp .FloorDiv) (rI CDivB fun i j => .int (i.fdiv j)) := opI fun _ _ _ _ _ _ _ hc q => floordiv_int hc.1 q (.inl (PyProof.noPylong_of_log2 (hc.2.log2 (by decide))))
end

inductive Dt where
 | non | bl (b : Bool) | int (i : Int) | str (x : Str) | tup (xs : List Dt) | lst (xs : List Dt)
mutual
def Den (K : PySem.W.Frag) (H : Hp) : Dt → V → Prop
 | .non, v => v = .non
 | .bl b, v => v = .bl b
 | .int i, v => v = .int i
 | .str x, v => v = .str x
 | .tup ds, v => ∃ a xs, v = .ref a ∧ SqT K H a xs ∧ Dens K H ds xs
 | .lst ds, v => ∃ a xs, v = .ref a ∧ SqL K H a xs ∧ Dens K H ds xs
def Dens (K : PySem.W.Frag) (H : Hp) : List Dt → List V → Prop
 | [], xs => xs = []
 | d :: ds, xs => ∃ x r, xs = x :: r ∧ Den K H d x ∧ Dens K H ds r
end
mutual
def eqD : Dt → Dt → Bool
 | .non, .non => true
 | .bl a, .bl b => a == b
 | .bl a, .int b => (if a then 1 else 0) == b
 | .int a, .bl b => a == (if b then 1 else 0)
 | .int a, .int b => a == b
 | .str a, .str b => a == b
 | .tup xs, .tup ys => eqDs xs ys
 | .lst xs, .lst ys => eqDs xs ys
 | _, _ => false
def eqDs : List Dt → List Dt → Bool
 | [], [] => true
 | x :: xs, y :: ys => eqD x y && eqDs xs ys
 | _, _ => false
end
mutual
def depD : Dt → Nat
 | .tup xs => depDs xs + 1
 | .lst xs => depDs xs + 1
 | _ => 0
def depDs : List Dt → Nat
 | [] => 0
 | x :: xs => max (depD x) (depDs xs)
end
mutual
theorem eqD_refl : ∀ d : Dt, eqD d d = true
 | .non => rfl
 | .bl b => by simp [eqD]
 | .int b => by simp [eqD]
 | .str b => by simp [eqD]
 | .tup xs => by simp only [eqD]; exact eqDs_refl xs
 | .lst xs => by simp only [eqD]; exact eqDs_refl xs
theorem eqDs_refl : ∀ ds : List Dt, eqDs ds ds = true
 | [] => rfl
 | x :: xs => by simp only [eqDs, eqD_refl x, eqDs_refl xs, Bool.and_self]
end
theorem Dens.length {K : PySem.W.Frag} {H : Hp} : ∀ {ds : List Dt} {xs : List V}, Dens K H ds xs → xs.length = ds.length
 | [], _, h => by simp only [Dens] at h; subst h; rfl
 | d :: ds, _, h => by
   simp only [Dens] at h
   obtain ⟨x, r, rfl, _, h⟩ := h
   simp [Dens.length h]
section
variable {X : Cx} {pins : List (Addr × Obj)} {σ : St} {H : Hp} {s : Shared}
theorem kinds_apart (I : Inv X pins σ H s) {a : Addr} {xs ys : List V} (h : SqT X.K H a xs) (h' : SqL X.K H a ys) : False := by
 obtain ⟨its, _, ⟨o, e, c, _⟩, _⟩ := I.tuple h
 obtain ⟨its', _, ⟨o', n', e', c', _⟩, _⟩ := I.list h'
 rw [e] at e'; cases e'
 rw [c] at c'
 have : ("tuple" : String) = "list" := by injection c'
 exact absurd this (by decide)
mutual
theorem Den.inj (I : Inv X pins σ H s) : ∀ {d e : Dt} {v : V}, Den X.K H d v → Den X.K H e v → d = e
 | .non, e, v, h, h' => by
   simp only [Den] at h
   subst h
   cases e <;> simp only [Den] at h' <;> first
    | rfl
    | (obtain ⟨_, _, z, _⟩ := h'; cases z; done)
    | (cases h'; done)
 | .bl b, e, v, h, h' => by
   simp only [Den] at h
   subst h
   cases e <;> simp only [Den] at h' <;> first
    | (obtain ⟨_, _, z, _⟩ := h'; cases z; done)
    | (cases h'; rfl)
    | (cases h'; done)
 | .int b, e, v, h, h' => by
   simp only [Den] at h
   subst h
   cases e <;> simp only [Den] at h' <;> first
    | (obtain ⟨_, _, z, _⟩ := h'; cases z; done)
    | (cases h'; rfl)
    | (cases h'; done)
 | .str b, e, v, h, h' => by
   simp only [Den] at h
   subst h
   cases e <;> simp only [Den] at h' <;> first
    | (obtain ⟨_, _, z, _⟩ := h'; cases z; done)
    | (cases h'; rfl)
    | (cases h'; done)
 | .tup ds, e, v, h, h' => by
   simp only [Den] at h
   obtain ⟨a, xs, rfl, hx, hd⟩ := h
   cases e with
   | tup es =>
     simp only [Den] at h'
     obtain ⟨b, ys, z, hy, he⟩ := h'
     cases z
     rw [I.tuple_inj hy hx] at he
     rw [Dens.inj I hd he]
   | lst es =>
     simp only [Den] at h'
     obtain ⟨b, ys, z, hy, he⟩ := h'
     cases z
     exact (kinds_apart I hx hy).elim
   | non => simp only [Den] at h'; cases h'
   | bl b => simp only [Den] at h'; cases h'
   | int b => simp only [Den] at h'; cases h'
   | str b => simp only [Den] at h'; cases h'
 | .lst ds, e, v, h, h' => by
   simp only [Den] at h
   obtain ⟨a, xs, rfl, hx, hd⟩ := h
   cases e with
   | lst es =>
     simp only [Den] at h'
     obtain ⟨b, ys, z, hy, he⟩ := h'
     cases z
     rw [I.list_inj hy hx] at he
     rw [Dens.inj I hd he]
   | tup es =>
     simp only [Den] at h'
     obtain ⟨b, ys, z, hy, he⟩ := h'
     cases z
     exact (kinds_apart I hy hx).elim
   | non => simp only [Den] at h'; cases h'
   | bl b => simp only [Den] at h'; cases h'
   | int b => simp only [Den] at h'; cases h'
   | str b => simp only [Den] at h'; cases h'
theorem Dens.inj (I : Inv X pins σ H s) : ∀ {ds es : List Dt} {vs : List V}, Dens X.K H ds vs → Dens X.K H es vs → ds = es
 | [], [], _, _, _ => rfl
 | [], e :: es, vs, h, h' => by
   simp only [Dens] at h h'
   subst h
   obtain ⟨_, _, z, _⟩ := h'
   cases z
 | d :: ds, [], vs, h, h' => by
   simp only [Dens] at h h'
   subst h'
   obtain ⟨_, _, z, _⟩ := h
   cases z
 | d :: ds, e :: es, vs, h, h' => by
   simp only [Dens] at h h'
   obtain ⟨x, r, rfl, h1, h2⟩ := h
   obtain ⟨y, r', z, h3, h4⟩ := h'
   cases z
   rw [Den.inj I h1 h3, Dens.inj I h2 h4]
end
noncomputable def eqAtD (ds es : List Dt) (j : Nat) : Bool := match ds[j]?, es[j]? with
 | some d, some e => eqD d e
 | _, _ => true
theorem all_eqAtD : ∀ (ds es : List Dt), ds.length = es.length → (List.range ds.length).all (eqAtD ds es) = eqDs ds es
 | [], [], _ => rfl
 | d :: ds, e :: es, h => by
   have ih := all_eqAtD ds es (by simpa using h)
   rw [List.length_cons, List.range_succ_eq_map, List.all_cons, List.all_map]
   have e0 : eqAtD (d :: ds) (e :: es) 0 = eqD d e := rfl
   have e1 : (eqAtD (d :: ds) (e :: es)) ∘ Nat.succ = eqAtD ds es := by
    funext j
    simp [eqAtD, Function.comp]
   rw [e0, e1, ih]
   rfl
theorem eqDs_len : ∀ (ds es : List Dt), ds.length ≠ es.length → eqDs ds es = false
 | [], [], h => absurd rfl h
 | [], _ :: _, _ => rfl
 | _ :: _, [], _ => rfl
 | d :: ds, e :: es, h => by
   simp only [eqDs]
   rw [eqDs_len ds es (by simpa using h), Bool.and_false]
end
end L2

namespace L2
open PySem PySem.Spec PyProof.Rows
section
variable {X : Cx} {pins : List (Addr × Obj)} {σ : St} {H : Hp} {s : Shared}
theorem Dens.get {K : PySem.W.Frag} {H : Hp} : ∀ {ds : List Dt} {xs : List V} {j : Nat} {d : Dt}, Dens K H ds xs → ds[j]? = some d → ∃ x, xs[j]? = some x ∧ Den K H d x
 | [], _, _, _, _, e => by simp at e
 | d :: ds, xs, 0, d', h, e => by
   simp only [Dens] at h
   obtain ⟨x, r, rfl, h1, _⟩ := h
   simp at e
   subst e
   exact ⟨x, rfl, h1⟩
 | d :: ds, xs, j + 1, d', h, e => by
   simp only [Dens] at h
   obtain ⟨x, r, rfl, _, h2⟩ := h
   obtain ⟨y, h3, h4⟩ := Dens.get (j := j) h2 (by simpa using e)
   exact ⟨y, by simpa using h3, h4⟩
theorem depDs_mem : ∀ {ds : List Dt} {j : Nat} {d : Dt}, ds[j]? = some d → depD d ≤ depDs ds
 | [], _, _, e => by simp at e
 | d :: ds, 0, d', e => by simp at e; subst e; simp only [depDs]; exact Nat.le_max_left _ _
 | d :: ds, j + 1, d', e => by
   have := depDs_mem (ds := ds) (j := j) (d := d') (by simpa using e)
   simp only [depDs]
   exact Nat.le_trans this (Nat.le_max_right _ _)
theorem items_eq {A : Around} (n : Nat) (ih : ∀ (A : Around) (d e : Dt) (x y : V) (u v : Value), depD d ≤ n → A.units + n < cLine → Den X.K H d x → Den X.K H e y → RelV x u → RelV y v → SeqAt.EqAt A s u v (eqD d e))
 {ds es : List Dt} {xs ys : List V} {us vs : List Value} (hd : depDs ds ≤ n) (hu : A.units + n + 1 < cLine) (h1 : Dens X.K H ds xs) (h2 : Dens X.K H es ys) (r1 : Vals xs us) (r2 : Vals ys vs) :
 ∀ j (g1 : j < us.toArray.size) (g2 : j < vs.toArray.size), SeqAt.EqAt A.in1 s us.toArray[j] vs.toArray[j] (eqAtD ds es j) := by
 intro j g1 g2
 have l1 := h1.length
 have l2 := h2.length
 have l3 := r1.length
 have l4 := r2.length
 have g1' : j < us.length := by simpa using g1
 have g2' : j < vs.length := by simpa using g2
 have j1 : j < ds.length := by rw [← l1, l3]; exact g1'
 have j2 : j < es.length := by rw [← l2, l4]; exact g2'
 have e1 : ds[j]? = some ds[j] := by simp [j1]
 have e2 : es[j]? = some es[j] := by simp [j2]
 obtain ⟨x, ex, dx⟩ := h1.get e1
 obtain ⟨y, ey, dy⟩ := h2.get e2
 obtain ⟨u, eu, ru⟩ := r1.get ex
 obtain ⟨v, ev, rv⟩ := r2.get ey
 have e3 : eqAtD ds es j = eqD ds[j] es[j] := by unfold eqAtD; rw [e1, e2]
 rw [e3]
 have a1 : us.toArray[j] = u := by
  have : us[j]? = some us[j] := by simp [g1']
  rw [this] at eu
  simpa using Option.some.inj eu
 have a2 : vs.toArray[j] = v := by
  have : vs[j]? = some vs[j] := by simp [g2']
  rw [this] at ev
  simpa using Option.some.inj ev
 rw [a1, a2]
 exact ih A.in1 _ _ x y u v (Nat.le_trans (depDs_mem e1) hd) (by show A.units + 1 + n < cLine; omega) dx dy ru rv
theorem rc_seqT {A : Around} (I : Inv X pins σ H s) (n : Nat) (ih : ∀ (A : Around) (d e : Dt) (x y : V) (u v : Value), depD d ≤ n → A.units + n < cLine → Den X.K H d x → Den X.K H e y → RelV x u → RelV y v → SeqAt.EqAt A s u v (eqD d e))
 {ds es : List Dt} {a b : Addr} {xs ys : List V} (hd : depDs ds ≤ n) (hu : A.units + n + 1 < cLine) (ha : SqT X.K H a xs) (hb : SqT X.K H b ys) (h1 : Dens X.K H ds xs) (h2 : Dens X.K H es ys) :
 SeqAt.RcAt A s (.ref a) (.ref b) (eqDs ds es) ∧ SeqAt.RcNeAt A s (.ref a) (.ref b) (!eqDs ds es) := by
 obtain ⟨its, r1, p1, _⟩ := I.tuple ha
 obtain ⟨its2, r2, p2, _⟩ := I.tuple hb
 have l1 := h1.length
 have l2 := h2.length
 have l3 := r1.length
 have l4 := r2.length
 have hu' : A.units < cLine := by omega
 have q := SeqAt.RcAt.tuples (A := A) (s := s) (e := eqAtD ds es) p1 p2 hu' (items_eq n ih hd hu h1 h2 r1 r2)
 have q2 := SeqAt.RcNeAt.tuples (A := A) (s := s) (e := eqAtD ds es) p1 p2 hu' (items_eq n ih hd hu h1 h2 r1 r2)
 have e : ((List.range (min its.toArray.size its2.toArray.size)).all (eqAtD ds es) && its.toArray.size == its2.toArray.size) = eqDs ds es := by
  simp only [List.size_toArray]
  by_cases hl : ds.length = es.length
  · have : its.length = its2.length := by rw [← l3, ← l4, l1, l2, hl]
    rw [this, Nat.min_self, ← l4, l2, ← hl, all_eqAtD ds es hl]
    simp
  · have : its.length ≠ its2.length := by rw [← l3, ← l4, l1, l2]; exact hl
    rw [eqDs_len ds es hl]
    simp [this]
 rw [e] at q q2
 exact ⟨q, q2⟩
theorem rc_seqL {A : Around} (I : Inv X pins σ H s) (n : Nat) (ih : ∀ (A : Around) (d e : Dt) (x y : V) (u v : Value), depD d ≤ n → A.units + n < cLine → Den X.K H d x → Den X.K H e y → RelV x u → RelV y v → SeqAt.EqAt A s u v (eqD d e))
 {ds es : List Dt} {a b : Addr} {xs ys : List V} (hd : depDs ds ≤ n) (hu : A.units + n + 1 < cLine) (ha : SqL X.K H a xs) (hb : SqL X.K H b ys) (h1 : Dens X.K H ds xs) (h2 : Dens X.K H es ys) :
 SeqAt.RcAt A s (.ref a) (.ref b) (eqDs ds es) ∧ SeqAt.RcNeAt A s (.ref a) (.ref b) (!eqDs ds es) := by
 obtain ⟨its, r1, p1, _⟩ := I.list ha
 obtain ⟨its2, r2, p2, _⟩ := I.list hb
 have l1 := h1.length
 have l2 := h2.length
 have l3 := r1.length
 have l4 := r2.length
 have hu' : A.units < cLine := by omega
 by_cases hl : ds.length = es.length
 · have hsz : its.toArray.size = its2.toArray.size := by simp only [List.size_toArray]; rw [← l3, ← l4, l1, l2, hl]
   have q := SeqAt.RcAt.lists (A := A) (s := s) (e := eqAtD ds es) p1.isList p2.isList hsz hu' (items_eq n ih hd hu h1 h2 r1 r2)
   have q2 := SeqAt.RcNeAt.lists (A := A) (s := s) (e := eqAtD ds es) p1.isList p2.isList hsz hu' (items_eq n ih hd hu h1 h2 r1 r2)
   have e : (List.range its.toArray.size).all (eqAtD ds es) = eqDs ds es := by
    simp only [List.size_toArray]
    rw [← l3, l1, all_eqAtD ds es hl]
   rw [e] at q q2
   exact ⟨q, q2⟩
 · have hsz : (its.toArray.size != its2.toArray.size) = true := by
    simp only [List.size_toArray]
    rw [← l3, ← l4, l1, l2]
    simpa using hl
   rw [eqDs_len ds es hl]
   exact ⟨SeqAt.RcAt.lists_lengths p1.isList p2.isList hsz hu', SeqAt.RcNeAt.lists_lengths p1.isList p2.isList hsz hu'⟩
theorem eqAt_D (I : Inv X pins σ H s) : ∀ (n : Nat) (A : Around) (d e : Dt) (x y : V) (u v : Value), depD d ≤ n → A.units + n < cLine → Den X.K H d x → Den X.K H e y → RelV x u → RelV y v → SeqAt.EqAt A s u v (eqD d e) := by
 intro n
 induction n with
 | zero =>
   intro A d e x y u v hd hu h1 h2 rx ry
   have hu' : A.units < cLine := by omega
   cases d with
   | tup ds => simp only [depD] at hd; omega
   | lst ds => simp only [depD] at hd; omega
   | non =>
     simp only [Den] at h1
     subst h1
     cases e with
     | tup es =>
       simp only [Den] at h2
       obtain ⟨b, ys, rfl, hy, _⟩ := h2
       cases rx; cases ry
       obtain ⟨its, _, p, _⟩ := I.tuple hy
       exact SeqAt.EqAt.none_tuple p hu'
     | lst es =>
       simp only [Den] at h2
       obtain ⟨b, ys, rfl, hy, _⟩ := h2
       cases rx; cases ry
       obtain ⟨its, _, p, _⟩ := I.list hy
       exact SeqAt.EqAt.none_list p.isList hu'
     | _ => simp only [Den] at h2; subst h2; exact eqAt_V rx ry rfl rfl
   | bl i =>
     simp only [Den] at h1
     subst h1
     cases e with
     | tup es =>
       simp only [Den] at h2
       obtain ⟨b, ys, rfl, hy, _⟩ := h2
       cases rx; cases ry
       obtain ⟨its, _, p, _⟩ := I.tuple hy
       exact SeqAt.EqAt.bool_tuple _ p hu'
     | lst es =>
       simp only [Den] at h2
       obtain ⟨b, ys, rfl, hy, _⟩ := h2
       cases rx; cases ry
       obtain ⟨its, _, p, _⟩ := I.list hy
       exact SeqAt.EqAt.bool_list _ p.isList hu'
     | _ => simp only [Den] at h2; subst h2; exact eqAt_V rx ry rfl rfl
   | int i =>
     simp only [Den] at h1
     subst h1
     cases e with
     | tup es =>
       simp only [Den] at h2
       obtain ⟨b, ys, rfl, hy, _⟩ := h2
       obtain ⟨t, rfl⟩ := rx
       cases ry
       obtain ⟨its, _, p, _⟩ := I.tuple hy
       exact SeqAt.EqAt.int_tuple _ _ p hu'
     | lst es =>
       simp only [Den] at h2
       obtain ⟨b, ys, rfl, hy, _⟩ := h2
       obtain ⟨t, rfl⟩ := rx
       cases ry
       obtain ⟨its, _, p, _⟩ := I.list hy
       exact SeqAt.EqAt.int_list _ _ p.isList hu'
     | _ => simp only [Den] at h2; subst h2; exact eqAt_V rx ry rfl rfl
   | str i =>
     simp only [Den] at h1
     subst h1
     cases e with
     | tup es =>
       simp only [Den] at h2
       obtain ⟨b, ys, rfl, hy, _⟩ := h2
       obtain ⟨t, rfl⟩ := rx
       cases ry
       obtain ⟨its, _, p, _⟩ := I.tuple hy
       exact SeqAt.EqAt.str_tuple _ _ p hu'
     | lst es =>
       simp only [Den] at h2
       obtain ⟨b, ys, rfl, hy, _⟩ := h2
       obtain ⟨t, rfl⟩ := rx
       cases ry
       obtain ⟨its, _, p, _⟩ := I.list hy
       exact SeqAt.EqAt.str_list _ _ p.isList hu'
     | _ => simp only [Den] at h2; subst h2; exact eqAt_V rx ry rfl rfl
 | succ n ih =>
   intro A d e x y u v hd hu h1 h2 rx ry
   have hu' : A.units < cLine := by omega
   by_cases hle : depD d ≤ n
   · exact ih A d e x y u v hle (by omega) h1 h2 rx ry
   cases d with
   | tup ds =>
     simp only [depD] at hd
     have h1' := h1
     simp only [Den] at h1
     obtain ⟨a, xs, rfl, hx, hds⟩ := h1
     cases rx
     have hT := I.tuple hx
     obtain ⟨its, r1, p1, _⟩ := hT
     cases e with
     | tup es =>
       have h2' := h2
       simp only [Den] at h2
       obtain ⟨b, ys, rfl, hy, hes⟩ := h2
       cases ry
       by_cases hab : a = b
       · subst hab
         rw [Den.inj I h1' h2', eqD_refl]
         exact SeqAt.EqAt.same _
       · simp only [eqD]
         exact SeqAt.EqAt.of_refs hab (rc_seqT I n ih (by omega) (by omega) hx hy hds hes).1
     | lst es =>
       simp only [Den] at h2
       obtain ⟨b, ys, rfl, hy, _⟩ := h2
       cases ry
       obtain ⟨its', _, p, _⟩ := I.list hy
       exact SeqAt.EqAt.tuple_list p1 p.isList hu'
     | non => simp only [Den] at h2; subst h2; cases ry; exact SeqAt.EqAt.tuple_none p1 hu'
     | bl i => simp only [Den] at h2; subst h2; cases ry; exact SeqAt.EqAt.tuple_bool _ p1 hu'
     | int i => simp only [Den] at h2; subst h2; obtain ⟨t, rfl⟩ := ry; exact SeqAt.EqAt.tuple_int _ _ p1 hu'
     | str i => simp only [Den] at h2; subst h2; obtain ⟨t, rfl⟩ := ry; exact SeqAt.EqAt.tuple_str _ _ p1 hu'
   | lst ds =>
     simp only [depD] at hd
     have h1' := h1
     simp only [Den] at h1
     obtain ⟨a, xs, rfl, hx, hds⟩ := h1
     cases rx
     have hT := I.list hx
     obtain ⟨its, r1, p1, _⟩ := hT
     cases e with
     | lst es =>
       have h2' := h2
       simp only [Den] at h2
       obtain ⟨b, ys, rfl, hy, hes⟩ := h2
       cases ry
       by_cases hab : a = b
       · subst hab
         rw [Den.inj I h1' h2', eqD_refl]
         exact SeqAt.EqAt.same _
       · simp only [eqD]
         exact SeqAt.EqAt.of_refs hab (rc_seqL I n ih (by omega) (by omega) hx hy hds hes).1
     | tup es =>
       simp only [Den] at h2
       obtain ⟨b, ys, rfl, hy, _⟩ := h2
       cases ry
       obtain ⟨its', _, p, _⟩ := I.tuple hy
       exact SeqAt.EqAt.list_tuple p1.isList p hu'
     | non => simp only [Den] at h2; subst h2; cases ry; exact SeqAt.EqAt.list_none p1.isList hu'
     | bl i => simp only [Den] at h2; subst h2; cases ry; exact SeqAt.EqAt.list_bool _ p1.isList hu'
     | int i => simp only [Den] at h2; subst h2; obtain ⟨t, rfl⟩ := ry; exact SeqAt.EqAt.list_int _ _ p1.isList hu'
     | str i => simp only [Den] at h2; subst h2; obtain ⟨t, rfl⟩ := ry; exact SeqAt.EqAt.list_str _ _ p1.isList hu'
   | _ => simp only [depD] at hle; omega
end
section
variable {X : Cx}
noncomputable def rEqD (K : PySem.W.Frag) (neg : Bool) : R2 := fun x y H Q => ∃ a b xs ys ds es, x = .ref a ∧ y = .ref b ∧ ((SqT K H a xs ∧ SqT K H b ys) ∨ (SqL K H a xs ∧ SqL K H b ys)) ∧ Dens K H ds xs ∧ Dens K H es ys ∧ depDs ds ≤ 20 ∧
 Q (.bl (if neg then !eqDs ds es else eqDs ds es)) H
theorem op_eqD {k : Nat} (hr : Room k X.A) : OpR X (compareOp .Eq) (rEqD X.K false) := by
 intro pins s σ H x y v u Q I rx ry h
 obtain ⟨a, b, xs, ys, ds, es, rfl, rfl, hk, h1, h2, hd, q⟩ := h
 cases rx
 cases ry
 have hu := hr.units
 rcases hk with ⟨ha, hb⟩ | ⟨ha, hb⟩
 · exact (rc_seqT (A := X.A) I 20 (eqAt_D I 20) hd (by omega) ha hb h1 h2).1 _ _ _ _ ⟨.bl _, H, I, rfl, q⟩
 · exact (rc_seqL (A := X.A) I 20 (eqAt_D I 20) hd (by omega) ha hb h1 h2).1 _ _ _ _ ⟨.bl _, H, I, rfl, q⟩
theorem op_neD {k : Nat} (hr : Room k X.A) : OpR X (compareOp .NotEq) (rEqD X.K true) := by
 intro pins s σ H x y v u Q I rx ry h
 obtain ⟨a, b, xs, ys, ds, es, rfl, rfl, hk, h1, h2, hd, q⟩ := h
 cases rx
 cases ry
 have hu := hr.units
 rcases hk with ⟨ha, hb⟩ | ⟨ha, hb⟩
 · exact (rc_seqT (A := X.A) I 20 (eqAt_D I 20) hd (by omega) ha hb h1 h2).2 _ _ _ _ ⟨.bl _, H, I, rfl, q⟩
 · exact (rc_seqL (A := X.A) I 20 (eqAt_D I 20) hd (by omega) ha hb h1 h2).2 _ _ _ _ ⟨.bl _, H, I, rfl, q⟩

noncomputable def rIsi (K : PySem.W.Frag) : List V → Hp → VK → Prop := fun xs H Q => ∃ x T t b, xs = [x, .ty T] ∧ TyOf K H x t ∧ PySem.W.kitOne K t (.type T) = some b ∧ Q (.bl b) H
theorem call_isi : CallR X (.builtin "isinstance") (rIsi X.K) := by
 intro pins s σ H xs us Q I r h
 obtain ⟨x, T, t, b, rfl, ty, e, q⟩ := h
 obtain ⟨u, w', rfl, ru, rw'⟩ := vals2 r
 cases rw'
 exact isinst_ok I ru ty e fun tk => ⟨.bl b, H, I.tok tk, rfl, q⟩
theorem isi_tt (K : PySem.W.Frag) : PySem.W.kitOne K (.type "tuple") (.type "tuple") = some true := rfl
theorem isi_ii (K : PySem.W.Frag) : PySem.W.kitOne K (.type "int") (.type "int") = some true := by rfl
theorem isi_ib (K : PySem.W.Frag) : PySem.W.kitOne K (.type "int") (.type "bool") = some false := by rfl
end
end L2

namespace L2
open PySem PySem.Spec PyProof.Rows

section
variable {prog : Program} {w : World} {A : Around} {E : Value → Shared → Prop} {s : Shared}
end
end L2

namespace L2
open PySem PySem.Spec PyProof.Rows
section
variable {X : Cx} {pins : List (Addr × Obj)} {σ : St} {H : Hp} {s : Shared} {h' : Heap}
end
end L2

namespace L2
open PySem PySem.Spec PyProof.Rows
section
variable {X : Cx} {pins : List (Addr × Obj)} {σ : St} {H : Hp} {s : Shared}
end
section
variable {X : Cx}
end
end L2

namespace Pw
noncomputable def mk (a b : Int) : Int × Int := if b < 0 then (a.fdiv (-(Int.gcd a b : Int)), b.fdiv (-(Int.gcd a b : Int))) else (a.fdiv (Int.gcd a b : Int), b.fdiv (Int.gcd a b : Int))
noncomputable def Canon (p : Int × Int) : Prop := 0 < p.2 ∧ Int.gcd p.1 p.2 = 1
theorem gpos {a b : Int} (h : b ≠ 0) : 0 < (Int.gcd a b : Int) := by
 have : 0 < Int.gcd a b := Nat.pos_of_ne_zero fun z => h (Int.gcd_eq_zero_iff.mp z).2
 omega
theorem dvd_left {k m n : Int} (h : k ∣ m * n) (c : Int.gcd m k = 1) : k ∣ n := by
 have h1 : k.natAbs ∣ m.natAbs * n.natAbs := by rw [← Int.natAbs_mul]; exact Int.natAbs_dvd_natAbs.mpr h
 have h2 : Nat.Coprime k.natAbs m.natAbs := by
  show Nat.gcd _ _ = 1
  rw [Nat.gcd_comm]; exact c
 exact Int.natAbs_dvd_natAbs.mp (Nat.Coprime.dvd_of_dvd_mul_left h2 h1)
theorem mk_spec {a b : Int} (h : b ≠ 0) : Canon (mk a b) ∧ (mk a b).1 * b = a * (mk a b).2 := by
 have hg := gpos (a := a) h
 obtain ⟨x, hx⟩ : ((Int.gcd a b : Nat) : Int) ∣ a := Int.gcd_dvd_left ..
 obtain ⟨y, hy⟩ : ((Int.gcd a b : Nat) : Int) ∣ b := Int.gcd_dvd_right ..
 generalize hG : (Int.gcd a b : Int) = g at *
 have hgn : g ≠ 0 := by omega
 have cop : Int.gcd x y = 1 := by
  have h1 : Int.gcd a b = Int.gcd (g * x) (g * y) := by rw [← hx, ← hy]
  rw [Int.gcd_mul_left] at h1
  have h2 : (g.natAbs : Int) = g := by omega
  have h3 : (Int.gcd a b : Int) = g.natAbs := by rw [hG, h2]
  have h4 : Int.gcd a b = g.natAbs := by omega
  have h5 : g.natAbs * Int.gcd x y = g.natAbs * 1 := by rw [← h1, h4]; simp
  exact Nat.eq_of_mul_eq_mul_left (by omega) h5
 have e1 : a.fdiv g = x := by rw [hx]; exact Int.mul_fdiv_cancel_left _ hgn
 have e2 : b.fdiv g = y := by rw [hy]; exact Int.mul_fdiv_cancel_left _ hgn
 have e3 : a.fdiv (-g) = -x := by
  have : a = (-g) * (-x) := by rw [Int.neg_mul_neg]; exact hx
  rw [this]; exact Int.mul_fdiv_cancel_left _ (by omega)
 have e4 : b.fdiv (-g) = -y := by
  have : b = (-g) * (-y) := by rw [Int.neg_mul_neg]; exact hy
  rw [this]; exact Int.mul_fdiv_cancel_left _ (by omega)
 unfold mk
 rw [hG]
 by_cases hb : b < 0
 · rw [if_pos hb, e3, e4]
   have hy0 : y < 0 := by
    refine Int.not_le.mp fun hy0 => ?_
    have := Int.mul_nonneg (Int.le_of_lt hg) hy0
    omega
   refine ⟨⟨by show 0 < -y; omega, by show Int.gcd (-x) (-y) = 1; rw [Int.neg_gcd, Int.gcd_neg]; exact cop⟩, ?_⟩
   show -x * b = a * -y
   rw [hx, hy]; grind
 · rw [if_neg hb, e1, e2]
   have hy0 : 0 < y := by
    refine Int.not_le.mp fun hy0 => ?_
    have := Int.mul_nonneg (Int.le_of_lt hg) (show 0 ≤ -y by omega)
    rw [Int.mul_neg, ← hy] at this
    omega
   refine ⟨⟨hy0, cop⟩, ?_⟩
   show x * b = a * y
   rw [hx, hy]; grind
theorem canon_unique {p q : Int × Int} (hp : Canon p) (hq : Canon q) (h : p.1 * q.2 = q.1 * p.2) : p = q := by
 obtain ⟨p1, p2⟩ := p
 obtain ⟨q1, q2⟩ := q
 obtain ⟨a1, a2⟩ := hp
 obtain ⟨b1, b2⟩ := hq
 simp only at *
 have d1 : p2 ∣ q2 := by
  have : p2 ∣ p1 * q2 := ⟨q1, by rw [h]; grind⟩
  exact dvd_left this a2
 have d2 : q2 ∣ p2 := by
  have : q2 ∣ q1 * p2 := ⟨p1, by rw [← h]; grind⟩
  exact dvd_left this b2
 have e : p2 = q2 := Int.dvd_antisymm (by omega) (by omega) d1 d2
 subst e
 have : p1 = q1 := Int.eq_of_mul_eq_mul_right (by omega) h
 rw [this]
theorem mk_uniq {a b : Int} {p : Int × Int} (h : b ≠ 0) (hp : Canon p) (hw : p.1 * b = a * p.2) : mk a b = p := by
 obtain ⟨c, w⟩ := mk_spec (a := a) h
 refine canon_unique c hp (Int.eq_of_mul_eq_mul_right h ?_)
 grind
theorem mk_mul {a b m : Int} (h : b ≠ 0) (hm : m ≠ 0) : mk (a * m) (b * m) = mk a b := by
 obtain ⟨c, w⟩ := mk_spec (a := a) h
 exact mk_uniq (Int.mul_ne_zero h hm) c (by grind)
theorem mk_canon {p : Int × Int} (h : Canon p) : mk p.1 p.2 = p := mk_uniq (by have := h.1; omega) h (by grind)
theorem gcd_turn {x y : Int} (hx : 0 ≤ x) (hy : 0 < y) : Int.gcd y (x % y) = Int.gcd x y := by
 obtain ⟨m, rfl⟩ := Int.eq_ofNat_of_zero_le hx
 obtain ⟨n, rfl⟩ := Int.eq_ofNat_of_zero_le (Int.le_of_lt hy)
 show Nat.gcd n (((m : Int) % (n : Int)).natAbs) = Nat.gcd m n
 have e : ((m : Int) % (n : Int)).natAbs = m % n := by rw [← Int.natCast_emod, Int.natAbs_natCast]
 rw [e, Nat.gcd_comm m n, Nat.gcd_comm n (m % n), ← Nat.gcd_rec]
end Pw

namespace L2
open PySem PySem.Spec PyProof.Rows
theorem ifT {b : Bool} {A B : Prop} (e : b = true) (a : A) : if b = true then A else B := by rw [if_pos e]; exact a
theorem ifF {b : Bool} {A B : Prop} (e : b = false) (h : B) : if b = true then A else B := by rw [e]; exact iteF h
theorem if2 {b : Bool} {A B : Prop} (h1 : b = true → A) (h2 : b = false → B) : if b = true then A else B := by
 cases b with
 | true => exact iteT (h1 rfl)
 | false => exact iteF (h2 rfl)
theorem vne {i j : Int} (h : i ≠ j) : (!decide (V.int i = V.int j)) = true := by
 rw [decide_eq_false (fun z => h (V.int.inj z))]; rfl
theorem veq {i j : Int} (h : i = j) : (!decide (V.int i = V.int j)) = false := by
 rw [decide_eq_true (congrArg V.int h)]; rfl
theorem sz_of {k : Int} (n : Nat) {m : Nat} (h : k.natAbs < 2 ^ n) (l : n ≤ m := by decide) : Sz m k := Sz.mono h l

noncomputable def Wt (Pv : Nat → List V → St → Hp → Prop) (n : Nat) : Nat → Nat → List V → St → Hp → Prop := fun i m ys σ H => m = n - i ∧ i ≤ n ∧ Pv i ys σ H
theorem Wt.next {Pv : Nat → List V → St → Hp → Prop} {n i : Nat} {ys : List V} {σ : St} {H : Hp} (h : i < n) (p : Pv (i + 1) ys σ H) : ∃ m', m' < n - i ∧ Wt Pv n (i + 1) m' ys σ H := ⟨n - (i + 1), by omega, rfl, h, p⟩
section
variable {K : PySem.W.Frag} {a D : Addr} {xs : List V} {g : TG} {tt : TT} {te : TE} {σ0 : St} {H0 : Hp} {Q : VK}
end

section
variable {X : Cx} {K : PySem.W.Frag}
end

theorem dens_ints (K : PySem.W.Frag) (H : Hp) : ∀ ns : List Int, Dens K H (ns.map Dt.int) (ns.map V.int)
 | [] => by simp only [List.map_nil, Dens]
 | n :: ns => by
   simp only [List.map_cons, Dens]
   exact ⟨_, _, rfl, by simp only [Den], dens_ints K H ns⟩
theorem eqDs_ints : ∀ ns ms : List Int, eqDs (ns.map Dt.int) (ms.map Dt.int) = decide (ns = ms)
 | [], [] => rfl
 | [], _ :: _ => rfl
 | _ :: _, [] => rfl
 | n :: ns, m :: ms => by
   simp only [List.map_cons, eqDs, eqD]
   rw [eqDs_ints ns ms]
   by_cases h : n = m
   · subst h; simp
   · simp [h]
theorem dens2 (K : PySem.W.Frag) (H : Hp) (x y : Int) : Dens K H [Dt.int x, Dt.int y] [V.int x, V.int y] := dens_ints K H [x, y]
theorem dep2 (x y : Int) : depDs [Dt.int x, Dt.int y] ≤ 20 := by simp only [depDs, depD]; decide
theorem eqDs2 (x y z u : Int) : eqDs [Dt.int x, Dt.int y] [Dt.int z, Dt.int u] = decide ((x, y) = (z, u)) := by
 rw [show ([Dt.int x, Dt.int y] : List Dt) = [x, y].map Dt.int from rfl, show ([Dt.int z, Dt.int u] : List Dt) = [z, u].map Dt.int from rfl, eqDs_ints]
 simp

noncomputable def Kp (p : Addr) (H H' : Hp) : Prop := ∀ b o, H b = some o → b ≠ p → H' b = some o
theorem Kp.trans {p : Addr} {H H1 H2 : Hp} (a : Kp p H H1) (b : Kp p H1 H2) : Kp p H H2 := fun c o h n => b c o (a c o h n) n
theorem Kp.new {p q : Addr} {H : Hp} {o : HO} (hq : H q = none) : Kp p H (upd H q o) := fun b u h _ => by rw [upd_ne (ne_of_none h hq)]; exact h
theorem Kp.set {p : Addr} {H : Hp} {o : HO} : Kp p H (upd H p o) := fun b u h n => by rw [upd_ne n]; exact h
theorem Same.new {q : Addr} {H : Hp} {o : HO} (hq : H q = none) : Same H (upd H q o) := fun b u h => by rw [upd_ne (ne_of_none h hq)]; exact h
theorem Same.seqT {K : PySem.W.Frag} {H H' : Hp} {a : Addr} {xs : List V} (e : Same H H') (h : SqT K H a xs) : SqT K H' a xs := by
 rcases h with (h | ⟨o, h⟩) | h
 · exact .inl (.inl (e _ _ h))
 · exact .inl (.inr ⟨o, e _ _ h⟩)
 · exact .inr h
noncomputable def spCommon : Sp := fun vs H Q _ => ∃ x y : Int, vs = [.int x, .int y] ∧ 0 ≤ x ∧ 0 ≤ y ∧ Q (.int (Int.gcd x y : Int)) H
noncomputable def spMade : Sp := fun vs H Q _ => ∃ x y : Int, vs = [.int x, .int y] ∧ y ≠ 0 ∧ Sz 8000 x ∧ Sz 8000 y ∧ ∀ p, H p = none → Q (.ref p) (upd H p (.tup [.int (Pw.mk x y).1, .int (Pw.mk x y).2]))
noncomputable def spLaw (K : PySem.W.Frag) : Sp := fun vs H Q _ => ∃ (a : Addr) (ns : List Int), vs = [.ref a] ∧ SqL K H a (ns.map V.int) ∧ ns.length ≤ 63 ∧ ∀ H', Q (.bl true) H'
end L2

namespace Pw
end Pw
namespace L2
open PySem PySem.Spec PyProof.Rows
section
variable {X : Cx}
end

noncomputable def tMid (t u : TS) : TS := fun D σ H => ∃ R : St → Hp → Prop, t { D with nx := R } σ H ∧ ∀ σ' H', R σ' H' → u D σ' H'
theorem pss_mid {X : Cx} {st : Stmt} {rest : List Stmt} {t u : TS} (h1 : PS X st t) (h2 : PSs X rest u) : PSs X (st :: rest) (tMid t u) := by
 intro pins s σ H D I h
 obtain ⟨R, h, hR⟩ := h
 refine wpAny_execs_cons (thn (h1 pins s σ H { D with nx := R } I h) fun f s1 q => ?_)
 cases f with
 | next =>
   obtain ⟨σ', H', I', q⟩ := q
   exact h2 pins s1 σ' H' D I' (hR σ' H' q)
 | ret v => exact q
 | brk => exact q
 | cont => exact q

noncomputable def tTupS (t : TA) : TE := fun σ H Q => t σ H fun xs H1 => xs.length ≤ sizeLine ∧ ∀ (p : Addr) (H' : Hp), Same H1 H' → H1 p = none → H' p = some (.tup xs) → Q (.ref p) H'
noncomputable def tLstS (t : TA) : TE := fun σ H Q => t σ H fun xs H1 => xs.length ≤ sizeLine ∧ ∀ (p : Addr) (H' : Hp), Same H1 H' → H1 p = none → H' p = some (.lst xs) → Q (.ref p) H'
section
variable {X : Cx} {es : List Expr} {t : TA} {pos : Pos}
theorem pe_tupS {x1} (h : PA X es t) : PE X (.Tuple es x1 pos) (tTupS t) := by
 intro pins s σ H Q I hq
 refine wpAny_Tuple_spliced (thn (h pos pins s σ H _ I hq) fun us s1 ⟨xs, H1, I1, r, z, q⟩ => ⟨by rw [← r.length]; exact z, ?_⟩)
 have hf : H1 s1.heap.objs.size = none := I1.hok.fresh (Nat.le_refl _)
 refine ⟨.ref s1.heap.objs.size, upd H1 s1.heap.objs.size (.tup xs), I1.laid (t' := s1.toks) (fun b u e => Heap.get?_push_of_some _ e) (Nat.le_refl _) ?_, rfl, q _ _ (Same.new hf) hf upd_same⟩
 exact ⟨z, us, r, ⟨_, Heap.get?_push_size _ rfl, rfl, _, rfl⟩⟩
theorem pe_lstS (h : PA X es t) : PE X (.List es pos) (tLstS t) := by
 intro pins s σ H Q I hq
 refine wpAny_List_spliced (thn (h pos pins s σ H _ I hq) fun us s1 ⟨xs, H1, I1, r, z, q⟩ => ⟨by rw [← r.length]; exact z, ?_⟩)
 have hf : H1 s1.heap.objs.size = none := I1.hok.fresh (Nat.le_refl _)
 refine ⟨.ref s1.heap.objs.size, upd H1 s1.heap.objs.size (.lst xs), I1.laid (t' := s1.toks) (fun b u e => Heap.get?_push_of_some _ e) (Nat.le_refl _) ?_, rfl, q _ _ (Same.new hf) hf upd_same⟩
 exact ⟨z, us, 0, r, Heap.get?_push_size _ rfl⟩
end
noncomputable def Sz2 (n : Nat) (A : Int × Int) : Prop := Sz n A.1 ∧ Sz n A.2
theorem Sz2.mono {n m : Nat} {A : Int × Int} (h : Sz2 n A) (l : n ≤ m) : Sz2 m A := ⟨h.1.mono l, h.2.mono l⟩
noncomputable abbrev FrA (_ : PySem.W.Frag) (H : Hp) (p : Addr) (A : Int × Int) : Prop := H p = some (.tup [.int A.1, .int A.2])
theorem nd0 {A B : Int × Int} (e : A = B) : (!decide (A = B)) = false := by rw [decide_eq_true e]; rfl
end L2

namespace Srt
open PySem PySem.W PyProof.Rows
noncomputable def run {α : Type} (lt : Nat → Nat → Bool) : KasT α → α
 | .ret a => a
 | .ask i j k => run lt (k (lt i j))
theorem run_bind {α β : Type} (lt : Nat → Nat → Bool) (f : α → KasT β) : ∀ t : KasT α, run lt (t.bind f) = run lt (f (run lt t))
 | .ret _ => rfl
 | .ask i j k => by
   show run lt ((k (lt i j)).bind f) = _
   rw [run_bind lt f (k (lt i j))]
   rfl
noncomputable def e (p : Array Nat) (k : Nat) : Nat := p.getD k 0
theorem e_of {p q : Array Nat} {i k : Nat} (h : p[i]? = q[k]?) : e p i = e q k := by
 have h1 : p.getD i 0 = (p[i]?).getD 0 := by simp [Array.getD_eq_getD_getElem?]
 have h2 : q.getD k 0 = (q[k]?).getD 0 := by simp [Array.getD_eq_getD_getElem?]
 show p.getD i 0 = q.getD k 0
 rw [h1, h2, h]
theorem e_rev_in {p : Array Nat} {i j k : Nat} (hj : j ≤ p.size) (h1 : i ≤ k) (h2 : k < j) : e (kas_rev p i j) k = e p (i + j - 1 - k) := by
 unfold kas_rev
 refine e_of ?_
 rw [getElem?_mirror hj ((j - i) / 2) (by omega) k]
 split
 · rfl
 · rename_i h
   have : i + j - 1 - k = k := by omega
   rw [this]
theorem e_rev_out {p : Array Nat} {i j k : Nat} (hj : j ≤ p.size) (h : k < i ∨ j ≤ k) : e (kas_rev p i j) k = e p k := by
 unfold kas_rev
 refine e_of ?_
 rw [getElem?_mirror hj ((j - i) / 2) (by omega) k]
 split
 · omega
 · rfl
theorem e_bub {p : Array Nat} {k l i : Nat} (hk : k < p.size) (hl : l ≤ k) : e (bubble p k (k - l)) i = if i = l then e p k else if l < i ∧ i ≤ k then e p (i - 1) else e p i := by
 have h := getElem?_bubble hk (k - l) (by omega) i
 have h3 : k - (k - l) = l := by omega
 rw [h3] at h
 split
 · rename_i hi
   rw [if_pos hi] at h
   exact e_of h
 · rename_i hi
   rw [if_neg hi] at h
   split
   · rename_i h2
     rw [if_pos h2] at h
     exact e_of h
   · rename_i h2
     rw [if_neg h2] at h
     exact e_of h
theorem rev_size (p : Array Nat) (i j : Nat) : (kas_rev p i j).size = p.size := mirror_size _ _ _ _
theorem rev_perm (p : Array Nat) (i j : Nat) : (kas_rev p i j).Perm p := mirror_perm _ _ _ _
structure Ord (lt : Nat → Nat → Bool) : Prop where
 asym : ∀ i j, lt i j = true → lt j i = false
 trans : ∀ i j k, lt j i = false → lt k j = false → lt k i = false
section
variable {lt : Nat → Nat → Bool} (O : Ord lt)
noncomputable def Up (lt : Nat → Nat → Bool) (p : Array Nat) (b : Nat) : Prop := ∀ k, 1 ≤ k → k < b → lt (e p k) (e p (k - 1)) = false
noncomputable def Down (lt : Nat → Nat → Bool) (p : Array Nat) (b : Nat) : Prop := ∀ k, 1 ≤ k → k < b → lt (e p (k - 1)) (e p k) = false
noncomputable def Alike (lt : Nat → Nat → Bool) (p : Array Nat) (a b : Nat) : Prop := ∀ i j, a ≤ i → i < b → a ≤ j → j < b → lt (e p i) (e p j) = false
include O
theorem irr (i : Nat) : lt i i = false := by
 cases h : lt i i with
 | false => rfl
 | true => rw [O.asym i i h] at h; cases h
theorem Up.pair {p : Array Nat} {b : Nat} (h : Up lt p b) : ∀ d i, i + d < b → lt (e p (i + d)) (e p i) = false
 | 0, i, _ => irr O _
 | d + 1, i, hb => O.trans _ _ _ (Up.pair h d i (by omega)) (by
     have := h (i + (d + 1)) (by omega) hb
     rw [show i + (d + 1) - 1 = i + d by omega] at this
     exact this)
theorem Up.le {p : Array Nat} {b i j : Nat} (h : Up lt p b) (hij : i ≤ j) (hj : j < b) : lt (e p j) (e p i) = false := by
 have := Up.pair O h (j - i) i (by omega)
 rw [show i + (j - i) = j by omega] at this
 exact this
theorem asc_ok {p : Array Nat} : ∀ (f n : Nat), 1 ≤ n → Up lt p n → n ≤ run lt (kas_asc p f n) ∧ run lt (kas_asc p f n) ≤ n + f ∧ Up lt p (run lt (kas_asc p f n)) ∧ (run lt (kas_asc p f n) < n + f → lt (e p (run lt (kas_asc p f n))) (e p (run lt (kas_asc p f n) - 1)) = true)
 | 0, n, h1, h => ⟨Nat.le_refl _, Nat.le_refl _, h, fun z => absurd z (Nat.lt_irrefl _)⟩
 | f + 1, n, h1, h => by
   have er : run lt (kas_asc p (f + 1) n) = run lt (if lt (e p n) (e p (n - 1)) = true then KasT.ret n else kas_asc p f (n + 1)) := rfl
   cases c : lt (e p n) (e p (n - 1)) with
   | true =>
     rw [er, c, if_pos rfl]
     exact ⟨Nat.le_refl _, Nat.le_add_right _ _, h, fun _ => c⟩
   | false =>
     rw [er, c, if_neg Bool.false_ne_true]
     obtain ⟨a1, a2, a3, a4⟩ := asc_ok (p := p) f (n + 1) (by omega) (fun k k1 k2 => by
      by_cases hk : k < n
      · exact h k k1 hk
      · have : k = n := by omega
        subst this; exact c)
     exact ⟨by omega, by omega, a3, fun z => a4 (by omega)⟩
theorem Down.rev {p : Array Nat} {a b n : Nat} (hn : n ≤ p.size) (hb : b ≤ n) (h : Down lt p n) (al : Alike lt p a b) : Down lt (kas_rev p a b) n := by
 intro k k1 k2
 have hj : b ≤ p.size := Nat.le_trans hb hn
 -- any place of the block answers as any other one of it
 by_cases i1 : a ≤ k ∧ k < b
 · by_cases i0 : a ≤ k - 1 ∧ k - 1 < b
   · rw [e_rev_in hj i1.1 i1.2, e_rev_in hj i0.1 i0.2]
     exact al _ _ (by omega) (by omega) (by omega) (by omega)
   · rw [e_rev_in (k := k) hj i1.1 i1.2, e_rev_out (k := k - 1) hj (by omega)]
     have ek : k = a := by omega
     have h1 := h k k1 k2
     have h2 := al (a + b - 1 - k) k (by omega) (by omega) i1.1 i1.2
     have h3 := al k (a + b - 1 - k) i1.1 i1.2 (by omega) (by omega)
     exact O.trans _ _ _ h3 h1
 · by_cases i0 : a ≤ k - 1 ∧ k - 1 < b
   · rw [e_rev_out (k := k) hj (by omega), e_rev_in (k := k - 1) hj i0.1 i0.2]
     have h1 := h k k1 k2
     have h2 := al (a + b - 1 - (k - 1)) (k - 1) (by omega) (by omega) i0.1 i0.2
     exact O.trans _ _ _ h1 h2
   · rw [e_rev_out (k := k) hj (by omega), e_rev_out (k := k - 1) hj (by omega)]
     exact h k k1 k2
theorem desc_ok : ∀ (f : Nat) (p : Array Nat) (n q : Nat), n + f ≤ p.size → q + 1 ≤ n → Down lt p n → Alike lt p (n - (q + 1)) n →
 (run lt (kas_desc f p n q)).1.size = p.size ∧ (run lt (kas_desc f p n q)).1.Perm p ∧ n ≤ (run lt (kas_desc f p n q)).2.1 ∧ (run lt (kas_desc f p n q)).2.1 ≤ n + f ∧ (run lt (kas_desc f p n q)).2.2 + 1 ≤ (run lt (kas_desc f p n q)).2.1 ∧
 Down lt (run lt (kas_desc f p n q)).1 (run lt (kas_desc f p n q)).2.1 ∧ Alike lt (run lt (kas_desc f p n q)).1 ((run lt (kas_desc f p n q)).2.1 - ((run lt (kas_desc f p n q)).2.2 + 1)) (run lt (kas_desc f p n q)).2.1
 | 0, p, n, q, hz, hq, hd, ha => ⟨rfl, Array.Perm.refl _, Nat.le_refl _, Nat.le_refl _, hq, hd, ha⟩
 | f + 1, p, n, q, hz, hq, hd, ha => by
   have er : run lt (kas_desc (f + 1) p n q) = run lt (if lt (e p n) (e p (n - 1)) = true then (if q > 0 then kas_desc f (kas_rev p (n - (q + 1)) n) (n + 1) 0 else kas_desc f p (n + 1) 0)
    else .ask (e p (n - 1)) (e p n) fun d => if d = true then .ret (p, n, q) else kas_desc f p (n + 1) (q + 1)) := rfl
   have one : ∀ (p' : Array Nat), Alike lt p' (n + 1 - (0 + 1)) (n + 1) := fun p' i j i1 i2 j1 j2 => by
    have e1 : i = n := by omega
    have e2 : j = n := by omega
    subst e1 e2; exact irr O _
   cases c : lt (e p n) (e p (n - 1)) with
   | true =>
     rw [er, c, if_pos rfl]
     by_cases q0 : q > 0
     · rw [if_pos q0]
       have hs := rev_size p (n - (q + 1)) n
       have d1 : Down lt (kas_rev p (n - (q + 1)) n) n := Down.rev O (by omega) (Nat.le_refl _) hd ha
       have d2 : Down lt (kas_rev p (n - (q + 1)) n) (n + 1) := fun k k1 k2 => by
        by_cases hk : k < n
        · exact d1 k k1 hk
        · have ek : k = n := by omega
          subst ek
          rw [e_rev_out (k := k) (by omega) (Or.inr (Nat.le_refl _)), e_rev_in (k := k - 1) (by omega) (by omega) (by omega)]
          have h1 := ha (k - 1) (k - (q + 1) + k - 1 - (k - 1)) (by omega) (by omega) (by omega) (by omega)
          have h2 := ha (k - (q + 1) + k - 1 - (k - 1)) (k - 1) (by omega) (by omega) (by omega) (by omega)
          exact O.trans _ _ _ (O.asym _ _ c) h2
       obtain ⟨a1, a2, a3, a4, a5, a6, a7⟩ := desc_ok f (kas_rev p (n - (q + 1)) n) (n + 1) 0 (by omega) (by omega) d2 (one _)
       exact ⟨a1.trans hs, a2.trans (rev_perm ..), by omega, by omega, a5, a6, a7⟩
     · rw [if_neg q0]
       have d2 : Down lt p (n + 1) := fun k k1 k2 => by
        by_cases hk : k < n
        · exact hd k k1 hk
        · have ek : k = n := by omega
          subst ek
          exact O.asym _ _ c
       obtain ⟨a1, a2, a3, a4, a5, a6, a7⟩ := desc_ok f p (n + 1) 0 (by omega) (by omega) d2 (one _)
       exact ⟨a1, a2, by omega, by omega, a5, a6, a7⟩
   | false =>
     rw [er, c, if_neg Bool.false_ne_true]
     have er2 : run lt (KasT.ask (e p (n - 1)) (e p n) fun d => if d = true then KasT.ret (p, n, q) else kas_desc f p (n + 1) (q + 1)) = run lt (if lt (e p (n - 1)) (e p n) = true then KasT.ret (p, n, q) else kas_desc f p (n + 1) (q + 1)) := rfl
     rw [er2]
     cases c2 : lt (e p (n - 1)) (e p n) with
     | true =>
       rw [if_pos rfl]
       exact ⟨rfl, Array.Perm.refl _, Nat.le_refl _, Nat.le_add_right _ _, hq, hd, ha⟩
     | false =>
       rw [if_neg Bool.false_ne_true]
       have d2 : Down lt p (n + 1) := fun k k1 k2 => by
        by_cases hk : k < n
        · exact hd k k1 hk
        · have ek : k = n := by omega
          subst ek
          exact c2
       have al2 : Alike lt p (n + 1 - (q + 1 + 1)) (n + 1) := fun i j i1 i2 j1 j2 => by
        by_cases hi : i < n
        · by_cases hj : j < n
          · exact ha i j (by omega) hi (by omega) hj
          · have ej : j = n := by omega
            subst ej
            exact O.trans _ _ _ c2 (ha i (j - 1) (by omega) hi (by omega) (by omega))
        · have ei : i = n := by omega
          subst ei
          by_cases hj : j < i
          · exact O.trans _ _ _ (ha (i - 1) j (by omega) (by omega) (by omega) hj) c
          · have ej : j = i := by omega
            subst ej; exact irr O _
       obtain ⟨a1, a2, a3, a4, a5, a6, a7⟩ := desc_ok f p (n + 1) (q + 1) (by omega) (by omega) d2 al2
       exact ⟨a1, a2, by omega, by omega, a5, a6, a7⟩
theorem Down.up {p : Array Nat} {n : Nat} (hn : n ≤ p.size) (h : Down lt p n) : Up lt (kas_rev p 0 n) n := fun k k1 k2 => by
 rw [e_rev_in (k := k) hn (Nat.zero_le _) k2, e_rev_in (k := k - 1) hn (Nat.zero_le _) (by omega)]
 have := h (0 + n - 1 - (k - 1)) (by omega) (by omega)
 rw [show 0 + n - 1 - (k - 1) - 1 = 0 + n - 1 - k by omega] at this
 exact this
theorem tail3_ok {p : Array Nat} {n nrem : Nat} (h1 : 1 ≤ n) (hn : n ≤ nrem) (hz : nrem ≤ p.size) (h : Down lt p n) :
 (run lt (kas_tail3 n nrem p)).2.size = p.size ∧ (run lt (kas_tail3 n nrem p)).2.Perm p ∧ 1 ≤ (run lt (kas_tail3 n nrem p)).1 ∧ (run lt (kas_tail3 n nrem p)).1 ≤ nrem ∧ Up lt (run lt (kas_tail3 n nrem p)).2 (run lt (kas_tail3 n nrem p)).1 := by
 have er : run lt (kas_tail3 n nrem p) = (run lt (kas_asc (kas_rev p 0 n) (nrem - n) n), kas_rev p 0 n) := by
  unfold kas_tail3
  rw [run_bind]; rfl
 rw [er]
 obtain ⟨a1, a2, a3, _⟩ := asc_ok O (p := kas_rev p 0 n) (nrem - n) n h1 (Down.up O (by omega) h)
 exact ⟨rev_size .., rev_perm .., by show 1 ≤ run lt _; omega, by show run lt _ ≤ nrem; omega, a3⟩
theorem descPart_ok {p : Array Nat} {n nrem : Nat} (h1 : 1 ≤ n) (hn : n + 1 ≤ nrem) (hz : nrem ≤ p.size) (h : Down lt p (n + 1)) :
 (run lt (kas_descPart n nrem p)).2.size = p.size ∧ (run lt (kas_descPart n nrem p)).2.Perm p ∧ 1 ≤ (run lt (kas_descPart n nrem p)).1 ∧ (run lt (kas_descPart n nrem p)).1 ≤ nrem ∧ Up lt (run lt (kas_descPart n nrem p)).2 (run lt (kas_descPart n nrem p)).1 := by
 have one : Alike lt p (n + 1 - (0 + 1)) (n + 1) := fun i j i1 i2 j1 j2 => by
  have e1 : i = n := by omega
  have e2 : j = n := by omega
  subst e1 e2; exact irr O _
 obtain ⟨a1, a2, a3, a4, a5, a6, a7⟩ := desc_ok O (nrem - (n + 1)) p (n + 1) 0 (by omega) (by omega) h one
 have er : run lt (kas_descPart n nrem p) = run lt (if (run lt (kas_desc (nrem - (n + 1)) p (n + 1) 0)).2.2 > 0 then kas_tail3 (run lt (kas_desc (nrem - (n + 1)) p (n + 1) 0)).2.1 nrem (kas_rev (run lt (kas_desc (nrem - (n + 1)) p (n + 1) 0)).1 ((run lt (kas_desc (nrem - (n + 1)) p (n + 1) 0)).2.1 - ((run lt (kas_desc (nrem - (n + 1)) p (n + 1) 0)).2.2 + 1)) (run lt (kas_desc (nrem - (n + 1)) p (n + 1) 0)).2.1)
  else kas_tail3 (run lt (kas_desc (nrem - (n + 1)) p (n + 1) 0)).2.1 nrem (run lt (kas_desc (nrem - (n + 1)) p (n + 1) 0)).1) := by
  unfold kas_descPart
  rw [run_bind]
 rw [er]
 generalize run lt (kas_desc (nrem - (n + 1)) p (n + 1) 0) = r at *
 split
 · have hs := rev_size r.1 (r.2.1 - (r.2.2 + 1)) r.2.1
   obtain ⟨b1, b2, b3, b4, b5⟩ := tail3_ok O (p := kas_rev r.1 (r.2.1 - (r.2.2 + 1)) r.2.1) (n := r.2.1) (nrem := nrem) (by omega) (by omega) (by rw [hs, a1]; exact hz) (Down.rev O (by omega) (Nat.le_refl _) a6 a7)
   exact ⟨b1.trans (hs.trans a1), b2.trans ((rev_perm ..).trans a2), b3, b4, b5⟩
 · obtain ⟨b1, b2, b3, b4, b5⟩ := tail3_ok O (p := r.1) (n := r.2.1) (nrem := nrem) (by omega) (by omega) (by rw [a1]; exact hz) a6
   exact ⟨b1.trans a1, b2.trans a2, b3, b4, b5⟩
theorem count_ok {p : Array Nat} {nrem : Nat} (h2 : 1 ≤ nrem) (hz : nrem ≤ p.size) :
 (run lt (kas_count nrem p)).2.size = p.size ∧ (run lt (kas_count nrem p)).2.Perm p ∧ 1 ≤ (run lt (kas_count nrem p)).1 ∧ (run lt (kas_count nrem p)).1 ≤ nrem ∧ Up lt (run lt (kas_count nrem p)).2 (run lt (kas_count nrem p)).1 := by
 obtain ⟨a1, a2, a3, a4⟩ := asc_ok O (p := p) (nrem - 1) 1 (Nat.le_refl _) (fun k k1 k2 => by omega)
 have er : run lt (kas_count nrem p) = run lt (if (run lt (kas_asc p (nrem - 1) 1) == nrem) = true then KasT.ret (run lt (kas_asc p (nrem - 1) 1), p) else if run lt (kas_asc p (nrem - 1) 1) > 1 then
  .ask (e p 0) (e p (run lt (kas_asc p (nrem - 1) 1) - 1)) fun c => if c = true then .ret (run lt (kas_asc p (nrem - 1) 1), p) else kas_descPart (run lt (kas_asc p (nrem - 1) 1)) nrem (kas_rev p 0 (run lt (kas_asc p (nrem - 1) 1)))
  else kas_descPart (run lt (kas_asc p (nrem - 1) 1)) nrem p) := by
  unfold kas_count
  rw [run_bind]
  rfl
 rw [er]
 generalize run lt (kas_asc p (nrem - 1) 1) = n at *
 split
 · exact ⟨rfl, Array.Perm.refl _, a1, by show n ≤ nrem; omega, a3⟩
 · rename_i hne
   have hne' : n ≠ nrem := fun z => hne (by simp [z])
   have hlt := a4 (by omega)
   split
   · rename_i hn1
     have er2 : run lt (KasT.ask (e p 0) (e p (n - 1)) fun c => if c = true then KasT.ret (n, p) else kas_descPart n nrem (kas_rev p 0 n)) = run lt (if lt (e p 0) (e p (n - 1)) = true then KasT.ret (n, p) else kas_descPart n nrem (kas_rev p 0 n)) := rfl
     rw [er2]
     cases c : lt (e p 0) (e p (n - 1)) with
     | true =>
       rw [if_pos rfl]
       exact ⟨rfl, Array.Perm.refl _, a1, by show n ≤ nrem; omega, a3⟩
     | false =>
       rw [if_neg Bool.false_ne_true]
       -- all of the run are alike
       have al : Alike lt p 0 n := fun i j _ i2 _ j2 => by
        have h1 := Up.le O a3 (Nat.zero_le j) j2
        have h2 := Up.le O a3 (show i ≤ n - 1 by omega) (by omega)
        have h3 := Up.le O a3 (show j ≤ n - 1 by omega) (by omega)
        have h4 := Up.le O a3 (Nat.zero_le i) i2
        -- e i ≤ e (n-1) ≤ e 0 ≤ e j
        exact O.trans _ _ _ (O.trans _ _ _ h3 c) h4
       have hs := rev_size p 0 n
       have dn : Down lt p n := fun k k1 k2 => al _ _ (Nat.zero_le _) (by omega) (Nat.zero_le _) k2
       have d1 : Down lt (kas_rev p 0 n) (n + 1) := fun k k1 k2 => by
        by_cases hk : k < n
        · exact Down.rev O (by omega) (Nat.le_refl _) dn al k k1 hk
        · have ek : k = n := by omega
          subst ek
          rw [e_rev_out (k := k) (by omega) (Or.inr (Nat.le_refl _)), e_rev_in (k := k - 1) (by omega) (Nat.zero_le _) (by omega)]
          have h1 := al (0 + k - 1 - (k - 1)) (k - 1) (Nat.zero_le _) (by omega) (Nat.zero_le _) (by omega)
          exact O.trans _ _ _ (O.asym _ _ hlt) h1
       obtain ⟨b1, b2, b3, b4, b5⟩ := descPart_ok O (p := kas_rev p 0 n) (n := n) (nrem := nrem) a1 (by omega) (by rw [hs]; exact hz) d1
       exact ⟨b1.trans hs, b2.trans (rev_perm ..), b3, b4, b5⟩
   · have en : n = 1 := by omega
     subst en
     have d1 : Down lt p 2 := fun k k1 k2 => by
      have ek : k = 1 := by omega
      subst ek
      exact O.asym _ _ hlt
     exact descPart_ok O (p := p) (n := 1) (nrem := nrem) (Nat.le_refl _) (by omega) hz d1
theorem place_ok {p : Array Nat} {k : Nat} (h : Up lt p k) : ∀ (f l r : Nat), r ≤ l + f → l ≤ r → r ≤ k → (∀ i, i < l → lt (e p k) (e p i) = false) → (∀ i, r ≤ i → i < k → lt (e p k) (e p i) = true) →
 run lt (kas_place p k f l r) ≤ k ∧ (∀ i, i < run lt (kas_place p k f l r) → lt (e p k) (e p i) = false) ∧ (∀ i, run lt (kas_place p k f l r) ≤ i → i < k → lt (e p k) (e p i) = true)
 | 0, l, r, h1, h2, h3, h4, h5 => by
   have : r = l := by omega
   subst this
   exact ⟨h3, h4, h5⟩
 | f + 1, l, r, h1, h2, h3, h4, h5 => by
   have er : run lt (kas_place p k (f + 1) l r) = run lt (if l ≥ r then KasT.ret l else KasT.ask (e p k) (e p ((l + r) / 2)) fun c => if c = true then kas_place p k f l ((l + r) / 2) else kas_place p k f ((l + r) / 2 + 1) r) := rfl
   rw [er]
   by_cases hlr : l ≥ r
   · rw [if_pos hlr]
     have : r = l := by omega
     subst this
     exact ⟨h3, h4, h5⟩
   · rw [if_neg hlr]
     have er2 : run lt (KasT.ask (e p k) (e p ((l + r) / 2)) fun c => if c = true then kas_place p k f l ((l + r) / 2) else kas_place p k f ((l + r) / 2 + 1) r) = run lt (if lt (e p k) (e p ((l + r) / 2)) = true then kas_place p k f l ((l + r) / 2) else kas_place p k f ((l + r) / 2 + 1) r) := rfl
     rw [er2]
     cases c : lt (e p k) (e p ((l + r) / 2)) with
     | true =>
       rw [if_pos rfl]
       refine place_ok h f l ((l + r) / 2) (by omega) (by omega) (by omega) h4 fun i i1 i2 => ?_
       -- pivot < mid ≤ e i
       cases d : lt (e p k) (e p i) with
       | true => rfl
       | false =>
         have := O.trans _ _ _ (Up.le O h i1 i2) d
         rw [c] at this
         cases this
     | false =>
       rw [if_neg Bool.false_ne_true]
       refine place_ok h f ((l + r) / 2 + 1) r (by omega) (by omega) h3 (fun i i1 => ?_) h5
       exact O.trans _ _ _ (Up.le O h (show i ≤ (l + r) / 2 by omega) (by omega)) c
theorem bin_ok : ∀ (f : Nat) (p : Array Nat) (k : Nat), k + f ≤ p.size → 1 ≤ k → Up lt p k → (run lt (kas_bin f p k)).Perm p ∧ Up lt (run lt (kas_bin f p k)) (k + f)
 | 0, p, k, _, _, h => ⟨Array.Perm.refl _, h⟩
 | f + 1, p, k, hz, h1, h => by
   have er : run lt (kas_bin (f + 1) p k) = run lt (kas_bin f (bubble p k (k - run lt (kas_place p k k 0 k))) (k + 1)) := by
    show run lt ((kas_place p k k 0 k).bind fun l => kas_bin f (bubble p k (k - l)) (k + 1)) = _
    rw [run_bind]
   rw [er]
   obtain ⟨a1, a2, a3⟩ := place_ok O h k 0 k (by omega) (Nat.zero_le _) (Nat.le_refl _) (fun i hi => absurd hi (Nat.not_lt_zero _)) (fun i h1 h2 => by omega)
   generalize run lt (kas_place p k k 0 k) = l at *
   have hk : k < p.size := by omega
   have up : Up lt (bubble p k (k - l)) (k + 1) := fun j j1 j2 => by
    rw [e_bub hk a1, e_bub hk a1]
    by_cases c1 : j = l
    · rw [if_pos c1, if_neg (by omega), if_neg (by omega)]
      exact a2 _ (by omega)
    · rw [if_neg c1]
      by_cases c2 : j - 1 = l
      · rw [if_pos c2, if_pos (by omega)]
        exact O.asym _ _ (a3 _ (by omega) (by omega))
      · rw [if_neg c2]
        by_cases c3 : l < j - 1 ∧ j - 1 ≤ k
        · rw [if_pos c3, if_pos (by omega)]
          exact h (j - 1) (by omega) (by omega)
        · rw [if_neg c3, if_neg (by omega)]
          exact h j j1 (by omega)
   obtain ⟨b1, b2⟩ := bin_ok f (bubble p k (k - l)) (k + 1) (by rw [bubble_size]; omega) (by omega) up
   refine ⟨b1.trans (bubble_perm ..), ?_⟩
   rw [show k + (f + 1) = k + 1 + f by omega]
   exact b2
theorem sort_ok {n : Nat} (hn : 1 ≤ n) : (run lt (kas_sort n)).toList.Perm (List.range n) ∧ Up lt (run lt (kas_sort n)) n := by
 have hz : n ≤ (List.toArray (List.range n)).size := by simp
 obtain ⟨a1, a2, a3, a4, a5⟩ := count_ok O (p := List.toArray (List.range n)) hn hz
 have er : run lt (kas_sort n) = run lt (if (run lt (kas_count n (List.toArray (List.range n)))).1 < n then kas_bin (n - max (run lt (kas_count n (List.toArray (List.range n)))).1 1) (run lt (kas_count n (List.toArray (List.range n)))).2 (max (run lt (kas_count n (List.toArray (List.range n)))).1 1) else .ret (run lt (kas_count n (List.toArray (List.range n)))).2) := by
  unfold kas_sort
  rw [run_bind]
 rw [er]
 generalize run lt (kas_count n (List.toArray (List.range n))) = r at *
 have hm : max r.1 1 = r.1 := by omega
 rw [hm]
 have hsz : r.2.size = n := by rw [a1]; simp
 split
 · obtain ⟨b1, b2⟩ := bin_ok O (n - r.1) r.2 r.1 (by omega) a3 a5
   refine ⟨(b1.trans a2).toList, ?_⟩
   rw [show r.1 + (n - r.1) = n by omega] at b2
   exact b2
 · have e1 : r.1 = n := by omega
   refine ⟨a2.toList, ?_⟩
   rw [e1] at a5
   exact a5
end
end Srt

namespace Srt
open PySem PySem.W PyProof.Rows
noncomputable def Asks {α : Type} (n : Nat) : KasT α → (α → Prop) → Prop
 | .ret a, Q => Q a
 | .ask i j k, Q => i < n ∧ j < n ∧ ∀ b, Asks n (k b) Q
theorem Asks.bind {α β : Type} {n : Nat} {f : α → KasT β} {Q : β → Prop} : ∀ {t : KasT α}, Asks n t (fun a => Asks n (f a) Q) → Asks n (t.bind f) Q
 | .ret _, h => h
 | .ask _ _ _, h => ⟨h.1, h.2.1, fun b => Asks.bind (h.2.2 b)⟩
theorem run_wp' {α : Type} {n : Nat} (lt : Nat → Nat → Bool) {cmp : Nat → Nat → (Bool → Shared → Prop) → Shared → Prop} {P : Shared → Prop} (h : ∀ i j (C : Bool → Shared → Prop) s, i < n → j < n → P s → (∀ s', P s' → C (lt i j) s') → cmp i j C s)
 {Q : α → Shared → Prop} {T : α → Prop} : ∀ (t : KasT α) (s : Shared), Asks n t T → P s → (∀ s', P s' → Q (run lt t) s') → t.kasWp cmp Q s
 | .ret a, s, _, p, q => q s p
 | .ask i j k, s, a, p, q => h i j _ s a.1 a.2.1 p fun s' p' => run_wp' lt h (k (lt i j)) s' (a.2.2 _) p' q
noncomputable def AllLt (n : Nat) (p : Array Nat) : Prop := ∀ k, p.getD k 0 < n
theorem AllLt.perm {n : Nat} {p q : Array Nat} (hn : 0 < n) (h : AllLt n p) (pm : q.Perm p) : AllLt n q := fun k => by
 by_cases hk : k < q.size
 · have e1 : q.getD k 0 = q[k] := by simp [Array.getD, hk]
   rw [e1]
   have hm : q[k] ∈ q := Array.getElem_mem hk
   have hm2 : q[k] ∈ p := by
    have := pm.toList.mem_iff (a := q[k])
    simpa using this.mp (by simpa using hm)
   obtain ⟨j, hj, e2⟩ := Array.mem_iff_getElem.mp hm2
   have := h j
   have e3 : p.getD j 0 = p[j] := by simp [Array.getD, hj]
   rw [e3, e2] at this
   exact this
 · have e1 : q.getD k 0 = 0 := by simp [Array.getD, hk]
   rw [e1]; exact hn
section
variable {n : Nat} (hn : 0 < n)
include hn
theorem asc_asks {p : Array Nat} (h : AllLt n p) : ∀ f m, Asks n (kas_asc p f m) (fun _ => True)
 | 0, _ => trivial
 | f + 1, m => ⟨h _, h _, fun b => by
     cases b with
     | true => exact trivial
     | false => exact asc_asks h f (m + 1)⟩
theorem desc_asks : ∀ (f : Nat) (p : Array Nat) (m q : Nat), AllLt n p → Asks n (kas_desc f p m q) (fun r => AllLt n r.1)
 | 0, p, _, _, h => h
 | f + 1, p, m, q, h => ⟨h _, h _, fun b => by
     cases b with
     | true =>
       show Asks n (if true = true then (if q > 0 then kas_desc f (kas_rev p (m - (q + 1)) m) (m + 1) 0 else kas_desc f p (m + 1) 0) else _) _
       rw [if_pos rfl]
       split
       · exact desc_asks f _ _ _ (h.perm hn (rev_perm ..))
       · exact desc_asks f _ _ _ h
     | false =>
       show Asks n (if false = true then _ else KasT.ask (p.getD (m - 1) 0) (p.getD m 0) fun d => if d = true then KasT.ret (p, m, q) else kas_desc f p (m + 1) (q + 1)) _
       rw [if_neg Bool.false_ne_true]
       refine ⟨h _, h _, fun d => ?_⟩
       cases d with
       | true => exact h
       | false => exact desc_asks f _ _ _ h⟩
theorem Asks.mono {α : Type} {Q Q' : α → Prop} (hq : ∀ a, Q a → Q' a) : ∀ {t : KasT α}, Asks n t Q → Asks n t Q'
 | .ret a, h => hq a h
 | .ask _ _ _, h => ⟨h.1, h.2.1, fun b => Asks.mono hq (h.2.2 b)⟩
theorem tail3_asks {p : Array Nat} (h : AllLt n p) (m r : Nat) : Asks n (kas_tail3 m r p) (fun x => AllLt n x.2) := by
 have h' := h.perm hn (rev_perm p 0 m)
 exact Asks.bind (Asks.mono hn (fun _ _ => h') (asc_asks hn h' _ _))
theorem descPart_asks {p : Array Nat} (h : AllLt n p) (m r : Nat) : Asks n (kas_descPart m r p) (fun x => AllLt n x.2) := by
 refine Asks.bind (Asks.mono hn (fun x hx => ?_) (desc_asks hn _ _ _ _ h))
 split
 · exact tail3_asks hn (hx.perm hn (rev_perm ..)) _ _
 · exact tail3_asks hn hx _ _
theorem count_asks {p : Array Nat} (h : AllLt n p) (r : Nat) : Asks n (kas_count r p) (fun x => AllLt n x.2) := by
 refine Asks.bind (Asks.mono hn (fun m _ => ?_) (asc_asks hn h _ _))
 split
 · exact h
 · split
   · refine ⟨h _, h _, fun b => ?_⟩
     cases b with
     | true => exact h
     | false => exact descPart_asks hn (h.perm hn (rev_perm ..)) _ _
   · exact descPart_asks hn h _ _
theorem place_asks {p : Array Nat} (h : AllLt n p) (k : Nat) : ∀ f l r, Asks n (kas_place p k f l r) (fun _ => True)
 | 0, _, _ => trivial
 | f + 1, l, r => by
   show Asks n (if l ≥ r then KasT.ret l else KasT.ask (p.getD k 0) (p.getD ((l + r) / 2) 0) fun c => if c = true then kas_place p k f l ((l + r) / 2) else kas_place p k f ((l + r) / 2 + 1) r) _
   split
   · exact trivial
   · refine ⟨h _, h _, fun b => ?_⟩
     cases b with
     | true => exact place_asks h k f _ _
     | false => exact place_asks h k f _ _
theorem bin_asks : ∀ (f : Nat) (p : Array Nat) (k : Nat), AllLt n p → Asks n (kas_bin f p k) (fun _ => True)
 | 0, _, _, _ => trivial
 | f + 1, p, k, h => Asks.bind (Asks.mono hn (fun l _ => bin_asks f _ _ (h.perm hn (bubble_perm ..))) (place_asks hn h k _ _ _))
theorem sort_asks : Asks n (kas_sort n) (fun _ => True) := by
 have h0 : AllLt n (List.toArray (List.range n)) := fun k => by
  by_cases hk : k < n
  · simp [Array.getD, hk]
  · simp [Array.getD, hk]; exact hn
 refine Asks.bind (Asks.mono hn (fun r hr => ?_) (count_asks hn h0 n))
 split
 · exact bin_asks hn _ _ _ hr
 · exact trivial
end
end Srt
namespace L2
open PySem PySem.Spec PyProof.Rows PySem.W
section
variable {prog : Program} {w : World} {A : Around} {E : Value → Shared → Prop} {s : Shared}
theorem zip_snd (vs : List Value) : (vs.toArray.zip vs.toArray).map (·.2) = vs.toArray := by
 apply Array.toList_inj.mp
 simp [List.map_snd_zip]
end
end L2

namespace L2
open PySem PySem.Spec PyProof.Rows PySem.W
theorem ns_inj {h : Heap} {a : Addr} {m m' : Str → Option Value} (x : h.Ns a m) (y : h.Ns a m') : m = m' := by
 obtain ⟨o, es, ep, ho, hd, _, hm⟩ := x
 obtain ⟨o', es', ep', ho', hd', _, hm'⟩ := y
 rw [ho] at ho'; cases ho'
 rw [hd] at hd'; cases hd'
 funext z
 rw [← hm z, ← hm' z]
theorem ObjOk.there {P : Program} {w : World} {H : Hp} {h : Heap} {a : Addr} {o : HO} (x : ObjOk P w H h a o) : ∃ u, h.get? a = some u := by
 cases o with
 | lst xs => obtain ⟨_, _, _, _, e⟩ := x; exact ⟨_, e⟩
 | tup xs => obtain ⟨_, _, _, ob, e, _⟩ := x; exact ⟨_, e⟩
 | dK kvs => obtain ⟨_, _, _, _, o, _, _, e, _⟩ := x; exact ⟨_, e⟩
 | dT kvs => obtain ⟨_, _, _, _, o, _, _, e, _⟩ := x; exact ⟨_, e⟩
 | set S n => obtain ⟨o, _, _, _, e, _⟩ := x; exact ⟨_, e⟩
 | ins C dx fs => obtain ⟨_, _, _, e, _⟩ := x; exact ⟨_, e⟩
 | own y => obtain ⟨_, e⟩ := x; exact ⟨_, e⟩
 | xd fs => obtain ⟨_, ⟨_, _, _, e, _⟩, _⟩ := x; exact ⟨_, e⟩
 | rng lo hi => obtain ⟨_, _, _, e⟩ := x; exact ⟨_, e⟩
 | frz ob u => obtain ⟨e, _⟩ := x; exact ⟨_, e⟩
 | tbl ps => exact ⟨_, (show h.get? a = some _ from x)⟩
 | met f y => exact ⟨_, (show h.get? a = some _ from x)⟩
 | ext φ => obtain ⟨_, ⟨_, e⟩, _⟩ := x; exact ⟨_, e⟩
theorem map_small : ∀ (xs : List V), xs.length < 2 → (List.range xs.length).map (fun i => xs.getD i V.non) = xs
 | [], _ => rfl
 | [_], _ => rfl
 | _ :: _ :: _, h => by simp at h; omega
section
variable {X : Cx} {pins : List (Addr × Obj)} {σ : St} {H : Hp} {s : Shared}
theorem Inv.byNews {h' : Heap} {m : Str → Option Value} {D : Addr} {ws : List V} {out : List Value} {c : Nat} {t' : Nat} (I : Inv X pins σ H s) (hn : s.heap.Ns X.env.locals m) (F : Fr X.base X.env.locals h' m)
 (k : ∀ b o, b ≠ X.env.locals → s.heap.get? b = some o → h'.get? b = some o) (hD : H D = none) (hDs : ∀ o, s.heap.get? D ≠ some o) (ho : h'.get? D = some { cls := .type "list", data := .seq out.toArray c }) (r : Vals ws out) (hz : ws.length ≤ sizeLine) :
 Inv X pins σ (upd H D (.lst ws)) { s with heap := h', toks := t' } := by
 have nD : ∀ b o, s.heap.get? b = some o → b ≠ D := fun b o e z => by subst z; exact hDs o e
 have nL : ∀ b u, H b = some u → b ≠ X.env.locals := fun b u e z => by rw [z, I.free] at e; cases e
 refine I.step (g' := s.gens) (d' := s.drawn) (ch := []) (fun _ z => nomatch z) (fun b o hL _ _ e _ => k b o hL e) (fun b o hL _ _ e _ => ⟨o.slots, k b o hL e⟩) (fun b o _ e n => by rw [upd_ne (nD b o e)]; exact n) (fun b o _ e => ?_)
  (fun b xs e => by rw [upd_ne (ne_of_none e hD)]; exact e) (fun b o u e => by rw [upd_ne (ne_of_none e hD)]; exact e) (fun b ps e => ⟨#[], by rw [upd_ne (ne_of_none e hD), e]; simp⟩) (fun m' hm => ?_) (fun b u e => ?_) I.bare
 · by_cases hb : b = X.env.locals
   · obtain ⟨o', _, _, e', _⟩ := F.ns
     exact ⟨o', by rw [hb]; exact e'⟩
   · exact ⟨o, k b o hb e⟩
 · rw [← ns_inj hn hm]; exact F.ns
 · by_cases hb : b = D
   · subst hb
     rw [upd_same] at e; cases e
     exact ⟨hz, out, c, r, ho⟩
   · rw [upd_ne hb] at e
     refine (I.hok b u e).stay (fun x v hx q => k x v ?_ q) (fun x q => by rw [upd_ne (ne_of_none q hD)]; exact q) fun x xs q => by rw [upd_ne (ne_of_none q hD)]; exact q
     rcases hx with z | z
     · rw [z]; exact nL b u e
     · exact nL x _ z
theorem getD_e (p : Array Nat) (j : Nat) : p.toList.getD j 0 = Srt.e p j := by
 unfold Srt.e
 simp [List.getD_eq_getElem?_getD]
end
end L2

namespace L2
open PySem PySem.Spec PyProof.Rows PySem.W
theorem pairwise_of_adj {α : Type} {R : α → α → Prop} (tr : ∀ a b c, R a b → R b c → R a c) : ∀ l : List α, (∀ k a b, l[k]? = some a → l[k + 1]? = some b → R a b) → l.Pairwise R
 | [], _ => .nil
 | [a], _ => by simp
 | a :: b :: l, h => by
   have ih := pairwise_of_adj tr (b :: l) fun k x y hx hy => h (k + 1) x y (by simpa using hx) (by simpa using hy)
   refine List.pairwise_cons.mpr ⟨fun c hc => ?_, ih⟩
   rcases List.mem_cons.mp hc with rfl | hc
   · exact h 0 a c rfl rfl
   · exact tr a b c (h 0 a b rfl rfl) ((List.pairwise_cons.mp ih).1 c hc)
theorem range_getD {α : Type} (l : List α) (d : α) : (List.range l.length).map (fun i => l.getD i d) = l := by
 refine List.ext_getElem (by simp) fun i h1 h2 => ?_
 simp [h2]
theorem perm_getD {α : Type} {l : List α} {d : α} {p : List Nat} (h : p.Perm (List.range l.length)) : (p.map fun i => l.getD i d).Perm l := by
 have := h.map (fun i => l.getD i d)
 rw [range_getD] at this
 exact this
theorem vals_getD {xs : List V} {vs : List Value} (r : Vals xs vs) {i : Nat} (h : i < vs.length) : RelV (xs.getD i .non) (vs.getD i Value.none) := by
 have h' : i < xs.length := by rw [r.length]; exact h
 obtain ⟨u, hu, ru⟩ := r.get (i := i) (x := xs[i]) (by simp [h'])
 have e1 : xs.getD i .non = xs[i] := by simp [h']
 have e2 : vs.getD i Value.none = u := by rw [List.getD_eq_getElem?_getD, hu]; rfl
 rw [e1, e2]; exact ru
theorem up_pairwise {α : Type} {R : α → α → Prop} (tr : ∀ a b c, R a b → R b c → R a c) {l : List α} {d : α} {p : List Nat} (h : p.Perm (List.range l.length)) {lt : Nat → Nat → Bool}
 (up : ∀ k, 1 ≤ k → k < l.length → lt (p.getD k 0) (p.getD (k - 1) 0) = false) (hR : ∀ i j, lt j i = false → R (l.getD i d) (l.getD j d)) : (p.map fun i => l.getD i d).Pairwise R := by
 refine pairwise_of_adj tr _ fun k a b ha hb => ?_
 have hl : p.length = l.length := by rw [h.length_eq, List.length_range]
 rw [List.getElem?_map] at ha hb
 cases e1 : p[k]? with
 | none => rw [e1] at ha; cases ha
 | some i =>
   cases e2 : p[k + 1]? with
   | none => rw [e2] at hb; cases hb
   | some j =>
     rw [e1] at ha; rw [e2] at hb
     have ha : l.getD i d = a := Option.some.inj ha
     have hb : l.getD j d = b := Option.some.inj hb
     subst ha hb
     have hk : k + 1 < p.length := (List.getElem?_eq_some_iff.mp e2).1
     have := up (k + 1) (by omega) (by omega)
     have g1 : p.getD (k + 1) 0 = j := by rw [List.getD_eq_getElem?_getD, e2]; rfl
     have g2 : p.getD (k + 1 - 1) 0 = i := by rw [List.getD_eq_getElem?_getD, Nat.add_sub_cancel, e1]; rfl
     rw [g1, g2] at this
     exact hR i j this
section
variable {X : Cx} {pins : List (Addr × Obj)} {σ : St} {H : Hp} {s : Shared}
end
end L2

namespace L2
open PySem PySem.Spec PyProof.Rows PySem.W
theorem closure_loop (env : Env) : ∀ (names : List (Str × NameKind)) (cs : List (Str × Addr)), (∀ y ∈ names, y.2 = .free → ∃ c, env.cells.lookup y.1 = some c) → (∀ p ∈ cs, env.cells.lookup p.1 = some p.2) →
 ∃ cl : List (Str × Addr), (forIn names cs fun x cs => (match x with | (name, kind) => if (kind == .free) = true then do let __do_lift ← cellOf env name; pure (ForInStep.yield ((name, __do_lift) :: cs)) else pure (ForInStep.yield cs) : Sem (ForInStep (List (Str × Addr))))) = pure cl ∧
   (∀ p ∈ cl, env.cells.lookup p.1 = some p.2) ∧ (∀ p ∈ cs, p ∈ cl) ∧ ∀ x, (x, NameKind.free) ∈ names → ∃ c, (x, c) ∈ cl
 | [], cs, _, hc => ⟨cs, by rw [List.forIn_nil], hc, fun _ h => h, fun x h => by simp at h⟩
 | (n, k) :: names, cs, h, hc => by
   have h' := fun y hy => h y (List.mem_cons_of_mem _ hy)
   rw [List.forIn_cons]
   by_cases hk : k = .free
   · subst hk
     obtain ⟨c, e⟩ := h (n, .free) List.mem_cons_self rfl
     obtain ⟨cl, e1, e2, e3, e4⟩ := closure_loop env names ((n, c) :: cs) h' fun p hp => by
      rcases List.mem_cons.mp hp with rfl | hp
      · exact e
      · exact hc p hp
     refine ⟨cl, ?_, e2, fun p hp => e3 p (List.mem_cons_of_mem _ hp), fun x hx => ?_⟩
     · have ec : cellOf env n = pure c := by unfold cellOf; rw [e]
       simp only [ec, beq_self_eq_true, if_true, pure_bind]
       exact e1
     · rcases List.mem_cons.mp hx with z | hx
       · cases z; exact ⟨c, e3 _ List.mem_cons_self⟩
       · exact e4 x hx
   · obtain ⟨cl, e1, e2, e3, e4⟩ := closure_loop env names cs h' hc
     refine ⟨cl, ?_, e2, e3, fun x hx => ?_⟩
     · have : (k == NameKind.free) = false := by simpa using hk
       simp only [this, Bool.false_eq_true, if_false, pure_bind]
       exact e1
     · rcases List.mem_cons.mp hx with z | hx
       · cases z; exact absurd rfl hk
       · exact e4 x hx
theorem lookup_some_of_mem {x : Str} {c : Addr} : ∀ {l : List (Str × Addr)}, (x, c) ∈ l → ∃ c', l.lookup x = some c'
 | [], h => by simp at h
 | (n, d) :: l, h => by
   rw [List.lookup_cons]
   cases e : x == n with
   | true => exact ⟨d, rfl⟩
   | false =>
     rcases List.mem_cons.mp h with z | h
     · cases z; simp at e
     · exact lookup_some_of_mem h
theorem closure_ok {scope : Scope} {env : Env} (h : ∀ y ∈ scope.names, y.2 = .free → ∃ c, env.cells.lookup y.1 = some c) :
 ∃ cl, closureFor scope env = pure cl ∧ (∀ x c, cl.lookup x = some c → env.cells.lookup x = some c) ∧ ∀ x, (x, NameKind.free) ∈ scope.names → ∃ c, cl.lookup x = some c := by
 obtain ⟨cl, e1, e2, _, e4⟩ := closure_loop env scope.names [] h (fun p hp => by simp at hp)
 refine ⟨cl, ?_, fun x c hx => e2 (x, c) (PySem.mem_of_lookup hx), fun x hx => ?_⟩
 · unfold closureFor
   refine Eq.trans (congrArg (fun t => t >>= fun cs => pure cs) ?_) (bind_pure _)
   exact e1
 · obtain ⟨c, hc⟩ := e4 x hx
   exact lookup_some_of_mem hc
section
variable {X : Cx}
theorem pe_compC {tg iter elt : Expr} {ifs : List Expr} {scope : Scope} {pos : Pos} (N' : List Str) (ks : List (Option Nat)) {wi : TI} {g : TG} {tt : TT} {te : TE}
 (hcalm : X.calm = true) (hi : PI X tg iter wi) (hfree : ∀ y ∈ scope.names, y.2 = .free → X.env.scope.names.lookup y.1 = some .cell)
 (hcell : ∀ y ∈ scope.names, y.2 ≠ .cell) (hkind : scope.kind = .function) (hnames : ∀ y ∈ scope.names, y.2 = .local → scope.names.lookup y.1 = some .local)
 (hcap : Cap X (relabel scope X.env) N' ks)
 (hg : ∀ cl C s H fp, PG (compX X N' scope cl C s H fp) tg g) (ht : ∀ cl C s H fp, PTs (compX X N' scope cl C s H fp) ifs tt) (he : ∀ cl C s H fp, PE (compX X N' scope cl C s H fp) elt te)
 (hs : ∀ x, foldedSetIterable iter X.env x = pure x := by intro _; rfl) : PE X (.ListComp elt [⟨tg, iter, ifs, 0⟩] scope pos) (tComp wi ks g tt te) := by
 intro pins s σ H Q I h
 obtain ⟨cl, e1, e2, e3⟩ := closure_ok (scope := scope) (env := X.env) fun y hy hf => I.ok.has y.1 (.inl (hfree y hy hf))
 refine pe_comp hcalm hi e1 e2 hcell hkind hnames (fun x hx => ?_) hcap (hg cl) (ht cl) (he cl) hs pins s σ H Q I h
 have key : ∀ k, (x, k) ∈ (relabel scope X.env).names → k = .cell ∨ k = .free → (x, NameKind.free) ∈ scope.names := fun k hm hk => by
  unfold relabel at hm
  obtain ⟨⟨n, k'⟩, hy, e⟩ := List.mem_map.mp hm
  dsimp only at e
  split at e
  · rename_i hc
    cases e
    have : k' = .free := by simp at hc; exact hc.1.1
    rw [← this]; exact hy
  · cases e
    rcases hk with rfl | rfl
    · exact absurd rfl (hcell _ hy)
    · exact hy
 rcases hx with hx | hx
 · exact e3 x (key _ (PySem.mem_of_lookup hx) (.inl rfl))
 · exact e3 x (key _ (PySem.mem_of_lookup hx) (.inr rfl))
theorem comp_rng {lo : Int} {n : Nat} {D : Addr} {g : TG} {tt : TT} {te : TE} {σ0 : St} {H0 : Hp} {Q : VK} (Pv : Nat → List V → St → Hp → Prop) (h0 : Pv 0 [] σ0 H0) (hl : ∀ i ys σ H, Pv i ys σ H → H D = some (.lst ys))
 (hs : ∀ i ys σ H, i < n → Pv i ys σ H → g (.int (lo + i)) σ H fun σ3 H3 => tt σ3 H3 fun b H4 => if b = true then
  te σ3 H4 fun y H5 => H5 D = some (.lst ys) ∧ ys.length < sizeLine ∧ ∃ m', m' < n - i ∧ Wt Pv n (i + 1) m' (ys ++ [y]) σ3 (upd H5 D (.lst (ys ++ [y]))) else ∃ m', m' < n - i ∧ Wt Pv n (i + 1) m' ys σ3 H4)
 (hd : ∀ ys σ H, Pv n ys σ H → Q (.ref D) H) :
 CompW (Itr lo n) D g tt te Q σ0 H0 := by
 refine ⟨Wt Pv n, ⟨n, rfl, Nat.zero_le _, h0⟩, ?_⟩
 rintro i m ys σ' H' ⟨rfl, hi, p⟩
 refine ⟨hl i ys σ' H' p, ?_⟩
 by_cases hlt : i < n
 · refine .inr ⟨hlt, fun x H2 y => ?_⟩
   obtain ⟨e, y⟩ := y
   subst e y
   exact hs i ys σ' _ hlt p
 · have e : i = n := by omega
   subst e
   exact .inl ⟨Nat.le_refl _, hd ys σ' H' p⟩
end

theorem newS {H : Hp} {Q : VK} {o : HO} (h : ∀ (p : Addr) (H' : Hp), Same H H' → H p = none → H' p = some o → Q (.ref p) H') : ∀ p, H p = none → Q (.ref p) (upd H p o) := fun p hp => h p _ (Same.new hp) hp upd_same
noncomputable def KL (H H' : Hp) : Prop := ∀ b o, H b = some o → (∀ xs, o ≠ .lst xs) → H' b = some o
theorem KL.set {H : Hp} {l : Addr} {xs ys : List V} (h : H l = some (.lst xs)) : KL H (upd H l (.lst ys)) := fun b o e n => by
 have : b ≠ l := by rintro rfl; rw [h] at e; cases e; exact n xs rfl
 rw [upd_ne this]; exact e
theorem KL.seqT {K : PySem.W.Frag} {H H' : Hp} {a : Addr} {xs : List V} (e : KL H H') (h : SqT K H a xs) : SqT K H' a xs := by
 rcases h with (h | ⟨o, h⟩) | h
 · exact .inl (.inl (e _ _ h fun _ z => by cases z))
 · exact .inl (.inr ⟨o, e _ _ h fun _ z => by cases z⟩)
 · exact .inr h
noncomputable def rCatS : R2 := fun x y H Q => ∃ l b xs zs, x = .ref l ∧ y = .ref b ∧ H l = some (.lst xs) ∧ H b = some (.lst zs) ∧ xs.length + zs.length ≤ sizeLine ∧ ∀ (p : Addr) (H' : Hp), Same H H' → H p = none → H' p = some (.lst (xs ++ zs)) → Q (.ref p) H'
noncomputable def rTupOf (K : PySem.W.Frag) : List V → Hp → VK → Prop := fun xs H Q => ∃ (p : Addr) (ys : List V), xs = [.ref p] ∧ SqL K H p ys ∧ ∀ (t : Addr) (H' : Hp), Same H H' → H t = none → H' t = some (.tup ys) → Q (.ref t) H'
section
variable {X : Cx}
theorem op_catS : OpR X (binaryOp .Add) rCatS := fun pins s σ H x y v u Q I rx ry ⟨l, b, xs, zs, e1, e2, h1, h2, h3, q⟩ => op_cat pins s σ H x y v u Q I rx ry ⟨l, b, xs, zs, e1, e2, h1, h2, h3, newS q⟩
theorem call_tupOf : CallR X (.type "tuple") (rTupOf X.K) := fun pins s σ H xs us Q I r ⟨p, ys, e, h1, q⟩ => call_tuple_of pins s σ H xs us Q I r ⟨p, ys, e, .inl ⟨h1, newS q⟩⟩
end
end L2

namespace Pw
end Pw
namespace L2
open PySem PySem.Spec PyProof.Rows PySem.W
end L2

namespace L2
open PySem PySem.Spec PyProof.Rows PySem.W
section
variable {X : Cx}
end
end L2

namespace Pw
theorem mk_1 {n : Int} (hn : 0 < n) : mk 1 n = (1, n) := mk_canon (p := (1, n)) ⟨hn, by simp [Canon]⟩
end Pw
namespace L2
open PySem PySem.Spec PyProof.Rows
noncomputable def FrL (K : PySem.W.Frag) (H : Hp) : List (Int × Int) → List V → Prop
 | [], vs => vs = []
 | A :: As, vs => ∃ p r, vs = .ref p :: r ∧ FrA K H p A ∧ FrL K H As r
noncomputable def tupD (A : Int × Int) : Dt := .tup [.int A.1, .int A.2]
theorem FrL.same {K : PySem.W.Frag} {H H' : Hp} (s : Same H H') : ∀ {As : List (Int × Int)} {vs : List V}, FrL K H As vs → FrL K H' As vs
 | [], _, h => h
 | _ :: _, _, ⟨p, r, e, f, h⟩ => ⟨p, r, e, s _ _ f, FrL.same s h⟩
theorem FrL.set {K : PySem.W.Frag} {H : Hp} {l : Addr} {o : HO} {xs : List V} (hl : H l = some (.lst xs)) : ∀ {As : List (Int × Int)} {vs : List V}, FrL K H As vs → FrL K (upd H l o) As vs
 | [], _, h => h
 | _ :: _, _, ⟨p, r, e, f, h⟩ => ⟨p, r, e, by rw [FrA, upd_ne (ne_of f hl (by intro z; cases z))]; exact f, FrL.set hl h⟩
theorem FrL.snoc {K : PySem.W.Frag} {H : Hp} {p : Addr} {A : Int × Int} (f : FrA K H p A) : ∀ {As : List (Int × Int)} {vs : List V}, FrL K H As vs → FrL K H (As ++ [A]) (vs ++ [.ref p])
 | [], _, h => by
   have h : _ = ([] : List V) := h
   subst h
   exact ⟨p, [], rfl, f, rfl⟩
 | _ :: _, _, ⟨q, r, e, g, h⟩ => ⟨q, r ++ [.ref p], by rw [e]; rfl, g, FrL.snoc f h⟩
theorem FrL.dep : ∀ As : List (Int × Int), depDs (As.map tupD) ≤ 20
 | [] => by simp only [List.map_nil, depDs]; decide
 | A :: As => by
   have := FrL.dep As
   simp only [List.map_cons, depDs, tupD, depD]
   omega
theorem FrL.len {K : PySem.W.Frag} {H : Hp} : ∀ {As : List (Int × Int)} {vs : List V}, FrL K H As vs → vs.length = As.length
 | [], _, h => by
   have h : _ = ([] : List V) := h
   subst h; rfl
 | _ :: _, _, ⟨p, r, e, f, h⟩ => by rw [e]; simp [FrL.len h]
section
variable {X : Cx}
theorem pa_consX {e : Expr} {es : List Expr} {te : TE} {t : TA} (hs : starEach (e :: es) X.env = (false, eval e X.env) :: starEach es X.env) (h1 : PE X e te) (h2 : PA X es t) : PA X (e :: es) (tCons te t) := pa_cons h1 h2 hs
theorem ps_setX {pos : Pos} {i : Nat} {x : Str} {e : Expr} {te : TE} {pos' : Pos} (hs : swapsWith e (some (.Name x pos')) pos.line X.env = pure false) (hf : X.fn x = true ∨ X.env.scope.names.lookup x = some .local) (hN : X.N.Nodup) (hi : X.N[i]? = some x) (hx : Loc X.env.scope x) (he : PE X e te) :
 PS X (.Assign [.Name x pos'] e pos) (tAsg te (gName i)) := ps_set hN hi hx he hs hf
end
end L2

namespace L2
open PySem PySem.Spec PyProof.Rows PySem.W
noncomputable def rNil (K : PySem.W.Frag) (neg : Bool) : R2 := fun x y H Q => ∃ a b xs, x = .ref a ∧ y = .ref b ∧ ((SqT K H a xs ∧ SqT K H b []) ∨ (SqL K H a xs ∧ SqL K H b [])) ∧ Q (.bl (if neg then !xs.isEmpty else xs.isEmpty)) H
section
variable {X : Cx} {pins : List (Addr × Obj)} {σ : St} {H : Hp} {s : Shared}
theorem rc_nilT {A : Around} {a b : Addr} {xs : List V} (I : Inv X pins σ H s) (hu : A.units < cLine) (ha : SqT X.K H a xs) (hb : SqT X.K H b []) :
 SeqAt.RcAt A s (.ref a) (.ref b) xs.isEmpty ∧ SeqAt.RcNeAt A s (.ref a) (.ref b) (!xs.isEmpty) := by
 obtain ⟨its, r1, p1, _⟩ := I.tuple ha
 obtain ⟨its2, r2, p2, _⟩ := I.tuple hb
 cases r2
 have l3 := r1.length
 have q := SeqAt.RcAt.tuples (A := A) (s := s) (e := fun _ => true) p1 p2 hu (fun j h1 h2 => absurd h2 (Nat.not_lt_zero j))
 have q2 := SeqAt.RcNeAt.tuples (A := A) (s := s) (e := fun _ => true) p1 p2 hu (fun j h1 h2 => absurd h2 (Nat.not_lt_zero j))
 have e : ((List.range (min its.toArray.size ([] : List Value).toArray.size)).all (fun _ => true) && its.toArray.size == ([] : List Value).toArray.size) = xs.isEmpty := by
  cases xs <;> cases its <;> simp at l3 ⊢
 rw [e] at q q2
 exact ⟨q, q2⟩
theorem rc_nilL {A : Around} {a b : Addr} {xs : List V} (I : Inv X pins σ H s) (hu : A.units < cLine) (ha : SqL X.K H a xs) (hb : SqL X.K H b []) :
 SeqAt.RcAt A s (.ref a) (.ref b) xs.isEmpty ∧ SeqAt.RcNeAt A s (.ref a) (.ref b) (!xs.isEmpty) := by
 obtain ⟨its, r1, p1, _⟩ := I.list ha
 obtain ⟨its2, r2, p2, _⟩ := I.list hb
 cases r2
 have l3 := r1.length
 cases xs with
 | nil =>
   cases r1
   exact ⟨SeqAt.RcAt.lists (A := A) (s := s) (e := fun _ => true) p1.isList p2.isList rfl hu (fun j h1 h2 => absurd h2 (Nat.not_lt_zero j)), SeqAt.RcNeAt.lists (A := A) (s := s) (e := fun _ => true) p1.isList p2.isList rfl hu (fun j h1 h2 => absurd h2 (Nat.not_lt_zero j))⟩
 | cons x xs =>
   have hsz : (its.toArray.size != ([] : List Value).toArray.size) = true := by
    cases its <;> simp at l3 ⊢
   exact ⟨SeqAt.RcAt.lists_lengths p1.isList p2.isList hsz hu, SeqAt.RcNeAt.lists_lengths p1.isList p2.isList hsz hu⟩
end
section
variable {X : Cx}
theorem op_eqNil {k : Nat} (hr : Room k X.A) : OpR X (compareOp .Eq) (rNil X.K false) := by
 intro pins s σ H x y v u Q I rx ry h
 obtain ⟨a, b, xs, rfl, rfl, hk, q⟩ := h
 cases rx
 cases ry
 have hu := hr.units
 rcases hk with ⟨ha, hb⟩ | ⟨ha, hb⟩
 · exact (rc_nilT (A := X.A) I (by omega) ha hb).1 _ _ _ _ ⟨.bl _, H, I, rfl, q⟩
 · exact (rc_nilL (A := X.A) I (by omega) ha hb).1 _ _ _ _ ⟨.bl _, H, I, rfl, q⟩
theorem op_neNil {k : Nat} (hr : Room k X.A) : OpR X (compareOp .NotEq) (rNil X.K true) := by
 intro pins s σ H x y v u Q I rx ry h
 obtain ⟨a, b, xs, rfl, rfl, hk, q⟩ := h
 cases rx
 cases ry
 have hu := hr.units
 rcases hk with ⟨ha, hb⟩ | ⟨ha, hb⟩
 · exact (rc_nilT (A := X.A) I (by omega) ha hb).2 _ _ _ _ ⟨.bl _, H, I, rfl, q⟩
 · exact (rc_nilL (A := X.A) I (by omega) ha hb).2 _ _ _ _ ⟨.bl _, H, I, rfl, q⟩
end
noncomputable def KTy (H H' : Hp) : Prop := ∀ b o, H b = some o → H' b = some o ∨ ∃ xs ys, o = .lst xs ∧ H' b = some (.lst ys)
theorem Same.kt {H H' : Hp} (s : Same H H') : KTy H H' := fun b o h => .inl (s b o h)
theorem KTy.set {H : Hp} {l : Addr} {xs ys : List V} (h : H l = some (.lst xs)) : KTy H (upd H l (.lst ys)) := fun b o e => by
 by_cases z : b = l
 · subst z
   rw [h] at e
   cases e
   exact .inr ⟨xs, ys, rfl, upd_same⟩
 · exact .inl (by rw [upd_ne z]; exact e)
theorem KTy.kl {H H' : Hp} (k : KTy H H') : KL H H' := fun b o e n => by
 rcases k b o e with h | ⟨xs, ys, rfl, h⟩
 · exact h
 · exact absurd rfl (n xs)
theorem TyOf.kt {K : PySem.W.Frag} {H H' : Hp} (k : KTy H H') {v : V} {t : Value} (h : TyOf K H v t) : TyOf K H' v t := by
 cases h with
 | non => exact .non
 | bl x => exact .bl x
 | int i => exact .int i
 | str x => exact .str x
 | flt x => exact .flt x
 | lst e =>
   rcases k _ _ e with h | ⟨_, _, _, h⟩
   · exact .lst h
   · exact .lst h
 | frz e => exact .frz (k.kl _ _ e fun _ z => by cases z)
 | tup e => exact .tup (k.kl _ _ e fun _ z => by cases z)
 | dK e => exact .dK (k.kl _ _ e fun _ z => by cases z)
 | dT e => exact .dT (k.kl _ _ e fun _ z => by cases z)
 | ins e cl ha hn htk hm => exact .ins (k.kl _ _ e fun _ z => by cases z) cl ha hn htk hm
end L2

namespace HT
open PySem PyProof.Rows
section
variable {prog : Program} {w : World} {A : Around} {E : Value → Shared → Prop} {s : Shared}
end
end HT
namespace L2
open PySem PySem.Spec PyProof.Rows PySem.W
section
variable {X : Cx}
noncomputable def rListS (K : PySem.W.Frag) : List V → Hp → VK → Prop := fun xs H Q => ∃ (p : Addr) (ys : List V), xs = [.ref p] ∧ (SqL K H p ys ∨ SqT K H p ys) ∧ ∀ (l : Addr) (H' : Hp), Same H H' → H l = none → H' l = some (.lst ys) → Q (.ref l) H'
theorem call_listS : CallR X (.type "list") (rListS X.K) := fun pins s σ H xs us Q I r ⟨p, ys, e, h1, q⟩ => call_list_of pins s σ H xs us Q I r ⟨p, ys, e, h1, newS q⟩
end
end L2

namespace L2
open PySem PySem.Spec PyProof.Rows

section
variable {κ : Type} [DecidableEq κ]
end


section
variable {P : Program} {w : World} {H : Hp} {h : Heap} {a : Addr}
end

section
variable {X : Cx} {pins : List (Addr × Obj)} {σ : St} {H : Hp} {s : Shared} {a : Addr} {y v : V} {u r : Value} {o : Option V} {A : Around} {E : Value → Shared → Prop}

theorem Inv.big (I : Inv X pins σ H s) : sysModules < s.heap.objs.size := by
 have h : mainGlobals < s.heap.objs.size := (I.mod.glob.keeps I.bk).lt
 exact Nat.lt_trans (by decide) h

end

section
variable {X : Cx} {pins : List (Addr × Obj)} {σ : St} {H : Hp} {s : Shared} {a : Addr} {kvs : List (Key × V)} {k : Key} {u : Value} {A : Around} {E : Value → Shared → Prop}
end


section
variable {X : Cx} {o i e value : Expr} {pos pos' tpos : Pos} {td ty tv : TE}
end


theorem dk_empty {P : Program} {w : World} {H : Hp} (h : Heap) (hb : sysModules < h.objs.size) : ObjOk P w H (h.push { cls := .type "dict", data := .dict #[] }) h.objs.size (.dK []) :=
 ⟨Nat.zero_le _, beq_eq_false_iff_ne.mpr (Ne.symm (Nat.ne_of_lt hb)), [], .nil, Heap.DictOf.new h⟩
noncomputable def tDNewK : TE := fun _ H Q => ∀ p, H p = none → Q (.ref p) (upd H p (.dK []))
section
variable {X : Cx} {pos : Pos}
theorem pe_dnewK : PE X (.Dict [] [] pos) tDNewK := fun pins s σ H Q I h =>
 wpAny_Dict_empty ⟨.ref s.heap.objs.size, _, I.laid (a := s.heap.objs.size) (o := .dK []) (t' := s.toks) (fun _ _ q => Heap.get?_push_of_some _ q) (Nat.le_refl _) (dk_empty s.heap I.big), rfl, h _ (I.hok.fresh (Nat.le_refl _))⟩
end

end L2

namespace L2
open PySem PySem.Spec PyProof.Rows PySem.W
section
variable {K : PySem.W.Frag} {H H' : Hp} {n m : Nat} {v : V}
end
end L2

namespace L2
open PySem PySem.Spec PyProof.Rows PySem.W
section
variable {X : Cx}
theorem ps_forX {tg iter : Expr} {body : List Stmt} {wi : TI} {g : TG} {tb : TS} {pos : Pos} (hs : ∀ x : Value, foldedSetIterable iter X.env x = pure x) (h1 : PassesOwn (model X.prog X.w) X.A X.env X.xe) (h2 : X.calm = true) (hi : PI X tg iter wi) (hg : PG X tg g) (hb : PSs X body tb) :
 PS X (.For tg iter body [] pos) (tFor wi g tb) := ps_for h1 h2 hi hg hb hs
end
end L2

namespace Pw
end Pw

namespace Pw
theorem canon_ne {A : Int × Int} (h : Canon A) : A.2 ≠ 0 := by have := h.1; omega
noncomputable def Canons (Bs : List (Int × Int)) : Prop := ∀ B ∈ Bs, Canon B
end Pw
namespace L2
end L2

namespace L2
open PySem PySem.Spec PyProof.Rows
section
variable {X : Cx} {pins : List (Addr × Obj)} {σ : St} {H : Hp} {s : Shared} {h' : Heap}
end
section
variable {P : Program} {w : World} {K : PySem.W.Frag}
end

section
variable {prog : Program} {w : World} {A : Around}
end

section
variable {P : Program} {w : World} {K : PySem.W.Frag} {elts : List Expr} {ek : Nat} {epos : Pos}
end
section
variable {X : Cx} {elts : List Expr} {ek : Nat} {epos : Pos}
end
section
variable {X : Cx}
end
end L2

namespace L2
open PySem PySem.Spec PyProof.Rows
noncomputable def Fnd (K : PySem.W.Frag) (mg : Str → Option Value) (nm : Str) (st : Stmt) (ps : List Str) : Prop := ∃ (f : Addr) (fd : FuncData), Fun K nm nm st f fd ∧ mg nm = some (.ref f) ∧ Binds K fd ps []
noncomputable def Def (P : Program) (w : World) (K : PySem.W.Frag) (mg : Str → Option Value) (base : Heap) (k : Nat) (nm : Str) (ps : List Str) (sp : Sp) : Prop :=
 ∃ (f : Addr) (fd : FuncData), PySem.W.keepIn K (.ref f) = true ∧ mg nm = some (.ref f) ∧ Binds K fd ps [] ∧ FnOk P w K mg base CX0 k f fd ps sp
theorem Fnd.def {P : Program} {w : World} {K : PySem.W.Frag} {mg : Str → Option Value} {base : Heap} {k : Nat} {nm : Str} {st : Stmt} {ps : List Str} {sp : Sp} (S : Fnd K mg nm st ps) (h : ∀ f fd, Fun K nm nm st f fd → FnOk P w K mg base CX0 k f fd ps sp) : Def P w K mg base k nm ps sp := by
 obtain ⟨f, fd, F, m, b⟩ := S
 exact ⟨f, fd, F.kp, m, b, h f fd F⟩
section
variable {X : Cx}
theorem pe_def {k : Nat} {nm : Str} {ps : List Str} {sp : Sp} {e : Expr} {es : List Expr} {t : TA} {p pos : Pos} (hg : Gl X nm) (he : starEach (e :: es) X.env = (false, eval e X.env) :: starEach es X.env) (hpl : (backTo pos (starEach es X.env)).any (·.1) = false) (hdb : (nm == ("__debug__" : Str)) = false)
 (D : Def X.prog X.w X.K X.mg X.base k nm ps sp) (hr : Room k X.A) (ha : PA X (e :: es) t) :
 PE X (.Call (.Name nm p) (e :: es) [] pos) (tCall sp [] E0 t) := by
 obtain ⟨f, fd, a, b, c, F⟩ := D
 exact pe_call F hr hg b a c .nil pass0 ha hdb he hpl
end
section
variable {K : PySem.W.Frag} {a b D : Addr} {xs zs : List V} {g : TG} {tt : TT} {te : TE} {σ0 : St} {H0 : Hp} {Q : VK}
end
structure Txt (mg : Str → Option Value) : Prop where
 abs : mg "abs" = none
 isi : mg "isinstance" = none
 tup : mg "tuple" = none
 int : mg "int" = none
 bool : mg "bool" = none
 lst : mg "list" = none
 enu : mg "enumerate" = none
 len : mg "len" = none
 range : mg "range" = none
 srt : mg "sorted" = none
 sum : mg "sum" = none
 zip : mg "zip" = none
 max : mg "max" = none
noncomputable def SqF (K : PySem.W.Frag) (H : Hp) (p : Addr) (A : Int × Int) : Prop := SqT K H p [.int A.1, .int A.2]
theorem SqF.of {K : PySem.W.Frag} {H : Hp} {p : Addr} {A : Int × Int} (h : FrA K H p A) : SqF K H p A := SqT.of h
theorem SqF.same {K : PySem.W.Frag} {H H' : Hp} {p : Addr} {A : Int × Int} (h : SqF K H p A) (s : Same H H') : SqF K H' p A := s.seqT h
noncomputable def spMadeS : Sp := fun vs H Q _ => ∃ x y : Int, vs = [.int x, .int y] ∧ y ≠ 0 ∧ Sz 8000 x ∧ Sz 8000 y ∧ ∀ (p : Addr) (H' : Hp), Same H H' → H' p = some (.tup [.int (Pw.mk x y).1, .int (Pw.mk x y).2]) → Q (.ref p) H'
end L2

namespace L2
open PySem PySem.Spec PyProof.Rows
section
variable {X : Cx}
end
end L2

namespace L2
open PySem PySem.Spec PyProof.Rows
section
variable {K : PySem.W.Frag} {H : Hp} {p q : Addr} {W V' : List (Int × Int)} {xs ys : List V} {Q : VK}
end
end L2

namespace Pw
end Pw

namespace L2
open PySem PySem.Spec PyProof.Rows
section
variable {b : Bool} {K : PySem.W.Frag} {a D : Addr} {xs : List V} {g : TG} {tt : TT} {te : TE} {σ0 : St} {H0 : Hp} {Q : VK}
end
end L2
namespace Pw
end Pw

namespace L2
open PySem PySem.Spec PyProof.Rows
section
variable {X : Cx}
end
end L2

namespace L2
open PySem PySem.Spec PyProof.Rows
end L2

namespace L2
open PySem PySem.Spec PyProof.Rows
end L2
namespace Pw
end Pw

namespace L2
open PySem PySem.Spec PyProof.Rows
section
variable {ps : List (Int × Int)} {A : Int × Int} {Bs Rs : List (Int × Int)} {S D C : Int} {n : Nat}
end
end L2

namespace L2
open PySem PySem.Spec PyProof.Rows
end L2

namespace Pw
section
variable (A : Nat → Vec)
end
end Pw

namespace Pw
end Pw

namespace Pw
end Pw

namespace Pw
section
variable (ps : List (Int × Int)) (A : Int × Int) (ss : List Int) (n : Nat)
end
section
variable {ps : List (Int × Int)} {A : Int × Int} {ss : List Int} {n : Nat}
end
end Pw

namespace L2
open PySem PySem.Spec PyProof.Rows
section
variable {X : Cx}
end
end L2

namespace L2
open PySem PySem.Spec PyProof.Rows
end L2

namespace Pw
end Pw
namespace L2
open PySem PySem.Spec PyProof.Rows
end L2

namespace L2
end L2

namespace Pw
section
variable {ps : List (Int × Int)} {A : Int × Int} {Bs : List (Int × Int)} {S : Int} {n : Nat} {Ss : List (Int × Int)}
end
end Pw

namespace L2
open PySem PySem.Spec PyProof.Rows
end L2

namespace L2
end L2

namespace L2
open PySem PySem.Spec PyProof.Rows
end L2
namespace Pw
section
variable {ps : List (Int × Int)} {A : Int × Int} {Bs Ds : List (Int × Int)} {n : Nat}
end
end Pw

namespace Pw
end Pw

namespace Pw
section
variable {Bs : List (Int × Int)} {A : Int × Int} {c n : Nat}
end
end Pw
namespace L2
open PySem PySem.Spec PyProof.Rows
end L2

namespace L2
open PySem PySem.Spec PyProof.Rows
end L2
namespace Pw
section
variable {P : Int × Int} {Bs Cs : List (Int × Int)}
section
variable {n m : Nat} {ps qs' : List (Int × Int)} {A : Int × Int} {P : Int × Int} {Bs Cs Ss Ts : List (Int × Int)}
end
end
end Pw
namespace L2
open PySem PySem.Spec PyProof.Rows
end L2

namespace L2
open PySem PySem.Spec PyProof.Rows
end L2

namespace L2
open PySem PySem.Spec PyProof.Rows
end L2

namespace L2
open PySem PySem.Spec PyProof.Rows
section
variable {prog : Program} {w : World} {A : Around} {E : Value → Shared → Prop} {s : Shared} {z TI TO i1 i2 : Addr} {f1 f2 : List Addr} {n1 n2 k : Nat} {P1 P2 : Nat → Value → Prop} {S1 S2 : Nat → Heap → Prop} {a b : Value}
end
section
variable {prog : Program} {w : World} {A : Around} {z TI TO i1 i2 : Addr} {f1 f2 : List Addr} {n1 n2 : Nat} {P1 P2 : Nat → Value → Prop} {S1 S2 : Nat → Heap → Prop}
end

section
variable {P : Program} {w : World} {K : PySem.W.Frag} {elts : List Expr} {ek : Nat} {epos : Pos} {b1 b2 : Bool}
end
section
variable {X : Cx} {elts : List Expr} {ek : Nat} {epos : Pos}
end
section
variable {K : PySem.W.Frag} {b1 b2 : Bool} {a b D : Addr} {xs zs : List V} {g : TG} {tt : TT} {te : TE} {σ0 : St} {H0 : Hp} {Q : VK}
end
end L2

namespace L2
open PySem PySem.Spec PyProof.Rows
noncomputable def DrawsAt (H : Hp) (d : Addr) : Prop := ∃ ns : List Int, H d = some (.lst (ns.map V.int)) ∧ ns.length ≤ 240
noncomputable def spDraws (K : PySem.W.Frag) : Sp := fun vs H Q _ => ∃ (a : Addr) (ns : List Int), vs = [.ref a] ∧ SqL K H a (ns.map V.int) ∧ ns.length ≤ 63 ∧ ∀ (d : Addr) (H' : Hp), Same H H' → H d = none → DrawsAt H' d → Q (.ref d) H'
noncomputable def spTake : Sp := fun vs H Q _ => ∃ (d : Addr) (m : Int), vs = [.ref d, .int m] ∧ 0 < m ∧ DrawsAt H d ∧ ∀ (v : Int) (H' : Hp), 0 ≤ v → v < m → DrawsAt H' d → Kp d H H' → Q (.int v) H'
theorem DrawsAt.same {H H' : Hp} {l : Addr} (h : DrawsAt H l) (k : Same H H') : DrawsAt H' l := by
 obtain ⟨ns, e, z⟩ := h
 exact ⟨ns, k _ _ e, z⟩
theorem DrawsAt.ne {H : Hp} {l p : Addr} (h : DrawsAt H l) (e : H p = none) : p ≠ l := by
 obtain ⟨ns, e', z⟩ := h
 rintro rfl
 rw [e] at e'; cases e'
theorem Same.kpd {H H' : Hp} {l : Addr} (k : Same H H') : Kp l H H' := fun b o e _ => k b o e
theorem Kp.freeD {H H' : Hp} {p l : Addr} (k : Kp p H H') (h : DrawsAt H' p) (hl : H' l = none) : H l = none := by
 cases e : H l with
 | none => rfl
 | some o =>
   by_cases n : l = p
   · subst n; obtain ⟨ns, e', _⟩ := h; rw [hl] at e'; cases e'
   · rw [k _ _ e n] at hl; cases hl
end L2
namespace Pw
end Pw
namespace L2
open PySem PySem.Spec PyProof.Rows
theorem small16 {n : Nat} (h : n ≤ 10000) : n < sizeLine := Nat.lt_of_le_of_lt h (by decide)
theorem cut240 (ds : List Int) : ∃ es : List Int, cutV (ds.map V.int) none (some 240) = es.map V.int ∧ es.length ≤ 240 := by
 have e : HT.sIx (ds.map V.int).length (ds.map V.int).length (some 240) = min 240 (ds.map V.int).length := HT.sIx_nat _ _ 240
 refine ⟨ds.take (min 240 (ds.map V.int).length), ?_, by rw [List.length_take]; omega⟩
 unfold cutV
 rw [e, HT.sIx_none, List.drop_zero, Nat.sub_zero, List.map_take]
theorem while_in {c : TT} {tb : TS} {D : Ends} {σ : St} {H : Hp} (Pv : St → Hp → Prop) (μ : St → Hp → Nat) (h0 : Pv σ H)
 (hs : ∀ σ H, Pv σ H → c σ H fun b H1 => if b = true then ∃ N : St → Hp → Prop, (∀ σ' H', N σ' H' → ∃ m', m' < μ σ H ∧ m' = μ σ' H' ∧ Pv σ' H') ∧ tb { D with nx := N, ct := N, bk := D.nx } σ H1 else D.nx σ H1) : tWhile c tb D σ H :=
 ⟨fun m σ H => m = μ σ H ∧ Pv σ H, ⟨_, rfl, h0⟩, fun m σ H ⟨e, p⟩ => by subst e; exact hs σ H p⟩
theorem wN {Pv : St → Hp → Prop} {μ : St → Hp → Nat} {n : Nat} : ∀ σ' H', (Pv σ' H' ∧ μ σ' H' < n) → ∃ m', m' < n ∧ m' = μ σ' H' ∧ Pv σ' H' := fun _ _ ⟨p, l⟩ => ⟨_, l, rfl, p⟩
end L2

namespace L2
open PySem PySem.Spec PyProof.Rows
theorem wtest {K : PySem.W.Frag} {σ : St} {i j : Nat} {d : Addr} {m lim : Int} {G : Hp} {Q : Bool → Hp → Prop} (e1 : σ[i]? = some (some (.ref d))) (e2 : σ[j]? = some (some (.int m))) (hd : DrawsAt G d) (hl : 1 ≤ lim)
 (hT : m < lim → ∀ G1, Same G G1 → Q true G1) (hF : ∀ G1, Same G G1 → Q false G1) :
 tOr (tTest (tOp (rI0 fun i j => .bl (decide (i < j))) (tVar j) (tC (.int 1)))) (tAnd (tTest (tOp (rNil K true) (tVar i) (tLstS tNil))) (tTest (tOp (rI0 fun i j => .bl (decide (i < j))) (tVar j) (tC (.int lim))))) σ G Q := by
 refine ⟨_, e2, _, _, rfl, rfl, _, rfl, ?_⟩
 refine if2 (fun h => ?_) (fun h => ?_)
 · exact hT (by have : m < 1 := of_decide_eq_true h; omega) G (Same.refl _)
 obtain ⟨ns, e, z⟩ := hd
 refine ⟨_, e1, (by show 0 ≤ sizeLine; decide), fun p G1 s1 hp hp1 => ?_⟩
 refine ⟨d, p, _, rfl, rfl, .inr ⟨SqL.of (s1 _ _ e), SqL.of hp1⟩, _, rfl, ?_⟩
 refine if2 (fun h => ?_) (fun h => ?_)
 · refine ⟨_, e2, _, _, rfl, rfl, _, rfl, ?_⟩
   by_cases h3 : m < lim
   · rw [decide_eq_true h3]; exact hT h3 G1 s1
   · rw [decide_eq_false h3]; exact hF G1 s1
 · exact hF G1 s1
end L2
namespace Pw
end Pw
namespace L2
end L2
namespace Pw
end Pw

namespace Pw
section
variable {ps : List (Int × Int)} {A : Int × Int} {Bs : List (Int × Int)} {S : Int} {n : Nat}
end
end Pw
namespace L2
open PySem PySem.Spec PyProof.Rows
end L2
namespace L2
open PySem PySem.Spec PyProof.Rows
end L2

namespace L2
open PySem PySem.Spec PyProof.Rows
section
variable {prog : Program} {w : World} {A : Around} {E : Value → Shared → Prop} {s : Shared}
end
section
variable {X : Cx}
end
end L2

namespace Pw
section
variable (ps : List (Int × Int)) (A : Int × Int) (Bs : List (Int × Int)) (n : Nat)
end
section
variable {ps : List (Int × Int)} {A : Int × Int} {Bs : List (Int × Int)} {n : Nat}
end
end Pw
namespace L2
open PySem PySem.Spec PyProof.Rows
end L2

namespace Pw
end Pw
namespace L2
open PySem PySem.Spec PyProof.Rows
end L2
namespace Pw
section
variable {ps : List (Int × Int)} {A : Int × Int} {Bs : List (Int × Int)} {n : Nat} {S : Int}
end
end Pw

open PySem PySem.Spec PyProof.Rows
namespace L2
section
variable {prog : Program} {w : World} {A : Around} {E : Value → Shared → Prop} {s : Shared}
end
section
variable {X : Cx} {tg : Expr}
end
end L2

namespace Pw
end Pw
namespace L2
open PySem PySem.Spec PyProof.Rows
end L2

namespace Pw
end Pw

open PySem PySem.Spec PyProof PyProof.Rows
namespace L2
section
variable {X : Cx}
end
end L2

namespace Pw
end Pw
namespace L2
open PySem PySem.Spec PyProof.Rows
end L2

namespace L2
open PySem PySem.Spec PyProof.Rows
end L2

namespace Pw
end Pw
namespace L2
open PySem PySem.Spec PyProof.Rows
end L2

namespace Pw
end Pw

open PySem PySem.Spec PyProof PyProof.Rows
namespace L2
section
variable {prog : Program} {w : World} {A : Around} {E : Value → Shared → Prop} {s : Shared}
end
section
variable {X : Cx}
end
end L2

open PySem PySem.Spec PyProof PyProof.Rows
namespace L2
section
variable {X : Cx}
end
end L2

namespace L2
open PySem PySem.Spec PyProof.Rows PySem.W
section
variable {prog : Program} {w : World} {A : Around} {E : Value → Shared → Prop} {s : Shared}
end
section
variable {X : Cx} {pins : List (Addr × Obj)} {σ : St} {H : Hp} {s : Shared}
end
section
variable {X : Cx}
end
end L2

open PySem PySem.Spec PyProof PyProof.Rows
namespace L2
section
variable {X : Cx} {pins : List (Addr × Obj)} {σ : St} {H : Hp} {s : Shared}
end
section
variable {X : Cx}
end
end L2

open PySem PySem.Spec PyProof PyProof.Rows
namespace L2
section
variable {X : Cx}
end
end L2

namespace Pw
section
variable {ps ms : List (Int × Int)} {A : Int × Int} {Bs Ss : List (Int × Int)} {n : Nat}
end
end Pw

namespace Pw
section
variable {n : Nat} {A : Int × Int} {x y : Nat}
end
end Pw

open PySem PySem.Spec PyProof PyProof.Rows
namespace L2
section
variable {n : Nat} {A : Int × Int} {x y : Nat}
end
end L2

open PySem PySem.Spec PyProof PyProof.Rows
namespace L2
end L2
namespace Pw
end Pw

open PySem PySem.Spec PyProof PyProof.Rows
namespace L2
section
variable {X : Cx}
end
end L2

namespace Pw
section
variable {ps ms : List (Int × Int)} {A : Int × Int} {Bs Ss : List (Int × Int)} {n : Nat}
end
end Pw

open PySem PySem.Spec PyProof PyProof.Rows
namespace L2
end L2

open PySem PySem.Spec PyProof PyProof.Rows
namespace Pw
end Pw
namespace L2
section
variable {ord : List Nat} {n : Nat} {Bs : List (Int × Int)}
end
end L2

open PySem PySem.Spec PyProof PyProof.Rows
namespace Pw
end Pw
namespace L2
section
variable {K : PySem.W.Frag} {a : Addr} {xs : List V} {g : TG}
end
end L2

open PySem PySem.Spec PyProof PyProof.Rows
namespace Pw
end Pw
namespace L2
end L2

open PySem PySem.Spec PyProof PyProof.Rows
namespace L2
section
variable {X : Cx}
end
end L2

open PySem PySem.Spec PyProof PyProof.Rows
namespace L2
section
variable {X : Cx}
end
end L2

open PySem PySem.Spec PyProof PyProof.Rows
namespace Pw
end Pw
namespace L2
open Pw
section
variable {X : Cx}
end
end L2

open PySem PySem.Spec PyProof PyProof.Rows
namespace L2
end L2

open PySem PySem.Spec PyProof PyProof.Rows
namespace Pw
end Pw

open PySem PySem.Spec PyProof PyProof.Rows
namespace Pw
variable {ps ms : List (Int × Int)} {A : Int × Int} {Bs Ss : List (Int × Int)} {n : Nat} {S : Int}
end Pw
namespace L2
open Pw
variable {K : PySem.W.Frag} {H : Hp} {w lp ls : Addr} {n x y : Nat} {A : Int × Int} {us : List V} {S : Int}
end L2

open PySem PySem.Spec PyProof PyProof.Rows
namespace L2
open Pw
variable {K : PySem.W.Frag} {H : Hp} {w lp ls : Addr} {n x0 x1 : Nat} {ps : List (Int × Int)} {A : Int × Int} {us : List V} {S : Int}
end L2

open PySem PySem.Spec PyProof PyProof.Rows
namespace L2
open Pw
section
variable {X : Cx}
end
end L2

open PySem PySem.Spec PyProof PyProof.Rows
namespace Pw
end Pw

open PySem PySem.Spec PyProof PyProof.Rows
namespace Pw
end Pw

open PySem PySem.Spec PyProof PyProof.Rows
namespace Pw
section
variable {ps : List (Int × Int)} {A : Int × Int} {Bs Ss : List (Int × Int)} {n : Nat} {S : Int} {t : Nat → Nat → Int} {dn : Nat → Int}
end
end Pw

open PySem PySem.Spec PyProof PyProof.Rows
namespace Pw
end Pw
namespace L2
section
variable {X : Cx} {K : PySem.W.Frag}
end
end L2

open PySem PySem.Spec PyProof PyProof.Rows
namespace L2
end L2

open PySem PySem.Spec PyProof PyProof.Rows
namespace Pw
end Pw
namespace L2
section
variable {X : Cx}
end
end L2
namespace Pw
end Pw

open PySem PySem.Spec PyProof PyProof.Rows
namespace L2
end L2

open PySem PySem.Spec PyProof PyProof.Rows
namespace L2
end L2

open PySem PySem.Spec PyProof PyProof.Rows
namespace Pw
section
variable {ps ms : List (Int × Int)} {A : Int × Int} {Bs Ss Ts : List (Int × Int)} {n : Nat} {S : Int}
end
end Pw

open PySem PySem.Spec PyProof PyProof.Rows
namespace L2
end L2

open PySem PySem.Spec PyProof PyProof.Rows
namespace L2
noncomputable def FnAt (K : PySem.W.Frag) (n : Str) (st : Stmt) : Prop := ∃ f fd, PySem.W.nsIn K mainGlobals n = some (some (.ref f)) ∧ Fun K n n st f fd
theorem FnAt.of {K : PySem.W.Frag} {n : Str} {st : Stmt} {f : Addr} {oc : Value} {od an : Option Addr} {osl : Array (Option Value)} {kV doc pm cdv ct : Value} (a : PySem.W.nsIn K mainGlobals n = some (some (.ref f))) (l : K.lookup f = some ⟨oc, od, .func (PySem.W.fnOf n n (defArgs st) (defBody st) (defScope st) .none kV doc pm an cdv ct), osl⟩)
 (c : PySem.W.codeIn K cdv n = true) (k : PySem.W.keepIn K (.ref f) = true) : FnAt K n st := ⟨_, _, a, fun_mk l c k⟩
theorem FnAt.fnd {K : PySem.W.Frag} {h : Heap} {mg : Str → Option Value} {n : Str} {st : Stmt} (ps : List Str) (x : FnAt K n st) (XK : K.In h) (G : h.Ns mainGlobals mg)
 (b : ∀ (kV doc pm : Value) (an : Option Addr) (cdv ct : Value) (us : List Value), us.length = ps.length → bindArgs (PySem.W.fnOf n n (defArgs st) (defBody st) (defScope st) .none kV doc pm an cdv ct) ⟨us, []⟩ = pure (ps.zip us)) : Fnd K mg n st ps := by
 obtain ⟨f, fd, a, F⟩ := x
 exact ⟨f, fd, F, PySem.W.mg_of XK G a, F.binds b⟩
end L2

open PySem PySem.Spec PyProof PyProof.Rows
namespace Pw
section
variable {ps : List (Int × Int)} {A : Int × Int} {Bs Ss : List (Int × Int)} {n : Nat} {S : Int}
variable {L st : Int} {E : Nat → Option Int}
end
end Pw

open PySem PySem.Spec PyProof PyProof.Rows
namespace Pw
section
variable {ps : List (Int × Int)} {A : Int × Int} {Bs Ss : List (Int × Int)} {n z : Nat} {S L st : Int} {E : Nat → Option Int}
end
end Pw
namespace L2
end L2

open PySem PySem.Spec PyProof PyProof.Rows
namespace L2
section
variable {X : Cx}
end
end L2

open PySem PySem.Spec PyProof PyProof.Rows
namespace Pw
section
variable {ps : List (Int × Int)} {A : Int × Int} {Bs Ss : List (Int × Int)} {n : Nat} {S : Int}
end
end Pw
namespace L2
end L2

open PySem PySem.Spec PyProof PyProof.Rows
namespace Pw
section
variable {ps : List (Int × Int)} {A : Int × Int} {Bs Ss : List (Int × Int)} {n : Nat} {S : Int}
end
end Pw
namespace L2
end L2

open PySem PySem.Spec PyProof PyProof.Rows
namespace Pw
section
variable {ps : List (Int × Int)} {A : Int × Int} {Bs Ss : List (Int × Int)} {n : Nat} {S : Int}
end
end Pw

open PySem PySem.Spec PyProof PyProof.Rows
namespace L2
end L2

namespace Srt
open PySem PySem.W PyProof.Rows
section
variable {lt : Nat → Nat → Bool} (O : Ord lt)
end
end Srt

namespace Pw
section
variable {ps : List (Int × Int)} {A : Int × Int} {Bs : List (Int × Int)} {S : Int} {n : Nat}
end
end Pw

open PySem PySem.Spec PyProof PyProof.Rows
namespace L2
end L2
namespace Pw
open L2
end Pw
namespace L2
end L2
namespace L2
end L2
namespace L2
end L2
namespace Pw
open L2
end Pw

namespace Lng
open PySem PyProof.Rows PySem.W
section
variable {prog : Program} {w : World} {A : Around} {E : Value → Shared → Prop} {s : Shared} {a₀ : Array Keyed} {κ : SortKind}
end
end Lng

namespace Lng
open PySem PyProof.Rows PySem.W
section
variable {prog : Program} {w : World} {A : Around} {E : Value → Shared → Prop} {s : Shared} {a₀ : Array Keyed} {κ : SortKind}
end
end Lng

namespace L2
open PySem PySem.Spec PyProof.Rows PySem.W
section
variable {prog : Program} {w : World} {A : Around} {E : Value → Shared → Prop} {s : Shared}
end
section
variable {X : Cx}
end
end L2

namespace Pw
open L2
section
variable {ps ms : List (Int × Int)} {A : Int × Int} {Bs Ss : List (Int × Int)} {S : Int} {n : Nat}
end
end Pw

namespace L2
open PySem PySem.Spec PyProof.Rows PySem.W
section
variable {X : Cx}
end
end L2

namespace L2
open PySem PySem.Spec PyProof.Rows PySem.W
section
variable {prog : Program} {w : World} {A : Around} {E : Value → Shared → Prop} {s : Shared}
end
section
variable {prog : Program} {w : World} {A : Around} {R : Result → Shared → Prop} {I : Addr} {fp wr : List Addr} {G : Array GenState → Array GenState → Prop} {n : Nat} {P : Nat → Value → Prop} {St : Nat → Shared → Prop}
end
end L2

namespace L2
open PySem PySem.Spec PyProof.Rows PySem.W
section
variable {prog : Program} {w : World} {A : Around} {E : Value → Shared → Prop} {s : Shared}
noncomputable abbrev freshSet (led : Bool) : Obj := { cls := .type "set", dict := none, data := .set #[] 0 (.fresh 0 0 led) }
end
end L2

namespace L2
open PySem PySem.Spec PyProof.Rows PySem.W
section
variable {X : Cx}
theorem boot_set : bootBuiltins "set" = some (.type "set") := by decide +kernel
end
end L2

open PySem PySem.Spec PyProof PyProof.Rows
namespace Pw
section
variable {ps ms : List (Int × Int)} {A : Int × Int} {Bs Ss : List (Int × Int)} {n : Nat} {S : Int}
end
end Pw

open PySem PySem.Spec PyProof PyProof.Rows
namespace L2
section
variable {X : Cx}
end
end L2
namespace Pw
open L2
section
variable {ps : List (Int × Int)} {A : Int × Int} {Bs Ss : List (Int × Int)} {n : Nat} {S L : Int}
end
end Pw

namespace L2
open PySem PySem.Spec PyProof.Rows PySem.W
section
variable {prog : Program} {w : World} {A : Around} {E : Value → Shared → Prop} {s : Shared}
end
section
variable {X : Cx} {pins : List (Addr × Obj)} {σ : St} {H : Hp} {s : Shared}
end
end L2

namespace L2
open PySem PySem.Spec PyProof PyProof.Rows PySem.W
section
variable {prog : Program} {w : World} {A : Around} {E : Value → Shared → Prop} {s : Shared}
variable {h₀ : Heap} {L : Addr} {m : Str → Option Value} {news : List (Addr × Obj)}
end
end L2

namespace L2
open PySem PySem.Spec PyProof PyProof.Rows PySem.W
section
variable {prog : Program} {w : World} {A : Around} {h₀ : Heap} {L kS D : Addr} {m : Str → Option Value} {news : List (Addr × Obj)} {f : Addr} {e1 : Nat} {s : Shared} {vs : List Value} {n : Nat} {key : Nat → Int} {Fin : List Value → Nat → Shared → Prop}
end
section
variable {X : Cx} {pins : List (Addr × Obj)} {σ : St} {H : Hp} {s : Shared}
end
end L2

namespace L2
open PySem PySem.Spec PyProof PyProof.Rows PySem.W
section
variable {X : Cx} {pins : List (Addr × Obj)} {σ : St} {H : Hp} {s : Shared}
end
end L2

namespace L2
open PySem PySem.Spec PyProof PyProof.Rows PySem.W
end L2

namespace Pw
variable {Ss : List (Int × Int)} {n : Nat} {f l : List Nat}
end Pw
namespace L2
open PySem PySem.Spec PyProof PyProof.Rows PySem.W
section
variable {X : Cx}
end
end L2

namespace L2
open PySem PySem.Spec PyProof PyProof.Rows PySem.W
end L2
namespace Pw
end Pw

namespace Pw
variable {ps ms : List (Int × Int)} {A : Int × Int} {Bs Ss : List (Int × Int)} {n : Nat}
end Pw
namespace L2
end L2

namespace L2
open PySem PySem.Spec PyProof PyProof.Rows PySem.W
end L2
namespace Pw
variable {ord : List Nat} {n : Nat} {A : Int × Int} {Bs Cs Ds Ts : List (Int × Int)}
end Pw
namespace L2
end L2

namespace L2
open PySem PySem.Spec PyProof PyProof.Rows PySem.W
section
variable {X : Cx} {CX : CXT} {k : Nat} {C : Addr} {m : Str} {ps : List Str} {sp : Sp} {E : XK} {o e : Expr} {es : List Expr} {ta : TE} {t : TA} {p pos apos : Pos} {x : Str}
end
end L2
namespace L2
open PySem PySem.Spec PyProof PyProof.Rows PySem.W
end L2

namespace L2
open PySem PySem.Spec PyProof PyProof.Rows PySem.W
section
variable {X : Cx}
end
end L2

namespace L2
open PySem PySem.Spec PyProof PyProof.Rows PySem.W
section
variable {K : PySem.W.Frag} {C : Addr} {G G' : Hp} {d p pd lp R wa f0 : Addr} {W0 : Wb} {A : Int × Int} {Ss : List (Int × Int)} {W W' : Wb} {Ws Ws' Rs Rs' : List Wb}
end
end L2

namespace L2
open PySem PySem.Spec PyProof PyProof.Rows PySem.W
end L2

namespace Pw
end Pw
namespace L2
open PySem PySem.Spec PyProof PyProof.Rows PySem.W
section
variable {K : PySem.W.Frag} {C : Addr} {pos : Pos} {G G' : Hp} {d tb p1 pd1 p2 pd2 lp wa L : Addr} {W1 W1' W2 W2' W0 : Wb} {Ws1 Ws1' Ws2 Ws2' : List Wb} {A : Int × Int} {qs : List (Int × Int)}
end
end L2
namespace L2
open PySem PySem.Spec PyProof PyProof.Rows PySem.W
end L2

namespace L2
open PySem PySem.Spec PyProof PyProof.Rows PySem.W
structure UnB (fs : List Addr) (H H' : Hp) (h B h' : Heap) : Prop where
 keep : ∀ b o, h.get? b = some o → H b = none → b ∉ fs → B.get? b = some o
 slot : ∀ b o, h.get? b = some o → H b = none → b ∈ fs → ∃ sl, h'.get? b = some { o with slots := sl }
 free : ∀ b o, h.get? b = some o → H b = none → H' b = none
 there : ∀ b o, h.get? b = some o → b ∉ fs → ∃ o', B.get? b = some o'
 tups : ∀ b xs, H b = some (.tup xs) → H' b = some (.tup xs)
 frzs : ∀ b o u, H b = some (.frz o u) → H' b = some (.frz o u)
 tbls : ∀ b ps, H b = some (.tbl ps) → ∃ more, H' b = some (.tbl (ps ++ more))
theorem UnB.un {fs : List Addr} {H H' : Hp} {h B h' : Heap} (u : UnB fs H H' h B h') (st : B.StaysIn h') (nf : ∀ b ∈ fs, H b = none) : Un fs [] H H' h h' where
 keep := fun b o q n hb _ => st _ _ (u.keep b o q n hb)
 slot := fun b o q n hb _ => u.slot b o q n hb
 free := fun b o q n _ => u.free b o q n
 there := fun b o q _ => by
  by_cases hb : b ∈ fs
  · obtain ⟨sl, e⟩ := u.slot b o q (nf b hb) hb
    exact ⟨_, e⟩
  · obtain ⟨o', e⟩ := u.there b o q hb
    exact ⟨o', st _ _ e⟩
 tups := u.tups
 frzs := u.frzs
 tbls := u.tbls
noncomputable def CXN (P : Program) (w : World) (C : Addr) : CXT := fun outer H s E e s' => ∃ (a t : Addr) (B : Heap) (H' : Hp), e = .ref a ∧ s'.os = s.os ∧ AllBare s'.gens ∧ Heap.FlyingW B outer a (.ref C) (.ref t) s'.heap ∧ HOk P w H' B ∧ UnB (frs outer) H H' s.heap B s'.heap ∧ E (.ref C) none H'
theorem hide_ok {P : Program} {w : World} {H : Hp} {h : Heap} {as : List Addr} (x : HOk P w H h) (n : ∀ b ∈ as, H b = none) : HOk P w H (hideAll h as) := fun a o e =>
 (x a o e).stay (fun b u hb q => hideAll_get _ q fun z => by
  have := n b z
  rcases hb with rfl | hb
  · rw [this] at e; cases e
  · rw [this] at hb; cases hb) (fun _ q => q) fun _ _ q => q
theorem frs_mem {env : Env} {outer : List Env} {L b : Addr} (hf : env.frame = some L) (h : b ∈ frs (env :: outer)) : b = L ∨ b ∈ frs outer := by
 unfold frs at h ⊢
 rw [List.filterMap_cons, hf] at h
 exact List.mem_cons.mp h
section
variable {P : Program} {w : World} {C : Addr} {K : PySem.W.Frag} {mg : Str → Option Value} {base : Heap} {N : List Str} {qual : Str} {scope : Scope} {f : Addr} {cd : Value} {A : Around} {outer : List Env} {s : Shared} {H : Hp} {E : XK}
theorem frame_data {X : Cx} {pins : List (Addr × Obj)} {σ : St} {H1 : Hp} {s1 : Shared} (I : Inv X pins σ H1 s1) {b : Addr} (hb : b ∈ frs X.stack) : ∃ o, s1.heap.get? b = some o ∧ ∀ vs, o.data ≠ .fields vs := by
 obtain ⟨_, o, ho, hd⟩ := I.stack.mem hb
 exact ⟨o, ho, hd⟩
theorem raise_out {pins : List (Addr × Obj)} {σ : St} {H1 : Hp} {s1 : Shared} {h2 : Heap} {e : Addr} {vs : List Value} (I : Inv (cxOf (CXN P w C) P w K mg base N qual scope f cd A outer s H E) pins σ H1 s1) (hx : Heap.MadeExcOf s1.heap h2 e (.ref C) vs) (hE : E (.ref C) none H1) :
 (cxOf (CXN P w C) P w K mg base N qual scope f cd A outer s H E).xe (.ref e) { s1 with heap := h2 } := by
 have hst : frs (cxOf (CXN P w C) P w K mg base N qual scope f cd A outer s H E).stack = frs (envOfC qual scope s.heap.objs.size f cd :: outer) := rfl
 have nof : ∀ b o, s.heap.get? b = some o → b ∉ frs outer → b ∉ frs (envOfC qual scope s.heap.objs.size f cd :: outer) := fun b o q n z => by
  rcases frs_mem rfl z with z | z
  · have := Heap.lt_size q
    rw [z] at this
    exact absurd this (Nat.lt_irrefl _)
  · exact n z
 show wpAny (model P w) (A.deeper (envOfC qual scope s.heap.objs.size f cd)) (leaving (envOfC qual scope s.heap.objs.size f cd) (.ref e)) _ _ _
 refine wpAny_leaves_madeW (base := hideAll s1.heap (frs (envOfC qual scope s.heap.objs.size f cd :: outer))) (h := s1.heap) (outer := outer) (L := s.heap.objs.size) I.ok.frames rfl (fun b o q => of_hideAll _ q) (funFrames_hide I.stack fun env he b hb => List.mem_filterMap.mpr ⟨env, he, hb⟩) hx fun h' t x1 x2 x3 x4 => ?_
 refine ⟨e, t, _, H1, rfl, I.os, I.bare, x1, hide_ok I.hok fun b hb => I.stkFree b hb, ⟨fun b o q n hb => hideAll_get _ (I.base.keep b o q n hb (by simp [cxOf])) (nof b o q hb), fun b o q n hb => ?_, fun b o q n => I.base.free b o q n (by simp [cxOf]), fun b o q hb => ?_, I.base.tups, I.base.frzs, I.base.tbls⟩, hE⟩
 · obtain ⟨sl, e1⟩ := I.base.slot b o q n hb (by simp [cxOf])
   obtain ⟨o', e2, hd⟩ := frame_data I (b := b) (by rw [hst]; unfold frs; rw [List.filterMap_cons]; exact List.mem_cons_of_mem _ hb)
   rw [e1] at e2; cases e2
   obtain ⟨sl', e3⟩ := x4 b _ (hx.keeps _ _ e1) hd
   exact ⟨sl', e3⟩
 · obtain ⟨o', e1⟩ := I.base.there b o q (by simp [cxOf])
   exact ⟨o', hideAll_get _ e1 (nof b o q hb)⟩
end
theorem passN0 {P : Program} {w : World} {C : Addr} {X : Cx} : Passes (CXN P w C) X E0 := fun _ _ _ _ _ _ _ h => by
 obtain ⟨_, _, _, _, _, _, _, _, _, _, z⟩ := h
 exact z.elim
end L2

namespace L2
open PySem PySem.Spec PyProof PyProof.Rows PySem.W
noncomputable abbrev bmVE : List Value := [.type "ValueError", .type "Exception", .type "BaseException", .type "object"]
structure XcT (K : PySem.W.Frag) (mg : Str → Option Value) (x : Str) (C : Addr) : Prop where
 ns : PySem.W.nsIn K mainGlobals x = some (some (.ref C))
 bound : mg x = some (.ref C)
 exc : PySem.W.excIn K C bmVE "ValueError.__new__" = true
 kts : PySem.W.ktsIn K C "BaseException" = true
theorem xc_obj {K : PySem.W.Frag} {h : Heap} {C : Addr} {bmB : List Value} {newId : String} (X : K.In h) (q : PySem.W.excIn K C bmB newId = true) : ∃ bm N nm qn bs hdct sn sub ab col dd k0 k1 k2 k3 k5 mN, h.get? C = some (excClassObj nm qn C N bs bm hdct sn sub ab col dd k0 k1 k2 k3 k5 newId) ∧ h.Ns N mN ∧ mN "__init__" = none ∧ OwnTail h bmB bm := by
 unfold excIn at q
 split at q
 next dd cx sls hl =>
  split at q
  next C0 bms z0 z1 z2 z3 nn z5 hmr hsl =>
   rw [Bool.and_eq_true, Bool.and_eq_true, Bool.and_eq_true, Bool.and_eq_true, Bool.and_eq_true] at q
   have e1 : C0 = C := beq_iff_eq.mp q.1.1.1.1.1
   have e2 : nn = newId := beq_iff_eq.mp q.1.1.1.1.2
   have e3 : cx.hasDel = false := by simpa using q.1.1.1.2
   have e4 : nsIn K cx.ns "__init__" = some none := beq_iff_eq.mp q.2
   have e5 : sls = #[z0, z1, z2, z3, some (.builtin nn), z5] := by
    cases sls with
    | mk l =>
      have hsl' : l = _ := hsl
      rw [hsl']
   have e6 : cx = { cx with mro := .ref C :: bms, hasDel := false } := by
    cases cx with
    | mk =>
      cases e1
      cases hmr
      cases e3
      rfl
   refine ⟨bms, cx.ns, cx.name, cx.qualname, cx.bases, cx.hasDict, cx.slotNames, cx.subclasses, cx.abstract, cx.collection, dd, z0, z1, z2, z3, z5, _, ?_, .of_isNs (isNs_of_in X q.1.2), nsMap_none_of_in X q.1.2 e4, tail_of_in X q.1.1.2⟩
   have e7 := X _ _ hl
   rw [e7, e5, e2]
   exact congrArg (fun y => some (Obj.mk (.type "type") dd (.cls y) #[z0, z1, z2, z3, some (.builtin newId), z5])) e6
  next => cases q
 next => cases q
section
variable {P : Program} {w : World} {C : Addr} {K : PySem.W.Frag} {mg : Str → Option Value} {base : Heap} {N : List Str} {qual : Str} {scope : Scope} {f : Addr} {cd : Value} {A : Around} {outer : List Env} {s : Shared} {H : Hp} {E : XK}
noncomputable def tRaise (E : XK) (C : Addr) (t : TA) : TS := fun _ σ H => t σ H fun vs H1 => vs.length ≤ 10 ∧ E (.ref C) none H1
theorem ps_raise {x : Str} {e : Expr} {es : List Expr} {t : TA} {np cpos pos : Pos} (T : XcT K mg x C) (hg : Gl (cxOf (CXN P w C) P w K mg base N qual scope f cd A outer s H E) x) (ha : PA (cxOf (CXN P w C) P w K mg base N qual scope f cd A outer s H E) (e :: es) t)
 (he : starEach (e :: es) (envOfC qual scope s.heap.objs.size f cd) = (false, eval e (envOfC qual scope s.heap.objs.size f cd)) :: starEach es (envOfC qual scope s.heap.objs.size f cd)) (hplain : (backTo cpos (starEach es (envOfC qual scope s.heap.objs.size f cd))).any (·.1) = false) (hdb : (x == ("__debug__" : Str)) = false) :
 PS (cxOf (CXN P w C) P w K mg base N qual scope f cd A outer s H E) (.Raise (some (.Call (.Name x np) (e :: es) [] cpos)) none pos) (tRaise E C t) := by
 intro pins s1 σ H1 D I h
 obtain ⟨bm, Nn, nm, qn, bs, hdct, sn, sub, ab, col, dd, k0, k1, k2, k3, k5, mN, hC, hN, hni, Tl⟩ := xc_obj (h := base) I.ok.mod.kin T.exc
 have hpl : (backTo cpos (starEach (e :: es) (envOfC qual scope s.heap.objs.size f cd))).any (·.1) = false := by rw [he]; show (false || (backTo cpos (starEach es (envOfC qual scope s.heap.objs.size f cd))).any (·.1)) = false; rw [hplain]; rfl
 refine wpAny_Raise_call_subU (C := C) (nm := nm) (q := qn) (N := Nn) (bs := bs) (bm := bm) (hdct := hdct) (sn := sn) (sub := sub) (ab := ab) (col := col) (dd := dd) (k0 := k0) (k1 := k1) (k2 := k2) (k3 := k3) (k5 := k5)
  PySem.F.excBase_ValueError (by decide +kernel) PySem.F.excBase_ValueError (mN := mN) (Tl.hasType PySem.F.excBase_ValueError.hasBase) (I.ok.hd rfl) hpl hni (ld_glob I hg T.bound ⟨rfl, ?_⟩ hdb)
 have hh := ha cpos pins s1 σ H1 _ I h
 have hh' : wpAny (model P w) (A.deeper (envOfC qual scope s.heap.objs.size f cd)) (spliced (backTo cpos (starEach (e :: es) (envOfC qual scope s.heap.objs.size f cd)))) _ _ s1 := hh
 show wpAny (model P w) (A.deeper (envOfC qual scope s.heap.objs.size f cd)) (evalArgs (.ref C) true (backTo cpos (starEach (e :: es) (envOfC qual scope s.heap.objs.size f cd))) []) _ _ s1
 rw [he] at hh' ⊢
 refine Calls.evalArgs_plain (wpAny_mono hh' (fun us s2 q => ?_) fun _ _ y => y)
 obtain ⟨vs, H2, I2, rv, lv, hE⟩ := q
 have ks : ∀ b o, base.get? b = some o → s2.heap.get? b = some o := I2.bk
 refine ⟨rfl, ?_, ks _ _ hC, hN.keeps ks, Tl.keeps ks, fun h' e' hm => raise_out I2 hm hE⟩
 show us.length ≤ sizeLine
 rw [← rv.length, sizeLine_eq]
 omega
end
theorem Fun.okN {P : Program} {w : World} {K : PySem.W.Frag} {mg : Str → Option Value} {base : Heap} {CX : CXT} {x qual : Str} {st : Stmt} {f : Addr} {fd : FuncData} {N ps : List Str} {k : Nat} {sp : Sp} (F : Fun K x qual st f fd) (S : FnScope N ps (defScope st)) (len : ∀ vs H Q E, sp vs H Q E → vs.length = ps.length)
 (hbody : ∀ (cdv : Value) (A : Around) (outer : List Env) (s : Shared) (H : Hp) (vs : List V) (Q : VK) (E : XK), Room k (A.deeper (envOfC qual (defScope st) s.heap.objs.size f cdv)) → sp vs H Q E →
  ∃ t, PSs (cxOf CX P w K mg base N qual (defScope st) f cdv A outer s H E) (defBody st) t ∧ t { nx := fun _ H' => Q .non H', rt := Q } (start N vs) H) : FnOk P w K mg base CX (k + 1) f fd ps sp := by
 obtain ⟨oc, od, kV, doc, pm, an, cdv, ct, osl, rfl, lk, hcd⟩ := F.ex
 exact fn_of lk hcd S len fun A outer s H vs Q E hr hsp => hbody cdv A outer s H vs Q E hr hsp
noncomputable def XW (C : Addr) (X : Cx) (pins : List (Addr × Obj)) (Rx : Hp → Prop) : Value → Shared → Prop := fun e s2 => ∃ σ1 H1 s1, Inv X pins σ1 H1 s1 ∧ CXN X.prog X.w C X.stack H1 s1 (fun _ _ H' => Rx H') e s2
noncomputable abbrev Cx.tryC (X : Cx) (C : Addr) (pins : List (Addr × Obj)) (Rx : Hp → Prop) : Cx := { X with pn := X.pn ++ pins, xe := XW C X pins Rx }
noncomputable abbrev Cx.exc (X : Cx) (a : Addr) : Cx := { X with A := X.A.mark (some (.ref a)), calm := false, xe := fun _ _ => False }
section
variable {X : Cx} {C a : Addr} {pins : List (Addr × Obj)} {Rx : Hp → Prop} {σ : St} {H : Hp} {s : Shared}
theorem Inv.tryC (I : Inv X pins σ H s) : Inv (X.tryC C pins Rx) [] σ H s :=
 ⟨⟨I.ok.mod, I.ok.kind, I.ok.glob, I.ok.blt, I.ok.above, I.ok.inj, I.ok.has, I.ok.cab, I.ok.hd, I.ok.frames, I.ok.stk, I.ok.exf, I.ok.bs, I.ok.bsz, I.ok.noex, I.ok.exfs, I.ok.funs, I.ok.frf⟩, I.os, I.bare, I.base, I.loc, I.cell, I.free, I.freeC, fun p hp => I.pin p (by simpa using hp), I.hok, I.len⟩
theorem Inv.untryC {pins' : List (Addr × Obj)} (I : Inv (X.tryC C pins Rx) pins' σ H s) : Inv X pins σ H s :=
 ⟨⟨I.ok.mod, I.ok.kind, I.ok.glob, I.ok.blt, I.ok.above, I.ok.inj, I.ok.has, I.ok.cab, I.ok.hd, I.ok.frames, I.ok.stk, I.ok.exf, I.ok.bs, I.ok.bsz, I.ok.noex, I.ok.exfs, I.ok.funs, I.ok.frf⟩, I.os, I.bare, I.base, I.loc, I.cell, I.free, I.freeC, fun p hp => I.pin p (List.mem_append_left _ hp), I.hok, I.len⟩
theorem Inv.exc (I : Inv X pins σ H s) : Inv (X.exc a) pins σ H s :=
 ⟨⟨I.ok.mod, I.ok.kind, I.ok.glob, I.ok.blt, I.ok.above, I.ok.inj, I.ok.has, I.ok.cab, (fun z => Bool.noConfusion z), I.ok.frames, I.ok.stk, I.ok.exf, I.ok.bs, I.ok.bsz, I.ok.noex, I.ok.exfs, I.ok.funs, I.ok.frf⟩, I.os, I.bare, I.base, I.loc, I.cell, I.free, I.freeC, I.pin, I.hok, I.len⟩
theorem passT : Passes (CXN X.prog X.w C) (X.tryC C pins Rx) (fun _ _ H' => Rx H') := fun pins' σ H s e s' I h => ⟨σ, H, s, I.untryC, h⟩
theorem Inv.calm_none (I : Inv X pins σ H s) : Inv X pins (List.replicate X.N.length none) H s := I.weak (by rw [List.length_replicate, I.len]) fun i v h => by
 rw [List.getElem?_replicate] at h
 split at h <;> cases h
theorem UnB.on {fs : List Addr} {H H' : Hp} {h B h2 h5 : Heap} (u : UnB fs H H' h B h2) (sm : h2.UpToSlots h5) (fr : ∀ b ∈ fs, ∃ o, h.get? b = some o ∧ ∀ vs, o.data ≠ .fields vs) : UnB fs H H' h B h5 := by
 refine ⟨u.keep, fun b o q n hb => ?_, u.free, u.there, u.tups, u.frzs, u.tbls⟩
 obtain ⟨sl, e⟩ := u.slot b o q n hb
 obtain ⟨o', e', hd⟩ := fr b hb
 rw [q] at e'
 cases e'
 obtain ⟨sl', e2⟩ := sm b _ e hd
 exact ⟨sl', e2⟩
end
end L2

namespace L2
open PySem PySem.Spec PyProof PyProof.Rows PySem.W
end L2

namespace L2
open PySem PySem.Spec PyProof PyProof.Rows PySem.W
section
variable {K : PySem.W.Frag} {C : Addr} {G G' : Hp} {d LL RR LP : Addr} {p pd lp R : Nat → Addr} {W : Nat → Wb} {Ws Rs : Nat → List Wb} {A : Nat → Int × Int}
end
end L2
namespace L2
open PySem PySem.Spec PyProof PyProof.Rows PySem.W
end L2
namespace L2
open PySem PySem.Spec PyProof PyProof.Rows PySem.W
end L2
namespace L2
open PySem PySem.Spec PyProof PyProof.Rows PySem.W
structure XcAt (K : PySem.W.Frag) (x : Str) (C : Addr) : Prop where
 ns : PySem.W.nsIn K mainGlobals x = some (some (.ref C))
 exc : PySem.W.excIn K C bmVE "ValueError.__new__" = true
 kts : PySem.W.ktsIn K C "BaseException" = true
theorem XcAt.of {K : PySem.W.Frag} {x : Str} {C : Addr} (a : PySem.W.nsIn K mainGlobals x = some (some (.ref C))) (e : PySem.W.excIn K C bmVE "ValueError.__new__" = true) (t : PySem.W.ktsIn K C "BaseException" = true) : XcAt K x C := ⟨a, e, t⟩
theorem XcAt.xt {K : PySem.W.Frag} {h : Heap} {mg : Str → Option Value} {x : Str} {C : Addr} (a : XcAt K x C) (XK : K.In h) (G : h.Ns mainGlobals mg) : XcT K mg x C := ⟨a.ns, PySem.W.mg_of XK G a.ns, a.exc, a.kts⟩
end L2

namespace L2
open PySem PySem.Spec PyProof PyProof.Rows PySem.W
section
open PySem.SeqAt
open PySem.AutoSeq1 (wpAny_loadPart')
open PySem.MeetsSeq PySem.MeetsSeq2 PySem.MeetsSeq3
end
section
variable {X : Cx}
noncomputable def rIsiT (K : PySem.W.Frag) : List V → Hp → VK → Prop := fun xs H Q => ∃ a ys, xs = [.ref a, .ty "tuple"] ∧ SqT K H a ys ∧ Q (.bl true) H
theorem call_isiT : CallR X (.builtin "isinstance") (rIsiT X.K) := by
 intro pins s σ H xs us Q I r h
 obtain ⟨a, ys, rfl, ht, q⟩ := h
 obtain ⟨u, w', rfl, ru, rw'⟩ := vals2 r
 cases rw'
 cases (show u = Value.ref a from ru)
 obtain ⟨_, _, ⟨o, h1, h2, _⟩, _⟩ := I.tuple ht
 exact PySem.W.kia_one PySem.W.kitx_tuple I.kIn ⟨o, h1, h2⟩ (isi_tt _) (fun z => nomatch z) fun tk => ⟨.bl true, H, I.tok tk, rfl, q⟩
end
end L2
namespace L2
open PySem PySem.Spec PyProof PyProof.Rows PySem.W
end L2
namespace L2
open PySem PySem.Spec PyProof PyProof.Rows PySem.W
section
variable {K : PySem.W.Frag} {C : Addr} {pos : Pos} {G G' : Hp} {d tb p pd lp : Addr} {W W' : Wb} {Ws Ws' : List Wb} {A : Int × Int}
end
end L2

namespace Pw
end Pw
namespace L2
open PySem PySem.Spec PyProof PyProof.Rows PySem.W
section
variable {X : Cx}
end
end L2

namespace L2
open PySem PySem.Spec PyProof PyProof.Rows PySem.W
section
variable {K : PySem.W.Frag} {C : Addr} {pos : Pos} {G G' : Hp} {d tb p pd lp R : Addr} {W W' : Wb} {Ws Ws' : List Wb} {A : Int × Int}
end
end L2

namespace L2
open PySem PySem.Spec PyProof PyProof.Rows PySem.W
theorem excMatches_up {M : Model} {A : Around} {E : Value → Shared → Prop} {nm q nm' q' : Str} {C N D N' : Addr} {bs bm bs' bm' : List Value} {hdct hdct' : Bool} {sn sn' : List Str} {sub sub' : List Value} {ab ab' : Bool} {col col' : Option Bool} {dd dd' : Option Addr} {k0 k1 k2 k3 k5 j0 j1 j2 j3 j5 : Option Value} {newId newId' : String}
 {h : Heap} {g : Array GenState} {d : Drawn} {t : Nat} {os : OsState} {e : Addr} {oe : Obj} {Q : Bool → Shared → Prop}
 (hC : h.get? C = some (excClassObj nm q C N bs bm hdct sn sub ab col dd k0 k1 k2 k3 k5 newId)) (hD : h.get? D = some (excClassObj nm' q' D N' bs' bm' hdct' sn' sub' ab' col' dd' j0 j1 j2 j3 j5 newId')) (he : h.get? e = some oe) (hcls : oe.cls = .ref C) (hbase : bm'.contains (.type "BaseException") = true) (hin : bm.contains (.ref D) = true)
 (hq : Q true ⟨h, g, d, t, os⟩) : wpAny M A (excMatches (.ref e) (.ref D)) Q E ⟨h, g, d, t, os⟩ := by
 have hcB : (Value.ref D :: bm').contains (.type "BaseException") = true := by rw [List.contains_cons, hbase, Bool.or_true]
 have hcC : (Value.ref C :: bm).contains (.ref D) = true := by rw [List.contains_cons, hin, Bool.or_true]
 have f := tc_notTuple
 unfold excMatches
 repeat (first | (with_reducible refine wpAny_loadPart_at he ?_; rw [hcls]) | with_reducible refine wpAny_loadPart_at hD ?_ | (with_reducible refine wpAny_isSubtype_exc hD ?_; rw [hcB]) | (with_reducible refine wpAny_isSubtype_exc hC ?_; rw [hcC]) | wp_step)
 exact hq
theorem HOk.none_of {P : Program} {w : World} {H : Hp} {h : Heap} {a : Addr} (x : HOk P w H h) (e : h.get? a = none) : H a = none := by
 cases q : H a with
 | none => rfl
 | some o => obtain ⟨u, z⟩ := (x a o q).there; rw [e] at z; cases z
section
variable {X : Cx} {pins : List (Addr × Obj)} {σ : St} {H : Hp} {s : Shared}
theorem goes_ok {M : Model} {A : Around} {E : Value → Shared → Prop} {i : Nat} {x : Str} {pos : Pos} {Q : Unit → Shared → Prop} (I : Inv X pins σ H s) (hN : X.N.Nodup) (hi : X.N[i]? = some x) (hk : X.env.kindOf x = some .local)
 (h : ∀ s', Inv X pins (σ.set i none) H s' → Q () s') : wpAny M A (do bindName X.env x .none; unbindBehindTheSuite X.env x pos) Q E s := by
 obtain ⟨m, hn, hl⟩ := id I.loc
 have hcls : (X.env.scope.kind == .class || (X.env.scope.kind == .module && X.env.locals != X.env.globals)) = false := by rw [I.ok.kind]; rfl
 have hiσ : i < σ.length := by rw [I.len]; exact (List.getElem?_eq_some_iff.mp hi).1
 have cne := I.cne
 obtain ⟨oL, _, _, hoL, _⟩ := id hn
 refine wpAny_nameGoes_keeps hk hn hcls fun h' v hn' hs => ?_
 have trk : HOk X.prog X.w H h' := fun b ob e => by
  refine (I.hok b ob e).stay (fun c w' hc q => (hs.2 c ?_).trans q) (fun _ q => q) fun _ _ q => q
  rintro rfl
  have hfree := I.free
  rcases hc with rfl | hc
  · rw [hfree] at e; cases e
  · rw [hfree] at hc; cases hc
 refine h _ ⟨I.ok, I.os, I.bare, ⟨fun b o e n hb hx => ?_, fun b o e n hb hx => ?_, I.base.free, fun b o e hx => ?_, I.base.tups, I.base.frzs, I.base.tbls⟩, ⟨_, hn', fun j y v' e1 e2 e3 => ?_⟩, fun y c e => ?_, I.free, I.freeC, fun p hp => ?_, trk, by rw [List.length_set]; exact I.len⟩
 · exact (hs.2 b (Nat.ne_of_lt (Nat.lt_of_lt_of_le (Heap.lt_size e) I.ok.above))).trans (I.base.keep b o e n hb hx)
 · obtain ⟨sl, e1⟩ := I.base.slot b o e n hb hx
   exact ⟨sl, (hs.2 b (Nat.ne_of_lt (Nat.lt_of_lt_of_le (Heap.lt_size e) I.ok.above))).trans e1⟩
 · obtain ⟨o', e1⟩ := I.base.there b o e hx
   exact ⟨o', (hs.2 b (Nat.ne_of_lt (Nat.lt_of_lt_of_le (Heap.lt_size e) I.ok.above))).trans e1⟩
 · by_cases hj : j = i
   · subst hj
     rw [List.getElem?_set_self hiσ] at e2
     cases e2
   · rw [List.getElem?_set_ne (Ne.symm hj)] at e2
     obtain ⟨u', r', q⟩ := hl j y v' e1 e2 e3
     refine ⟨u', r', ?_⟩
     rcases q with ⟨k, e⟩ | ⟨k, c, e, z⟩
     · refine .inl ⟨k, ?_⟩
       have : y ≠ x := fun e => hj (nodup_ix hN e1 (e ▸ hi))
       simp [this, e]
     · exact .inr ⟨k, c, e, z.sameBut hs (cne y c e)⟩
 · obtain ⟨w', z⟩ := I.cell y c e
   exact ⟨w', z.sameBut hs (cne y c e)⟩
 · obtain ⟨e, n, ne, nf, d⟩ := I.pin p hp
   exact ⟨(hs.2 p.1 ne).trans e, n, ne, nf, d⟩
end
theorem up_in {K : PySem.W.Frag} {h : Heap} {nm q : Str} {C N D : Addr} {bs bm : List Value} {hdct : Bool} {sn : List Str} {sub : List Value} {ab : Bool} {col : Option Bool} {dd : Option Addr} {k0 k1 k2 k3 k5 : Option Value} {newId : String} (X : K.In h) (hC : h.get? C = some (excClassObj nm q C N bs bm hdct sn sub ab col dd k0 k1 k2 k3 k5 newId)) (e : PySem.W.mroIn K C (.ref D) = some true) (ne : D ≠ C) : bm.contains (.ref D) = true := by
 unfold PySem.W.mroIn at e
 obtain ⟨cd, a, b⟩ := Option.bind_eq_some_iff.mp e
 have hcd : cd.mro = .ref C :: bm := by
  unfold PySem.W.clsIn at a
  split at a
  · rename_i ho
    have := X _ _ ho
    rw [hC] at this
    cases a
    have := congrArg Obj.data (Option.some.inj this)
    cases this
    rfl
  · cases a
 split at b
 · cases b
 · have e := Option.some.inj b
   rw [hcd, List.contains_cons] at e
   have : (Value.ref D == Value.ref C) = false := beq_eq_false_iff_ne.mpr fun z => ne (by cases z; rfl)
   rw [this, Bool.false_or] at e
   exact e
noncomputable abbrev Cx.excE (X : Cx) (a : Addr) (oe : Obj) (pins : List (Addr × Obj)) : Cx := { X with A := X.A.mark (some (.ref a)), calm := false, xe := fun _ _ => False, pn := X.pn ++ pins ++ [(a, oe)] }
section
variable {X : Cx} {C D a : Addr} {oe : Obj} {pins : List (Addr × Obj)} {Rx : Hp → Prop} {σ : St} {H : Hp} {s : Shared}
theorem Inv.excE (I : Inv X pins σ H s) (e : s.heap.get? a = some oe) (n : H a = none) (ne : a ≠ X.env.locals) (nf : a ∉ X.fs) (d : ∀ v, oe.data ≠ .cell v) : Inv (X.excE a oe pins) [] σ H s :=
 ⟨⟨I.ok.mod, I.ok.kind, I.ok.glob, I.ok.blt, I.ok.above, I.ok.inj, I.ok.has, I.ok.cab, (fun z => Bool.noConfusion z), I.ok.frames, I.ok.stk, I.ok.exf, I.ok.bs, I.ok.bsz, I.ok.noex, I.ok.exfs, I.ok.funs, I.ok.frf⟩, I.os, I.bare, I.base, I.loc, I.cell, I.free, I.freeC, fun p hp => by
   rw [List.append_nil] at hp
   rcases List.mem_append.mp hp with z | z
   · exact I.pin p z
   · rw [List.mem_singleton.mp z]; exact ⟨e, n, ne, nf, d⟩, I.hok, I.len⟩
theorem Inv.unexcE {pins' : List (Addr × Obj)} (ok : X.Ok) (I : Inv (X.excE a oe pins) pins' σ H s) : Inv X pins σ H s := ⟨ok, I.os, I.bare, I.base, I.loc, I.cell, I.free, I.freeC, fun p hp => I.pin p (List.mem_append_left _ (List.mem_append_left _ hp)), I.hok, I.len⟩
noncomputable def tTryE (n i : Nat) (Rx : Hp → Prop) (tb : TS) (ts : Addr → TS) : TS := fun D σ H => tb D σ H ∧ ∀ (a : Addr) (H' : Hp), Rx H' → ts a { nx := fun σ H => D.nx (σ.set i none) H, bk := fun σ H => D.bk (σ.set i none) H, ct := fun σ H => D.ct (σ.set i none) H, rt := D.rt } ((List.replicate n none).set i (some (.ref a))) H'
theorem ps_tryE {x n : Str} {i : Nat} {body : List Stmt} {b₀ : Stmt} {suite : List Stmt} {tb : TS} {ts : Addr → TS} {np hpos pos : Pos} (T : XcT X.K X.mg x D) (kC : PySem.W.ktsIn X.K C "BaseException" = true) (up : PySem.W.mroIn X.K C (.ref D) = some true) (ne : D ≠ C) (hst : X.stack = X.env :: X.outer) (hfr : X.env.frame = some X.env.locals) (hg : Gl X x) (hdb : (x == ("__debug__" : Str)) = false)
 (hN : X.N.Nodup) (hi : X.N[i]? = some n) (hk : X.env.scope.names.lookup n = some .local)
 (hb : ∀ pins, PSs (X.tryC C pins Rx) body tb) (hs : ∀ a oe pins, oe.cls = .ref C → PSs (X.excE a oe pins) (b₀ :: suite) (ts a)) : PS X (.Try body [.ExceptHandler (some (.Name x np)) (some n) (b₀ :: suite) hpos] [] [] pos) (tTryE X.N.length i Rx tb ts) := by
 intro pins s σ H D' I h
 obtain ⟨h1, h2⟩ := h
 refine wpAny_Try_except (wpAny_mono (hb pins [] s σ H D' I.tryC h1) (fun f s1 hf => ?_) fun e s2 he => ?_)
 · have cv : SP X pins D' f s1 := by
    cases f with
    | next => obtain ⟨σ', H', J, q⟩ := hf; exact ⟨σ', H', J.untryC, q⟩
    | brk => obtain ⟨σ', H', J, q⟩ := hf; exact ⟨σ', H', J.untryC, q⟩
    | cont => obtain ⟨σ', H', J, q⟩ := hf; exact ⟨σ', H', J.untryC, q⟩
    | ret u => obtain ⟨v, σ', H', J, r, q⟩ := hf; exact ⟨v, σ', H', J.untryC, r, q⟩
   cases f with
   | next => exact wpAny_execs_nil cv
   | brk => exact cv
   | cont => exact cv
   | ret u => exact cv
 · obtain ⟨σ1, H1, s1, I1, a, t, B, H2, rfl, os, bare, fl, hok, u, hE⟩ := he
   have okX := I1.ok
   have frD : ∀ b ∈ frs X.stack, ∃ o, s1.heap.get? b = some o ∧ ∀ vs, o.data ≠ .fields vs := fun b hb => frame_data I1 hb
   have fl' : Heap.FlyingW B (X.env :: X.outer) a (.ref C) (.ref t) s2.heap := by rw [← hst]; exact fl
   have mk : ∀ h5 : Heap, B.StaysIn h5 → s2.heap.UpToSlots h5 → Inv X pins (List.replicate X.N.length none) H2 { s2 with heap := h5 } := fun h5 st sm =>
    (I1.calm_none.call' (s' := { s2 with heap := h5 }) (ch := []) os ((u.on sm frD).un st fun b hb => I1.stkFree b hb) (hok.kept st) bare fun b z => absurd z (by simp))
   refine wpAny_looks_onW (outer := X.outer) (by rw [okX.frames, hst]) hfr fl' fun h4 held4 sm4 => ?_
   refine wpAny_landsW held4 fun h5 fl5 sm5 => ?_
   have J5 := mk h5 fl5.1 (sm4.trans sm5)
   obtain ⟨nm', q', Nn', bs', bm', hdct', sn', sub', ab', col', dd', j0, j1, j2, j3, j5, newId', hD, hbase', _⟩ := kts_cls J5.kIn T.kts
   obtain ⟨nm, q, Nn, bs, bm, hdct, sn, sub, ab, col, dd, k0, k1, k2, k3, k5, newId, hC, hbase, _⟩ := kts_cls J5.kIn kC
   obtain ⟨ob, hob, hobc⟩ := fl5.there
   refine wpAny_handleBy_cons (codeAny_handlers_test ?_) (by intro q; cases q)
   refine ld_glob (X := X.exc a) (J5.exc (a := a)) hg T.bound ?_ hdb
   refine excMatches_up hC hD hob hobc hbase' (up_in J5.kIn hC up ne) (codeAny_handlers_suite_as ?_)
   refine lands_againW fl5 fun h6 fl6 sm6 => ?_
   have sm := (sm4.trans sm5).trans sm6
   have J6 := mk h6 fl6.1 sm
   obtain ⟨oe, ws, hoe, hoec, hoed, _⟩ := fl6.first
   have na : H2 a = none := hok.none_of fl6.2.1
   have nfr : a ∉ frs X.stack := fun z => by
    obtain ⟨o', e', hd⟩ := frD a z
    obtain ⟨sl, e2⟩ := (u.on sm frD).slot a o' e' (I1.stkFree a z) z
    rw [hoe] at e2
    cases e2
    exact hd _ hoed
   have nl : a ≠ X.env.locals := fun z => nfr (by unfold frs; rw [hst, z]; exact List.mem_filterMap.mpr ⟨X.env, List.mem_cons_self, hfr⟩)
   have nf : a ∉ X.fs := fun z => nfr (by unfold frs; rw [hst]; obtain ⟨e, he, hf⟩ := List.mem_filterMap.mp z; exact List.mem_filterMap.mpr ⟨e, List.mem_cons_of_mem _ he, hf⟩)
   have J6' : Inv (X.excE a oe pins) [] (List.replicate X.N.length none) H2 { s2 with heap := h6 } := J6.excE hoe na nl nf (fun v z => by rw [hoed] at z; cases z)
   refine store_ok2 (X := X.excE a oe pins) (v := .ref a) (i := i) J6' hN hi (.inl hk) rfl (fun s7 J7 _ => ?_) (.inr hk)
   refine wpAny_mono (hs a oe pins hoec [] s7 _ H2 _ J7 (h2 a H2 hE)) (fun f s8 hf => ?_) fun e s3 z => z.elim
   cases f with
   | next => obtain ⟨σ', H', J, q⟩ := hf; exact goes_ok (J.unexcE okX) hN hi hk fun s9 J9 => ⟨_, H', J9, q⟩
   | brk => obtain ⟨σ', H', J, q⟩ := hf; exact goes_ok (J.unexcE okX) hN hi hk fun s9 J9 => ⟨_, H', J9, q⟩
   | cont => obtain ⟨σ', H', J, q⟩ := hf; exact goes_ok (J.unexcE okX) hN hi hk fun s9 J9 => ⟨_, H', J9, q⟩
   | ret u => obtain ⟨v, σ', H', J, r, q⟩ := hf; exact goes_ok (J.unexcE okX) hN hi hk fun s9 J9 => ⟨v, _, H', J9, r, q⟩
end
end L2

namespace L2
open PySem PySem.Spec PySem.Calls PyProof PyProof.Rows PySem.W
structure XcI (K : PySem.W.Frag) (D : Addr) : Prop where
 ga : findIn K (.ref D) "__getattribute__" = some (some (.builtin "BaseException.__getattribute__"))
 gn : findIn K (.ref D) "__getattr__" = some none
 ca : findIn K (.ref D) "__class__" = some (some (.builtin "object.__class__"))
 mo : mroIn K D (.type "object") = some true
 mb : mroIn K D (.type "BaseException") = some true
noncomputable def ExAt (h : Heap) (x D : Addr) : Prop := ∃ o, h.get? x = some o ∧ o.cls = .ref D
section
variable {prog : Program} {w : World} {A : Around} {E : Value → Shared → Prop} {s : Shared} {K : Frag} {x D : Addr}
theorem ExAt.type {M : Model} {h : Heap} (I : ExAt h x D) : Looks M h (typeOf (.ref x)) (.ref D) := by
 obtain ⟨o, e, c⟩ := I
 exact c ▸ (Looks.ld e).andThen .now
theorem xc_get {R : Result → Shared → Prop} {tp : Value} (Z : XcI K D) (X : K.In s.heap) (I : ExAt s.heap x D) (h : R (.ok (.ret (.ref D))) s) : codeAny (model prog w) A (.call (.builtin "getset_descriptor.__get__") ⟨[.builtin "object.__class__", .ref x, tp], []⟩) R s := by
 obtain ⟨hh, g, dr, t, os⟩ := s
 have L0 := I.type (M := model prog w)
 have L1 := looks_mroIn (M := model prog w) X Z.mo
 refine codeAny_call_builtin KF.slot_gs.plain KF.entry_gs (KF.slot_gs.check _ _ _ _ _ _ _ _ KF.type_class (KF.args_gs _ _ _) ?_)
 unfold Builtin.«getset_descriptor.__get__» Builtin.Getset_descriptor.descrGet
 rw [dga_obj]
 refine wpAny_bind (wpAny_pure ?_)
 unfold Builtin.Getset_descriptor.descrGetter Builtin.Getset_descriptor.descrCheckInstance Builtin.Getset_descriptor.descrNameAndClass isInstance
 simp only [KF.owner_class]
 repeat lk
 refine ⟨Code.quiet_builtin _ (by decide +kernel), codeAny_builtin KF.entry_class ?_⟩
 unfold Builtin.«object.__class__» shownTypeOf
 repeat lk
 exact h
theorem xc_entry {tk : Tok} {Q : Fin → Shared → Prop} (Z : XcI K D) (X : K.In s.heap) (I : ExAt s.heap x D) (h : Q (.done (.ret (.ref D))) s) : wpAny (model prog w) A (Builtin.«object.__getattribute__» ⟨[.ref x, .str "__class__" tk], []⟩) Q E s := by
 obtain ⟨o, hx, hc⟩ := id I
 have L2 := looks_findIn (M := model prog w) X Z.ca
 obtain ⟨hh, g, dr, t, os⟩ := s
 have hT5 : (⟨hh, g, dr, t, os⟩ : Shared).TypeIs (.builtin "object.__class__") "getset_descriptor" := F.typeOf_object_class
 have f5 := F.typeOf_object_class
 have f6 := F.slot_gs_get.lookup
 have f7 := F.slot_gs_set.lookup
 repeat (any_goals (first | assumption | (with_reducible refine wpAny_loadPart_at hx ?_; rw [hc]) | with_reducible refine L2.at ?_ | wp_step))
 refine xc_get Z X I ?_
 repeat (any_goals (first | assumption | wp_step))
theorem xc_check {M : Model} {nameV : Value} {Q : Unit → Shared → Prop} (Z : XcI K D) (X : K.In s.heap) (I : ExAt s.heap x D) (h : Q () s) : wpAny M A (checkBuiltinCall "BaseException.__getattribute__" ⟨[.ref x, nameV], []⟩) Q E s := by
 have hk : builtinKind "BaseException.__getattribute__" = some .slot := by decide +kernel
 have hsplit : splitId "BaseException.__getattribute__" = some ("BaseException", "__getattribute__") := by decide +kernel
 have L0 := I.type (M := M)
 have L1 := looks_mroIn (M := M) X Z.mb
 have ha := F.args_bexc_ga (.ref x) nameV
 obtain ⟨hh, g, dr, t, os⟩ := s
 simp only [checkBuiltinCall, hk, hsplit]
 refine wpAny_bind ?_
 · unfold isInstance
   repeat (first | with_reducible refine L0.at ?_ | with_reducible refine L1.at ?_ | wp_step)
   exact h
theorem xc_by {tk : Tok} {Q : Value → Shared → Prop} (Z : XcI K D) (X : K.In s.heap) (I : ExAt s.heap x D) (h : Q (.ref D) s) : wpAny (model prog w) A (getAttrBy (.ref x) (.str "__class__" tk) false) Q E s := by
 have L0 := I.type (M := model prog w)
 have L1 := looks_findIn (M := model prog w) X Z.ga
 have L2 := looks_findIn (M := model prog w) X Z.gn
 have f3 := F.excAttr_ValueError.ga.bind (.ref x)
 have hx0 : (false && onTheHeap (Value.builtin "BaseException.__getattribute__")) = false := rfl
 have hx2 : (Value.builtin "BaseException.__getattribute__" == Value.builtin "object.__getattribute__") = false := by decide +kernel
 have hx1 : (onTheHeap (Value.ref D) && Value.builtin "BaseException.__getattribute__" == Value.builtin "object.__getattribute__") = false := by rw [hx2]; rfl
 obtain ⟨hh, g, dr, t, os⟩ := s
 repeat (any_goals (first | assumption | with_reducible refine L0.at ?_ | with_reducible refine L1.at ?_ | with_reducible refine L2.at ?_ | wp_step))
 refine codeAny_call_builtin F.excAttr_ValueError.ga.plain F.entry_bexc_ga (xc_check Z X I (xc_entry Z X I ?_))
 repeat (any_goals (first | assumption | wp_step))
theorem xc_attr {Q : Option Value → Shared → Prop} (Z : XcI K D) (X : K.In s.heap) (I : ExAt s.heap x D) (h : Q (some (.ref D)) { s with toks := s.toks + 1 }) : wpAny (model prog w) A (getAttr? (.ref x) "__class__") Q E s := by
 obtain ⟨hh, g, dr, t, os⟩ := s
 unfold getAttr? getAttrBy?
 refine wpAny_bind (wpAny_mkText (wpAny_bind (wpAny_attempt ?_)))
 exact xc_by (s := ⟨hh, g, dr, t + 1, os⟩) Z X I (wpAny_pure h)
theorem kitx_exc (Z : XcI K D) : KitX K (.ref x) (.ref D) (fun h => ExAt h x D) where
 ty := fun _ _ _ I => I.type
 it := fun _ _ X _ => by
  have q := Z.mo
  unfold mroIn at q
  obtain ⟨cd, hc, _⟩ := Option.bind_eq_some_iff.mp q
  unfold clsIn at hc
  split at hc
  · rename_i c' d' cd' sl' ho
    intro A' Q' E' s' k q
    unfold isType loadHead
    exact wpAny_bind (wpAny_loadPart (k _ _ (X _ _ ho)) (wpAny_pure q))
  · cases hc
 ne := fun h tp dd its n sl X htp => by
  have q := Z.mo
  unfold mroIn at q
  obtain ⟨cd, hc, _⟩ := Option.bind_eq_some_iff.mp q
  refine Bool.eq_false_iff.mpr fun q => ?_
  have e : D = tp := Value.ref.inj (beq_iff_eq.mp q)
  subst e
  unfold clsIn at hc
  split at hc
  · rename_i c' d' cd' sl' ho
    have z := (X _ _ ho).symm.trans htp
    cases z
  · cases hc
 ca := fun X I k => xc_attr Z X I k
end
theorem boot_VE : bootBuiltins "ValueError" = some (.type "ValueError") := by decide +kernel
noncomputable def rIsiX (K : PySem.W.Frag) (a D : Addr) : List V → Hp → VK → Prop := fun xs H Q => (∃ c b, xs = [.ref a, .ref c] ∧ kitOne K (.ref D) (.ref c) = some b ∧ Q (.bl b) H) ∨ (∃ T b, xs = [.ref a, .ty T] ∧ kitOne K (.ref D) (.type T) = some b ∧ Q (.bl b) H) ∨
 ∃ (t : Addr) (cs : List Addr) (b : Bool), xs = [.ref a, .ref t] ∧ H t = some (.tup (cs.map V.ref)) ∧ kitAny K (.ref D) (cs.map Value.ref) = some b ∧ Q (.bl b) H
theorem vals_refs : ∀ {cs : List Addr} {its : List Value}, Vals (cs.map V.ref) its → its = cs.map Value.ref
 | [], its, h => by cases h; rfl
 | c :: cs, its, h => by
   cases h with
   | cons r h => rw [vals_refs h, show _ = Value.ref c from r]; rfl
theorem call_isiX {X : Cx} {a D : Addr} {oe : Obj} {pins : List (Addr × Obj)} (Z : XcI X.K D) (hc : oe.cls = .ref D) : CallR (X.excE a oe pins) (.builtin "isinstance") (rIsiX X.K a D) := by
 intro pins' s σ H xs us Q I r h
 have ex : ExAt s.heap a D := ⟨oe, (I.pin (a, oe) (List.mem_append_left _ (List.mem_append_right _ List.mem_cons_self))).1, hc⟩
 have kin : X.K.In s.heap := I.kIn
 rcases h with ⟨c, b, rfl, e, q⟩ | ⟨T, b, rfl, e, q⟩ | ⟨t, cs, b, rfl, ht, e, q⟩
 · obtain ⟨u, w', rfl, ru, rw'⟩ := vals2 r
   cases (show u = Value.ref a from ru)
   cases (show w' = Value.ref c from rw')
   exact kia_one (kitx_exc Z) kin ex e (fun z => nomatch z) fun tk => ⟨.bl b, H, I.tok tk, rfl, q⟩
 · obtain ⟨u, w', rfl, ru, rw'⟩ := vals2 r
   cases (show u = Value.ref a from ru)
   cases rw'
   exact kia_one (kitx_exc Z) kin ex e (fun z => nomatch z) fun tk => ⟨.bl b, H, I.tok tk, rfl, q⟩
 · obtain ⟨u, w', rfl, ru, rw'⟩ := vals2 r
   cases (show u = Value.ref a from ru)
   cases (show w' = Value.ref t from rw')
   obtain ⟨its, rv, ⟨o, h1, h2, n, h3⟩, _⟩ := I.tuple (SqT.of ht)
   have ei := vals_refs rv
   subst ei
   obtain ⟨oc, od, oda, osl⟩ := o
   cases h2
   cases h3
   exact kia_tup (kitx_exc Z) kin ex h1 e (fun z => nomatch z) fun tk => ⟨.bl b, H, I.tok tk, rfl, q⟩
end L2

namespace L2
open PySem PySem.Spec PyProof PyProof.Rows PySem.W
section
variable {K : PySem.W.Frag} {C : Addr} {pos : Pos} {G G' : Hp} {d tb p pd lp wa : Addr} {W W' : Wb} {Ws Ws' : List Wb} {W0 : Wb} {A : Int × Int}
end
theorem kit_self {K : PySem.W.Frag} {t : Value} : PySem.W.kitOne K t t = some true := by unfold PySem.W.kitOne; rw [if_pos (beq_self_eq_true _)]
end L2

namespace L2
open PySem PySem.Spec PyProof.Rows PySem.W
noncomputable def txE (e : Int × Value) : Str := match e.2 with
 | .str x _ => x
 | _ => ⟨#[]⟩
noncomputable def SetT (w : World) (led : Bool) (h : Heap) (a : Addr) (xs : List Str) : Prop := ∃ es ep t, h.get? a = some { cls := .type "set", dict := none, data := .set es ep t, slots := #[] } ∧ (∀ e ∈ es.toList, ∃ x tk, e = (hashStr w x, Value.str x tk)) ∧ (es.toList.map txE).Perm xs ∧ xs.Nodup ∧ es.size < scanBound ∧ t.fits es.size = true ∧ t.led = led ∧ (xs = [] ∨ t.plain = false)
theorem orStand_led (t : SetTable) (n : Nat) : (t.orStandIn n).led = t.led := by unfold SetTable.orStandIn; split <;> rfl
theorem layNew_led (t : SetTable) (es : Array (Int × Value)) (h : Int) (x : Value) : (layNew t es h x).2.1.led = t.led := by
 unfold layNew
 split
 · rw [orStand_led]; rfl
 · rfl
theorem relaid_led {t t' : SetTable} {hs : Array Int} {n : Nat} {o : Array Nat} (e : t.relaid hs n = some (t', o)) : t'.led = t.led ∧ t'.plain = t.plain := by
 unfold SetTable.relaid SetTable.laid at e
 obtain ⟨ow, _, e2⟩ := Option.bind_eq_some_iff.mp e
 cases e2
 exact ⟨rfl, rfl⟩
theorem relayAll_led (t : SetTable) (es : Array (Int × Value)) (n : Nat) : (relayAll t es n).2.1.led = t.led ∧ (t.plain = false → (relayAll t es n).2.1.plain = false) := by
 unfold relayAll
 split
 · rename_i t' o e
   have := relaid_led e
   dsimp only
   split
   · exact ⟨this.1, fun q => this.2.trans q⟩
   · exact ⟨rfl, fun _ => rfl⟩
 · exact ⟨rfl, fun _ => rfl⟩
section
variable {prog : Program} {w : World} {A : Around} {E : Value → Shared → Prop} {s : Shared}
theorem SetT.elems {led : Bool} {es : Array (Int × Value)} (h : ∀ e ∈ es.toList, ∃ x tk, e = (hashStr w x, Value.str x tk)) : ElemsOf (strKind prog w) es.toList := fun e he => by
 obtain ⟨x, tk, rfl⟩ := h e he
 exact ⟨⟨x, strKind_is prog w x tk, rfl⟩, rfl⟩
theorem set_put {a : Addr} {es es' : Array (Int × Value)} {ep : Nat} {t t' : SetTable} {h : Heap} (e : h.get? a = some { cls := .type "set", dict := none, data := .set es ep t, slots := #[] }) :
 (h.update a (Obj.putSet es' t')).get? a = some { cls := .type "set", dict := none, data := .set es' (ep + 1) t', slots := #[] } := by
 have := Heap.get?_update_self (Obj.putSet es' t') e (by rw [putSet_of es' t' rfl]; rfl)
 rw [putSet_of es' t' rfl] at this
 exact this
set_option maxHeartbeats 1600000 in
theorem add_text {a : Addr} {led : Bool} {xs : List Str} {x : Str} {tk : Tok} {Q : Bool → Shared → Prop} (hS : SetT w led s.heap a xs) (hroom : xs.length + 1 < scanBound)
 (h : ∀ h' b, Heap.SameBut a s.heap h' → SetT w led h' a (if x ∈ xs then xs else xs ++ [x]) → Q b { s with heap := h' }) : wpAny (model prog w) A (setAddHashed a (.str x tk) (hashStr w x)) Q E s := by
 obtain ⟨es, ep, t, ho, hel, hp, nd, hb, hf, hl, hpl⟩ := id hS
 have hK : ElemsOf (strKind prog w) es.toList := SetT.elems (led := led) hel
 have hkey := strKind_is prog w x tk
 have hsz : es.size = xs.length := by rw [← hp.length_eq, List.length_map, Array.length_toList]
 have mem : x ∈ xs ↔ ∃ e ∈ es.toList, (strKind prog w).is x e.2 = true := by
  rw [← hp.mem_iff, List.mem_map]
  constructor
  · rintro ⟨e, he, q⟩
    obtain ⟨y, u, rfl⟩ := hel e he
    refine ⟨_, he, ?_⟩
    cases (show y = x from q)
    exact strKind_is prog w x u
  · rintro ⟨e, he, q⟩
    obtain ⟨y, u, rfl⟩ := hel e he
    exact ⟨_, he, (strKind prog w).inj _ _ _ (strKind_is prog w y u) q⟩
 unfold setAddHashed setAddHashedIn
 refine wpAny_holding (wpAny_bind (wpAny_setState_of ho rfl hf ?_))
 dsimp only
 rw [if_pos (byScan_of rfl hb hK)]
 unfold setAddByScan
 refine wpAny_bind (wpAny_bind (wpAny_rule (wpAny_bind (wpAny_setScan_of (k := x) hkey ho rfl hf hK ?_))))
 cases hr : List.findIdx? (fun e => (strKind prog w).is x e.2) es.toList with
 | some j =>
   obtain ⟨hj, hpj, _⟩ := List.findIdx?_eq_some_iff_getElem.mp hr
   have hin : x ∈ xs := mem.mpr ⟨_, List.getElem_mem hj, hpj⟩
   rw [if_pos hin] at h
   exact wpAny_pure (wpAny_pure (h s.heap false (Heap.SameBut.refl a s.heap) hS))
 | none =>
   have hin : x ∉ xs := fun z => by
    obtain ⟨e, he, q⟩ := mem.mp z
    have := List.findIdx?_eq_none_iff.mp hr e he
    rw [q] at this
    cases this
   rw [if_neg hin] at h
   dsimp only
   have hgw : ∀ (b : Bool) {s₁ : Shared} {Q' : Unit → Shared → Prop}, Q' () s₁ → wpAny (model prog w) A (match b with | true => rule "set.scan.the-table-gave-way" | false => pure ()) Q' E s₁ := by
    intro b s₁ Q' hq
    cases b
    · exact wpAny_pure hq
    · exact wpAny_rule hq
   have q1 := layNew_perm t es (hashStr w x) (.str x tk)
   have q2 := layNew_fits t es (hashStr w x) (.str x tk)
   have q3 := layNew_led t es (hashStr w x) (.str x tk)
   show wpAny _ _ ((fun (L : Array (Int × Value) × SetTable × Bool × Bool) => _) (layNew t es (hashStr w x) (.str x tk))) _ _ _
   generalize layNew t es (hashStr w x) (.str x tk) = L at q1 q2 q3 ⊢
   obtain ⟨es1, t1, wd, gave⟩ := L
   dsimp only at q1 q2 q3 ⊢
   rw [Array.toList_push] at q1
   have hel1 : ∀ e ∈ es1.toList, ∃ y u, e = (hashStr w y, Value.str y u) := fun e he => by
    rcases List.mem_append.mp (q1.mem_iff.mp he) with z | z
    · exact hel e z
    · exact ⟨x, tk, List.mem_singleton.mp z⟩
   have hp1 : (es1.toList.map txE).Perm (xs ++ [x]) := (q1.map txE).trans (by rw [List.map_append]; exact List.Perm.append_right _ hp)
   have nd1 : (xs ++ [x]).Nodup := List.nodup_append.mpr ⟨nd, by simp, fun y hy z hz e => by rw [List.mem_singleton.mp hz] at e; exact hin (e ▸ hy)⟩
   have sz1 : es1.size = xs.length + 1 := by rw [← Array.length_toList, q1.length_eq, List.length_append, Array.length_toList, hsz]; rfl
   have hb1 : es1.size < scanBound := by omega
   refine wpAny_bind (hgw gave ?_)
   have tail : ∀ t2 : SetTable, t2.fits es1.size = true → t2.led = led → t2.plain = false → ∀ (g : Bool → Sem Unit), (∀ (b : Bool) {s₁ : Shared} {Q' : Unit → Shared → Prop}, Q' () s₁ → wpAny (model prog w) A (g b) Q' E s₁) → wpAny (model prog w) A (do
    storeSet a es1 t2
    if (!wd && t2.tooFull) = true then do
        g (relayAll t2 es1 (SetTable.grown es1.size)).2.2
        storeSet a (relayAll t2 es1 (SetTable.grown es1.size)).1 (relayAll t2 es1 (SetTable.grown es1.size)).2.1
        pure (some true)
     else pure (some true)) (fun r s' => wpAny (model prog w) A (match r with | some added => pure added | none => setAddHashedIn a (.str x tk) (hashStr w x) 99999) Q E s') E s := by
    intro t2 f2 l2 p2 g hg
    have hb1' := fits_of_scanBound hb1
    refine wpAny_bind (wpAny_storeSet_of ho rfl ?_ hb1')
    have o1 := set_put (es' := es1) (t' := t2) ho
    have sb1 := Heap.SameBut.update s.heap a (Obj.putSet es1 t2)
    split
    · have r1 := relayAll_perm t2 es1 (SetTable.grown es1.size)
      have r2 := relayAll_fits t2 es1 (SetTable.grown es1.size)
      have r3 := relayAll_led t2 es1 (SetTable.grown es1.size)
      generalize relayAll t2 es1 (SetTable.grown es1.size) = R at r1 r2 r3 ⊢
      obtain ⟨es2, t3, g2⟩ := R
      dsimp only at r1 r2 r3 ⊢
      have sz2 : es2.size = es1.size := by rw [← Array.length_toList, r1.length_eq, Array.length_toList]
      refine wpAny_bind (hg g2 (wpAny_bind (wpAny_storeSet_of o1 rfl ?_ (by rw [sz2]; exact hb1'))))
      exact wpAny_pure (wpAny_pure (h _ true (sb1.trans (Heap.SameBut.update _ a _)) ⟨es2, _, t3, set_put o1, fun e he => hel1 e (r1.mem_iff.mp he), (r1.map txE).trans hp1, nd1, by omega, r2, r3.1.trans l2, .inr (r3.2 p2)⟩))
    · exact wpAny_pure (wpAny_pure (h _ true sb1 ⟨es1, _, t2, o1, hel1, hp1, nd1, hb1, f2, l2, .inr p2⟩))
   cases hpl1 : t1.plain with
   | true =>
     refine wpAny_bind (wpAny_of_eq (hashByValue_scannable 8 rfl) ?_)
     exact tail { t1 with plain := false } (SetTable.fits_plain_off q2) (q3.trans hl) rfl _ hgw
   | false =>
     refine wpAny_bind (wpAny_pure ?_)
     exact tail t1 q2 (q3.trans hl) hpl1 _ hgw
end
end L2

namespace L2
open PySem PySem.Spec PyProof.Rows PySem.W
theorem SetT.keep {w : World} {led : Bool} {h h' : Heap} {a : Addr} {xs : List Str} (x : SetT w led h a xs) (k : ∀ o, h.get? a = some o → h'.get? a = some o) : SetT w led h' a xs := by
 obtain ⟨es, ep, t, e, r⟩ := x
 exact ⟨es, ep, t, k _ e, r⟩
noncomputable def MetX (val : Nat → Str) (i : Nat) (xs : List Str) : Prop := xs.length ≤ i ∧ ∀ y, y ∈ xs ↔ ∃ j, j < i ∧ val j = y
theorem MetX.next {val : Nat → Str} {i : Nat} {xs : List Str} (h : MetX val i xs) : MetX val (i + 1) (if val i ∈ xs then xs else xs ++ [val i]) := by
 obtain ⟨a, b⟩ := h
 by_cases hx : val i ∈ xs
 · rw [if_pos hx]
   refine ⟨by omega, fun y => ⟨fun z => ?_, fun ⟨j, hj, e⟩ => ?_⟩⟩
   · obtain ⟨j, hj, e⟩ := (b y).mp z
     exact ⟨j, by omega, e⟩
   · by_cases q : j = i
     · rw [← e, q]; exact hx
     · exact (b y).mpr ⟨j, by omega, e⟩
 · rw [if_neg hx]
   refine ⟨by rw [List.length_append, List.length_singleton]; omega, fun y => ⟨fun z => ?_, fun ⟨j, hj, e⟩ => ?_⟩⟩
   · rcases List.mem_append.mp z with z | z
     · obtain ⟨j, hj, e⟩ := (b y).mp z
       exact ⟨j, by omega, e⟩
     · exact ⟨i, by omega, (List.mem_singleton.mp z).symm⟩
   · by_cases q : j = i
     · rw [← e, q]; exact List.mem_append_right _ (List.mem_singleton.mpr rfl)
     · exact List.mem_append_left _ ((b y).mpr ⟨j, by omega, e⟩)
section
variable {prog : Program} {w : World} {A : Around} {R : Result → Shared → Prop} {I : Addr} {fp wr : List Addr} {G : Array GenState → Array GenState → Prop} {n : Nat} {P : Nat → Value → Prop} {St : Nat → Shared → Prop}
theorem txt_loop (W : WalksS prog w A.in1 I fp wr G n P St) (S : Addr) (hSf : S ∉ fp) (led : Bool) (val : Nat → Str) (hval : ∀ i v, P i v → ∃ t, v = .str (val i) t) (hb : n + 1 < scanBound) :
 ∀ (k i : Nat) (s : Shared) (xs : List Str), n - i = k → i ≤ n → St i s → SetT w led s.heap S xs → MetX val i xs →
   (∀ s' ys, Moved (S :: wr) G s s' → SetT w led s'.heap S ys → MetX val n ys → R (.ok (.ret .none)) s') →
   codeAny (model prog w) A (.builtin "set.update.loop" ⟨[.ref S, .ref I], []⟩) R s := by
 have hSw : S ∉ wr := fun h => hSf (W.sub _ h)
 have hsub : ∀ b ∈ wr, b ∈ S :: wr := fun b hb => List.mem_cons_of_mem _ hb
 intro k
 induction k with
 | zero =>
   intro i s xs hk hi hst hS hM hR
   obtain rfl : i = n := by omega
   refine codeAny_builtin PyProof.Rows.F.entry_set_update_loop ?_
   rw [Around.under_plainId PyProof.Rows.F.plain_set_update_loop _]
   show wpAny _ A.in1 (pyNext (.ref I) >>= _) _ _ s
   refine wpAny_bind (W.done s _ _ hst fun s' hm => ?_)
   show wpAny _ A.in1 (ret Value.none) _ _ s'
   exact wpAny_pure (hR s' xs (hm.mono hsub) (hS.keep fun o e => hm.heap S o hSw e) hM)
 | succ k ih =>
   intro i s xs hk hi hst hS hM hR
   have hlt : i < n := by omega
   refine codeAny_builtin PyProof.Rows.F.entry_set_update_loop ?_
   rw [Around.under_plainId PyProof.Rows.F.plain_set_update_loop _]
   show wpAny _ A.in1 (pyNext (.ref I) >>= _) _ _ s
   refine wpAny_bind (W.item i s _ _ hlt hst fun v s' hP hst' hm => ?_)
   obtain ⟨t, rfl⟩ := hval i v hP
   have hS' := hS.keep fun o e => hm.heap S o hSw e
   show wpAny _ A.in1 (holding [Value.str (val i) t] (setAdd S (.str (val i) t)) >>= _) _ _ s'
   refine wpAny_bind (wpAny_holding ?_)
   unfold setAdd
   refine wpAny_holding (wpAny_bind ((strKind prog w).pyHash (k := val i) (strKind_is prog w (val i) t) ?_))
   refine add_text (s := { s' with toks := s'.toks + 1 }) hS' (by have := hM.1; omega) fun h' b hsb hS2 => ?_
   refine wpAny_pure ⟨plainId_quiet PyProof.Rows.F.plain_set_update_loop _, ih (i + 1) _ _ (by omega) hlt (W.frame _ s' _ _ hst' (Nat.le_add_right _ _) fun b hb o e => ?_) hS2 hM.next fun s'' ys hm'' hS'' => ?_⟩
   · rw [hsb.2 b (fun h : b = S => hSf (by rw [← h]; exact hb))]; exact e
   · refine hR s'' ys (Moved.trans W.gtrans ((hm.mono hsub).then_heap (Nat.le_add_right _ _) fun b o hb e => ?_) hm'') hS''
     rw [hsb.2 b (fun h : b = S => hb (by rw [h]; exact List.mem_cons_self))]; exact e
end
noncomputable def byTx (w : World) : Bool := w.params.followText "set-order"
section
variable {prog : Program} {w : World} {A : Around} {E : Value → Shared → Prop} {s : Shared}
theorem set_newL (a : Value) {Q₁ : Value → Shared → Prop} (h : Q₁ (.ref s.heap.objs.size) { s with heap := s.heap.push (freshSet (!byTx w)) }) : codeAny (model prog w) A (.call (.builtin "set.__new__") ⟨[.type "set", a], []⟩) (wants Q₁ E) s := by
 refine codeAny_of_tree ?_
 show wpAny _ A.in1 (do checkBuiltinCall "set.__new__" ⟨[.type "set", a], []⟩; (again (.builtin "set.__new__" ⟨[.type "set", a], []⟩))) _ _ s
 refine wpAny_bind (wpAny_of_eq (PySem.F.newCall_set_1 a) (wpAny_pure ⟨plainId_quiet F.plain_set_new _, codeAny_builtin F.entry_set_new (?_)⟩))
 rw [Around.under_plainId (F.plain_set_new) _]
 unfold Builtin.«set.__new__» Builtin.Frozenset.newClass
 have hsub := sub_set_self
 obtain ⟨hp, g, d, tk, os⟩ := s
 dsimp only
 wp_walk
 refine wpAny_askSetting (wpAny_pure ?_)
 dsimp only
 simp only [newObj]
 exact wpAny_bind (wpAny_alloc (wpAny_pure (wpAny_pure h)))
noncomputable def ltr (x : Str) (i : Nat) : Str := ⟨#[x.cps.getD i 0]⟩
theorem ltr_of {x : Str} {i : Nat} {v : Value} (h : SignAt x i v) : ∃ t, v = .str (ltr x i) t := by
 obtain ⟨c, u, e, rfl⟩ := h
 refine ⟨u, ?_⟩
 unfold ltr
 rw [Array.getD_eq_getD_getElem?, e]
 rfl
theorem setT_fresh (led : Bool) (h : Heap) : SetT w led (h.push (freshSet led)) h.objs.size [] :=
 ⟨#[], 0, .fresh 0 0 led, Heap.get?_push_size _ rfl, fun e he => by simp at he, by simp, .nil, by decide, rfl, rfl, .inl rfl⟩
set_option maxHeartbeats 3200000 in
theorem call_set_text {x : Str} {tx : Tok} {Q : Value → Shared → Prop} (hh : A.handled = none) (hx : x.cps.size ≤ 1000)
 (h : ∀ (h' : Heap) (tk : Nat) (xs : List Str), SetT w (!byTx w) h' s.heap.objs.size xs → MetX (ltr x) x.cps.size xs → (∀ b o, s.heap.get? b = some o → h'.get? b = some o) → Q (.ref s.heap.objs.size) { s with heap := h', toks := tk }) :
 wpAny (model prog w) A (call (.type "set") [.str x tx]) Q E s := by
 obtain ⟨c, tl, hmro⟩ := F.called_set.mro
 have hmade := F.called_set.made
 have hsub := F.called_set.sub
 refine wpAny_call (codeAny_of_tree ?_)
 show wpAny _ _ (callAny (.type "set") _) _ _ _
 refine wpAny_pure ⟨Code.quiet_builtin _ (by decide +kernel), codeAny_builtin F.entry_type_call ?_⟩
 rw [Around.under_plain (weight_type_call_type "set" [.str x tx] []) rfl]
 have hA1 := F.called_set.notType
 have hA2 := F.called_set.canCreate
 have hct := F.typeCall_set_1 (.str x tx)
 repeat (any_goals (first | assumption | wp_step))
 refine codeAny_mono (set_newL (.str x tx) (E := E) (Q₁ := fun obj s₁ => obj = .ref s.heap.objs.size ∧ s₁ = { s with heap := s.heap.push (freshSet (!byTx w)) }) ⟨rfl, rfl⟩) fun r s₁ hr => ?_
 cases r with
 | error e => exact hr
 | ok fl =>
   cases fl with
   | ret obj =>
     obtain ⟨rfl, rfl⟩ := hr
     have hS : (s.heap.push (freshSet (!byTx w))).get? s.heap.objs.size = some (freshSet (!byTx w)) := Heap.get?_push_size _ rfl
     have hT : Shared.TypeIs { s with heap := s.heap.push (freshSet (!byTx w)) } (.ref s.heap.objs.size) "set" := ⟨_, hS, rfl⟩
     have hli := F.called_set.init.lookup
     have hbi := F.called_set.init.bind (.ref s.heap.objs.size)
     repeat (any_goals (first | assumption | wp_step))
     refine codeAny_mono (codeAny_call_builtin (R := wants (fun r s₂ => r = .none ∧ ∃ h' tk xs, s₂ = { s with heap := h', toks := tk } ∧ SetT w (!byTx w) h' s.heap.objs.size xs ∧ MetX (ltr x) x.cps.size xs ∧
      (∀ b o, s.heap.get? b = some o → h'.get? b = some o)) E) F.called_set.init.plain F.entry_set_init (check_set_init_1 hT ?_)) fun r₂ s₂ hr₂ => ?_
     · have hsls : isSubtype (.type "str") (.type "set") = pure false := by rw [isSubtype_type]; kernel_rfl
       have hslf : isSubtype (.type "str") (.type "frozenset") = pure false := by rw [isSubtype_type]; kernel_rfl
       have hne : (Value.type "str" == Value.type "dict") = false := by decide
       unfold Builtin.«set.__init__» noKeywords Builtin.Frozenset.updateFrom
       generalize hPI : pyIter = PI
       wp_walk
       subst hPI
       refine wpAny_pyIter_str fun o Stt Wk st0 => ?_
       refine wpAny_bind (wpAny_runValue ?_)
       have hszp : (s.heap.push (freshSet (!byTx w))).objs.size = s.heap.objs.size + 1 := Heap.size_push ..
       have hh3 : A.in1.in1.in1.handled = none := by simp [hh]
       refine txt_loop ((Wk _ hh3).toS) s.heap.objs.size (by rw [hszp]; simp) (!byTx w) (ltr x) (fun i v hv => ltr_of hv) (by have : scanBound = 4096 := rfl; omega) (x.cps.size - 0) 0 _ [] (by omega) (Nat.zero_le _) st0 ((setT_fresh _ _).keep fun o e => Heap.get?_push_of_some _ e) ⟨Nat.le_refl _, fun y => ⟨fun z => by simp at z, fun ⟨j, hj, _⟩ => by omega⟩⟩ fun s' ys hm hS' hM => ?_
       obtain ⟨h', g', d', tk', os'⟩ := s'
       have eg : g' = s.gens := hm.gens
       have ed : d' = s.drawn := hm.drawn
       have eo : os' = s.os := hm.os
       subst eg; subst ed; subst eo
       show wpAny _ _ _ _ _ _
       refine wpAny_pure ?_
       show wpAny _ _ (ret Value.none) _ _ _
       refine wpAny_pure ⟨rfl, h', tk', ys, rfl, hS', hM, fun b o e => ?_⟩
       have hb := Heap.lt_size e
       exact hm.heap b o (by rw [hszp]; simp only [List.mem_cons, List.mem_singleton, List.not_mem_nil, or_false, not_or]; exact ⟨Nat.ne_of_lt hb, Nat.ne_of_lt (Nat.lt_succ_of_lt hb)⟩) (Heap.get?_push_of_some _ (Heap.get?_push_of_some _ e))
     · cases r₂ with
       | error e => exact hr₂
       | ok fl₂ =>
         cases fl₂ with
         | ret r =>
           obtain ⟨rfl, h', tk, ys, rfl, hS', hM, hk'⟩ := hr₂
           repeat (any_goals (first | assumption | wp_step))
           exact h _ _ _ hS' hM hk'
         | _ => exact hr₂.elim
   | _ => exact hr.elim
end
end L2

namespace L2
open PySem PySem.Spec PyProof.Rows PySem.W
theorem idx_perm {α : Type} : ∀ {l : List α} {i : Nat} (h : i < l.length), (l[i] :: l.eraseIdx i).Perm l
 | x :: l, 0, h => List.Perm.refl _
 | x :: l, i + 1, h => by
   have h' : i < l.length := by simpa using h
   exact (List.Perm.swap x l[i] _).trans (List.Perm.cons x (idx_perm h'))
theorem go_perm {α : Type} (next : Nat → Nat) : ∀ (fuel k : Nat) (left : List α) (out : Array α), left.length = fuel → (pickOrder.go next fuel k left out).toList.Perm (out.toList ++ left)
 | 0, k, left, out, h => by
   rw [List.length_eq_zero_iff.mp h]
   show out.toList.Perm _
   rw [List.append_nil]
 | fuel + 1, k, left, out, h => by
   unfold pickOrder.go
   have hl : next k % left.length < left.length := Nat.mod_lt _ (by omega)
   rw [List.getElem?_eq_getElem hl]
   dsimp only
   refine (go_perm next fuel (k + 1) _ _ (by rw [List.length_eraseIdx_of_lt hl]; omega)).trans ?_
   rw [Array.toList_push, List.append_assoc]
   exact List.Perm.append_left _ (idx_perm hl)
theorem pick_perm {α : Type} (next : Nat → Nat) (xs : Array α) : (pickOrder next xs).toList.Perm xs.toList := by
 have := go_perm next xs.size 0 xs.toList #[] (Array.length_toList)
 simpa [pickOrder] using this
section
variable {prog : Program} {w : World} {A : Around} {E : Value → Shared → Prop} {s : Shared}
theorem choose_ok {M : Model} {src : Source} {n : Nat} {Q : Nat → Shared → Prop} (hn : n ≠ 0) (h : ∀ i d, i < n → Q i { s with drawn := d }) : wpAny M A (choose src n) Q E s := fun Γ p hΓ => by
 unfold choose
 rw [Sem.wp_choose]
 exact ⟨hn, wpAny_pure (h _ _ (Nat.mod_lt _ (by omega))) Γ p hΓ⟩
theorem draw_ok {M : Model} {α : Type} : ∀ {n : Nat} {xs : List α} {s : Shared} {Q : List α → Shared → Prop}, xs.length = n → (∀ ys d, ys.Perm xs → Q ys { s with drawn := d }) → wpAny M A (drawOrder n xs) Q E s
 | 0, xs, s, Q, hl, h => by
   rw [List.length_eq_zero_iff.mp hl] at h ⊢
   exact wpAny_pure (h [] s.drawn .nil)
 | n + 1, [], s, Q, hl, h => by simp at hl
 | n + 1, x :: xs, s, Q, hl, h => by
   unfold drawOrder
   refine wpAny_bind (choose_ok (by simp) fun i d hi => ?_)
   rw [List.getElem?_eq_getElem hi]
   dsimp only
   refine wpAny_bind (draw_ok (by rw [List.length_eraseIdx_of_lt hi]; omega) fun ys d' hp => wpAny_pure (h _ d' ?_))
   exact (List.Perm.cons _ hp).trans (idx_perm hi)
theorem raise_stop {M : Model} {α : Type} {Q : α → Shared → Prop} (hh : A.handled = none) (h : ∀ h' e o, (∀ b o, s.heap.get? b = some o → h'.get? b = some o) → h'.get? e = some o → o.cls = .type "StopIteration" → E (.ref e) { s with heap := h' }) :
 wpAny M A (newExc (.type "StopIteration") [] >>= fun e => (raiseNew e : Sem α)) Q E s := by
 refine wpAny_bind ?_
 simp only [newExc, newTuple]
 refine wpAny_bind (wpAny_newObj_type ?_ (by size_fits))
 refine wpAny_bind (m := firstArgMember _ _) (wpAny_of_eq (a := Value.none) (by first | rfl | (simp only [firstArgMember]; rfl)) ?_)
 refine wpAny_newObj_type ?_ (by size_fits)
 simp only [raiseNew]
 refine wpAny_bind (wpAny_handled ?_)
 rw [hh]
 exact wpAny_bind (wpAny_pure (wpAny_throw (h _ _ _ (fun b o e => Heap.get?_push_of_some _ (Heap.get?_push_of_some _ e)) (Heap.get?_push_size _ rfl) rfl)))
end
noncomputable abbrev SetIt (h : Heap) (I : Addr) (first : Value) (i : Int) (S : Addr) (n ep : Nat) : Prop := h.get? I = some { cls := .type "set_iterator", dict := none, data := .fields #[first, rawInt i, .ref S, rawInt n, rawInt ep], slots := #[] }
noncomputable abbrev SetO (h : Heap) (S : Addr) (es : Array (Int × Value)) (ep : Nat) (t : SetTable) : Prop := h.get? S = some { cls := .type "set", dict := none, data := .set es ep t, slots := #[] }
namespace SF
theorem slot_next : Slot "set_iterator" "__next__" "set_iterator.__next__" :=
 .of (owner := "set_iterator") (n := "__next__") (by rw [typeLookup_type, builtinLookup_eq_fast]; kernel_rfl) (by decide +kernel) (by decide +kernel) (by decide +kernel) (by first | exact .inl (by decide +kernel) | exact .inr (by decide +kernel)) (by rw [isSubtype_type]; kernel_rfl)
theorem slot_iter : Slot "set_iterator" "__iter__" "set_iterator.__iter__" :=
 .of (owner := "set_iterator") (n := "__iter__") (by rw [typeLookup_type, builtinLookup_eq_fast]; kernel_rfl) (by decide +kernel) (by decide +kernel) (by decide +kernel) (by first | exact .inl (by decide +kernel) | exact .inr (by decide +kernel)) (by rw [isSubtype_type]; kernel_rfl)
theorem entry_next : entryFor table "set_iterator.__next__" = some Builtin.«set_iterator.__next__» := entryFor_of_tree (by kernel_rfl)
theorem entry_iter : entryFor table "set_iterator.__iter__" = some Builtin.«dict_keyiterator.__iter__» := entryFor_alias (id' := "dict_keyiterator.__iter__") (by kernel_rfl) rfl (by decide +kernel) (by kernel_rfl)
theorem entry_siter : entryFor table "set.__iter__" = some Builtin.«frozenset.__iter__» := entryFor_alias (id' := "frozenset.__iter__") (by kernel_rfl) rfl (by decide +kernel) (by kernel_rfl)
theorem args_next (a : Value) : argsOk "set_iterator.__next__" ⟨[a], []⟩ := by unfold argsOk; kernel_rfl
theorem args_iter (a : Value) : argsOk "set_iterator.__iter__" ⟨[a], []⟩ := by unfold argsOk; kernel_rfl
theorem args_siter (a : Value) : argsOk "set.__iter__" ⟨[a], []⟩ := by unfold argsOk; kernel_rfl
end SF
section
variable {prog : Program} {w : World} {A : Around} {E : Value → Shared → Prop} {s : Shared} {I S tp : Addr} {i n ep : Nat} {es : Array (Int × Value)} {t : SetTable} {first : Value}
theorem SetIt.typeIs {j : Int} (h : SetIt s.heap I first j S n ep) : s.TypeIs (.ref I) "set_iterator" := ⟨_, h, rfl⟩
theorem next_open {Q : Fin → Shared → Prop} (hI : SetIt s.heap I first (i : Int) S es.size ep) (hS : SetO s.heap S es ep t) (hf : t.fits es.size = true)
 (h : wpAny (model prog w) A (match first with
  | .int slot _ => do
    match ← setNext S slot.toNat ((i : Int)).toNat ((ep : Int)).toNat with
    | some (x, next) =>
      setField (.ref I) 0 (rawInt next)
      setField (.ref I) 1 (rawInt ((i : Int) + 1))
      ret x
    | none => setField (.ref I) 2 .none; raiseNew (← newExc (.type "StopIteration") [])
  | _ => do
    let some places ← seqItems? first | unsupported "internal:set_iterator"
    match places[((i : Int)).toNat]? with
    | some (.int place _) =>
      let x ← setNextDrawn S place.toNat ((ep : Int)).toNat
      setField (.ref I) 1 (rawInt ((i : Int) + 1))
      ret x
    | some _ => unsupported "internal:set_iterator"
    | none => setField (.ref I) 0 (rawInt 0); setField (.ref I) 2 .none; raiseNew (← newExc (.type "StopIteration") [])) Q E s) :
 wpAny (model prog w) A (Builtin.«set_iterator.__next__» ⟨[.ref I], []⟩) Q E s := by
 unfold Builtin.«set_iterator.__next__»
 show wpAny _ _ (fieldsOf (.ref I) >>= _) _ _ _
 unfold fieldsOf
 refine wpAny_bind (wpAny_bind (wpAny_load hI (wpAny_pure ?_)))
 show wpAny _ _ (setEntries S >>= _) _ _ _
 refine wpAny_bind (wpAny_setEntries_of hS rfl hf ?_)
 dsimp only
 rw [if_neg (by simp)]
 exact h
theorem pyNext_set {j : Int} {Q : Option Value → Shared → Prop} (hI : SetIt s.heap I first j S n ep) (h : wpAny (model prog w) A.in1 (Builtin.«set_iterator.__next__» ⟨[.ref I], []⟩) (fun fin s' => ∃ v, fin = .done (.ret v) ∧ Q (some v) s') (fun e s' => ∃ a o, e = .ref a ∧ s'.heap.get? a = some o ∧ o.cls = .type "StopIteration" ∧ Q none s') s) : wpAny (model prog w) A (pyNext (.ref I)) Q E s := by
 unfold pyNext
 refine wpAny_bind (wpAny_attempt (wpAny_callSpecial?_slot (name := Str.ofString "__next__") hI.typeIs SF.slot_next (wpAny_call_entry SF.slot_next hI.typeIs SF.entry_next ?_ (SF.args_next _))))
 refine wpAny_mono h (fun fin s' hv => ?_) fun e s' he => ?_
 · obtain ⟨v, rfl, q⟩ := hv
   exact ⟨v, rfl, wpAny_pure q⟩
 · obtain ⟨a, o, rfl, ho, hc, q⟩ := he
   exact wpAny_bind (wpAny_isInstance (T := "StopIteration") (b := true) ⟨o, ho, hc⟩ isSubtype_stop (wpAny_pure q))
theorem iter_self {j : Int} {Q : Value → Shared → Prop} (hI : SetIt s.heap I first j S n ep) (h : Q (.ref I) s) : wpAny (model prog w) A (pyIter (.ref I)) Q E s := by
 refine wpAny_pyIter_slot hI.typeIs SF.slot_iter (wpAny_call_entry SF.slot_iter hI.typeIs SF.entry_iter ?_ (SF.args_iter _))
 show wpAny _ _ (ret (.ref I)) _ _ s
 exact wpAny_pure ⟨_, rfl, "set_iterator", _, hI.typeIs, SF.slot_next.lookup, h⟩
end
section
variable {prog : Program} {w : World} {A : Around} {I S tp : Addr} {n ep : Nat} {es : Array (Int × Value)} {t : SetTable}
theorem walks_drawn {ord : List Nat} {od : Option Addr} {c : Nat} {osl : Array (Option Value)} (hh : A.handled = none) (hf : t.fits es.size = true) (ho : ord.Perm (List.range es.size)) (h1 : I ≠ S) (h2 : I ≠ tp) :
 Walks prog w A I [I, S, tp] [I] es.size (fun i v => ∃ p e, ord[i]? = some p ∧ es[p]? = some e ∧ v = e.2) (fun i h => SetIt h I (.ref tp) (i : Int) S es.size ep ∧ SetO h S es ep t ∧ h.get? tp = some ⟨.type "tuple", od, .seq (ord.map fun (p : Nat) => rawInt (p : Int)).toArray c, osl⟩) where
 sub := fun b hb => by simp at hb; simp [hb]
 frame := fun _ _ _ st hk => ⟨hk I (by simp) _ st.1, hk S (by simp) _ st.2.1, hk tp (by simp) _ st.2.2⟩
 item := fun i s Q E hi st hQ => by
  obtain ⟨hI, hS, htp⟩ := st
  have hlen : ord.length = es.size := by rw [ho.length_eq, List.length_range]
  have hio : i < ord.length := by omega
  have hp : ord[i] < es.size := List.mem_range.mp (ho.mem_iff.mp (List.getElem_mem hio))
  refine pyNext_set hI (next_open hI hS hf ?_)
  show wpAny _ _ (seqItems? (.ref tp) >>= _) _ _ _
  refine wpAny_bind (wpAny_seqItems htp rfl ?_)
  dsimp only
  rw [show (List.map (fun (p : Nat) => rawInt (p : Int)) ord).toArray[((i : Nat) : Int).toNat]? = some (rawInt (ord[i] : Int)) by simp [hio]]
  show wpAny _ _ (setNextDrawn S ((ord[i] : Nat) : Int).toNat ((ep : Nat) : Int).toNat >>= _) _ _ _
  unfold setNextDrawn
  refine wpAny_bind (wpAny_bind (wpAny_setState_of hS rfl hf ?_))
  dsimp only
  rw [if_neg (by simp)]
  rw [show es[((ord[i] : Nat) : Int).toNat]? = some es[ord[i]] by simp [hp]]
  refine wpAny_pure ?_
  refine wpAny_bind (wpAny_setField_rec hI (by simp) fun h₂ he₂ hs₂ => wpAny_pure ⟨_, rfl, ?_⟩)
  refine hQ _ h₂ s.toks ⟨ord[i], es[ord[i]], by simp [hio], by simp [hp], rfl⟩ ⟨he₂, hs₂.extBut _ _ h1.symm hS, hs₂.extBut _ _ h2.symm htp⟩ fun b o hb e => hs₂.extBut b o (fun h => hb (by simp [h])) e
 done := fun s Q E st hQ => by
  obtain ⟨hI, hS, htp⟩ := st
  have hlen : ord.length = es.size := by rw [ho.length_eq, List.length_range]
  refine pyNext_set hI (next_open hI hS hf ?_)
  show wpAny _ _ (seqItems? (.ref tp) >>= _) _ _ _
  refine wpAny_bind (wpAny_seqItems htp rfl ?_)
  dsimp only
  rw [show (List.map (fun (p : Nat) => rawInt (p : Int)) ord).toArray[((es.size : Nat) : Int).toNat]? = none by simp [hlen]]
  dsimp only
  refine wpAny_bind (wpAny_setField_rec hI (by simp) fun h₂ he₂ hs₂ => ?_)
  refine wpAny_bind (wpAny_setField_rec he₂ (by simp) fun h₃ he₃ hs₃ => ?_)
  refine raise_stop (show A.in1.handled = none from hh) fun h' e o kp ho hc => ⟨e, o, rfl, ho, hc, hQ h' s.toks fun b o hb e => kp b o ?_⟩
  have hbI : b ≠ I := fun h => hb (by simp [h])
  exact hs₃.extBut b o hbI (hs₂.extBut b o hbI e)
 self := fun _ _ _ _ st hQ => iter_self st.1 hQ
theorem walks_text (hB : byTx w = true) (hh : A.handled = none) (hf : t.fits es.size = true) (h1 : I ≠ S) :
 Walks prog w A I [I, S] [I] es.size (fun i v => ∃ e, (pickOrder (w.params.setOrder S ep) es)[i]? = some e ∧ v = e.2) (fun i h => (∃ sl : Nat, SetIt h I (rawInt sl) (i : Int) S es.size ep) ∧ SetO h S es ep t) where
 sub := fun b hb => by simp at hb; simp [hb]
 frame := fun _ _ _ st hk => ⟨⟨_, hk I (by simp) _ st.1.choose_spec⟩, hk S (by simp) _ st.2⟩
 item := fun i s Q E hi st hQ => by
  obtain ⟨⟨sl, hI⟩, hS⟩ := st
  have hsz : (pickOrder (w.params.setOrder S ep) es).size = es.size := by rw [← Array.length_toList, (pick_perm _ es).length_eq, Array.length_toList]
  have hio : i < (pickOrder (w.params.setOrder S ep) es).size := by omega
  refine pyNext_set hI (next_open hI hS hf ?_)
  show wpAny _ _ (setNext S ((sl : Nat) : Int).toNat ((i : Nat) : Int).toNat ((ep : Nat) : Int).toNat >>= _) _ _ _
  unfold setNext setsByText
  refine wpAny_bind (wpAny_bind (wpAny_setState_of hS rfl hf ?_))
  dsimp only
  refine wpAny_bind (wpAny_bind (wpAny_askSetting (wpAny_pure ?_)))
  rw [if_pos (show ({ program := (model prog w).prog, params := (model prog w).w.params } : Setting).params.followText "set-order" = true from hB), if_neg (by simp)]
  unfold setWalk setsByText
  refine wpAny_bind (wpAny_bind (wpAny_setState_of hS rfl hf ?_))
  dsimp only
  refine wpAny_bind (wpAny_bind (wpAny_askSetting (wpAny_pure ?_)))
  rw [if_pos (show ({ program := (model prog w).prog, params := (model prog w).w.params } : Setting).params.followText "set-order" = true from hB)]
  refine wpAny_bind (wpAny_askSetting (wpAny_pure (wpAny_pure ?_)))
  dsimp only
  rw [show (pickOrder ((model prog w).w.params.setOrder S ep) es)[((i : Nat) : Int).toNat]? = some ((pickOrder (w.params.setOrder S ep) es)[i]) by rw [Int.toNat_natCast]; exact Array.getElem?_eq_getElem hio]
  refine wpAny_bind (wpAny_setField_rec hI (by simp) fun h₂ he₂ hs₂ => ?_)
  refine wpAny_bind (wpAny_setField_rec he₂ (by simp) fun h₃ he₃ hs₃ => wpAny_pure ⟨_, rfl, ?_⟩)
  refine hQ _ h₃ s.toks ⟨_, Array.getElem?_eq_getElem hio, rfl⟩ ⟨⟨_, he₃⟩, hs₃.extBut _ _ h1.symm (hs₂.extBut _ _ h1.symm hS)⟩ fun b o hb e => ?_
  have hbI : b ≠ I := fun h => hb (by simp [h])
  exact hs₃.extBut b o hbI (hs₂.extBut b o hbI e)
 done := fun s Q E st hQ => by
  obtain ⟨⟨sl, hI⟩, hS⟩ := st
  have hsz : (pickOrder (w.params.setOrder S ep) es).size = es.size := by rw [← Array.length_toList, (pick_perm _ es).length_eq, Array.length_toList]
  refine pyNext_set hI (next_open hI hS hf ?_)
  show wpAny _ _ (setNext S ((sl : Nat) : Int).toNat ((es.size : Nat) : Int).toNat ((ep : Nat) : Int).toNat >>= _) _ _ _
  unfold setNext setsByText
  refine wpAny_bind (wpAny_bind (wpAny_setState_of hS rfl hf ?_))
  dsimp only
  refine wpAny_bind (wpAny_bind (wpAny_askSetting (wpAny_pure ?_)))
  rw [if_pos (show ({ program := (model prog w).prog, params := (model prog w).w.params } : Setting).params.followText "set-order" = true from hB), if_neg (by simp)]
  unfold setWalk setsByText
  refine wpAny_bind (wpAny_bind (wpAny_setState_of hS rfl hf ?_))
  dsimp only
  refine wpAny_bind (wpAny_bind (wpAny_askSetting (wpAny_pure ?_)))
  rw [if_pos (show ({ program := (model prog w).prog, params := (model prog w).w.params } : Setting).params.followText "set-order" = true from hB)]
  refine wpAny_bind (wpAny_askSetting (wpAny_pure (wpAny_pure ?_)))
  dsimp only
  rw [show (pickOrder ((model prog w).w.params.setOrder S ep) es)[((es.size : Nat) : Int).toNat]? = none by rw [Int.toNat_natCast]; exact Array.getElem?_eq_none (Nat.le_of_eq hsz)]
  refine wpAny_bind (wpAny_setField_rec hI (by simp) fun h₂ he₂ hs₂ => ?_)
  refine raise_stop (show A.in1.handled = none from hh) fun h' e o kp ho hc => ⟨e, o, rfl, ho, hc, hQ h' s.toks fun b o hb e => kp b o (hs₂.extBut b o (fun h => hb (by simp [h])) e)⟩
 self := fun _ _ _ _ st hQ => iter_self st.1.choose_spec hQ
end
end L2

namespace L2
open PySem PySem.Spec PyProof.Rows PySem.W
section
variable {prog : Program} {w : World} {A : Around} {I S : Addr} {ep : Nat} {e : Int × Value} {t : SetTable} {j : Nat}
theorem below0 : SetTable.below #[j] 0 = 0 := by simp [SetTable.below, SetTable.below.go]
theorem below1 : SetTable.below #[j] (j + 1) = 1 := by simp [SetTable.below, SetTable.below.go]
theorem walks_one (hB : byTx w = false) (hh : A.handled = none) (hf : t.fits (#[e] : Array (Int × Value)).size = true) (hl : t.led = true) (hj : t.place = #[j]) (h1 : I ≠ S) :
 Walks prog w A I [I, S] [I] 1 (fun _ v => v = e.2) (fun i h => SetIt h I (rawInt ((if i = 0 then 0 else j + 1 : Nat) : Int)) (i : Int) S (#[e] : Array (Int × Value)).size ep ∧ SetO h S #[e] ep t) where
 sub := fun b hb => by simp at hb; simp [hb]
 frame := fun _ _ _ st hk => ⟨hk I (by simp) _ st.1, hk S (by simp) _ st.2⟩
 item := fun i s Q E hi st hQ => by
  obtain rfl : i = 0 := by omega
  obtain ⟨hI, hS⟩ := st
  refine pyNext_set hI (next_open hI hS hf ?_)
  show wpAny _ _ (setNext S 0 0 ((ep : Nat) : Int).toNat >>= _) _ _ _
  unfold setNext setsByText
  refine wpAny_bind (wpAny_bind (wpAny_setState_of hS rfl hf ?_))
  dsimp only
  refine wpAny_bind (wpAny_bind (wpAny_askSetting (wpAny_pure ?_)))
  rw [if_neg (show ¬ ({ program := (model prog w).prog, params := (model prog w).w.params } : Setting).params.followText "set-order" = true from fun z => absurd (hB.symm.trans (show byTx w = true from z)) (by decide))]
  rw [if_neg (fun z => by
   have z' : (!t.plain && decide ((#[e] : Array (Int × Value)).size > 1)) = true := z
   simp at z')]
  refine wpAny_bind ?_
  show wpAny _ _ (if (!t.led && !(#[e] : Array (Int × Value)).isEmpty) = true then unsupported "set:maker-not-led" else pure ()) _ _ _
  rw [if_neg (by rw [hl]; simp)]
  refine wpAny_pure (wpAny_pure ?_)
  rw [hj, below0]
  refine wpAny_bind (wpAny_setField_rec hI (by simp) fun h₂ he₂ hs₂ => ?_)
  refine wpAny_bind (wpAny_setField_rec he₂ (by simp) fun h₃ he₃ hs₃ => wpAny_pure ⟨_, rfl, ?_⟩)
  refine hQ _ h₃ s.toks rfl ⟨he₃, hs₃.extBut _ _ h1.symm (hs₂.extBut _ _ h1.symm hS)⟩ fun b o hb e => ?_
  have hbI : b ≠ I := fun h => hb (by simp [h])
  exact hs₃.extBut b o hbI (hs₂.extBut b o hbI e)
 done := fun s Q E st hQ => by
  obtain ⟨hI, hS⟩ := st
  refine pyNext_set hI (next_open hI hS hf ?_)
  show wpAny _ _ (setNext S ((j + 1 : Nat) : Int).toNat 1 ((ep : Nat) : Int).toNat >>= _) _ _ _
  unfold setNext setsByText
  refine wpAny_bind (wpAny_bind (wpAny_setState_of hS rfl hf ?_))
  dsimp only
  refine wpAny_bind (wpAny_bind (wpAny_askSetting (wpAny_pure ?_)))
  rw [if_neg (show ¬ ({ program := (model prog w).prog, params := (model prog w).w.params } : Setting).params.followText "set-order" = true from fun z => absurd (hB.symm.trans (show byTx w = true from z)) (by decide))]
  rw [if_neg (fun z => by
   have z' : (!t.plain && decide ((#[e] : Array (Int × Value)).size > 1)) = true := z
   simp at z')]
  refine wpAny_bind ?_
  show wpAny _ _ (if (!t.led && !(#[e] : Array (Int × Value)).isEmpty) = true then unsupported "set:maker-not-led" else pure ()) _ _ _
  rw [if_neg (by rw [hl]; simp)]
  refine wpAny_pure (wpAny_pure ?_)
  rw [hj, Int.toNat_natCast, below1]
  refine wpAny_bind (wpAny_setField_rec hI (by simp) fun h₂ he₂ hs₂ => ?_)
  refine raise_stop (show A.in1.handled = none from hh) fun h' e o kp ho hc => ⟨e, o, rfl, ho, hc, hQ h' s.toks fun b o hb e => kp b o (hs₂.extBut b o (fun h => hb (by simp [h])) e)⟩
 self := fun _ _ _ _ st hQ => iter_self st.1 hQ
end
noncomputable def TxV (vs : List Value) (ys : List Str) : Prop := vs.length = ys.length ∧ ∀ (j : Nat) (v : Value), vs[j]? = some v → ∃ y t, ys[j]? = some y ∧ v = .str y t
section
variable {prog : Program} {w : World} {A : Around} {E : Value → Shared → Prop} {s : Shared} {S : Addr} {xs : List Str}
structure SetWk (prog : Program) (w : World) (S : Addr) (h0 h : Heap) (I : Addr) (xs : List Str) (fp : List Addr) (n : Nat) (P : Nat → Value → Prop) (St : Nat → Heap → Prop) : Prop where
 wk : ∀ A' : Around, A'.handled = none → Walks prog w A' I fp [I] n P St
 len : n = xs.length
 st : St 0 h
 lt : ∀ b ∈ fp, b < h.objs.size
 keep : ∀ b o, h0.get? b = some o → h.get? b = some o
 new : h0.get? I = none
 sep : ∀ b ∈ fp, b = S ∨ h0.get? b = none
 get : ∀ acc : Array Value, ItemsOf P acc n → ∃ ys, ys.Perm xs ∧ TxV acc.toList ys
theorem txV_of {acc : Array Value} {es : List (Int × Value)} (hl : acc.size = es.length) (he : ∀ e ∈ es, ∃ x tk, e = (hashStr w x, Value.str x tk)) (h : ∀ (i : Nat) (v : Value), acc[i]? = some v → ∃ e : Int × Value, es[i]? = some e ∧ v = e.2) : TxV acc.toList (es.map txE) := by
 refine ⟨by rw [Array.length_toList, List.length_map, hl], fun j v hv => ?_⟩
 obtain ⟨e, e1, rfl⟩ := h j v (by rw [← Array.getElem?_toList]; exact hv)
 obtain ⟨x, tk, rfl⟩ := he e (List.mem_of_getElem? e1)
 exact ⟨x, tk, by rw [List.getElem?_map, e1]; rfl, rfl⟩
set_option maxHeartbeats 1600000 in
theorem iter_set {Q : Value → Shared → Prop} (hS : SetT w (!byTx w) s.heap S xs) (hx : xs ≠ [])
 (h : ∀ h' d I fp n P St, SetWk prog w S s.heap h' I xs fp n P St → Q (.ref I) { s with heap := h', drawn := d }) : wpAny (model prog w) A (pyIter (.ref S)) Q E s := by
 obtain ⟨es, ep, t, ho, hel, hp, nd, hb, hf, hl, hpl⟩ := hS
 have hpl : t.plain = false := hpl.resolve_left hx
 have hsz : es.size = xs.length := by rw [← hp.length_eq, List.length_map, Array.length_toList]
 have hT : s.TypeIs (.ref S) "set" := ⟨_, ho, rfl⟩
 have hSl : S < s.heap.objs.size := Heap.lt_size ho
 have hz : es.size ≤ sizeLine := fits_of_scanBound hb
 refine wpAny_pyIter_slot hT PySem.F.slot_set_iter (wpAny_call_entry PySem.F.slot_set_iter hT SF.entry_siter ?_ (SF.args_siter _))
 unfold Builtin.«frozenset.__iter__»
 show wpAny _ _ (Builtin.Frozenset.sizeOf S >>= _) _ _ _
 unfold Builtin.Frozenset.sizeOf
 refine wpAny_bind (wpAny_bind (wpAny_setEntries_of ho rfl hf (wpAny_pure ?_)))
 unfold setDrawn setsByText
 refine wpAny_bind (wpAny_bind (wpAny_setState_of ho rfl hf ?_))
 dsimp only
 refine wpAny_bind (wpAny_bind (wpAny_askSetting (wpAny_pure (wpAny_pure ?_))))
 have fin : ∀ (first : Value) (d : Drawn) (g : Heap), SetO g S es ep t → (∀ I, SetIt (g.push { cls := .type "set_iterator", data := .fields #[first, rawInt 0, .ref S, rawInt (es.size : Int), rawInt (ep : Int)] }) I first 0 S es.size ep → I = g.objs.size → Q (.ref I) { s with heap := g.push { cls := .type "set_iterator", data := .fields #[first, rawInt 0, .ref S, rawInt (es.size : Int), rawInt (ep : Int)] }, drawn := d }) →
  wpAny (model prog w) A.in1 (setEpoch S >>= fun e => newFields "set_iterator" [first, rawInt 0, .ref S, rawInt (es.size : Int), rawInt (e : Int)] >>= fun v => ret v) (fun fin s' => ∃ v, fin = .done (.ret v) ∧ ∃ T' r, s'.TypeIs v T' ∧ typeLookup (.type T') "__next__" = pure (some r) ∧ Q v s') E { s with heap := g, drawn := d } := fun first d g hg k => by
  refine wpAny_bind (wpAny_setEpoch_of (s := { s with heap := g, drawn := d }) hg rfl hf ?_)
  refine wpAny_bind ?_
  unfold newFields
  refine wpAny_newObj_type ?_ (by size_fits)
  have hI : SetIt (g.push { cls := .type "set_iterator", data := .fields #[first, rawInt 0, .ref S, rawInt (es.size : Int), rawInt (ep : Int)] }) g.objs.size first 0 S es.size ep := Heap.get?_push_size _ rfl
  exact wpAny_pure ⟨_, rfl, "set_iterator", _, ⟨_, hI, rfl⟩, SF.slot_next.lookup, k _ hI rfl⟩
 have fpl : ∀ {g : Heap} {ob : Obj} {I : Addr}, I = g.objs.size → ∀ b, b = I ∨ b < g.objs.size → b < (g.push ob).objs.size := fun {g ob I} hI b hb => by
  rw [Heap.size_push]
  rcases hb with rfl | hb
  · rw [hI]; exact Nat.lt_succ_self _
  · exact Nat.lt_succ_of_lt hb
 have new0 : ∀ {I : Addr}, s.heap.objs.size ≤ I → s.heap.get? I = none := fun hI => Heap.get?_none_of_le hI
 cases hB : byTx w with
 | true =>
   rw [if_neg (fun z => by
    have z' := (Bool.and_eq_true_iff.mp z).1
    rw [show ({ program := (model prog w).prog, params := (model prog w).w.params } : Setting).params.followText "set-order" = true from hB] at z'
    cases z')]
   refine wpAny_bind (wpAny_pure ?_)
   refine fin (rawInt 0) s.drawn s.heap ho fun I hI hIe => ?_
   have hIS : I ≠ S := by rw [hIe]; exact (Nat.ne_of_lt hSl).symm
   refine h _ s.drawn I [I, S] _ _ _ ⟨fun A' hA => walks_text (ep := ep) hB hA hf hIS, hsz, ⟨⟨0, hI⟩, Heap.get?_push_of_some _ ho⟩, fun b hb => fpl hIe b (by simp only [List.mem_cons, List.not_mem_nil, or_false] at hb; rcases hb with z | z; exact .inl z; exact .inr (by rw [z]; exact hSl)), fun b o e => Heap.get?_push_of_some _ e, new0 (by rw [hIe]; exact Nat.le_refl _), fun b hb => (by simp only [List.mem_cons, List.not_mem_nil, or_false] at hb; rcases hb with z | z; exact .inr (new0 (by rw [z, hIe]; exact Nat.le_refl _)); exact .inl z), fun acc hacc => ?_⟩
   have pp := pick_perm (w.params.setOrder S ep) es
   refine ⟨(pickOrder (w.params.setOrder S ep) es).toList.map txE, (pp.map txE).trans hp, txV_of ?_ (fun e he => hel e (pp.mem_iff.mp he)) fun i v hv => ?_⟩
   · rw [hacc.1, pp.length_eq, Array.length_toList]
   · obtain ⟨e, he, rfl⟩ := hacc.2 i v hv
     exact ⟨e, by rw [Array.getElem?_toList]; exact he, rfl⟩
 | false =>
   by_cases h1 : es.size = 1
   · rw [if_neg (fun z => by
      have z' : (!t.plain && decide (es.size > 1)) = true := (Bool.and_eq_true_iff.mp z).2
      rw [h1] at z'
      simp at z')]
     refine wpAny_bind (wpAny_pure ?_)
     refine fin (rawInt 0) s.drawn s.heap ho fun I hI hIe => ?_
     have hIS : I ≠ S := by rw [hIe]; exact (Nat.ne_of_lt hSl).symm
     obtain ⟨e, rfl⟩ := Array.size_eq_one_iff.mp h1
     have hpz : t.place.size = 1 := by
      have := hf
      simp only [SetTable.fits, Bool.and_eq_true, beq_iff_eq] at this
      exact this.1
     obtain ⟨j, hj⟩ := Array.size_eq_one_iff.mp hpz
     have hled : t.led = true := by rw [hl, hB]; rfl
     refine h _ s.drawn I [I, S] _ _ _ ⟨fun A' hA => walks_one (ep := ep) hB hA hf hled hj hIS, hsz, ⟨hI, Heap.get?_push_of_some _ ho⟩, fun b hb => fpl hIe b (by simp only [List.mem_cons, List.not_mem_nil, or_false] at hb; rcases hb with z | z; exact .inl z; exact .inr (by rw [z]; exact hSl)), fun b o e => Heap.get?_push_of_some _ e, new0 (by rw [hIe]; exact Nat.le_refl _), fun b hb => (by simp only [List.mem_cons, List.not_mem_nil, or_false] at hb; rcases hb with z | z; exact .inr (new0 (by rw [z, hIe]; exact Nat.le_refl _)); exact .inl z), fun acc hacc => ?_⟩
     refine ⟨[e].map txE, hp, txV_of (by rw [hacc.1]; rfl) (fun e' he => hel e' (by simpa using he)) fun i v hv => ?_⟩
     have hi : i < acc.size := (Array.getElem?_eq_some_iff.mp hv).1
     obtain rfl : i = 0 := by have : acc.size = 1 := hacc.1; omega
     exact ⟨e, rfl, hacc.2 _ v hv⟩
   · have hgt : 1 < es.size := by
      have : es.size ≠ 0 := fun z => hx (List.length_eq_zero_iff.mp (by omega))
      omega
     rw [if_pos (by
      rw [Bool.and_eq_true_iff]
      refine ⟨?_, ?_⟩
      · rw [show ({ program := (model prog w).prog, params := (model prog w).w.params } : Setting).params.followText "set-order" = false from hB]; rfl
      · show (!t.plain && decide (es.size > 1)) = true
        rw [hpl]; simp [hgt])]
     refine wpAny_bind (draw_ok (List.length_range) fun ord d hord => ?_)
     refine wpAny_bind (wpAny_newTuple ?_ (by rw [List.length_map, hord.length_eq, List.length_range]; exact hz))
     have hS2 : SetO (s.heap.push { cls := .type "tuple", data := .seq (ord.map fun (i : Nat) => rawInt (i : Int)).toArray }) S es ep t := Heap.get?_push_of_some _ ho
     refine fin (.ref s.heap.objs.size) d _ hS2 fun I hI hIe => ?_
     rw [Heap.size_push] at hIe
     have hIS : I ≠ S := by rw [hIe]; exact (Nat.ne_of_lt (Nat.lt_succ_of_lt hSl)).symm
     have hIt : I ≠ s.heap.objs.size := by rw [hIe]; exact (Nat.ne_of_lt (Nat.lt_succ_self _)).symm
     refine h _ d I [I, S, s.heap.objs.size] _ _ _ ⟨fun A' hA => walks_drawn (ep := ep) hA hf hord hIS hIt, hsz, ⟨hI, Heap.get?_push_of_some _ hS2, Heap.get?_push_of_some _ (Heap.get?_push_size _ rfl)⟩, fun b hb => ?_, fun b o e => Heap.get?_push_of_some _ (Heap.get?_push_of_some _ e), new0 (by rw [hIe]; exact Nat.le_succ _), fun b hb => (by simp only [List.mem_cons, List.not_mem_nil, or_false] at hb; rcases hb with z | z | z; exact .inr (new0 (by rw [z, hIe]; exact Nat.le_succ _)); exact .inl z; exact .inr (new0 (by rw [z]; exact Nat.le_refl _))), fun acc hacc => ?_⟩
     · rw [Heap.size_push, Heap.size_push]
       simp only [List.mem_cons, List.not_mem_nil, or_false] at hb
       rcases hb with rfl | rfl | rfl
       · rw [hIe]; exact Nat.lt_succ_self _
       · exact Nat.lt_succ_of_lt (Nat.lt_succ_of_lt hSl)
       · exact Nat.lt_succ_of_lt (Nat.lt_succ_self _)
     · have hom : ∀ p ∈ ord, p < es.size := fun p hp => List.mem_range.mp (hord.mem_iff.mp hp)
       have eqm : (List.range es.size).map (fun p => es.toList.getD p (0, .none)) = es.toList := by
        refine List.ext_getElem (by simp) fun i h1 h2 => ?_
        simp at h1 h2 ⊢
        simp [h2]
       have pm : (ord.map (fun p => es.toList.getD p (0, .none))).Perm es.toList := by
        have := hord.map (fun p => es.toList.getD p (0, .none))
        rwa [eqm] at this
       refine ⟨(ord.map (fun p => es.toList.getD p (0, .none))).map txE, (pm.map txE).trans hp, txV_of ?_ (fun e he => hel e (pm.mem_iff.mp he)) fun i v hv => ?_⟩
       · rw [hacc.1, List.length_map, hord.length_eq, List.length_range]
       · obtain ⟨p, e, h1, h2, rfl⟩ := hacc.2 i v hv
         refine ⟨e, ?_, rfl⟩
         rw [List.getElem?_map, h1]
         show some (es.toList.getD p (0, .none)) = some e
         rw [List.getD_eq_getElem?_getD, Array.getElem?_toList, h2]
         rfl
end
end L2

namespace L2
open PySem PySem.Spec PyProof.Rows PySem.W
section
variable {prog : Program} {w : World} {A : Around} {E : Value → Shared → Prop} {s : Shared} {S : Addr} {xs : List Str}
theorem look_setlen : typeLookup (.type "set") "__len__" = pure (some (.builtin "set.__len__")) := by rw [typeLookup_type, builtinLookup_eq_fast]; kernel_rfl
set_option maxHeartbeats 1600000 in
theorem collect_set {Q : List Value → Shared → Prop} (hh : A.handled = none) (hS : SetT w (!byTx w) s.heap S xs) (hx : xs ≠ []) (hz : xs.length ≤ sizeLine)
 (h : ∀ h' tk d vs ys, ys.Perm xs → TxV vs ys → (∀ b o, s.heap.get? b = some o → h'.get? b = some o) → Q vs { s with heap := h', toks := tk, drawn := d }) : wpAny (model prog w) A (collect (.ref S)) Q E s := by
 have hSl : S < s.heap.objs.size := by obtain ⟨_, _, _, e, _⟩ := hS; exact Heap.lt_size e
 unfold collect
 refine wpAny_bind (wpAny_runValue (codeAny_builtin F.entry_proto_collect ?_))
 rw [Around.under_plainId F.plain_proto_collect _]
 show wpAny _ A.in1 (newList [] >>= fun l => (again (.builtin "list.__iadd__" ⟨[l, .ref S], []⟩))) _ _ s
 refine wpAny_bind (wpAny_newObj_type ?_)
 refine wpAny_pure ⟨plainId_quiet F.plain_list_iadd _, codeAny_builtin F.entry_list_iadd ?_⟩
 rw [Around.under_plainId F.plain_list_iadd _]
 have k1 : ∀ b o, s.heap.get? b = some o → (s.heap.push (seqObj "list" #[] 0)).get? b = some o := fun b o e => Heap.get?_push_of_some _ e
 have hS1 : SetT w (!byTx w) (s.heap.push (seqObj "list" #[] 0)) S xs := hS.keep fun o e => k1 _ _ e
 have hT1 : Shared.TypeIs { s with heap := s.heap.push (seqObj "list" #[] 0) } (.ref S) "set" := by obtain ⟨_, _, _, e, _⟩ := hS1; exact ⟨_, e, rfl⟩
 have oL : (s.heap.push (seqObj "list" #[] 0)).get? s.heap.objs.size = some (seqObj "list" #[] 0) := Heap.get?_push_size _ rfl
 show wpAny _ A.in1 (Builtin.List.listExtendWith (.ref s.heap.objs.size) (.ref S) (.ref s.heap.objs.size)) _ _ { s with heap := s.heap.push (seqObj "list" #[] 0) }
 unfold Builtin.List.listExtendWith
 refine wpAny_bind (wpAny_typeOf hT1 ?_)
 have n1 : Builtin.List.listSameRef (.ref s.heap.objs.size) (.ref S) = false := by simp [Builtin.List.listSameRef, (Nat.ne_of_lt hSl).symm]
 rw [if_neg (by rw [n1]; decide)]
 refine wpAny_bind (iter_set hS1 hx fun h' d I fp n P St W => ?_)
 have hT2 : Shared.TypeIs { s with heap := h', drawn := d } (.ref S) "set" := by obtain ⟨_, _, _, e, _⟩ := hS1; exact ⟨_, W.keep _ _ e, rfl⟩
 have oL2 := W.keep _ _ oL
 refine wpAny_bind (wpAny_holding ?_)
 unfold Builtin.List.listLengthHint
 refine wpAny_bind (wpAny_specialOf hT2 look_setlen ?_)
 dsimp only
 rw [show splitId "set.__len__" = some ("set", "__len__") by decide +kernel]
 dsimp only
 refine wpAny_bind (wpAny_isInstance (b := true) hT2 (by rw [isSubtype_type]; kernel_rfl) ?_)
 rw [if_neg (by decide)]
 rw [if_pos (by decide +kernel)]
 refine wpAny_bind (wpAny_typeOf hT2 (wpAny_pure ?_))
 rw [if_pos (by decide +kernel)]
 refine wpAny_bind (wpAny_rule (wpAny_bind ?_))
 show wpAny _ A.in1 (updateSeq s.heap.objs.size (·.push .none) >>= fun _ => (updateSeq s.heap.objs.size (·.pop))) _ _ _
 refine wpAny_bind (wpAny_updateSeq oL2 rfl ?_)
 have oL3 := Heap.get?_update_self (Obj.mapSeq (·.push Value.none)) oL2 rfl
 refine wpAny_updateSeq oL3 rfl ?_
 have oL4 := Heap.get?_update_self (Obj.mapSeq (·.pop)) oL3 rfl
 have oth : ∀ b o, b ≠ s.heap.objs.size → h'.get? b = some o → ((h'.update s.heap.objs.size (Obj.mapSeq (·.push Value.none))).update s.heap.objs.size (Obj.mapSeq (·.pop))).get? b = some o := fun b o hb e => (Heap.get?_update_other _ _ (Ne.symm hb)).trans ((Heap.get?_update_other _ _ (Ne.symm hb)).trans e)
 have lI : I ≠ s.heap.objs.size := fun z => by have := W.new; rw [z, oL] at this; cases this
 have hA1 : A.in1.handled = none := by simp [hh]
 have hSf : s.heap.objs.size ∉ fp := fun z => by
  rcases W.sep _ z with q | q
  · exact absurd q.symm (Nat.ne_of_lt hSl)
  · rw [oL] at q; cases q
 refine wpAny_pure ⟨plainId_quiet F.plain_extend_loop _, codeAny_extend_loopS ((W.wk _ hA1).toS) (by rw [W.len]; exact hz) _ hSf _ n 0 _ _ _ rfl (Nat.zero_le _) ((W.wk A hh).frame 0 _ _ W.st fun b hb o e => oth b o (fun z => hSf (z ▸ hb)) e) oL4 (ItemsOf.nil P) fun s' acc' c' hm hS' hacc => ?_⟩
 show wpAny _ A (load s.heap.objs.size >>= _) _ _ s'
 obtain ⟨h3, g3, d3, t3, o3⟩ := s'
 have eg : g3 = s.gens := hm.gens
 have ed : d3 = d := hm.drawn
 have eo : o3 = s.os := hm.os
 subst eg; subst ed; subst eo
 refine wpAny_bind (wpAny_load hS' (wpAny_pure ?_))
 obtain ⟨ys, py, ty⟩ := W.get acc' hacc
 refine h h3 t3 d3 _ ys py ty fun b o e => hm.heap b o (fun z => ?_) (oth b o (Nat.ne_of_lt (Heap.lt_size e)) (W.keep b o (k1 b o e)))
 rcases List.mem_cons.mp z with z | z
 · exact absurd z (Nat.ne_of_lt (Heap.lt_size e))
 · have : b = I := by simpa using z
   subst this
   have q := W.new
   rw [k1 _ _ e] at q
   cases q
end
end L2

namespace L2
open PySem PySem.Spec PyProof.Rows PySem.W
section
variable {prog : Program} {w : World} {A : Around} {E : Value → Shared → Prop} {s : Shared}
theorem sortD_small {g : Heap} {D : Addr} {vs : List Value} {Q : Value → Shared → Prop} (keep : ∀ b o, s.heap.get? b = some o → g.get? b = some o) (hDs : ∀ b o, s.heap.get? b = some o → b ≠ D) (hoL : g.get? D = some (seqObj "list" vs.toArray 0)) (h2 : vs.length < 2)
 (h : ∀ (h' : Heap) (c : Nat), (∀ b o, s.heap.get? b = some o → h'.get? b = some o) → h'.get? D = some (seqObj "list" vs.toArray c) → Q (.ref D) { s with heap := h' }) :
 wpAny (model prog w) A (Builtin.«list.sort» ⟨[.ref D], []⟩) (fun fin s' => fin = .done (.ret .none) ∧ Q (.ref D) s') E { s with heap := g } := by
 obtain ⟨e1, ho1⟩ : ∃ e1, (g.update D (Obj.mapSeq fun _ => (#[] : Array Value))).get? D = some (seqObj "list" #[] e1) := ⟨_, get?_update_seq hoL fun _ => #[]⟩
 have few : vs.length ≤ sizeLine := by rw [sizeLine_eq]; omega
 rw [list_sort_plain]
 refine wpAny_bind (listItems_at hoL rfl ?_)
 refine wpAny_bind (listUpdate_at hoL rfl ?_ (by rw [List.size_toArray]; omega) (Nat.zero_le _))
 refine wpAny_bind (seqEpoch_at ho1 rfl ?_)
 refine wpAny_bind (wpAny_newTuple ?_ few)
 refine wpAny_bind (wpAny_newList ?_ (Nat.zero_le _))
 refine wpAny_holding ?_
 show wpAny (model prog w) _ _ _ E { s with heap := ((g.update D (Obj.mapSeq fun _ => (#[] : Array Value))).push (seqObj "tuple" vs.toArray 0)).push (seqObj "list" #[] 0) }
 dsimp only
 have hn2 : vs.toArray.size < 2 := by rw [List.size_toArray]; exact h2
 rw [if_pos hn2, if_pos hn2]
 refine wpAny_bind (wpAny_pure ?_)
 refine wpAny_bind (wpAny_pure ?_)
 dsimp only
 have ho6 : (((g.update D (Obj.mapSeq fun _ => (#[] : Array Value))).push (seqObj "tuple" vs.toArray 0)).push (seqObj "list" #[] 0)).get? D = some (seqObj "list" #[] e1) := Heap.get?_push_of_some _ (Heap.get?_push_of_some _ ho1)
 have harr : (arrOf (SortSt.mk' general' (vs.toArray.zip vs.toArray) #[] 7 none)).map (·.2) = vs.toArray := zip_snd vs
 rw [harr]
 refine wpAny_bind (seqEpoch_at ho6 rfl ?_)
 refine wpAny_bind (listUpdate_at ho6 rfl ?_ (Nat.zero_le _) (by show vs.toArray.size ≤ _; rw [List.size_toArray]; omega))
 simp only [bne_self_eq_false, Bool.false_eq_true, if_false]
 obtain ⟨c2, hc2⟩ : ∃ c2, ((((g.update D (Obj.mapSeq fun _ => (#[] : Array Value))).push (seqObj "tuple" vs.toArray 0)).push (seqObj "list" #[] 0)).update D (Obj.mapSeq fun _ => vs.toArray)).get? D = some (seqObj "list" vs.toArray c2) := ⟨_, get?_update_seq ho6 fun _ => vs.toArray⟩
 refine wpAny_pure ⟨rfl, h _ c2 (fun b o q => ?_) hc2⟩
 have hb := hDs b o q
 exact (Heap.get?_update_other _ _ (Ne.symm hb)).trans (Heap.get?_push_of_some _ (Heap.get?_push_of_some _ ((Heap.get?_update_other _ _ (Ne.symm hb)).trans (keep b o q))))
end
section
variable {X : Cx} {pins : List (Addr × Obj)} {σ : St} {H : Hp} {s : Shared}
set_option maxHeartbeats 2000000 in
theorem sortD_ok {E : Value → Shared → Prop} {g : Heap} {D : Addr} {its : List Value} {xs : List V} {Q : VK} (I : Inv X pins σ H s) (kp0 : ∀ b o, s.heap.get? b = some o → g.get? b = some o) (hDs0 : ∀ b o, s.heap.get? b = some o → b ≠ D) (hoL : g.get? D = some (seqObj "list" its.toArray 0)) (rv : Vals xs its) (h64 : xs.length < 64) (lt : Nat → Nat → Bool) (O : Srt.Ord lt)
 (hkind : ∀ (vs : List Value) (s' : Shared), Vals xs vs → 2 ≤ vs.length → (∀ b o, b ≠ X.env.locals → s.heap.get? b = some o → s'.heap.get? b = some o) → ∃ κ : SortKind, (∀ (R : SortKind → Shared → Prop), R κ s' → wpAny (model X.prog X.w) X.A.in1.in1 (keyKind' vs.toArray) R (fun _ _ => False) s') ∧
  ∀ (i j : Nat) (C : Bool → Shared → Prop) (s2 : Shared), i < vs.length → j < vs.length → (∀ b o, b ≠ X.env.locals → s.heap.get? b = some o → s2.heap.get? b = some o) → C (lt i j) s2 → kas_ask X.prog X.w X.A.in1.in1 κ vs i j C s2)
 (q : ∀ (p : List Nat), p.Perm (List.range xs.length) → (∀ k, 1 ≤ k → k < xs.length → lt (p.getD k 0) (p.getD (k - 1) 0) = false) → H D = none → Q (.ref D) (upd H D (.lst (p.map fun i => xs.getD i .non)))) :
 wpAny (model X.prog X.w) X.A.in1.in1 (Builtin.«list.sort» ⟨[.ref D], []⟩) (fun fin s' => fin = .done (.ret .none) ∧ EP X pins σ Q (.ref D) s') E { s with heap := g } := by
 have hlen := rv.length
 by_cases h2 : its.length < 2
 · refine sortD_small kp0 hDs0 hoL h2 fun h' c kp ho => ?_
   have hf : H D = none := by
    cases z : H D with
    | none => rfl
    | some u =>
      obtain ⟨o, e⟩ := ObjOk.there (I.hok D u z)
      exact absurd rfl (hDs0 _ _ e)
   obtain ⟨m, hn, _⟩ := id I.loc
   have F : Fr X.base X.env.locals h' m := Fr.kept ⟨hn, I.bk, Nat.le_trans I.ok.bsz I.ok.above⟩ kp
   have I' : Inv X pins σ (upd H D (.lst xs)) { s with heap := h' } := I.byNews (t' := s.toks) hn F (fun b o _ e => kp b o e) hf (fun o e => hDs0 _ _ e rfl) ho rv (by rw [sizeLine_eq]; omega)
   have hq := q (List.range xs.length) (List.Perm.refl _) (fun k k1 k2 => by omega) hf
   have ex : (List.range xs.length).map (fun i => xs.getD i .non) = xs := by
    exact map_small xs (by omega)
   rw [ex] at hq
   exact ⟨.ref D, _, I', rfl, hq⟩
 · obtain ⟨m, hn, _⟩ := id I.loc
   have F : Fr X.base X.env.locals s.heap m := ⟨hn, I.bk, Nat.le_trans I.ok.bsz I.ok.above⟩
   have N : News X.base X.env.locals s.heap (allNews X.base s.heap X.env.locals) := news_all
   have keepN : ∀ {h' : Heap} {r : List (Addr × Obj)}, Fr X.base X.env.locals h' m → News X.base X.env.locals h' r → (∀ p ∈ allNews X.base s.heap X.env.locals, p ∈ r) → ∀ b o, b ≠ X.env.locals → s.heap.get? b = some o → h'.get? b = some o := fun {h' r} F' N' sub b o hb e => by
    cases z : X.base.get? b with
    | some u =>
      have := I.bk b u z
      rw [e] at this; cases this
      exact F'.keep b _ z
    | none => exact (N' (b, o) (sub _ (mem_allNews hb z e))).1
   have h2' : 2 ≤ its.length := by omega
   have oL : ∃ o, s.heap.get? X.env.locals = some o := by obtain ⟨o, _, _, e, _⟩ := F.ns; exact ⟨o, e⟩
   obtain ⟨oL, eL⟩ := oL
   have h0 : X.base.get? D = none := by
    cases z : X.base.get? D with
    | none => rfl
    | some u => exact absurd rfl (hDs0 _ _ (F.keep _ _ z))
   refine kat_list_sort (s := { s with heap := g }) (F.kept kp0) (N.grown kp0) hoL (Ne.symm (hDs0 _ _ eL)) h0 (fun p hp => hDs0 _ _ (N p hp).1) h2' (by omega) fun e1 h' F' N' => ?_
   have kp := keepN F' N' (fun p hp => List.mem_cons_of_mem _ hp)
   have nDD := N' (D, seqObj "list" #[] e1) List.mem_cons_self
   have hDs : ∀ o, s.heap.get? D ≠ some o := fun o e => hDs0 D o e rfl
   have hHD : H D = none := by
    cases z : H D with
    | none => rfl
    | some u =>
      obtain ⟨o, e⟩ := ObjOk.there (I.hok D u z)
      exact absurd e (hDs o)
   have hD : ∀ q ∈ allNews X.base s.heap X.env.locals, q.1 ≠ D := fun q hq => hDs0 _ _ (N q hq).1
   obtain ⟨κ, hκ, hask⟩ := hkind its { s with heap := h' } rv h2' kp
   refine hκ _ ?_
   have hn1 : 0 < its.length := by omega
   refine Srt.run_wp' (n := its.length) (P := fun s' => s' = { s with heap := h' }) lt (fun i j C s2 hi hj p2 hc => by subst p2; exact hask i j C _ hi hj kp (hc _ rfl)) (kas_sort its.length) _ (Srt.sort_asks hn1) rfl fun s2 p2 => ?_
   subst p2
   obtain ⟨pm, up⟩ := Srt.sort_ok O (n := its.length) (by omega)
   generalize Srt.run lt (kas_sort its.length) = p at *
   refine KasFin.intro F' N' (.head fun x hx => hD x hx) fun h3 c F3 N3 => ?_
   have kp3 := keepN F3 N3 (fun p hp => List.mem_cons_of_mem _ hp)
   have hD3 := (N3 (D, listOf (List.toArray (p.toList.map fun i => its.getD i Value.none)) c) List.mem_cons_self).1
   have rel : Vals (p.toList.map fun i => xs.getD i .non) (p.toList.map fun i => its.getD i Value.none) := by
    have key : ∀ (l : List Nat), (∀ i ∈ l, i < its.length) → Vals (l.map fun i => xs.getD i .non) (l.map fun i => its.getD i Value.none) := by
     intro l
     induction l with
     | nil => intro _; exact .nil
     | cons a l ih =>
       intro hl'
       have ha := hl' a List.mem_cons_self
       have ha2 : a < xs.length := by omega
       obtain ⟨u, hu, ru⟩ := rv.get (i := a) (x := xs[a]) (by simp [ha2])
       have e1 : xs.getD a .non = xs[a] := by simp [ha2]
       have e2 : its.getD a Value.none = u := by rw [List.getD_eq_getElem?_getD, hu]; rfl
       rw [List.map_cons, List.map_cons, e1, e2]
       exact .cons ru (ih fun i hi => hl' i (List.mem_cons_of_mem _ hi))
    exact key _ fun i hi => List.mem_range.mp (pm.mem_iff.mp hi)
   have hq := q p.toList (by rw [hlen]; exact pm) (fun k k1 k2 => by
    have := up k k1 (by omega)
    rw [getD_e, getD_e]; exact this) hHD
   refine ⟨rfl, .ref D, _, I.byNews (t' := s.toks) hn F3 kp3 hHD hDs hD3 rel ?_, rfl, hq⟩
   rw [List.length_map, pm.length_eq, List.length_range, ← hlen]
   rw [hlen, sizeLine_eq]; omega
theorem Inv.draws (I : Inv X pins σ H s) (d : Drawn) : Inv X pins σ H { s with drawn := d } := ⟨I.ok, I.os, I.bare, I.base, I.loc, I.cell, I.free, I.freeC, I.pin, I.hok, I.len⟩
end
noncomputable def chS (c : Nat) : Str := ⟨#[c]⟩
noncomputable def chV (cs : List Nat) : List V := cs.map fun c => V.str (chS c)
theorem chV_len (cs : List Nat) : (chV cs).length = cs.length := by unfold chV; rw [List.length_map]
noncomputable def ltC (cs : List Nat) (i j : Nat) : Bool := decide (cs.getD i 0 < cs.getD j 0)
theorem ltC_ord (cs : List Nat) : Srt.Ord (ltC cs) := ⟨fun i j h => by unfold ltC at *; simp only [decide_eq_true_eq, decide_eq_false_iff_not] at *; omega, fun i j k h1 h2 => by unfold ltC at *; simp only [decide_eq_false_iff_not] at *; omega⟩
theorem nodup_lt {l : List Nat} (h : l.Pairwise (· ≤ ·)) (n : l.Nodup) : l.Pairwise (· < ·) := by
 induction l with
 | nil => exact .nil
 | cons a l ih =>
   cases h with
   | cons h1 h2 =>
     cases n with
     | cons n1 n2 => exact .cons (fun b hb => Nat.lt_of_le_of_ne (h1 b hb) (n1 b hb)) (ih h2 n2)
theorem chS_inj {a b : Nat} (h : chS a = chS b) : a = b := by
 unfold chS at h
 have := congrArg (fun x : Str => x.cps.toList) h
 simpa using this
section
variable {X : Cx}
noncomputable def tSortSet (ta : TA) : TE := fun σ H Q => ta σ H fun vs H1 => ∃ x : Str, vs = [.str x] ∧ 1 ≤ x.cps.size ∧ x.cps.size ≤ 60 ∧ ∀ (cs : List Nat) (D : Addr) (H' : Hp), cs.Pairwise (· < ·) → (∀ c, c ∈ cs ↔ c ∈ x.cps.toList) → Same H1 H' → H1 D = none → H' D = some (.lst (chV cs)) → Q (.ref D) H'
set_option maxHeartbeats 1600000 in
theorem pe_sortset {a : Expr} {ta : TA} {p p' pos pos' : Pos} (hc : X.calm = true) (hgL : Gl X "sorted") (hmL : X.mg "sorted" = none) (hgE : Gl X "set") (hmE : X.mg "set" = none) (ha : PA X [a] ta)
 (hs : starEach [.Call (.Name "set" p') [a] [] pos'] X.env = [(false, eval (.Call (.Name "set" p') [a] [] pos') X.env)] := by rfl) (hs2 : starEach [a] X.env = [(false, eval a X.env)] := by rfl) :
 PE X (.Call (.Name "sorted" p) [.Call (.Name "set" p') [a] [] pos'] [] pos) (tSortSet ta) := by
 intro pins s σ H Q I h
 refine wpAny_Call_Name_kw (ld_blt I hgL hmL boot_sorted ?_ (by decide) (by decide))
 refine PyProof.Rows.callWith_builtin1 ?_ hs rfl
 rw [hs]
 show wpAny _ _ (spliced ((false, eval (.Call (.Name "set" p') [a] [] pos') X.env) :: backTo pos [])) _ _ s
 refine Calls.spliced_cons ?_
 refine wpAny_Call_Name_kw (ld_blt I hgE hmE boot_set ?_ (by decide) (by decide))
 refine PyProof.Rows.callWith_type1 (thn (ha pos' pins s σ H _ I h) fun us s1 ⟨vs, H1, I1, r1, q1⟩ => ?_) hs2 rfl
 obtain ⟨x, rfl, x1, x60, q⟩ := q1
 obtain ⟨u, rfl, ru⟩ := vals1 r1
 obtain ⟨tx, rfl⟩ := ru
 have hh := I1.ok.hd hc
 refine call_set_text hh (by omega) fun h1 tk1 xs hS hM kp1 => Calls.spliced_nil ?_
 have I2 : Inv X pins σ H1 { s1 with heap := h1, toks := tk1 } := I1.kept (t' := tk1) (h' := h1) kp1
 have hxs : xs ≠ [] := fun z => by
  have := (hM.2 (ltr x 0)).mpr ⟨0, by omega, rfl⟩
  rw [z] at this; simp at this
 have hxl := hM.1
 refine Calls.call_function_entry kind_sorted plain_sorted entry_sorted (args_sorted1 _) ?_
 unfold Builtin.«sorted»
 refine wpAny_bind (m := checkCount "sorted" 1 1 _) (wpAny_pure ?_)
 refine wpAny_bind (collect_set (s := { s1 with heap := h1, toks := tk1 }) (show X.A.in1.handled = none by simp [hh]) hS hxs (by rw [sizeLine_eq]; omega) fun h2 tk2 d2 vs ys py ty kp2 => ?_)
 have I3 : Inv X pins σ H1 { s1 with heap := h2, toks := tk2, drawn := d2 } := (I2.draws d2).kept (t' := tk2) (h' := h2) kp2
 -- the letters
 have hys : ∃ ds : List Nat, ys = ds.map chS := by
  have : ∀ y ∈ ys, ∃ c, y = chS c := fun y hy => by
   obtain ⟨j, _, e⟩ := (hM.2 y).mp (py.mem_iff.mp hy)
   exact ⟨_, e.symm⟩
  clear py ty
  induction ys with
  | nil => exact ⟨[], rfl⟩
  | cons y ys ih =>
    obtain ⟨ds, rfl⟩ := ih fun z hz => this z (List.mem_cons_of_mem _ hz)
    obtain ⟨c, rfl⟩ := this y List.mem_cons_self
    exact ⟨c :: ds, rfl⟩
 obtain ⟨ds, rfl⟩ := hys
 have ndx : xs.Nodup := by obtain ⟨_, _, _, _, _, _, nd, _⟩ := hS; exact nd
 have nd : ds.Nodup := List.Pairwise.of_map chS (fun a b h e => h (by rw [e])) (py.nodup_iff.mpr ndx)
 have dl : ds.length ≤ 60 := by have := py.length_eq; rw [List.length_map] at this; omega
 have mem : ∀ c, c ∈ ds ↔ c ∈ x.cps.toList := fun c => by
  have e1 : c ∈ ds ↔ chS c ∈ xs := by
   rw [← py.mem_iff, List.mem_map]
   exact ⟨fun z => ⟨c, z, rfl⟩, fun ⟨b, hb, e⟩ => chS_inj e ▸ hb⟩
  rw [e1, hM.2]
  constructor
  · rintro ⟨j, hj, e⟩
    have : x.cps.getD j 0 = c := chS_inj e
    rw [← this]
    simp [Array.getD, hj]
  · intro hc'
    obtain ⟨j, hj, e⟩ := List.mem_iff_getElem.mp hc'
    have hj' : j < x.cps.size := by simpa using hj
    refine ⟨j, hj', ?_⟩
    unfold ltr chS
    simp [Array.getD, hj'] at e ⊢
    exact e
 have rv : Vals (chV ds) vs := by
  obtain ⟨tl, tg⟩ := ty
  rw [List.length_map] at tl
  clear py nd dl mem
  induction ds generalizing vs with
  | nil =>
    cases vs with
    | nil => exact .nil
    | cons v vs => simp at tl
  | cons c ds ih =>
    cases vs with
    | nil => simp at tl
    | cons v vs =>
      obtain ⟨y, t, e1, rfl⟩ := tg 0 v rfl
      cases (show chS c = y from Option.some.inj e1)
      exact .cons ⟨t, rfl⟩ (ih vs (by simpa using tl) fun j u hu => tg (j + 1) u hu)
 have few : vs.length ≤ sizeLine := by rw [← rv.length, chV_len, sizeLine_eq]; omega
 refine wpAny_bind (wpAny_newList ?_ few)
 have hoL : (h2.push (seqObj "list" vs.toArray 0)).get? h2.objs.size = some (seqObj "list" vs.toArray 0) := Heap.get?_push_size _ rfl
 refine wpAny_bind (wpAny_holding (wpAny_call_entry slot_list_sort ⟨_, hoL, rfl⟩ entry_list_sort ?body (args_list_sort _)))
 case body =>
  refine wpAny_mono (sortD_ok (E := fun _ _ => False) (Q := Q) I3 (fun b o e => Heap.get?_push_of_some _ e) (fun b o e => Nat.ne_of_lt (Heap.lt_size e)) hoL rv (by rw [chV_len]; omega) (ltC ds) (ltC_ord ds) (fun ws s' rw' w2 kp => ?_) fun pp pm up hD => ?_) (fun fin s' hf => ?_) fun _ _ e => e.elim
  · have at' : ∀ {i : Nat}, i < ws.length → ∃ t, ws.getD i Value.none = .str (chS (ds.getD i 0)) t := fun {i} hi => by
     have rr := vals_getD rw' hi
     have hi' : i < ds.length := by rw [← chV_len, rw'.length]; exact hi
     have e1 : (chV ds).getD i .non = .str (chS (ds.getD i 0)) := by unfold chV; simp [hi']
     rw [e1] at rr
     exact rr
    refine ⟨oneType', fun R hR => kas_kind (T := .type "str") w2 (fun v hv => ?_) (by decide) (by decide) hR, fun i j C s2 hi hj k hc => ?_⟩
    · obtain ⟨i, hi, rfl⟩ := List.mem_iff_getElem.mp hv
      obtain ⟨t, e⟩ := at' hi
      rw [show ws.getD i Value.none = ws[i] by simp [hi]] at e
      rw [e]
      exact Looks.of_pure rfl
    · unfold kas_ask
      obtain ⟨t, e⟩ := at' hi
      obtain ⟨t', e'⟩ := at' hj
      rw [e, e']
      refine kas_lt_str ?_
      have : decide ((chS (ds.getD i 0)).cps.toList < (chS (ds.getD j 0)).cps.toList) = ltC ds i j := by
       unfold ltC chS
       rw [decide_eq_decide]
       simp [List.cons_lt_cons_iff]
      rw [this]
      exact hc
  · rw [chV_len] at pm up
    have e : (pp.map fun i => (chV ds).getD i .non) = chV (pp.map fun i => ds.getD i 0) := by
     unfold chV
     rw [List.map_map]
     refine List.map_congr_left fun i hi => ?_
     have : i < ds.length := List.mem_range.mp (pm.mem_iff.mp hi)
     simp [this]
    rw [e]
    have pd : (pp.map fun i => ds.getD i 0).Perm ds := perm_getD pm
    have pw : (pp.map fun i => ds.getD i 0).Pairwise (· ≤ ·) := up_pairwise (R := fun (a b : Nat) => a ≤ b) (l := ds) (d := 0) (fun a b c h1 h2 => Nat.le_trans h1 h2) pm up fun i j h => by
     unfold ltC at h
     simp only [decide_eq_false_iff_not] at h
     show ds.getD i 0 ≤ ds.getD j 0
     omega
    exact q _ _ _ (nodup_lt pw (pd.nodup_iff.mpr nd)) (fun c => (pd.mem_iff).trans (mem c)) (Same.new hD) hD upd_same
  · obtain ⟨rfl, hq⟩ := hf
    exact ⟨_, rfl, wpAny_pure ⟨_, rfl, hq⟩⟩
end
end L2

namespace L2
open PySem PySem.Spec PyProof.Rows PySem.W
noncomputable def Its (x : Str) : It := ⟨fun i _ => i < x.cps.size, fun i H v H' => H' = H ∧ ∃ c, x.cps[i]? = some c ∧ v = .str (chS c), fun i _ => x.cps.size ≤ i⟩
theorem turn_strA {P : Program} {w : World} {K : PySem.W.Frag} {tg : Expr} (x : Str) (t : Tok) (it : Addr) : Turn P w K tg (Its x) [it] it (fun i h => h.IsStrIter it "str_ascii_iterator" x t i) where
 mem := by simp
 obj := fun i h st b hb => by
  have e : b = it := by simpa using hb
  subst e
  obtain ⟨o, e, c, d⟩ := st
  exact ⟨o, e, fun v z => by rw [d] at z; cases z⟩
 keep := fun i h h' st k => let ⟨o, ho, r⟩ := st; ⟨o, k it (by simp) o ho, r⟩
 item := by
  intro X hP hw hK hc i pins s σ H E I hf st hg
  subst hP hw hK
  have hg : i < x.cps.size := hg
  obtain ⟨f0, f1, f2, f3, f4, f5⟩ := hf it (by simp)
  refine wpAny_pyNext_ascii_item st (c := x.cps[i]) (by simp [hg]) fun h' st' sb => ?_
  have I1 : Inv X pins σ H { s with heap := h', toks := s.toks + 1 } := I.turned (t' := s.toks + 1) (fun b o hb e => (sb.2 b hb).trans e) f0 f1 f3 f4 f5
  obtain ⟨o, e, c, d⟩ := id st'
  exact ⟨_, rfl, go_of (s := { s with heap := h', toks := s.toks + 1 }) e c d (by decide) ⟨.str (chS x.cps[i]), H, I1, ⟨_, rfl⟩, ⟨rfl, _, by simp [hg], rfl⟩, st', fun b hb => (hf b hb).1⟩⟩
 done := by
  intro X hP hw hK hc i pins s σ H E I hf st hg
  subst hP hw hK
  have hg : x.cps.size ≤ i := hg
  obtain ⟨f0, f1, f2, f3, f4, f5⟩ := hf it (by simp)
  exact wpAny_pyNext_ascii_end (I.ok.hd hc) st (Array.getElem?_eq_none hg) fun h' eb => ⟨rfl, I.turned (t' := s.toks) (fun b o hb e => eb b o hb e) f0 f1 f3 f4 f5⟩
 self := fun _ _ _ _ _ st h => wpAny_pyIter_striter_ascii st h
theorem turn_strW {P : Program} {w : World} {K : PySem.W.Frag} {tg : Expr} (x : Str) (t : Tok) (it : Addr) : Turn P w K tg (Its x) [it] it (fun i h => h.IsStrIter it "str_iterator" x t i) where
 mem := by simp
 obj := fun i h st b hb => by
  have e : b = it := by simpa using hb
  subst e
  obtain ⟨o, e, c, d⟩ := st
  exact ⟨o, e, fun v z => by rw [d] at z; cases z⟩
 keep := fun i h h' st k => let ⟨o, ho, r⟩ := st; ⟨o, k it (by simp) o ho, r⟩
 item := by
  intro X hP hw hK hc i pins s σ H E I hf st hg
  subst hP hw hK
  have hg : i < x.cps.size := hg
  obtain ⟨f0, f1, f2, f3, f4, f5⟩ := hf it (by simp)
  refine wpAny_pyNext_wide_item st (c := x.cps[i]) (by simp [hg]) fun h' st' sb => ?_
  have I1 : Inv X pins σ H { s with heap := h', toks := s.toks + 1 } := I.turned (t' := s.toks + 1) (fun b o hb e => (sb.2 b hb).trans e) f0 f1 f3 f4 f5
  obtain ⟨o, e, c, d⟩ := id st'
  exact ⟨_, rfl, go_of (s := { s with heap := h', toks := s.toks + 1 }) e c d (by decide) ⟨.str (chS x.cps[i]), H, I1, ⟨_, rfl⟩, ⟨rfl, _, by simp [hg], rfl⟩, st', fun b hb => (hf b hb).1⟩⟩
 done := by
  intro X hP hw hK hc i pins s σ H E I hf st hg
  subst hP hw hK
  have hg : x.cps.size ≤ i := hg
  obtain ⟨f0, f1, f2, f3, f4, f5⟩ := hf it (by simp)
  exact wpAny_pyNext_wide_end (I.ok.hd hc) st (Array.getElem?_eq_none hg) fun h' eb => ⟨rfl, I.turned (t' := s.toks) (fun b o hb e => eb b o hb e) f0 f1 f3 f4 f5⟩
 self := fun _ _ _ _ _ st h => wpAny_pyIter_striter_wide st h
section
variable {X : Cx} {tg : Expr}
noncomputable def iStr (tl : TE) : TI := fun σ H R => tl σ H fun v H1 => ∃ x, v = .str x ∧ R (Its x) H1
theorem pi_str {l : Expr} {tl : TE} (hl : PE X l tl) : PI X tg l (iStr tl) := by
 intro pins s σ H R I h
 refine thn (hl pins s σ H _ I h) fun v s1 ⟨z, H1, I1, r1, q1⟩ => ?_
 obtain ⟨x, rfl, q⟩ := q1
 obtain ⟨t, rfl⟩ := r1
 have fp : ∀ b ∈ [s1.heap.objs.size], FpOk X pins H1 b := fun b hb => by
  have e : b = s1.heap.objs.size := by simpa using hb
  subst e
  exact I1.fpOk (Nat.le_refl _) (I1.hok.fresh (Nat.le_refl _))
 cases ha : x.cps.all (· < 128) with
 | true => exact wpAny_pyIter_ascii ha ⟨s1.heap.objs.size, [s1.heap.objs.size], _, _, H1, rfl, I1.kept (t' := s1.toks) fun b o e => Heap.get?_push_of_some _ e, turn_strA x t _, ⟨_, Heap.get?_push_size _ rfl, rfl, rfl⟩, fp, q⟩
 | false => exact wpAny_pyIter_wide ha ⟨s1.heap.objs.size, [s1.heap.objs.size], _, _, H1, rfl, I1.kept (t' := s1.toks) fun b o e => Heap.get?_push_of_some _ e, turn_strW x t _, ⟨_, Heap.get?_push_size _ rfl, rfl, rfl⟩, fp, q⟩
theorem for_str {x : Str} {g : TG} {tb : TS} {D : Ends} {σ : St} {H : Hp} (Pv : Nat → St → Hp → Prop) (h0 : Pv 0 σ H)
 (hs : ∀ i c σ H, x.cps[i]? = some c → Pv i σ H → g (.str (chS c)) σ H fun σ2 H2 => tb { D with nx := Pv (i + 1), ct := Pv (i + 1), bk := D.nx } σ2 H2) (hd : ∀ σ H, Pv x.cps.size σ H → D.nx σ H) :
 ∃ W : Nat → Nat → St → Hp → Prop, (∃ m, W 0 m σ H) ∧ ∀ i m σ H, W i m σ H →
   ((Its x).stop i H ∧ D.nx σ H) ∨ ((Its x).go i H ∧ ∃ N : St → Hp → Prop, (∀ σ' H', N σ' H' → ∃ m', m' < m ∧ W (i + 1) m' σ' H') ∧ ∀ v H', (Its x).yld i H v H' → g v σ H' fun σ2 H2 => tb { D with nx := N, ct := N, bk := D.nx } σ2 H2) := by
 refine ⟨fun i m σ H => m = x.cps.size - i ∧ i ≤ x.cps.size ∧ Pv i σ H, ⟨x.cps.size, by simp, Nat.zero_le _, h0⟩, ?_⟩
 rintro i m σ H ⟨rfl, hi, p⟩
 by_cases hlt : i < x.cps.size
 · refine .inr ⟨hlt, Pv (i + 1), fun σ' H' p' => ⟨x.cps.size - (i + 1), by omega, rfl, hlt, p'⟩, fun v H' y => ?_⟩
   obtain ⟨e, c, hc, e2⟩ := y
   subst e e2
   exact hs i c σ _ hc p
 · have e : i = x.cps.size := by omega
   subst e
   exact .inl ⟨Nat.le_refl _, hd σ H p⟩
theorem comp_str {x : Str} {D : Addr} {g : TG} {tt : TT} {te : TE} {σ0 : St} {H0 : Hp} {Q : VK} (Pv : Nat → List V → St → Hp → Prop) (h0 : Pv 0 [] σ0 H0) (hl : ∀ i ys σ H, Pv i ys σ H → H D = some (.lst ys))
 (hs : ∀ i c ys σ H, x.cps[i]? = some c → i < x.cps.size → Pv i ys σ H → g (.str (chS c)) σ H fun σ3 H3 => tt σ3 H3 fun b H4 => if b = true then
  te σ3 H4 fun y H5 => H5 D = some (.lst ys) ∧ ys.length < sizeLine ∧ ∃ m', m' < x.cps.size - i ∧ Wt Pv x.cps.size (i + 1) m' (ys ++ [y]) σ3 (upd H5 D (.lst (ys ++ [y]))) else ∃ m', m' < x.cps.size - i ∧ Wt Pv x.cps.size (i + 1) m' ys σ3 H4)
 (hd : ∀ ys σ H, Pv x.cps.size ys σ H → Q (.ref D) H) :
 CompW (Its x) D g tt te Q σ0 H0 := by
 refine ⟨Wt Pv x.cps.size, ⟨x.cps.size, rfl, Nat.zero_le _, h0⟩, ?_⟩
 rintro i m ys σ' H' ⟨rfl, hi, p⟩
 refine ⟨hl i ys σ' H' p, ?_⟩
 by_cases hlt : i < x.cps.size
 · refine .inr ⟨hlt, fun v H2 y => ?_⟩
   obtain ⟨e, c, hc, e2⟩ := y
   subst e e2
   exact hs i c ys σ' _ hc hlt p
 · have e : i = x.cps.size := by omega
   subst e
   exact .inl ⟨Nat.le_refl _, hd ys σ' H' p⟩
end
open Builtin Builtin.Str in
theorem sub_one (x : Str) (c i : Nat) (h : i < x.cps.size) : subAt x (chS c) i = decide (x.cps[i] = c) := by
 unfold subAt chS
 have e : x.cps.extract i (i + (⟨#[c]⟩ : Str).length) = #[x.cps[i]] := by
  apply Array.toList_inj.mp
  show (x.cps.extract i (i + 1)).toList = [x.cps[i]]
  rw [Array.toList_extract]
  simp [List.extract, List.drop_eq_getElem_cons (show i < x.cps.toList.length by simpa using h)]
 rw [e]
 by_cases hq : x.cps[i] = c
 · simp [hq]
 · simp [hq]
open Builtin Builtin.Str in
theorem occ_run (x : Str) (c lim : Nat) : ∀ (l : List Nat) (st : Array Nat × Nat), (∀ i ∈ l, st.2 ≤ i) → l.Pairwise (· < ·) → st.1.size + l.length ≤ lim → (forIn l st (StrLaws.occBody x (chS c) x.length lim) : Id _).run.1.size = st.1.size + (l.filter fun i => decide (i < x.cps.size ∧ x.cps[i]? = some c)).length
 | [], st, _, _, _ => by simp
 | i :: l, st, h, pw, hl => by
   rw [List.forIn_cons]
   unfold StrLaws.occBody
   cases pw with
   | cons p1 p2 =>
     rw [List.length_cons] at hl
     have hx : x.length = x.cps.size := rfl
     have h1 : (chS c).length = 1 := rfl
     by_cases hc : i < x.cps.size ∧ x.cps[i]? = some c
     · have hs : subAt x (chS c) i = true := by rw [sub_one x c i hc.1]; have := hc.2; rw [Array.getElem?_eq_getElem hc.1] at this; simpa using this
       rw [if_pos ⟨⟨⟨by omega, h i List.mem_cons_self⟩, by rw [h1, hx]; omega⟩, hs⟩]
       refine (occ_run x c lim l _ (fun j hj => by have := p1 j hj; rw [h1]; show i + 1 ≤ j; omega) p2 (by rw [Array.size_push]; omega)).trans ?_
       rw [Array.size_push, List.filter_cons, if_pos (by simpa using hc), List.length_cons]
       omega
     · rw [if_neg (fun z => hc (by
        have a := z.1.2
        rw [h1, hx] at a
        have b := z.2
        have ai : i < x.cps.size := by omega
        rw [sub_one x c i ai] at b
        exact ⟨ai, by rw [Array.getElem?_eq_getElem ai]; simpa using b⟩))]
       refine (occ_run x c lim l _ (fun j hj => h j (List.mem_cons_of_mem _ hj)) p2 (by omega)).trans ?_
       rw [List.filter_cons, if_neg (by simpa using hc)]
theorem filter_count (l : List Nat) (c : Nat) : ((List.range' 0 (l.length + 1)).filter fun i => decide (i < l.length ∧ l[i]? = some c)).length = l.count c := by
 have key : ∀ (l : List Nat) (k : Nat), ((List.range' k l.length).filter fun i => decide (l[i - k]? = some c)).length = l.count c := by
  intro l
  induction l with
  | nil => intro k; rfl
  | cons a l ih =>
    intro k
    rw [List.length_cons, List.range'_succ, List.filter_cons, List.count_cons]
    have e : ((List.range' (k + 1) l.length).filter fun i => decide ((a :: l)[i - k]? = some c)) = (List.range' (k + 1) l.length).filter fun i => decide (l[i - (k + 1)]? = some c) := by
     refine List.filter_congr fun i hi => ?_
     have hk := (List.mem_range'_1.mp hi).1
     rw [show i - k = (i - (k + 1)) + 1 by omega, List.getElem?_cons_succ]
    rw [e, Nat.sub_self, List.getElem?_cons_zero]
    by_cases ha : a = c
    · rw [if_pos (by simp [ha]), List.length_cons, ih, if_pos (by simp [ha])]
    · rw [if_neg (by simp [ha]), ih, if_neg (by simp [ha])]; rfl
 have := key l 0
 rw [← this, List.range'_concat, List.filter_append]
 rw [List.length_append]
 rw [show (List.filter (fun i => decide (i < l.length ∧ l[i]? = some c)) [0 + 1 * l.length]) = [] by simp]
 rw [List.length_nil, Nat.add_zero]
 congr 1
 refine List.filter_congr fun i hi => ?_
 have := (List.mem_range'_1.mp hi).2
 simp only [Nat.sub_zero]
 rw [decide_eq_decide]
 exact ⟨fun z => z.2, fun z => ⟨by omega, z⟩⟩
open Builtin Builtin.Str in
theorem count_one (x : Str) (c : Nat) : (occurrences x (chS c) 0 x.length (x.length + 1)).length = x.cps.toList.count c := by
 rw [StrLaws.occ_eq, Array.length_toList]
 have := occ_run x c (x.length + 1) (List.range' 0 (x.length + 1 - 0)) (#[], 0) (fun i _ => Nat.zero_le _) (List.pairwise_lt_range') (by rw [List.length_range']; show 0 + _ ≤ _; omega)
 rw [this]
 show 0 + _ = _
 rw [Nat.zero_add, Nat.sub_zero]
 rw [← filter_count x.cps.toList c, show x.cps.toList.length = x.length by simp [Str.length]]
 congr 1
 refine List.filter_congr fun i hi => ?_
 rw [Array.getElem?_toList]
 rfl
section
variable {X : Cx}
theorem mt_countS : MtR X "str.count" (fun x xs H Q => ∃ z c, x = .str z ∧ xs = [.str (chS c)] ∧ Q (.int ((z.cps.toList.count c : Nat) : Int)) H) := by
 intro pins s σ H x xs v us Q I rx r h
 obtain ⟨z, c, rfl, rfl, q⟩ := h
 obtain ⟨t, rfl⟩ := rx
 obtain ⟨u, rfl, t', rfl⟩ := vals1 r
 refine call_gives PySem.F.slot_str_count (typeIs_str _ _ _) PySem.F.entry_str_count (PySem.F.args_str_count_2 _ _) (gives_str_count z (chS c) t t') ?_
 rw [count_one]
 exact ⟨.int _, H, I.tok _, ⟨_, rfl⟩, q⟩
theorem foldl_ch : ∀ (cs : List Nat) (a : Array Nat), (cs.map chS).foldl (fun acc p => acc ++ (⟨#[]⟩ : Str).cps ++ p.cps) a = a ++ cs.toArray
 | [], a => by simp
 | c :: cs, a => by
   rw [List.map_cons, List.foldl_cons, foldl_ch cs]
   apply Array.toList_inj.mp
   simp [chS]
theorem glued_ch (cs : List Nat) : Builtin.Str.glued ⟨#[]⟩ (cs.map chS) = ⟨cs.toArray⟩ := by
 unfold Builtin.Str.glued
 cases cs with
 | nil => rfl
 | cons c cs =>
   show (⟨(List.drop 1 (chS c :: cs.map chS)).foldl _ (chS c).cps⟩ : Str) = _
   rw [List.drop_succ_cons, List.drop_zero, foldl_ch]
   congr 1
   apply Array.toList_inj.mp
   simp [chS]
theorem foldl_len : ∀ (cs : List Nat) (n : Nat), (cs.map chS).foldl (fun n (p : Str) => n + p.length + (⟨#[]⟩ : Str).length) n = n + cs.length
 | [], n => rfl
 | c :: cs, n => by
   rw [List.map_cons, List.foldl_cons, foldl_len cs, List.length_cons]
   show n + 1 + 0 + _ = _
   omega
theorem mt_joinS : MtR X "str.join" (fun x xs H Q => ∃ (l : Addr) (cs : List Nat), x = .str ⟨#[]⟩ ∧ xs = [.ref l] ∧ SqL X.K H l (chV cs) ∧ cs.length ≤ 1000 ∧ Q (.str ⟨cs.toArray⟩) H) := by
 intro pins s σ H x xs v us Q I rx r h
 obtain ⟨l, cs, rfl, rfl, hl, few, q⟩ := h
 obtain ⟨t, rfl⟩ := rx
 obtain ⟨u, rfl, ru⟩ := vals1 r
 cases ru
 obtain ⟨its, rv, pl, hz⟩ := id (I.list hl)
 have ht : ∃ ps : List (Str × Tok), its = strValues ps ∧ ps.map (·.1) = cs.map chS := by
  clear pl few hz hl r q
  induction cs generalizing its with
  | nil => cases rv; exact ⟨[], rfl, rfl⟩
  | cons c cs ih =>
    cases rv with
    | cons r1 r2 =>
      obtain ⟨t1, rfl⟩ := r1
      obtain ⟨ps, rfl, e⟩ := ih _ r2
      exact ⟨(chS c, t1) :: ps, rfl, by rw [List.map_cons, List.map_cons, e]⟩
 obtain ⟨ps, rfl, e⟩ := ht
 have hok : Builtin.Str.tooLong ((ps.map (·.1)).toArray.foldl (· + ·.length + (⟨#[]⟩ : Str).length) 0) = false := by
  rw [e]
  rw [List.foldl_toArray, foldl_len]
  unfold Builtin.Str.tooLong
  rw [decide_eq_false_iff_not, sizeLine_eq]
  omega
 refine call_meets PySem.F.slot_str_join (typeIs_str _ _ _) PySem.F.entry_str_join (PySem.F.args_str_join_2 _ _) (meets_str_join_list ⟨#[]⟩ t l ps hok) ⟨pl.isList, post_join ps ⟨joinFit_length hok, fun t' k => ?_⟩⟩
 rw [e]
 have eg : Txt.join ⟨#[]⟩ (cs.map chS) = ⟨cs.toArray⟩ := glued_ch cs
 rw [eg]
 exact ⟨.str ⟨cs.toArray⟩, H, I.tok _, ⟨_, rfl⟩, q⟩
theorem in_one (x : Str) (c : Nat) : (!(Builtin.Str.occurrences x (chS c) 0 x.length 1).isEmpty) = decide (c ∈ x.cps.toList) := StrLaws.found_one x c
end
end L2

namespace Pw
noncomputable def kdL (ks : List Nat) (c : Nat) : List (Int × Int) := ks.map fun b => if b = c then (1, (ks.count c : Int)) else (0, 1)
theorem kd_len (ks : List Nat) (c : Nat) : (kdL ks c).length = ks.length := by unfold kdL; rw [List.length_map]
theorem kd_mem {ks : List Nat} {c : Nat} {B : Int × Int} (h : B ∈ kdL ks c) : B = (1, (ks.count c : Int)) ∨ B = (0, 1) := by
 obtain ⟨b, _, e⟩ := List.mem_map.mp h
 by_cases hb : b = c
 · rw [if_pos hb] at e; exact .inl e.symm
 · rw [if_neg hb] at e; exact .inr e.symm
theorem kd_canon {ks : List Nat} {c : Nat} (h : c ∈ ks) : Canons (kdL ks c) := fun B hB => by
 have hc := List.count_pos_iff.mpr h
 rcases kd_mem hB with rfl | rfl
 · exact ⟨by show (0 : Int) < _; omega, by simp [Canon]⟩
 · exact ⟨by decide, by decide⟩
end Pw
namespace L2
open PySem PySem.Spec PyProof PyProof.Rows PySem.W
theorem cnt_sz {ks : List Nat} {c : Nat} (h12 : ks.length ≤ 12) : Sz 41 ((ks.count c : Nat) : Int) := by
 have := List.count_le_length (a := c) (l := ks)
 exact sz_of (m := 41) 41 (by show ((ks.count c : Nat) : Int).natAbs < 2 ^ 41; omega)
theorem kd_sz {ks : List Nat} {c : Nat} (h12 : ks.length ≤ 12) : ∀ B ∈ Pw.kdL ks c, Sz2 41 B := fun B hB => by
 have := List.count_le_length (a := c) (l := ks)
 rcases Pw.kd_mem hB with rfl | rfl
 · exact ⟨sz_of (k := 1) (m := 41) 41 (by decide), cnt_sz h12⟩
 · exact ⟨sz_of (k := 0) (m := 41) 41 (by decide), sz_of (k := 1) (m := 41) 41 (by decide)⟩
noncomputable def FrS (K : PySem.W.Frag) (H : Hp) : List (Int × Int) → List V → Prop
 | [], vs => vs = []
 | A :: As, vs => ∃ p r, vs = .ref p :: r ∧ SqF K H p A ∧ FrS K H As r
section
variable {K : PySem.W.Frag} {H H' : Hp}
theorem FrL.s : ∀ {As : List (Int × Int)} {vs : List V}, FrL K H As vs → FrS K H As vs
 | [], _, h => h
 | _ :: _, _, ⟨p, r, e, f, h⟩ => ⟨p, r, e, SqF.of f, FrL.s h⟩
theorem FrS.same (s : Same H H') : ∀ {As : List (Int × Int)} {vs : List V}, FrS K H As vs → FrS K H' As vs
 | [], _, h => h
 | _ :: _, _, ⟨p, r, e, f, h⟩ => ⟨p, r, e, f.same s, FrS.same s h⟩
theorem FrS.snoc {p : Addr} {A : Int × Int} (f : SqF K H p A) : ∀ {As : List (Int × Int)} {vs : List V}, FrS K H As vs → FrS K H (As ++ [A]) (vs ++ [.ref p])
 | [], _, h => by
   have h : _ = ([] : List V) := h
   subst h
   exact ⟨p, [], rfl, f, rfl⟩
 | _ :: _, _, ⟨q, r, e, g, h⟩ => ⟨q, r ++ [.ref p], by rw [e]; rfl, g, FrS.snoc f h⟩
theorem FrS.kl (k : KL H H') : ∀ {As : List (Int × Int)} {vs : List V}, FrS K H As vs → FrS K H' As vs
 | [], _, h => h
 | _ :: _, _, ⟨p, r, e, f, h⟩ => ⟨p, r, e, k.seqT f, FrS.kl k h⟩
theorem FrS.len : ∀ {As : List (Int × Int)} {vs : List V}, FrS K H As vs → vs.length = As.length
 | [], _, h => by
   have h : _ = ([] : List V) := h
   subst h; rfl
 | _ :: _, _, ⟨p, r, e, f, h⟩ => by rw [e]; simp [FrS.len h]
theorem FrS.at {As : List (Int × Int)} {vs : List V} (h : FrS K H As vs) {j : Nat} {A : Int × Int} (e : As[j]? = some A) : ∃ p, vs[j]? = some (.ref p) ∧ SqF K H p A := by
 induction As generalizing vs j with
 | nil => simp at e
 | cons B As ih =>
   obtain ⟨p, r, rfl, f, h⟩ := h
   cases j with
   | zero => simp at e; subst e; exact ⟨p, by simp, f⟩
   | succ j =>
     obtain ⟨q, a, b⟩ := ih h (j := j) (by simpa using e)
     exact ⟨q, by simpa using a, b⟩
theorem FrS.dens : ∀ {As : List (Int × Int)} {vs : List V}, FrS K H As vs → Dens K H (As.map tupD) vs
 | [], _, h => by simp only [List.map_nil, Dens]; exact h
 | A :: As, _, ⟨p, r, e, f, h⟩ => by
   simp only [List.map_cons, Dens]
   refine ⟨.ref p, r, e, ?_, FrS.dens h⟩
   unfold tupD
   simp only [Den]
   exact ⟨p, _, rfl, f, dens2 K H A.1 A.2⟩
end
noncomputable def spKinds : Sp := fun vs H Q _ => ∃ (d : Addr) (n : Nat), vs = [.ref d, .int (n : Int)] ∧ 1 ≤ n ∧ n ≤ 12 ∧ DrawsAt H d ∧ ∀ (x : Str) (H' : Hp), x.cps.size = n → (∀ c ∈ x.cps.toList, 97 ≤ c ∧ c ≤ 122) → DrawsAt H' d → Kp d H H' → Q (.str x) H'
theorem abc_at : ∀ j, j < 26 → (Str.ofString "abcdefghijklmnopqrstuvwxyz").cps.toList[j]? = some (97 + j) := by decide +kernel
end L2

namespace L2
open PySem PySem.Spec PyProof PyProof.Rows PySem.W
noncomputable def DefX (P : Program) (w : World) (K : PySem.W.Frag) (mg : Str → Option Value) (base : Heap) (CX : CXT) (k : Nat) (nm : Str) (ps : List Str) (sp : Sp) : Prop :=
 ∃ (f : Addr) (fd : FuncData), PySem.W.keepIn K (.ref f) = true ∧ mg nm = some (.ref f) ∧ Binds K fd ps [] ∧ FnOk P w K mg base CX k f fd ps sp
theorem Fnd.defX {P : Program} {w : World} {K : PySem.W.Frag} {mg : Str → Option Value} {base : Heap} {CX : CXT} {k : Nat} {nm : Str} {st : Stmt} {ps : List Str} {sp : Sp} (S : Fnd K mg nm st ps) (h : ∀ f fd, Fun K nm nm st f fd → FnOk P w K mg base CX k f fd ps sp) : DefX P w K mg base CX k nm ps sp := by
 obtain ⟨f, fd, F, m, b⟩ := S
 exact ⟨f, fd, F.kp, m, b, h f fd F⟩
section
variable {X : Cx}
theorem pe_defX {CX : CXT} {E : XK} {k : Nat} {nm : Str} {ps : List Str} {sp : Sp} {e : Expr} {es : List Expr} {t : TA} {p pos : Pos} (hg : Gl X nm) (he : starEach (e :: es) X.env = (false, eval e X.env) :: starEach es X.env) (hpl : (backTo pos (starEach es X.env)).any (·.1) = false) (hdb : (nm == ("__debug__" : Str)) = false)
 (D : DefX X.prog X.w X.K X.mg X.base CX k nm ps sp) (hr : Room k X.A) (hx : Passes CX X E) (ha : PA X (e :: es) t) :
 PE X (.Call (.Name nm p) (e :: es) [] pos) (tCall sp [] E t) := by
 obtain ⟨f, fd, a, b, c, F⟩ := D
 exact pe_call F hr hg b a c .nil hx ha hdb he hpl
theorem op_repStr : OpR X (binaryOp .Mult) (fun x y H Q => ∃ (c : Nat) (n : Int), x = .str (chS c) ∧ y = .int n ∧ 2 ≤ n ∧ n ≤ 100 ∧ Q (.str ⟨(List.replicate n.toNat c).toArray⟩) H) := by
 intro pins s σ H x y v u Q I rx ry h
 obtain ⟨c, n, rfl, rfl, n2, n100, q⟩ := h
 obtain ⟨t, rfl⟩ := rx
 obtain ⟨t', rfl⟩ := ry
 have key : ∀ k (a : Array Nat), (List.replicate k (#[c] : Array Nat)).foldl (· ++ ·) a = a ++ (List.replicate k c).toArray := by
  intro k
  induction k with
  | zero => intro a; simp
  | succ k ih =>
    intro a
    rw [List.replicate_succ, List.foldl_cons, ih]
    apply Array.toList_inj.mp
    simp [List.replicate_succ]
 have e : (⟨(List.replicate n.toNat (chS c).cps).foldl (· ++ ·) #[]⟩ : Str) = ⟨(List.replicate n.toNat c).toArray⟩ := by
  congr 1
  show (List.replicate n.toNat (#[c] : Array Nat)).foldl (· ++ ·) #[] = _
  rw [key]; simp
 have h1 : (n == 1 || (chS c).length == 0) = false := by
  have : (n == 1) = false := by simp; omega
  rw [this]; rfl
 refine P.mul_str ?_ (fun _ _ => ?_) (fun _ _ => ?_) ?_
 · rw [decide_eq_false (by omega), decide_eq_false (by omega)]; rfl
 · show ¬ ((1 : Nat) : Int) > _
   have : (1 : Int) ≤ (2 ^ 63 - 1) / n := Int.le_ediv_of_mul_le (by omega) (by omega)
   omega
 · show Builtin.Str.tooLong (1 * n.toNat) = false
   unfold Builtin.Str.tooLong
   rw [decide_eq_false_iff_not, sizeLine_eq]
   omega
 · rw [if_neg (by omega), h1, if_neg Bool.false_ne_true, e]
   refine ⟨?_, ⟨.str _, H, I.tok _, ⟨_, rfl⟩, q⟩⟩
   show (List.replicate n.toNat c).toArray.size ≤ sizeLine
   rw [List.size_toArray, List.length_replicate, sizeLine_eq]
   omega
theorem sl_str2 : SlR X (fun v lo hi H Q => ∃ x : Str, v = .str x ∧ lo = none ∧ hi = some 2 ∧ 2 ≤ x.cps.size ∧ x.cps.size ≤ 100 ∧ ∀ y : Str, y.cps.size = 2 → Q (.str y) H) := by
 intro pins s σ H x v vl vu lo hi sl Q I rx hs pl pu h
 obtain ⟨z, rfl, rfl, rfl, h2, h100, q⟩ := h
 obtain ⟨t, rfl⟩ := rx
 cases pl
 cases pu with
 | int i t' =>
   have pk : Builtin.Str.strSliceIndices none (some 2) 1 z.length = [0, 1] := by
    have hz : z.length = z.cps.size := rfl
    have e2 : max (0 : Int) (min 2 (z.length : Int)) = ((2 : Nat) : Int) := by omega
    simp only [Builtin.Str.strSliceIndices, show ((1 : Int) > 0) = True by simp, if_true, show ¬ ((2 : Int) < 0) by decide, if_false, e2]
    exact sliceRange_one 0 2
   refine ⟨"str", _, PySem.F.slot_str_getitem.lookup, typeIs_str _ _ _, wpAny_getItem_str_slice (l := none) (u := some (2, t')) (st := none) hs rfl ?_⟩
   unfold sliceMade
   refine post_val_or_str ?_
   have len2 : ∀ y : Str, y = (if ((Option.map (fun x => x.fst) (none : Option (Int × Tok))).getD 1 == 1 && (slicePicked z none (some (2, t')) none).length == z.length) = true then z else ⟨((slicePicked z none (some (2, t')) none).filterMap (z.cps[·]?)).toArray⟩) → y.cps.size = 2 := fun y e => by
    have pk' : slicePicked z none (some (2, t')) none = [0, 1] := pk
    rw [pk'] at e
    split at e
    · rename_i hc
      rw [e]
      have := (Bool.and_eq_true_iff.mp hc).2
      have h3 : z.length = 2 := by have := beq_iff_eq.mp this; exact this.symm
      exact h3
    · rw [e]
      simp [show 0 < z.cps.size by omega, show 1 < z.cps.size by omega]
   refine ⟨?_, fun t2 k => ⟨.str _, H, I.tok _, ⟨_, rfl⟩, q _ (len2 _ rfl)⟩⟩
   have := len2 _ rfl
   show Array.size _ ≤ _
   rw [this, sizeLine_eq]
   decide
end
noncomputable def NoKd (K : PySem.W.Frag) (H : Hp) (x : Str) (v : V) : Prop := (∃ t, TyOf K H v t ∧ PySem.W.kitOne K t (.type "str") = some false) ∨ (∃ y : Str, v = .str y ∧ y.cps.size ≠ 1 ∧ y.cps.size ≤ 1000) ∨ ∃ c, v = .str (chS c) ∧ c ∉ x.cps.toList
theorem NoKd.kt {K : PySem.W.Frag} {H H' : Hp} {x : Str} {v : V} (h : NoKd K H x v) (k : KTy H H') : NoKd K H' x v := by
 rcases h with ⟨t, a, b⟩ | h | h
 · exact .inl ⟨t, a.kt k, b⟩
 · exact .inr (.inl h)
 · exact .inr (.inr h)
noncomputable def spLeapsX (K : PySem.W.Frag) (Xk : Addr) : Sp := fun vs H Q E => ∃ (x : Str) (v : V), vs = [.str x, v] ∧ x.cps.size ≤ 12 ∧ ((∃ c, v = .str (chS c) ∧ c ∈ x.cps.toList ∧ ∀ (p : Addr) (H' : Hp) (us : List V), Same H H' → H' p = some (.tup us) → FrS K H' (Pw.kdL x.cps.toList c) us → Q (.ref p) H') ∨ (NoKd K H x v ∧ ∀ H', Same H H' → E (.ref Xk) none H'))
noncomputable def spRef37 (K : PySem.W.Frag) : Sp := fun vs H Q _ => ∃ (x : Str) (v : V), vs = [.str x, v] ∧ x.cps.size ≤ 12 ∧ NoKd K H x v ∧ ∀ H', Same H H' → Q (.bl true) H'
noncomputable def spDeep (K : PySem.W.Frag) : Sp := fun vs H Q _ => ∃ m : Nat, vs = [.int (m : Int)] ∧ m ≤ 3000 ∧ ∀ (D : Addr) (H' : Hp) (xs : List V), Same H H' → H D = none → H' D = some (.lst xs) → Q (.ref D) H'
noncomputable def spAreFS (K : PySem.W.Frag) : Sp := fun vs H Q _ => ∃ (p : Addr) (us : List V) (As : List (Int × Int)) (n : Int), vs = [.ref p, .int n] ∧ H p = some (.tup us) ∧ FrS K H As us ∧ Pw.Canons As ∧ (∀ A ∈ As, Sz2 3000 A) ∧ n = (As.length : Nat) ∧ ∀ H', Same H H' → Q (.bl true) H'
theorem neFS {K : PySem.W.Frag} {H : Hp} {p q : Addr} {A B : Int × Int} {Q : VK} (h1 : SqF K H p A) (h2 : SqF K H q B) (k : Q (.bl (!decide (A = B))) H) : rEqD K true (.ref p) (.ref q) H Q :=
 ⟨p, q, _, _, _, _, rfl, rfl, .inl ⟨h1, h2⟩, dens2 _ _ _ _, dens2 _ _ _ _, dep2 _ _, by rw [if_pos rfl, eqDs2]; exact k⟩
theorem neLS {K : PySem.W.Frag} {H : Hp} {p q : Addr} {xs ys : List V} {W : List (Int × Int)} {Q : VK} (h1 : SqL K H p xs) (h2 : SqL K H q ys) (f1 : FrS K H W xs) (f2 : FrS K H W ys) (k : Q (.bl false) H) : rEqD K true (.ref p) (.ref q) H Q :=
 ⟨p, q, _, _, _, _, rfl, rfl, .inr ⟨h1, h2⟩, f1.dens, f2.dens, FrL.dep _, by rw [if_pos rfl, eqDs_refl]; exact k⟩
theorem ki_ns (K : PySem.W.Frag) : PySem.W.kitOne K (.type "NoneType") (.type "str") = some false := by rfl
theorem ki_bs (K : PySem.W.Frag) : PySem.W.kitOne K (.type "bool") (.type "str") = some false := by rfl
theorem ki_is (K : PySem.W.Frag) : PySem.W.kitOne K (.type "int") (.type "str") = some false := by rfl
theorem ki_ls (K : PySem.W.Frag) : PySem.W.kitOne K (.type "list") (.type "str") = some false := by rfl
theorem ki_ts (K : PySem.W.Frag) : PySem.W.kitOne K (.type "tuple") (.type "str") = some false := by rfl
theorem ki_ds (K : PySem.W.Frag) : PySem.W.kitOne K (.type "dict") (.type "str") = some false := by rfl
end L2

set_option pp.maxSteps 800
namespace Lw
open PySem L2 PyProof.Rows
noncomputable def top (i : Nat) : Stmt := PySem.Challenge.pw_pagewalks_k37_leaps_by_kinds.main.body.getD i (.Pass ⟨0, 0, 0, 0⟩)
noncomputable abbrev sCommon : Stmt := top 8
noncomputable abbrev sMade : Stmt := top 9
noncomputable abbrev s_leaps_of : Stmt := top 11
noncomputable abbrev s_law_draws : Stmt := top 13
noncomputable abbrev s_law_take : Stmt := top 14
noncomputable abbrev s_law_fraction : Stmt := top 15
noncomputable abbrev s_law_are_fractions : Stmt := top 21
noncomputable abbrev s_law_kinds : Stmt := top 22
noncomputable abbrev s_law_refused : Stmt := top 23
noncomputable abbrev s_law_deep : Stmt := top 24
noncomputable abbrev sLaw : Stmt := top 25
section
variable {P : Program} {w : World} {K : PySem.W.Frag} {mg : Str → Option Value} {base : Heap}
theorem scCommon : FnScope ["one", "other", "rest"] ["one", "other"] (defScope sCommon) := ⟨rfl, rfl, rfl, by decide +kernel, rfl, by decide +kernel, by decide +kernel⟩
theorem ok_common {f : Addr} {fd : FuncData} (F : Fun K "common" "common" sCommon f fd) : FnOk P w K mg base CX0 1 f fd ["one", "other"] spCommon := by
 refine F.ok scCommon (fun vs H Q E h => ?_) (fun cdv A outer s H vs Q E hr h => ?_)
 · obtain ⟨x, y, rfl, _⟩ := h
   rfl
 · obtain ⟨x, y, rfl, hx, hy, k⟩ := h
   refine ⟨_, pss_cons (ps_while PassesOwn.never (pt_cmpR op_ne (pv 1) pe_int (nomark _))
    (pss_cons (ps_set (i := 2) scCommon.nd rfl (Or.inl rfl) (pe_op op_mod (pv 0) (pv 1)))
    (pss_cons (ps_set (i := 0) scCommon.nd rfl (Or.inl rfl) (pv 1))
    (pss_one (ps_set (i := 1) scCommon.nd rfl (Or.inl rfl) (pv 2))))))
    (pss_one (ps_ret (pv 0))), ?_⟩
   refine while_by (fun σ H' => ∃ (a b : Int) (r : Option V), σ = [some (.int a), some (.int b), r] ∧ 0 ≤ a ∧ 0 ≤ b ∧ Int.gcd a b = Int.gcd x y ∧ H' = H)
    (fun σ _ => match σ with | [_, some (.int b), _] => b.toNat | _ => 0) ⟨x, y, none, rfl, hx, hy, rfl, rfl⟩ ?_ ?_
   · rintro σ H' ⟨a, b, r, rfl, ha, hb, hg, rfl⟩
     refine ⟨_, rfl, rfl, _, rfl, ?_⟩
     by_cases h0 : b = 0
     · refine ifF (veq h0) ?_
       subst h0
       refine ⟨_, rfl, ?_⟩
       have e : (a : Int) = (Int.gcd x y : Int) := by rw [← hg, Int.gcd_zero_right]; omega
       show Q (.int a) _
       rw [e]; exact k
     · refine ifT (vne h0) ?_
       have hb0 : 0 < b := by omega
       refine ⟨_, rfl, _, rfl, _, _, rfl, rfl, hb0, ?_⟩
       refine ⟨_, rfl, ?_⟩
       refine ⟨_, rfl, ?_⟩
       refine ⟨⟨b, a % b, _, rfl, hb, Int.emod_nonneg _ (by omega), ?_, rfl⟩, ?_⟩
       · rw [Pw.gcd_turn ha hb0, hg]
       · show (a % b).toNat < b.toNat
         have h1 := Int.emod_nonneg a (show b ≠ 0 by omega)
         have h2 := Int.emod_lt_of_pos a hb0
         omega
   · rintro σ H' q q' hq ⟨v, e, hs, kk, ek, z⟩
     exact ⟨v, e, hs, kk, ek, hq _ _ z⟩
theorem abs_nn (x : Int) : 0 ≤ (if x < 0 then -x else x) := by split <;> omega
theorem abs_gcd (x y : Int) : Int.gcd (if x < 0 then -x else x) (if y < 0 then -y else y) = Int.gcd x y := by
 split <;> split <;> simp [Int.neg_gcd, Int.gcd_neg]
theorem gcd_sz {n : Nat} {x y : Int} (h : Sz n y) (hy : y ≠ 0) : Sz n (Int.gcd x y : Int) := by
 show (Int.gcd x y : Int).natAbs < 2 ^ n
 have : Int.gcd x y ≤ y.natAbs := Nat.le_of_dvd (by omega) (Int.gcd_dvd_natAbs_right ..)
 have h' : y.natAbs < 2 ^ n := h
 omega
theorem scMade : FnScope ["above", "below", "divisor"] ["above", "below"] (defScope sMade) := ⟨rfl, rfl, rfl, by decide +kernel, rfl, by decide +kernel, by decide +kernel⟩
theorem ok_made {f fC : Addr} {fd fdC : FuncData} (F : Fun K "made" "made" sMade f fd) (zabs : mg "abs" = none) (FC : Fun K "common" "common" sCommon fC fdC) (mC : mg "common" = some (.ref fC)) (bC : Binds K fdC ["one", "other"] []) :
 FnOk P w K mg base CX0 2 f fd ["above", "below"] spMade := by
 have GC : FnOk P w K mg base CX0 1 fC fdC ["one", "other"] spCommon := ok_common FC
 refine F.ok scMade (fun vs H Q E h => ?_) (fun cdv A outer s H vs Q E hr h => ?_)
 · obtain ⟨x, y, rfl, _⟩ := h
   rfl
 · obtain ⟨x, y, rfl, hy, sx, sy, k⟩ := h
   refine ⟨_, pss_cons (ps_set (i := 2) scMade.nd rfl (Or.inl rfl) (pe_call GC hr rfl mC FC.kp bC .nil pass0 (pa_cons (pe_callB call_abs (by rfl) zabs boot_abs (pa_cons (pv 0) pa_nil)) (pa_cons (pe_callB call_abs (by rfl) zabs boot_abs (pa_cons (pv 1) pa_nil)) pa_nil))))
    (pss_cons (ps_if (pt_cmpR op_lt (pv 1) pe_int (nomark _)) (pss_one (ps_set (i := 2) scMade.nd rfl (Or.inl rfl) (pe_un un_neg (pv 2)))) pss_nil)
    (pss_one (ps_ret (pe_tup (pa_cons (pe_op op_fdivB (pv 0) (pv 2)) (pa_cons (pe_op op_fdivB (pv 1) (pv 2)) pa_nil)))))), ?_⟩
   refine ⟨_, rfl, x, rfl, _, rfl, y, rfl, _, _, rfl, abs_nn x, abs_nn y, ?_⟩
   rw [abs_gcd]
   have hg := Pw.gpos (a := x) hy
   have sg := (gcd_sz (x := x) sy hy).mono (show 8000 ≤ 9000 by decide)
   refine ⟨_, rfl, _, _, rfl, rfl, _, rfl, ?_⟩
   refine if2 (fun h => ?_) (fun h => ?_)
   · have h : y < 0 := of_decide_eq_true h
     refine ⟨_, rfl, _, rfl, ?_⟩
     refine ⟨_, rfl, _, rfl, _, _, rfl, rfl, ⟨by omega, sg.neg⟩, _, rfl, _, rfl, _, _, rfl, rfl, ⟨by omega, sg.neg⟩, (by show 2 ≤ sizeLine; decide), fun p hp => ?_⟩
     have := k p hp
     unfold Pw.mk at this
     rw [if_pos h] at this
     exact this
   · have h : ¬ y < 0 := of_decide_eq_false h
     refine ⟨_, rfl, _, rfl, _, _, rfl, rfl, ⟨by omega, sg⟩, _, rfl, _, rfl, _, _, rfl, rfl, ⟨by omega, sg⟩, (by show 2 ≤ sizeLine; decide), fun p hp => ?_⟩
     have := k p hp
     unfold Pw.mk at this
     rw [if_neg h] at this
     exact this
theorem d_made (S : Fnd K mg "made" sMade ["above", "below"]) (C : Fnd K mg "common" sCommon ["one", "other"]) (T : Txt mg) : Def P w K mg base 2 "made" ["above", "below"] spMadeS := by
 obtain ⟨fC, fdC, FC, mC, bC⟩ := C
 exact S.def fun f fd F => (ok_made F T.abs FC mC bC).imp fun vs H Q E ⟨x, y, e, h1, h2, h3, h4⟩ => ⟨x, y, e, h1, h2, h3, fun p hp => h4 p _ (Same.new hp) upd_same⟩
theorem sc_law_take : FnScope ["draws", "many"] ["draws", "many"] (defScope s_law_take) := ⟨rfl, rfl, rfl, by decide +kernel, rfl, by decide +kernel, by decide +kernel⟩
theorem d_law_take (S : Fnd K mg "_law_take" s_law_take ["draws", "many"]) (T : Txt mg)  : Def P w K mg base 1 "_law_take" ["draws", "many"] spTake := S.def fun f fd F => by
 have nd := sc_law_take.nd
 refine F.ok sc_law_take (fun vs H Q E h => ?_) (fun cdv A' outer s H vs Q E hr h => ?_)
 · obtain ⟨_, _, rfl, _⟩ := h
   rfl
 · obtain ⟨d, m, rfl, hm, ⟨ns, e, zl⟩, k⟩ := h
   refine ⟨_, (@pss_cons _ _ _ _ _ (@ps_if _ _ _ _ _ _ _ _ (pt_cmpR (op_eqNil hr) (pv 0) (@pe_lstS _ _ _ _ pa_nil) (nomark _))
    (@pss_one _ _ _ (@ps_ret _ _ _ _ pe_int))
    pss_nil)
    (@pss_one _ _ _ (@ps_ret _ _ _ _ (pe_op op_mod (pe_bm PySem.F.plainAttrs_list PySem.F.slot_list_pop PySem.F.type_list_pop mt_popAt (pv 0) (@pa_consX _ _ _ _ _ (by rfl) pe_int pa_nil)) (pv 1))))), ?_⟩
   refine ⟨_, rfl, (by show 0 ≤ sizeLine; decide), fun p G1 s1 hp e1 => ?_⟩
   refine ⟨d, p, _, rfl, rfl, .inr ⟨SqL.of (s1 _ _ e), SqL.of e1⟩, _, rfl, ?_⟩
   have hpd : p ≠ d := (ne_of_none e hp).symm
   cases ns with
   | nil =>
     refine ifT rfl ?_
     exact k 0 G1 (by omega) hm ⟨[], s1 _ _ e, Nat.zero_le _⟩ (Same.kpd s1)
   | cons n ns =>
     refine ifF rfl ?_
     refine ⟨_, rfl, .inl ⟨rfl, _, SqL.of (s1 _ _ e)⟩, d, _, 0, 0, .int n, rfl, rfl, s1 _ _ e, by decide, by decide, (by simp [seqIndex?]), rfl, _, rfl, _, _, rfl, rfl, hm, ?_⟩
     refine k _ _ (Int.emod_nonneg _ (by omega)) (Int.emod_lt_of_pos _ hm) ⟨ns, upd_same, by simp at zl; omega⟩ ?_
     exact (Same.kpd s1).trans Kp.set
theorem sc_law_fraction : FnScope ["above", "below", "one", "other"] ["above", "below"] (defScope s_law_fraction) := ⟨rfl, rfl, rfl, by decide +kernel, rfl, by decide +kernel, by decide +kernel⟩
theorem d_law_fraction (S : Fnd K mg "_law_fraction" s_law_fraction ["above", "below"]) (T : Txt mg)  : Def P w K mg base 1 "_law_fraction" ["above", "below"] spMadeS := S.def fun f fd F => by
 have nd := sc_law_fraction.nd
 refine F.ok sc_law_fraction (fun vs H Q E h => ?_) (fun cdv A' outer s H vs Q E hr h => ?_)
 · obtain ⟨_, _, rfl, _⟩ := h
   rfl
 · obtain ⟨x, y, rfl, hy, sx, sy, k⟩ := h
   refine ⟨_, (@pss_mid _ _ _ _ _ (@ps_if _ _ _ _ _ _ _ _ (pt_cmpR op_lt (pv 1) pe_int (nomark _))
    (@pss_cons _ _ _ _ _ (@ps_setX _ _ 0 _ _ _ _ (by rfl) (Or.inl rfl) nd rfl (Or.inl rfl) (pe_op op_sub pe_int (pv 0)))
    (@pss_one _ _ _ (@ps_setX _ _ 1 _ _ _ _ (by rfl) (Or.inl rfl) nd rfl (Or.inl rfl) (pe_op op_sub pe_int (pv 1)))))
     pss_nil)
    (@pss_cons _ _ _ _ _ (@ps_setX _ _ 2 _ _ _ _ (by rfl) (Or.inl rfl) nd rfl (Or.inl rfl) (pe_callB call_abs (by rfl) T.abs boot_abs (@pa_consX _ _ _ _ _ (by rfl) (pv 0) pa_nil)))
    (@pss_cons _ _ _ _ _ (@ps_setX _ _ 3 _ _ _ _ (by rfl) (Or.inl rfl) nd rfl (Or.inl rfl) (pv 1))
    (@pss_cons _ _ _ _ _ (ps_while PassesOwn.never (pt_cmpR op_gt (pv 3) pe_int (nomark _))
     (@pss_one _ _ _ (ps_par rfl nd (i := 2) (j := 3) rfl rfl (by decide) rfl rfl (@pa_consX _ _ _ _ _ (by rfl) (pv 3) (@pa_consX _ _ _ _ _ (by rfl) (pe_op op_mod (pv 2) (pv 3)) pa_nil)) (by rfl))))
    (@pss_one _ _ _ (@ps_ret _ _ _ _ (@pe_tupS _ _ _ _ _ (@pa_consX _ _ _ _ _ (by rfl) (pe_op op_fdivB (pv 0) (pv 2)) (@pa_consX _ _ _ _ _ (by rfl) (pe_op op_fdivB (pv 1) (pv 2)) pa_nil))))))))), ?_⟩
   refine ⟨fun σ G => G = H ∧ ∃ x' y' : Int, 0 < y' ∧ Sz 8000 x' ∧ Sz 8000 y' ∧ Pw.mk x' y' = Pw.mk x y ∧ σ = [some (.int x'), some (.int y'), none, none], ?_, ?_⟩
   · refine ⟨_, rfl, _, _, rfl, rfl, _, rfl, ?_⟩
     refine if2 (fun h => ?_) (fun h => ?_)
     · have h : y < 0 := of_decide_eq_true h
       refine ⟨_, rfl, _, _, rfl, rfl, ?_⟩
       refine ⟨_, rfl, _, _, rfl, rfl, ?_⟩
       refine ⟨rfl, 0 - x, 0 - y, by omega, ?_, ?_, ?_, rfl⟩
       · rw [Int.zero_sub]; exact sx.neg
       · rw [Int.zero_sub]; exact sy.neg
       · have := Pw.mk_mul (a := x) (b := y) (m := -1) hy (by decide)
         rw [show 0 - x = x * -1 by omega, show 0 - y = y * -1 by omega]
         exact this
     · have h : ¬ y < 0 := of_decide_eq_false h
       exact ⟨rfl, x, y, by omega, sx, sy, rfl, rfl⟩
   rintro σ G ⟨rfl, x', y', hy', sx', sy', e0, rfl⟩
   rw [← e0] at k
   refine ⟨_, rfl, x', rfl, ?_⟩
   refine ⟨_, rfl, ?_⟩
   have hyn : y' ≠ 0 := by omega
   refine while_by (fun σ H' => ∃ (a b : Int), σ = [some (.int x'), some (.int y'), some (.int a), some (.int b)] ∧ 0 ≤ a ∧ 0 ≤ b ∧ Int.gcd a b = Int.gcd x' y' ∧ H' = G)
    (fun σ _ => match σ with | [_, _, _, some (.int b)] => b.toNat | _ => 0) ⟨_, y', rfl, abs_nn x', by omega, ?_, rfl⟩ ?_ ?_
   · have := abs_gcd x' y'
     rw [if_neg (show ¬ y' < 0 by omega)] at this
     exact this
   · rintro σ H' ⟨a, b, rfl, ha, hb, hg, rfl⟩
     refine ⟨_, rfl, _, _, rfl, rfl, _, rfl, ?_⟩
     refine if2 (fun h => ?_) (fun h => ?_)
     · have hb0 : 0 < b := of_decide_eq_true h
       refine ⟨_, rfl, _, rfl, _, rfl, _, _, rfl, rfl, hb0, _, _, rfl, ?_⟩
       refine ⟨⟨b, a % b, rfl, hb, Int.emod_nonneg _ (by omega), ?_, rfl⟩, ?_⟩
       · rw [Pw.gcd_turn ha hb0, hg]
       · show (a % b).toNat < b.toNat
         have h1 := Int.emod_nonneg a (show b ≠ 0 by omega)
         have h2 := Int.emod_lt_of_pos a hb0
         omega
     · have h : ¬ 0 < b := of_decide_eq_false h
       have h0 : b = 0 := by omega
       subst h0
       have e : (a : Int) = (Int.gcd x' y' : Int) := by rw [← hg, Int.gcd_zero_right]; omega
       subst e
       have hgp := Pw.gpos (a := x') hyn
       have sg := (gcd_sz (x := x') sy' hyn).mono (show 8000 ≤ 9000 by decide)
       refine ⟨_, rfl, _, rfl, _, _, rfl, rfl, ⟨by omega, sg⟩, _, rfl, _, rfl, _, _, rfl, rfl, ⟨by omega, sg⟩, (by show 2 ≤ sizeLine; decide), fun p G2 s2 hp e2 => ?_⟩
       refine k p G2 s2 ?_
       unfold Pw.mk
       rw [if_neg (show ¬ y' < 0 by omega)]
       exact e2
   · rintro σ H' q q' hq ⟨v, e, i, j, e1, e2, kk, ek, z⟩
     exact ⟨v, e, i, j, e1, e2, kk, ek, hq _ _ z⟩
end
end Lw

set_option pp.maxSteps 800
namespace Lw
open PySem L2 PyProof.Rows
section
variable {P : Program} {w : World} {K : PySem.W.Frag} {mg : Str → Option Value} {base : Heap}
theorem sc_law_draws : FnScope ["script", "draws", "k", "rest", "stir", "many"] ["script"] (defScope s_law_draws) := ⟨rfl, rfl, rfl, by decide +kernel, rfl, by decide +kernel, by decide +kernel⟩
theorem d_law_draws (S : Fnd K mg "_law_draws" s_law_draws ["script"]) (T : Txt mg) (zmin : mg "min" = none) : Def P w K mg base 1 "_law_draws" ["script"] (spDraws K) := S.def fun f fd F => by
 have nd := sc_law_draws.nd
 refine F.ok sc_law_draws (fun vs H Q E h => ?_) (fun cdv A' outer s H vs Q E hr h => ?_)
 · obtain ⟨_, _, rfl, _⟩ := h
   rfl
 · obtain ⟨a, ns, rfl, hS, hlen, k⟩ := h
   refine ⟨_, (@pss_cons _ _ _ _ _ (@ps_setX _ _ 1 _ _ _ _ (by rfl) (Or.inl rfl) nd rfl (Or.inl rfl) (@pe_lstS _ _ _ _ pa_nil))
    (@pss_cons _ _ _ _ _ (@ps_forX _ _ _ _ _ _ _ _ (fun _ => rfl) PassesOwn.never rfl (pi_range1 rfl T.range (@pa_consX _ _ _ _ _ (by rfl) (pe_callB (call_min2 rfl) (by rfl) zmin boot_min (@pa_consX _ _ _ _ _ (by rfl) (pe_callB call_len_seq (by rfl) T.len PySem.boot_len (@pa_consX _ _ _ _ _ (by rfl) (pv 0) pa_nil)) (@pa_consX _ _ _ _ _ (by rfl) pe_int pa_nil))) pa_nil)) (pg_name (i := 2) nd rfl (Or.inl rfl))
     (@pss_cons _ _ _ _ _ (@ps_setX _ _ 3 _ _ _ _ (by rfl) (Or.inl rfl) nd rfl (Or.inl rfl) (pe_callB call_abs (by rfl) T.abs boot_abs (@pa_consX _ _ _ _ _ (by rfl) (pe_ix ix_list (pv 0) (pv 2) (fun _ _ => rfl)) pa_nil)))
    (@pss_one _ _ _ (@ps_if _ _ _ _ _ _ _ _ (pt_cmpR op_lt (pv 3) (pe_op op_pow pe_int pe_int) (nomark _))
     (@pss_cons _ _ _ _ _ (@ps_setX _ _ 4 _ _ _ _ (by rfl) (Or.inl rfl) nd rfl (Or.inl rfl) (pe_op op_mod (pe_op op_mul (pe_op op_mod (pe_op op_add (pe_op op_add (pv 3) (pe_op op_mul pe_int (pv 2))) pe_int) pe_int) pe_int) pe_int))
    (@pss_cons _ _ _ _ _ (@ps_setX _ _ 4 _ _ _ _ (by rfl) (Or.inl rfl) nd rfl (Or.inl rfl) (pe_op op_mod (pe_op op_mul (pv 4) (pv 4)) pe_int))
    (@pss_cons _ _ _ _ _ (ps_expr (pe_bm PySem.F.plainAttrs_list PySem.F.slot_list_append PySem.F.type_list_append mt_append (pv 1) (@pa_consX _ _ _ _ _ (by rfl) (pe_op op_mod (pe_op op_fdiv (pv 4) pe_int) pe_int) pa_nil)))
    (@pss_cons _ _ _ _ _ (ps_expr (pe_bm PySem.F.plainAttrs_list PySem.F.slot_list_append PySem.F.type_list_append mt_append (pv 1) (@pa_consX _ _ _ _ _ (by rfl) (pe_op op_mod (pe_op op_fdiv (pv 4) pe_int) pe_int) pa_nil)))
    (@pss_cons _ _ _ _ _ (@ps_setX _ _ 4 _ _ _ _ (by rfl) (Or.inl rfl) nd rfl (Or.inl rfl) (pe_op op_mod (pe_op op_add (pv 4) (pe_op op_mul pe_int (pe_op op_add (pv 2) pe_int))) pe_int))
    (@pss_one _ _ _ (ps_expr (pe_bm PySem.F.plainAttrs_list PySem.F.slot_list_append PySem.F.type_list_append mt_append (pv 1) (@pa_consX _ _ _ _ _ (by rfl) (pe_op op_mod (pe_op op_fdiv (pe_op op_mod (pe_op op_mul (pv 4) (pv 4)) pe_int) pe_int) pe_int) pa_nil)))))))))
     (@pss_cons _ _ _ _ _ (@ps_setX _ _ 5 _ _ _ _ (by rfl) (Or.inl rfl) nd rfl (Or.inl rfl) pe_int)
    (@pss_one _ _ _ (ps_while PassesOwn.never (PW.pt (pw_and (pt_cmpR op_ge (pv 3) pe_int (nomark _)) (pw_and1 (pt_cmpR op_lt (pv 5) pe_int (nomark _)))))
     (@pss_cons _ _ _ _ _ (ps_expr (pe_bm PySem.F.plainAttrs_list PySem.F.slot_list_append PySem.F.type_list_append mt_append (pv 1) (@pa_consX _ _ _ _ _ (by rfl) (pe_op op_mod (pv 3) pe_int) pa_nil)))
    (@pss_cons _ _ _ _ _ (@ps_setX _ _ 3 _ _ _ _ (by rfl) (Or.inl rfl) nd rfl (Or.inl rfl) (pe_op op_fdiv (pv 3) pe_int))
    (@pss_one _ _ _ (@ps_setX _ _ 5 _ _ _ _ (by rfl) (Or.inl rfl) nd rfl (Or.inl rfl) (pe_op op_add (pv 5) pe_int))))))))))))
    (@pss_one _ _ _ (@ps_ret _ _ _ _ (pe_slice sl_list (pv 1) po_none (po_some pe_int)))))), ?_⟩
   refine ⟨(by show 0 ≤ sizeLine; decide), fun d H1 s1 hd e1 => ?_⟩
   refine ⟨_, rfl, a, _, rfl, .inl (s1.seq hS), _, _, rfl, ?_⟩
   have hml : (if (80 : Int) < ((ns.map V.int).length : Nat) then (80 : Int) else ((ns.map V.int).length : Nat)) = (ns.length : Nat) := by
    rw [List.length_map, if_neg (by omega)]
   rw [hml]
   refine ⟨_, rfl, by omega, by omega, ?_⟩
   refine for_range (lo := 0) (n := ((ns.length : Nat) : Int).toNat) (fun i σ G => Same H G ∧ ∃ (ds : List Int) (v2 v3 v4 v5 : Option V), G d = some (.lst (ds.map V.int)) ∧ ds.length ≤ 60 * i ∧ σ = [some (.ref a), some (.ref d), v2, v3, v4, v5]) ?_ ?_ ?_
   · exact ⟨s1, [], none, none, none, none, e1, Nat.zero_le _, rfl⟩
   · rintro i σ G hi ⟨sG, ds, v2, v3, v4, v5, eG, zl, rfl⟩
     have hil : i < ns.length := by omega
     have ei : (ns.map V.int)[i]? = some (.int ns[i]) := by simp [hil]
     have up : ∀ {G' : Hp} {o : HO}, Same H G' → Same H (upd G' d o) := fun {G' o} s b u e => by rw [upd_ne (ne_of_none e hd)]; exact s b u e
     have ap : ∀ (ds : List Int) (n : Int), ds.map V.int ++ [V.int n] = (ds ++ [n]).map V.int := fun ds n => by rw [List.map_append]; rfl
     rw [Int.zero_add]
     refine ⟨_, rfl, _, rfl, a, _, _, _, rfl, rfl, sG.seq hS, atI_nat ei, _, rfl, ?_⟩
     generalize hrr : (if ns[i] < 0 then -ns[i] else ns[i]) = r
     have hr0 : 0 ≤ r := by rw [← hrr]; exact abs_nn _
     refine ⟨_, rfl, _, _, rfl, rfl, ⟨by decide, by decide, by decide⟩, _, _, rfl, rfl, _, rfl, ?_⟩
     refine if2 (fun h => ?_) (fun h => ?_)
     · refine ⟨_, rfl, _, rfl, _, _, rfl, rfl, .inl ⟨by decide, by decide⟩, _, _, rfl, rfl, _, _, rfl, rfl, _, _, rfl, rfl, (by show (0 : Int) < 2147483647; decide), _, _, rfl, rfl, .inr ⟨by decide, by decide⟩, _, _, rfl, rfl, (by show (0 : Int) < 2147483647; decide), ?_⟩
       refine ⟨_, rfl, _, rfl, _, _, rfl, rfl, .inl ⟨by omega, by omega⟩, _, _, rfl, rfl, (by show (0 : Int) < 2147483629; decide), ?_⟩
       refine ⟨_, rfl, .inl ⟨rfl, _, SqL.of eG⟩, _, rfl, _, _, rfl, rfl, ⟨by decide, by decide⟩, _, _, rfl, rfl, (by show (0 : Int) < 1000; decide), d, _, _, rfl, rfl, eG, (by rw [List.length_map]; exact small16 (by omega)), ?_⟩
       rw [ap]
       refine ⟨_, rfl, .inl ⟨rfl, _, SqL.of upd_same⟩, _, rfl, _, _, rfl, rfl, ⟨by decide, by decide⟩, _, _, rfl, rfl, (by show (0 : Int) < 1000; decide), d, _, _, rfl, rfl, upd_same, (by rw [List.length_map, List.length_append]; exact small16 (by simp only [List.length_cons, List.length_nil]; omega)), ?_⟩
       rw [ap]
       refine ⟨_, rfl, _, rfl, _, _, rfl, rfl, _, _, rfl, rfl, .inl ⟨by decide, by decide⟩, _, _, rfl, rfl, _, _, rfl, rfl, (by show (0 : Int) < 2147483587; decide), ?_⟩
       refine ⟨_, rfl, .inl ⟨rfl, _, SqL.of upd_same⟩, _, rfl, _, rfl, _, _, rfl, rfl, .inl ⟨by omega, by omega⟩, _, _, rfl, rfl, (by show (0 : Int) < 2147483647; decide), _, _, rfl, rfl, ⟨by decide, by decide⟩, _, _, rfl, rfl, (by show (0 : Int) < 1000; decide), d, _, _, rfl, rfl, upd_same, (by rw [List.length_map, List.length_append, List.length_append]; exact small16 (by simp only [List.length_cons, List.length_nil]; omega)), ?_⟩
       rw [ap]
       refine ⟨up (up (up sG)), _, _, _, _, _, upd_same, ?_, rfl⟩
       rw [List.length_append, List.length_append, List.length_append]
       simp only [List.length_cons, List.length_nil]
       omega
     · refine while_in (fun σ G' => Same H G' ∧ ∃ (es : List Int) (r' m : Int), G' d = some (.lst (es.map V.int)) ∧ 0 ≤ m ∧ m ≤ 60 ∧ es.length = ds.length + m.toNat ∧ σ = [some (.ref a), some (.ref d), some (.int ((i : Nat) : Int)), some (.int r'), v4, some (.int m)])
        (fun σ _ => match σ with | [_, _, _, _, _, some (.int m)] => (60 - m).toNat | _ => 0) ⟨sG, ds, r, 0, eG, by decide, by decide, by simp, rfl⟩ ?_
       · rintro σ G' ⟨s', es, r', m, e', m0, m6, el, rfl⟩
         refine ⟨_, rfl, _, _, rfl, rfl, _, rfl, ?_⟩
         refine if2 (fun h1 => ?_) (fun h1 => ?_)
         · refine ⟨_, rfl, _, _, rfl, rfl, _, rfl, ?_⟩
           refine if2 (fun h2 => ?_) (fun h2 => ?_)
           · have h2 : m < 60 := of_decide_eq_true h2
             refine ⟨_, wN, ?_⟩
             refine ⟨_, rfl, .inl ⟨rfl, _, SqL.of e'⟩, _, rfl, _, _, rfl, rfl, (by show (0 : Int) < 1000; decide), d, _, _, rfl, rfl, e', (by rw [List.length_map]; exact small16 (by omega)), ?_⟩
             rw [ap]
             refine ⟨_, rfl, _, _, rfl, rfl, ⟨by decide, by decide⟩, ?_⟩
             refine ⟨_, rfl, _, _, rfl, rfl, ?_⟩
             refine ⟨⟨up s', _, _, _, upd_same, ?_, ?_, ?_, rfl⟩, ?_⟩
             · omega
             · omega
             · rw [List.length_append, el]; simp only [List.length_cons, List.length_nil]; omega
             · show (60 - (m + 1)).toNat < (60 - m).toNat
               omega
           · exact ⟨s', es, _, _, _, _, e', by omega, rfl⟩
         · exact ⟨s', es, _, _, _, _, e', by omega, rfl⟩
   · rintro σ G ⟨sG, ds, v2, v3, v4, v5, eG, zl, rfl⟩
     refine ⟨_, rfl, _, rfl, d, _, rfl, SqL.of eG, fun p hp => ?_⟩
     have sp : Same H (upd G p (.lst (cutV (ds.map V.int) none (some 240)))) := sG.trans (Same.new hp)
     obtain ⟨es, e5, z5⟩ := cut240 ds
     refine k p _ sp (sG.free hp) ⟨es, ?_, z5⟩
     rw [upd_same, e5]
theorem sc_law_kinds : FnScope ["draws", "many", "letters", "wide", "first"] ["draws", "many"] (defScope s_law_kinds) := ⟨rfl, rfl, rfl, by decide +kernel, rfl, by decide +kernel, by decide +kernel⟩
set_option maxHeartbeats 0 in
theorem d_law_kinds (S : Fnd K mg "_law_kinds" s_law_kinds ["draws", "many"]) (T : Txt mg) (Tk : Def P w K mg base 1 "_law_take" ["draws", "many"] spTake) : Def P w K mg base 2 "_law_kinds" ["draws", "many"] spKinds := S.def fun f fd F => by
 have nd := sc_law_kinds.nd
 refine F.ok sc_law_kinds (fun vs H Q E h => ?_) (fun cdv A' outer s H vs Q E hr h => ?_)
 · obtain ⟨_, _, rfl, _⟩ := h
   rfl
 · obtain ⟨d, n, rfl, n1, n12, hd, k⟩ := h
   refine ⟨_, (@pss_cons _ _ _ _ _ (@ps_setX _ _ 2 _ _ _ _ (by rfl) (Or.inl rfl) nd rfl (Or.inr rfl) pe_str)
    (@pss_cons _ _ _ _ _ (@ps_setX _ _ 3 _ _ _ _ (by rfl) (Or.inl rfl) nd rfl (Or.inr rfl) (pe_ix ix_list (@pe_lstS _ _ _ _ (@pa_consX _ _ _ _ _ (by rfl) pe_int (@pa_consX _ _ _ _ _ (by rfl) pe_int (@pa_consX _ _ _ _ _ (by rfl) pe_int (@pa_consX _ _ _ _ _ (by rfl) pe_int (@pa_consX _ _ _ _ _ (by rfl) pe_int (@pa_consX _ _ _ _ _ (by rfl) pe_int pa_nil))))))) (pe_def (by rfl) (by rfl) (by rfl) (by decide) Tk (hr.mono (by decide)) (@pa_consX _ _ _ _ _ (by rfl) (pv 0) (@pa_consX _ _ _ _ _ (by rfl) pe_int pa_nil))) (fun _ _ => rfl)))
    (@pss_cons _ _ _ _ _ (@ps_setX _ _ 4 _ _ _ _ (by rfl) (Or.inl rfl) nd rfl (Or.inr rfl) (pe_def (by rfl) (by rfl) (by rfl) (by decide) Tk (hr.mono (by decide)) (@pa_consX _ _ _ _ _ (by rfl) (pv 0) (@pa_consX _ _ _ _ _ (by rfl) (pe_op op_sub pe_int (pv 3)) pa_nil))))
    (@pss_one _ _ _ (@ps_ret _ _ _ _ (pe_bm PySem.F.plainAttrs_str PySem.F.slot_str_join PySem.F.type_str_join mt_joinS pe_str (@pa_consX _ _ _ _ _ (by rfl) (pe_compC ["page", "letters", "first", "draws", "wide"] [none, some 2, some 4, some 0, some 3] rfl (pi_range1 rfl T.range (@pa_consX _ _ _ _ _ (by rfl) (pv 1) pa_nil)) (by show ∀ y : Str × NameKind, y ∈ _ → y.2 = NameKind.free → (defScope s_law_kinds).names.lookup y.1 = some .cell; decide +kernel) (by decide) rfl (by decide +kernel) ⟨⟨rfl, rfl, .inl rfl⟩, ⟨rfl, rfl, .inl rfl⟩, ⟨rfl, rfl, .inl rfl⟩, ⟨rfl, rfl, .inl rfl⟩, trivial⟩
     (fun cl C s H fp => (pg_name (i := 0) (show (["page", "letters", "first", "draws", "wide"] : List Str).Nodup by decide +kernel) rfl (Or.inl rfl) (.inr rfl)))
     (fun cl C s H fp => pts_nil)
     (fun cl C s H fp => (pe_ix ix_str (pv 1) (pe_op op_add (pv 2) (pe_def (by rfl) (by rfl) (by rfl) (by decide) Tk (hr.mono (by decide)) (@pa_consX _ _ _ _ _ (by rfl) (pv 3) (@pa_consX _ _ _ _ _ (by rfl) (pv 4) pa_nil)))) (fun _ _ => rfl)))) pa_nil))))))), ?_⟩
   refine ⟨(by show 6 ≤ sizeLine; decide), fun b1 G1 t1 hb1 eb1 => ?_⟩
   have hb1d : b1 ≠ d := hd.ne hb1
   refine ⟨_, rfl, d, 6, rfl, by decide, hd.same t1, fun xx G2 x0 x1 h2 k2 => ?_⟩
   obtain ⟨mm, e2, m0, m1⟩ : ∃ mm : Int, atI [V.int 1, V.int 2, V.int 3, V.int 6, V.int 12, V.int 26] xx = some (.int mm) ∧ 1 ≤ mm ∧ mm ≤ 26 := by
    have : xx = 0 ∨ xx = 1 ∨ xx = 2 ∨ xx = 3 ∨ xx = 4 ∨ xx = 5 := by omega
    rcases this with rfl | rfl | rfl | rfl | rfl | rfl
    · exact ⟨1, rfl, by decide, by decide⟩
    · exact ⟨2, rfl, by decide, by decide⟩
    · exact ⟨3, rfl, by decide, by decide⟩
    · exact ⟨6, rfl, by decide, by decide⟩
    · exact ⟨12, rfl, by decide, by decide⟩
    · exact ⟨26, rfl, by decide, by decide⟩
   refine ⟨b1, _, _, _, rfl, rfl, SqL.of (k2 _ _ eb1 hb1d), e2, ?_⟩
   refine ⟨_, rfl, _, rfl, _, _, rfl, rfl, d, 27 - mm, rfl, by omega, h2, fun ff G3 f0 f1 h3 k3 => ?_⟩
   have K3 : Kp d H G3 := (Same.kpd t1).trans (k2.trans k3)
   refine ⟨rfl, _, rfl, (n : Int), rfl, by omega, by omega, fun D hD => ?_⟩
   have hDd := h3.ne hD
   have hDH : H D = none := K3.freeD h3 hD
   rw [Int.toNat_natCast]
   refine comp_rng (lo := 0) (n := n) (D := D) (fun i ys σ G => DrawsAt G d ∧ Kp d H G ∧ G D = some (.lst ys) ∧ (∃ cs, ys = chV cs ∧ cs.length = i ∧ ∀ c ∈ cs, 97 ≤ c ∧ c ≤ 122) ∧ ∃ v, σ = [v, some (.str (Str.ofString "abcdefghijklmnopqrstuvwxyz")), some (.int ff), some (.ref d), some (.int mm)]) ?_ ?_ ?_ ?_
   · exact ⟨h3.same (Same.new hD), K3.trans (Kp.new hD), upd_same, ⟨[], rfl, rfl, fun c hc => by simp at hc⟩, none, rfl⟩
   · rintro i ys σ G ⟨_, _, e, _⟩
     exact e
   · rintro i ys σ G hi ⟨g1, g2, g3, ⟨cs, rfl, hl, hc⟩, v', rfl⟩
     dsimp only [gName]
     rw [if_pos rfl]
     refine ⟨_, rfl, _, rfl, _, rfl, _, rfl, d, mm, rfl, by omega, g1, fun v HL v0 v1 hL kL => ?_⟩
     have g3' : HL D = _ := kL D _ g3 hDd
     obtain ⟨j, hj⟩ : ∃ j : Nat, ff + v = (j : Int) := ⟨(ff + v).toNat, by omega⟩
     refine ⟨_, _, rfl, rfl, _, _, 97 + j, rfl, rfl, (by show 26 ≤ sizeLine; decide), (by show atI _ (ff + v) = _; rw [hj]; exact atI_nat (abc_at j (by omega))), g3', small1000 (by rw [chV_len]; omega), Wt.next hi ⟨?_, fun b o e nb => ?_, upd_same, ⟨cs ++ [97 + j], ?_, ?_, ?_⟩, _, rfl⟩⟩
     · obtain ⟨ns', e', z'⟩ := hL
       exact ⟨ns', by rw [upd_ne (Ne.symm hDd)]; exact e', z'⟩
     · rw [upd_ne (ne_of_none e hDH)]; exact kL b o (g2 b o e nb) nb
     · unfold chV; rw [List.map_append]; rfl
     · rw [List.length_append, List.length_singleton]; omega
     · intro c hc'
       rcases List.mem_append.mp hc' with hq | hq
       · exact hc c hq
       · simp at hq
         omega
   · rintro ys σ G ⟨g1, g2, g3, ⟨cs, rfl, hl, hc⟩, _⟩
     exact ⟨D, cs, rfl, rfl, SqL.of g3, by omega, k _ G (by simpa using hl) (by simpa using hc) g1 g2⟩
theorem sc_law_are_fractions : FnScope ["found", "many", "part"] ["found", "many"] (defScope s_law_are_fractions) := ⟨rfl, rfl, rfl, by decide +kernel, rfl, by decide +kernel, by decide +kernel⟩
theorem d_law_are_fractions (S : Fnd K mg "_law_are_fractions" s_law_are_fractions ["found", "many"]) (T : Txt mg) (Fr : Def P w K mg base 1 "_law_fraction" ["above", "below"] spMadeS) : Def P w K mg base 2 "_law_are_fractions" ["found", "many"] (spAreFS K) := S.def fun f fd F => by
 have nd := sc_law_are_fractions.nd
 refine F.ok sc_law_are_fractions (fun vs H Q E h => ?_) (fun cdv A' outer s H vs Q E hr h => ?_)
 · obtain ⟨_, _, _, _, rfl, _⟩ := h
   rfl
 · obtain ⟨p, us, As, n, rfl, hp, fl, cA, zA, hn, k⟩ := h
   refine ⟨_, (@pss_cons _ _ _ _ _ (@ps_if _ _ _ _ _ _ _ _ (PW.pt (pw_or (pt_not (pt_val (pe_callB call_isi (by rfl) T.isi boot_isinstance (@pa_consX _ _ _ _ _ (by rfl) (pv 0) (@pa_consX _ _ _ _ _ (by rfl) (pe_bltn (v := .ty "tuple") (by rfl) T.tup boot_tuple rfl) pa_nil))))) (pw_or1 (pt_cmpR op_ne (pe_callB call_len_seq (by rfl) T.len PySem.boot_len (@pa_consX _ _ _ _ _ (by rfl) (pv 0) pa_nil)) (pv 1) (nomark _)))))
    (@pss_one _ _ _ (@ps_ret _ _ _ _ pe_bl))
    pss_nil)
    (@pss_cons _ _ _ _ _ (@ps_forX _ _ _ _ _ _ _ _ (fun _ => rfl) PassesOwn.never rfl (pi_tup (pv 0)) (pg_name (i := 2) nd rfl (Or.inl rfl))
     (@pss_cons _ _ _ _ _ (@ps_if _ _ _ _ _ _ _ _ (PW.pt (pw_or (pt_not (pt_val (pe_callB call_isiT (by rfl) T.isi boot_isinstance (@pa_consX _ _ _ _ _ (by rfl) (pv 2) (@pa_consX _ _ _ _ _ (by rfl) (pe_bltn (v := .ty "tuple") (by rfl) T.tup boot_tuple rfl) pa_nil))))) (pw_or (pt_cmpR op_ne (pe_callB call_len_seq (by rfl) T.len PySem.boot_len (@pa_consX _ _ _ _ _ (by rfl) (pv 2) pa_nil)) pe_int (nomark _)) (pw_or (pt_val (pe_callB call_isi (by rfl) T.isi boot_isinstance (@pa_consX _ _ _ _ _ (by rfl) (pe_ix ix_tup (pv 2) pe_int (fun _ _ => rfl)) (@pa_consX _ _ _ _ _ (by rfl) (pe_bltn (v := .ty "bool") (by rfl) T.bool boot_bool rfl) pa_nil)))) (pw_or1 (pt_val (pe_callB call_isi (by rfl) T.isi boot_isinstance (@pa_consX _ _ _ _ _ (by rfl) (pe_ix ix_tup (pv 2) pe_int (fun _ _ => rfl)) (@pa_consX _ _ _ _ _ (by rfl) (pe_bltn (v := .ty "bool") (by rfl) T.bool boot_bool rfl) pa_nil)))))))))
     (@pss_one _ _ _ (@ps_ret _ _ _ _ pe_bl))
     pss_nil)
    (@pss_cons _ _ _ _ _ (@ps_if _ _ _ _ _ _ _ _ (PW.pt (pw_or (pt_not (pt_val (pe_callB call_isi (by rfl) T.isi boot_isinstance (@pa_consX _ _ _ _ _ (by rfl) (pe_ix ix_tup (pv 2) pe_int (fun _ _ => rfl)) (@pa_consX _ _ _ _ _ (by rfl) (pe_bltn (v := .ty "int") (by rfl) T.int boot_int rfl) pa_nil))))) (pw_or (pt_not (pt_val (pe_callB call_isi (by rfl) T.isi boot_isinstance (@pa_consX _ _ _ _ _ (by rfl) (pe_ix ix_tup (pv 2) pe_int (fun _ _ => rfl)) (@pa_consX _ _ _ _ _ (by rfl) (pe_bltn (v := .ty "int") (by rfl) T.int boot_int rfl) pa_nil))))) (pw_or1 (pt_cmpR op_lt (pe_ix ix_tup (pv 2) pe_int (fun _ _ => rfl)) pe_int (nomark _))))))
     (@pss_one _ _ _ (@ps_ret _ _ _ _ pe_bl))
     pss_nil)
    (@pss_one _ _ _ (@ps_if _ _ _ _ _ _ _ _ (pt_cmpR (op_neD hr) (pe_def (by rfl) (by rfl) (by rfl) (by decide) Fr (hr.mono (by decide)) (@pa_consX _ _ _ _ _ (by rfl) (pe_ix ix_tup (pv 2) pe_int (fun _ _ => rfl)) (@pa_consX _ _ _ _ _ (by rfl) (pe_ix ix_tup (pv 2) pe_int (fun _ _ => rfl)) pa_nil))) (pv 2) (nomark _))
     (@pss_one _ _ _ (@ps_ret _ _ _ _ pe_bl))
     pss_nil)))))
    (@pss_one _ _ _ (@ps_ret _ _ _ _ pe_bl)))), ?_⟩
   have hl := fl.len
   refine ⟨_, rfl, _, _, _, true, rfl, .tup hp, isi_tt _, _, rfl, ifF rfl ?_⟩
   refine ⟨_, rfl, p, _, rfl, .inr (SqT.of hp), _, rfl, rfl, _, rfl, ifF (by rw [hn, hl]; exact veq rfl) ?_⟩
   refine ⟨_, rfl, p, rfl, ⟨_, SqT.of hp⟩, ?_⟩
   refine for_tup (K := K) (a := p) (xs := us) (fun i σ G => Same H G ∧ ∃ v : Option V, σ = [some (.ref p), some (.int n), v]) ⟨Same.refl _, none, rfl⟩ (fun i σ G _ h => SqT.of (h.1 _ _ hp)) ?_ ?_
   · rintro i x σ G hi ⟨sG, v, rfl⟩
     have hlt : i < us.length := (List.getElem?_eq_some_iff.mp hi).1
     have hA : As[i]? = some As[i] := by simp
     obtain ⟨q, eq, fq⟩ := fl.at hA
     rw [hi] at eq
     cases eq
     have mA := List.mem_of_getElem? hA
     have fq' := SqF.same fq sG
     have ca := cA _ mA
     have za := zA _ mA
     refine ⟨_, rfl, q, _, rfl, fq', _, rfl, ifF rfl ?_⟩
     refine ⟨_, rfl, q, _, rfl, .inr (fq'), rfl, _, rfl, ifF rfl ?_⟩
     refine ⟨_, rfl, q, _, _, _, rfl, rfl, fq', rfl, _, _, _, false, rfl, .int _, isi_ib _, _, rfl, ifF rfl ?_⟩
     refine ⟨_, rfl, q, _, _, _, rfl, rfl, fq', rfl, _, _, _, false, rfl, .int _, isi_ib _, _, rfl, ifF rfl ?_⟩
     refine ⟨_, rfl, q, _, _, _, rfl, rfl, fq', rfl, _, _, _, true, rfl, .int _, isi_ii _, _, rfl, ifF rfl ?_⟩
     refine ⟨_, rfl, q, _, _, _, rfl, rfl, fq', rfl, _, _, _, true, rfl, .int _, isi_ii _, _, rfl, ifF rfl ?_⟩
     refine ⟨_, rfl, q, _, _, _, rfl, rfl, fq', rfl, _, _, rfl, rfl, _, rfl, ifF (decide_eq_false (by have := ca.1; omega)) ?_⟩
     refine ⟨_, rfl, q, _, _, _, rfl, rfl, fq', rfl, _, rfl, q, _, _, _, rfl, rfl, fq', rfl, _, _, rfl, Pw.canon_ne ca, za.1.mono (by decide), za.2.mono (by decide), fun r G1 s1 f1 => ?_⟩
     refine ⟨_, rfl, neFS (K := K) (A := Pw.mk As[i].1 As[i].2) (B := As[i]) (SqF.of f1) (SqF.same fq' s1) ⟨_, rfl, ifF (nd0 (Pw.mk_canon ca)) ?_⟩⟩
     exact ⟨sG.trans s1, _, rfl⟩
   · rintro σ G ⟨sG, v, rfl⟩
     exact k G sG
end
end Lw

set_option pp.maxSteps 800
namespace Lw
open PySem L2 PyProof.Rows
section
variable {P : Program} {w : World} {K : PySem.W.Frag} {mg : Str → Option Value} {base : Heap}
theorem sc_leaps_of : FnScope ["kinds", "letter", "share"] ["kinds", "letter"] (defScope s_leaps_of) := ⟨rfl, rfl, rfl, by decide +kernel, rfl, by decide +kernel, by decide +kernel⟩
set_option maxHeartbeats 0 in
theorem d_leaps_of (S : Fnd K mg "leaps_of" s_leaps_of ["kinds", "letter"]) (T : Txt mg) {Xc : Addr} (XT : XcT K mg "NoKind" Xc) {zZ : Addr} (mZ : mg "ZERO" = some (.ref zZ)) (hZ : ∀ H, SqF K H zZ (0, 1)) (zstr : mg "str" = none) (Md : Def P w K mg base 2 "made" ["above", "below"] spMadeS) : DefX P w K mg base (CXN P w Xc) 3 "leaps_of" ["kinds", "letter"] (spLeapsX K Xc) := S.defX fun f fd F => by
 have nd := sc_leaps_of.nd
 refine F.okN sc_leaps_of (fun vs H Q E h => ?_) (fun cdv A' outer s H vs Q E hr h => ?_)
 · obtain ⟨_, _, rfl, _⟩ := h
   rfl
 · obtain ⟨x, v, rfl, x12, hv⟩ := h
   refine ⟨_, (@pss_cons _ _ _ _ _ (@ps_if _ _ _ _ _ _ _ _ (PW.pt (pw_or (pt_not (pt_val (pe_callB call_isi (by rfl) T.isi boot_isinstance (@pa_consX _ _ _ _ _ (by rfl) (pv 1) (@pa_consX _ _ _ _ _ (by rfl) (pe_bltn (v := .ty "str") (by rfl) zstr boot_str rfl) pa_nil))))) (pw_or (pt_cmpR op_ne (pe_callB call_len_str (by rfl) T.len PySem.boot_len (@pa_consX _ _ _ _ _ (by rfl) (pv 1) pa_nil)) pe_int (nomark _)) (pw_or1 (pt_cmpR op_notIn_str (pv 1) (pv 0) (by rfl))))))
    (@pss_one _ _ _ (ps_raise XT (by rfl) (@pa_consX _ _ _ _ _ (by rfl) pe_str pa_nil) (by rfl) (by rfl) (by decide)))
    pss_nil)
    (@pss_cons _ _ _ _ _ (@ps_setX _ _ 2 _ _ _ _ (by rfl) (Or.inl rfl) nd rfl (Or.inr rfl) (pe_def (by rfl) (by rfl) (by rfl) (by decide) Md (hr.mono (by decide)) (@pa_consX _ _ _ _ _ (by rfl) pe_int (@pa_consX _ _ _ _ _ (by rfl) (pe_bm PySem.F.plainAttrs_str PySem.F.slot_str_count PySem.F.type_str_count mt_countS (pv 0) (@pa_consX _ _ _ _ _ (by rfl) (pv 1) pa_nil)) pa_nil))))
    (@pss_one _ _ _ (@ps_ret _ _ _ _ (pe_callTy call_tupOf (by rfl) T.tup boot_tuple (@pa_consX _ _ _ _ _ (by rfl) (pe_compC ["each", "share", "letter"] [none, some 2, some 1] rfl (pi_str (pv 0)) (by show ∀ y : Str × NameKind, y ∈ _ → y.2 = NameKind.free → (defScope s_leaps_of).names.lookup y.1 = some .cell; decide +kernel) (by decide) rfl (by decide +kernel) ⟨⟨rfl, rfl, .inl rfl⟩, ⟨rfl, rfl, .inl rfl⟩, trivial⟩
     (fun cl C s H fp => (pg_name (i := 0) (show (["each", "share", "letter"] : List Str).Nodup by decide +kernel) rfl (Or.inl rfl) (.inr rfl)))
     (fun cl C s H fp => pts_nil)
     (fun cl C s H fp => (pe_ifExp (pt_cmpR op_eq (pv 0) (pv 2) (nomark _)) (pv 1) (pe_glob (v := .ref zZ) (by rfl) mZ rfl)))) pa_nil)))))), ?_⟩
   rcases hv with ⟨c, rfl, hc, k⟩ | ⟨nk, kE⟩
   · have hcnt := List.count_pos_iff.mpr hc
     have hl12 : x.cps.toList.length ≤ 12 := by rw [Array.length_toList]; exact x12
     refine ⟨_, rfl, _, _, _, true, rfl, .str _, kit_self, _, rfl, ifF rfl ?_⟩
     refine ⟨_, rfl, _, rfl, (by show 1 ≤ sizeLine; decide), rfl, _, rfl, ifF rfl ?_⟩
     refine ⟨_, rfl, _, rfl, _, _, rfl, rfl, _, rfl, ifF (by rw [in_one, decide_eq_true hc]; rfl) ?_⟩
     refine ⟨_, rfl, rfl, _, rfl, x, c, rfl, rfl, 1, _, rfl, by omega, sz_of (k := 1) (m := 8000) 41 (by decide), (cnt_sz hl12).mono (by decide), fun p H1 s1 e1 => ?_⟩
     rw [Pw.mk_1 (show (0 : Int) < ((x.cps.toList.count c : Nat) : Int) by omega)] at e1
     refine ⟨_, rfl, x, rfl, fun D hD => ?_⟩
     refine comp_str (x := x) (D := D) (fun i ys σ G => Same H1 G ∧ G D = some (.lst ys) ∧ FrS K G ((Pw.kdL x.cps.toList c).take i) ys ∧ ∃ v, σ = [v, some (.ref p), some (.str (chS c))]) ?_ ?_ ?_ ?_
     · exact ⟨Same.new hD, upd_same, rfl, none, rfl⟩
     · rintro i ys σ G ⟨_, e, _⟩
       exact e
     · rintro i b ys σ G hb hlt ⟨sG, eD, fG, v, rfl⟩
       have hlen := fG.len
       rw [List.length_take] at hlen
       have hkd : (Pw.kdL x.cps.toList c)[i]? = some (if b = c then (1, ((x.cps.toList.count c : Nat) : Int)) else (0, 1)) := by
        unfold Pw.kdL
        rw [List.getElem?_map, Array.getElem?_toList, hb]; rfl
       have st : ∀ (q : Addr) (B : Int × Int), SqF K G q B → (if b = c then (1, ((x.cps.toList.count c : Nat) : Int)) else (0, 1)) = B → G D = some (.lst ys) ∧ ys.length < sizeLine ∧ ∃ m', m' < x.cps.size - i ∧ Wt (fun i ys σ G => Same H1 G ∧ G D = some (.lst ys) ∧ FrS K G ((Pw.kdL x.cps.toList c).take i) ys ∧ ∃ v, σ = [v, some (.ref p), some (.str (chS c))]) x.cps.size (i + 1) m' (ys ++ [.ref q]) [some (.str (chS b)), some (.ref p), some (.str (chS c))] (upd G D (.lst (ys ++ [.ref q]))) := fun q B hq hB => by
        refine ⟨eD, small1000 (by omega), Wt.next hlt ⟨fun b' o e => ?_, upd_same, ?_, _, rfl⟩⟩
        · rw [upd_ne (ne_of_none e hD)]; exact sG _ _ e
        · rw [List.take_succ, hkd, hB]
          exact (fG.snoc hq).kl (KL.set eD)
       dsimp only [gName]
       rw [if_pos rfl]
       refine ⟨_, rfl, _, rfl, rfl, _, rfl, ?_⟩
       by_cases hbc : b = c
       · rw [decide_eq_true (show V.str (chS b) = V.str (chS c) by rw [hbc])]
         exact ifT rfl ⟨_, rfl, st p _ (SqF.of (sG _ _ e1)) (if_pos hbc)⟩
       · rw [decide_eq_false (show ¬ V.str (chS b) = V.str (chS c) from fun z => hbc (chS_inj (V.str.inj z)))]
         refine ifF rfl ?_
         dsimp only [tC]
         exact st zZ _ (hZ G) (if_neg hbc)
     · rintro ys σ G ⟨sG, eD, fG, _⟩
       rw [List.take_of_length_le (by rw [Pw.kd_len, Array.length_toList]; exact Nat.le_refl _)] at fG
       exact ⟨D, ys, rfl, SqL.of eD, fun t G3 s3 _ e3 => k t G3 ys (s1.trans (sG.trans s3)) e3 (fG.same s3)⟩
   · rcases nk with ⟨t, ty, kt⟩ | ⟨y, rfl, y1, y1000⟩ | ⟨c, rfl, hc⟩
     · exact ⟨_, rfl, _, _, _, false, rfl, ty, kt, _, rfl, ifT rfl (ifT rfl ⟨(by show 1 ≤ 10; decide), kE _ (Same.refl _)⟩)⟩
     · refine ⟨_, rfl, _, _, _, true, rfl, .str _, kit_self, _, rfl, ifF rfl ?_⟩
       refine ⟨_, rfl, _, rfl, (by show y.cps.size ≤ sizeLine; rw [sizeLine_eq]; omega), rfl, _, rfl, ?_⟩
       rw [decide_eq_false (show ¬ V.int ((y.length : Nat) : Int) = V.int 1 from fun z => y1 (by have := V.int.inj z; show y.length = 1; omega))]
       exact ifT rfl (ifT rfl ⟨(by show 1 ≤ 10; decide), kE _ (Same.refl _)⟩)
     · refine ⟨_, rfl, _, _, _, true, rfl, .str _, kit_self, _, rfl, ifF rfl ?_⟩
       refine ⟨_, rfl, _, rfl, (by show 1 ≤ sizeLine; decide), rfl, _, rfl, ifF rfl ?_⟩
       refine ⟨_, rfl, _, rfl, _, _, rfl, rfl, _, rfl, ifT (by rw [in_one, decide_eq_false hc]; rfl) ?_⟩
       exact ⟨(by show 1 ≤ 10; decide), kE _ (Same.refl _)⟩
theorem sc_law_deep : FnScope ["many", "found", "k"] ["many"] (defScope s_law_deep) := ⟨rfl, rfl, rfl, by decide +kernel, rfl, by decide +kernel, by decide +kernel⟩
set_option maxHeartbeats 0 in
theorem d_law_deep (S : Fnd K mg "_law_deep" s_law_deep ["many"]) (T : Txt mg)  : Def P w K mg base 1 "_law_deep" ["many"] (spDeep K) := S.def fun f fd F => by
 have nd := sc_law_deep.nd
 refine F.ok sc_law_deep (fun vs H Q E h => ?_) (fun cdv A' outer s H vs Q E hr h => ?_)
 · obtain ⟨_, rfl, _⟩ := h
   rfl
 · obtain ⟨m, rfl, m3, k⟩ := h
   refine ⟨_, (@pss_cons _ _ _ _ _ (@ps_setX _ _ 1 _ _ _ _ (by rfl) (Or.inl rfl) nd rfl (Or.inl rfl) (@pe_lstS _ _ _ _ pa_nil))
    (@pss_cons _ _ _ _ _ (@ps_forX _ _ _ _ _ _ _ _ (fun _ => rfl) PassesOwn.never rfl (pi_range1 rfl T.range (@pa_consX _ _ _ _ _ (by rfl) (pv 0) pa_nil)) (pg_name (i := 2) nd rfl (Or.inl rfl))
     (@pss_one _ _ _ (@ps_setX _ _ 1 _ _ _ _ (by rfl) (Or.inl rfl) nd rfl (Or.inl rfl) (@pe_lstS _ _ _ _ (@pa_consX _ _ _ _ _ (by rfl) (pv 1) pa_nil)))))
    (@pss_one _ _ _ (@ps_ret _ _ _ _ (pv 1))))), ?_⟩
   refine ⟨(by show 0 ≤ sizeLine; decide), fun b G1 s1 m1 e1 => ⟨_, rfl, (m : Int), rfl, by omega, by omega, ?_⟩⟩
   rw [Int.toNat_natCast]
   refine for_range (lo := 0) (n := m) (fun i σ G => ∃ (D : Addr) (xs : List V) (v : Option V), Same H G ∧ H D = none ∧ G D = some (.lst xs) ∧ σ = [some (.int (m : Int)), some (.ref D), v]) ⟨b, [], none, s1, m1, e1, rfl⟩ ?_ ?_
   · rintro i σ G hi ⟨D, xs, v, sG, mD, eD, rfl⟩
     exact ⟨_, rfl, (by show 1 ≤ sizeLine; decide), fun D2 G2 s2 m2 e2 => ⟨D2, _, _, sG.trans s2, sG.free m2, e2, rfl⟩⟩
   · rintro σ G ⟨D, xs, v, sG, mD, eD, rfl⟩
     exact ⟨_, rfl, k D G xs sG mD eD⟩
end
end Lw

set_option pp.maxSteps 800
namespace Lw
open PySem L2 PyProof.Rows
section
variable {P : Program} {w : World} {K : PySem.W.Frag} {mg : Str → Option Value} {base : Heap}
theorem sc_law_refused : FnScope ["kinds", "thing", "told", "e"] ["kinds", "thing"] (defScope s_law_refused) := ⟨rfl, rfl, rfl, by decide +kernel, rfl, by decide +kernel, by decide +kernel⟩
set_option maxHeartbeats 0 in
theorem d_law_refused (S : Fnd K mg "_law_refused" s_law_refused ["kinds", "thing"]) (T : Txt mg) {Xc : Addr} (XT : XcT K mg "NoKind" Xc) {Xw Xl Xt Xm : Addr} (XTW : XcT K mg "WalkError" Xw) (up : PySem.W.mroIn K Xc (.ref Xw) = some true) (nw : Xw ≠ Xc) (ZI : XcI K Xc) (bM : mg "NoCommand" = some (.ref Xm)) (bL : mg "NoLink" = some (.ref Xl)) (bT : mg "NoText" = some (.ref Xt)) (zVE : mg "ValueError" = none) (ki1 : PySem.W.kitOne K (.ref Xc) (.ref Xc) = some true) (ki2 : PySem.W.kitOne K (.ref Xc) (.type "ValueError") = some true) (ki3 : PySem.W.kitAny K (.ref Xc) [.ref Xm, .ref Xl, .ref Xt] = some false) (Lo : DefX P w K mg base (CXN P w Xc) 3 "leaps_of" ["kinds", "letter"] (spLeapsX K Xc)) : Def P w K mg base 4 "_law_refused" ["kinds", "thing"] (spRef37 K) := S.def fun f fd F => by
 have nd := sc_law_refused.nd
 refine F.ok sc_law_refused (fun vs H Q E h => ?_) (fun cdv A' outer s H vs Q E hr h => ?_)
 · obtain ⟨_, _, rfl, _⟩ := h
   rfl
 · obtain ⟨x, v, rfl, x12, nk, k⟩ := h
   refine ⟨_, (@pss_cons _ _ _ _ _ (@ps_setX _ _ 2 _ _ _ _ (by rfl) (Or.inl rfl) nd rfl (Or.inl rfl) (@pe_lstS _ _ _ _ pa_nil))
    (@pss_cons _ _ _ _ _ (ps_tryE (C := Xc) (D := Xw) (Rx := fun H' => Same H H') (i := 3) XTW XT.kts up nw rfl rfl (by rfl) (by decide) nd rfl rfl (fun _ => (@pss_one _ _ _ (ps_expr (pe_defX (by rfl) (by rfl) (by rfl) (by decide) Lo (hr.mono (by decide)) passT (@pa_consX _ _ _ _ _ (by rfl) (pv 0) (@pa_consX _ _ _ _ _ (by rfl) (pv 1) pa_nil)))))) (fun a oe pins hc => (@pss_one _ _ _ (@ps_setX _ _ 2 _ _ _ _ (by rfl) (Or.inl rfl) nd rfl (Or.inl rfl) (@pe_lstS _ _ _ _ (@pa_consX _ _ _ _ _ (by rfl) (pe_callB (call_isiX (a := a) ZI hc) (by rfl) T.isi boot_isinstance (@pa_consX _ _ _ _ _ (by rfl) (pv 3) (@pa_consX _ _ _ _ _ (by rfl) (pe_glob (v := .ref Xc) (by rfl) XT.bound rfl) pa_nil))) (@pa_consX _ _ _ _ _ (by rfl) (pe_callB (call_isiX (a := a) ZI hc) (by rfl) T.isi boot_isinstance (@pa_consX _ _ _ _ _ (by rfl) (pv 3) (@pa_consX _ _ _ _ _ (by rfl) (pe_bltn (v := .ty "ValueError") (by rfl) zVE boot_VE rfl) pa_nil))) (@pa_consX _ _ _ _ _ (by rfl) (pe_callB (call_isiX (a := a) ZI hc) (by rfl) T.isi boot_isinstance (@pa_consX _ _ _ _ _ (by rfl) (pv 3) (@pa_consX _ _ _ _ _ (by rfl) (@pe_tupS _ _ _ _ _ (@pa_consX _ _ _ _ _ (by rfl) (pe_glob (v := .ref Xm) (by rfl) bM rfl) (@pa_consX _ _ _ _ _ (by rfl) (pe_glob (v := .ref Xl) (by rfl) bL rfl) (@pa_consX _ _ _ _ _ (by rfl) (pe_glob (v := .ref Xt) (by rfl) bT rfl) pa_nil)))) pa_nil))) pa_nil))))))))
    (@pss_one _ _ _ (@ps_ret _ _ _ _ (pe_cmpR (op_eqD hr) (pv 2) (@pe_lstS _ _ _ _ (@pa_consX _ _ _ _ _ (by rfl) pe_bl (@pa_consX _ _ _ _ _ (by rfl) pe_bl (@pa_consX _ _ _ _ _ (by rfl) pe_bl pa_nil)))) (nomark _)))))), ?_⟩
   refine ⟨(by show 0 ≤ sizeLine; decide), fun b G1 s1 m1 e1 => ⟨?_, fun a G2 s2 => ?_⟩⟩
   · exact ⟨_, rfl, _, rfl, x, v, rfl, x12, .inr ⟨nk.kt s1.kt, fun G s => s1.trans s⟩⟩
   · refine ⟨_, rfl, .inl ⟨Xc, true, rfl, ki1, _, rfl, .inr (.inl ⟨"ValueError", true, rfl, ki2, _, rfl, (by show 3 ≤ sizeLine; decide), fun t G3 s3 m3 e3 => .inr (.inr ⟨t, [Xm, Xl, Xt], false, rfl, e3, ki3, (by show 3 ≤ sizeLine; decide), fun b2 G4 s4 m4 e4 => ?_⟩)⟩)⟩⟩
     refine ⟨_, rfl, (by show 3 ≤ sizeLine; decide), fun b3 G5 s5 m5 e5 => ⟨b2, b3, _, _, [.bl true, .bl true, .bl false], [.bl true, .bl true, .bl false], rfl, rfl, .inr ⟨SqL.of (s5 _ _ e4), SqL.of e5⟩, ?_, ?_, by decide, k G5 (s2.trans (s3.trans (s4.trans s5)))⟩⟩
     · exact ⟨_, _, rfl, rfl, _, _, rfl, rfl, _, _, rfl, rfl, rfl⟩
     · exact ⟨_, _, rfl, rfl, _, _, rfl, rfl, _, _, rfl, rfl, rfl⟩
end
end Lw

set_option pp.maxSteps 800
namespace Lw
open PySem L2 PyProof.Rows
section
variable {P : Program} {w : World} {K : PySem.W.Frag} {mg : Str → Option Value} {base : Heap}
theorem scLaw : FnScope ["script", "draws", "many", "kinds", "letter", "due", "kind", "again", "found", "some", "held", "thing"] ["script"] (defScope sLaw) := ⟨rfl, rfl, rfl, by decide +kernel, rfl, by decide +kernel, by decide +kernel⟩
set_option maxHeartbeats 0 in
theorem ok_law {f : Addr} {fd : FuncData} (F : Fun K "law" "law" sLaw f fd) (T : Txt mg) {Xc : Addr} (zset : mg "set" = none) (Dr : Def P w K mg base 1 "_law_draws" ["script"] (spDraws K)) (Tk : Def P w K mg base 1 "_law_take" ["draws", "many"] spTake) (Ki : Def P w K mg base 2 "_law_kinds" ["draws", "many"] spKinds) (Af : Def P w K mg base 2 "_law_are_fractions" ["found", "many"] (spAreFS K)) (Rf : Def P w K mg base 4 "_law_refused" ["kinds", "thing"] (spRef37 K)) (Dp : Def P w K mg base 1 "_law_deep" ["many"] (spDeep K)) (Lo : DefX P w K mg base (CXN P w Xc) 3 "leaps_of" ["kinds", "letter"] (spLeapsX K Xc)) : FnOk P w K mg base CX0 7 f fd ["script"] (spLaw K) := by
 have nd := scLaw.nd
 refine F.ok scLaw (fun vs H Q E h => ?_) (fun cdv A' outer s H vs Q E hr h => ?_)
 · obtain ⟨_, _, rfl, _⟩ := h
   rfl
 · obtain ⟨a, ns, rfl, hS, hlen, k⟩ := h
   refine ⟨_, (@pss_cons _ _ _ _ _ (@ps_setX _ _ 1 _ _ _ _ (by rfl) (Or.inl rfl) nd rfl (Or.inl rfl) (pe_def (by rfl) (by rfl) (by rfl) (by decide) Dr (hr.mono (by decide)) (@pa_consX _ _ _ _ _ (by rfl) (pv 0) pa_nil)))
    (@pss_cons _ _ _ _ _ (@ps_setX _ _ 2 _ _ _ _ (by rfl) (Or.inl rfl) nd rfl (Or.inl rfl) pe_int)
    (@pss_cons _ _ _ _ _ (ps_while PassesOwn.never (PW.pt (pw_or (pt_cmpR op_lt (pv 2) pe_int (nomark _)) (pw_or1 (PW.pt (pw_and (pt_cmpR (op_neNil hr) (pv 1) (@pe_lstS _ _ _ _ pa_nil) (nomark _)) (pw_and1 (pt_cmpR op_lt (pv 2) pe_int (nomark _))))))))
     (@pss_cons _ _ _ _ _ (@ps_setX _ _ 3 _ _ _ _ (by rfl) (Or.inl rfl) nd rfl (Or.inr rfl) (pe_def (by rfl) (by rfl) (by rfl) (by decide) Ki (hr.mono (by decide)) (@pa_consX _ _ _ _ _ (by rfl) (pv 1) (@pa_consX _ _ _ _ _ (by rfl) (pe_op op_add pe_int (pe_def (by rfl) (by rfl) (by rfl) (by decide) Tk (hr.mono (by decide)) (@pa_consX _ _ _ _ _ (by rfl) (pv 1) (@pa_consX _ _ _ _ _ (by rfl) pe_int pa_nil)))) pa_nil))))
    (@pss_mid _ _ _ _ _ (@ps_forX _ _ _ _ _ _ _ _ (fun _ => rfl) PassesOwn.never rfl (@pi_list _ _ _ _ (pe_sortset rfl (by rfl) T.srt (by rfl) zset (@pa_consX _ _ _ _ _ (by rfl) (pv 3) pa_nil))) (pg_name (i := 4) nd rfl (Or.inl rfl))
     (@pss_cons _ _ _ _ _ (@ps_setX _ _ 5 _ _ _ _ (by rfl) (Or.inl rfl) nd rfl (Or.inl rfl) (@pe_lstS _ _ _ _ pa_nil))
    (@pss_cons _ _ _ _ _ (@ps_forX _ _ _ _ _ _ _ _ (fun _ => rfl) PassesOwn.never rfl (pi_str (pv 3)) (pg_name (i := 6) nd rfl (Or.inl rfl))
     (@pss_one _ _ _ (ps_expr (pe_bm PySem.F.plainAttrs_list PySem.F.slot_list_append PySem.F.type_list_append mt_append (pv 5) (@pa_consX _ _ _ _ _ (by rfl) (pe_ix ix_list (@pe_lstS _ _ _ _ (@pa_consX _ _ _ _ _ (by rfl) (@pe_tupS _ _ _ _ _ (@pa_consX _ _ _ _ _ (by rfl) pe_int (@pa_consX _ _ _ _ _ (by rfl) pe_int pa_nil))) (@pa_consX _ _ _ _ _ (by rfl) (@pe_tupS _ _ _ _ _ (@pa_consX _ _ _ _ _ (by rfl) pe_int (@pa_consX _ _ _ _ _ (by rfl) (pe_bm PySem.F.plainAttrs_str PySem.F.slot_str_count PySem.F.type_str_count mt_countS (pv 3) (@pa_consX _ _ _ _ _ (by rfl) (pv 4) pa_nil)) pa_nil))) pa_nil))) (pe_callTy call_int1 (by rfl) T.int boot_int (@pa_consX _ _ _ _ _ (by rfl) (pe_cmpR op_eq (pv 6) (pv 4) (nomark _)) pa_nil)) (fun _ _ => rfl)) pa_nil)))))
    (@pss_one _ _ _ (@ps_forX _ _ _ _ _ _ _ _ (fun _ => rfl) PassesOwn.never rfl (pi_range1 rfl T.range (@pa_consX _ _ _ _ _ (by rfl) pe_int pa_nil)) (pg_name (i := 7) nd rfl (Or.inl rfl))
     (@pss_cons _ _ _ _ _ (@ps_setX _ _ 8 _ _ _ _ (by rfl) (Or.inl rfl) nd rfl (Or.inl rfl) (pe_defX (by rfl) (by rfl) (by rfl) (by decide) Lo (hr.mono (by decide)) passN0 (@pa_consX _ _ _ _ _ (by rfl) (pv 3) (@pa_consX _ _ _ _ _ (by rfl) (pv 4) pa_nil))))
    (@pss_one _ _ _ (@ps_if _ _ _ _ _ _ _ _ (PW.pt (pw_or (pt_not (pt_val (pe_def (by rfl) (by rfl) (by rfl) (by decide) Af (hr.mono (by decide)) (@pa_consX _ _ _ _ _ (by rfl) (pv 8) (@pa_consX _ _ _ _ _ (by rfl) (pe_callB call_len_str (by rfl) T.len PySem.boot_len (@pa_consX _ _ _ _ _ (by rfl) (pv 3) pa_nil)) pa_nil))))) (pw_or1 (pt_cmpR (op_neD hr) (pe_callTy call_listS (by rfl) T.lst boot_list (@pa_consX _ _ _ _ _ (by rfl) (pv 8) pa_nil)) (pv 5) (nomark _)))))
     (@pss_one _ _ _ (@ps_ret _ _ _ _ pe_bl))
     pss_nil))))))))
    (@pss_cons _ _ _ _ _ (@ps_setX _ _ 9 _ _ _ _ (by rfl) (Or.inl rfl) nd rfl (Or.inl rfl) (@pe_lstS _ _ _ _ (@pa_consX _ _ _ _ _ (by rfl) pe_str (@pa_consX _ _ _ _ _ (by rfl) (pe_op op_add_str (pv 3) pe_str) (@pa_consX _ _ _ _ _ (by rfl) pe_str (@pa_consX _ _ _ _ _ (by rfl) pe_str (@pa_consX _ _ _ _ _ (by rfl) pe_str (@pa_consX _ _ _ _ _ (by rfl) (pe_op op_repStr (pe_ix ix_str (pv 3) pe_int (fun _ _ => rfl)) pe_int) (@pa_consX _ _ _ _ _ (by rfl) pe_non (@pa_consX _ _ _ _ _ (by rfl) pe_bl (@pa_consX _ _ _ _ _ (by rfl) pe_int (@pa_consX _ _ _ _ _ (by rfl) (@pe_lstS _ _ _ _ (@pa_consX _ _ _ _ _ (by rfl) (pe_ix ix_str (pv 3) pe_int (fun _ _ => rfl)) pa_nil)) (@pa_consX _ _ _ _ _ (by rfl) (@pe_tupS _ _ _ _ _ (@pa_consX _ _ _ _ _ (by rfl) (pe_ix ix_str (pv 3) pe_int (fun _ _ => rfl)) pa_nil)) (@pa_consX _ _ _ _ _ (by rfl) pe_dnewK pa_nil))))))))))))))
    (@pss_cons _ _ _ _ _ (ps_expr (pe_bm PySem.F.plainAttrs_list PySem.F.slot_list_append PySem.F.type_list_append mt_append (pv 9) (@pa_consX _ _ _ _ _ (by rfl) (pe_def (by rfl) (by rfl) (by rfl) (by decide) Dp (hr.mono (by decide)) (@pa_consX _ _ _ _ _ (by rfl) pe_int pa_nil)) pa_nil)))
    (@pss_mid _ _ _ _ _ (@ps_if _ _ _ _ _ _ _ _ (pt_cmpR op_gt (pe_callB call_len_str (by rfl) T.len PySem.boot_len (@pa_consX _ _ _ _ _ (by rfl) (pv 3) pa_nil)) pe_int (nomark _))
     (@pss_one _ _ _ (ps_expr (pe_bm PySem.F.plainAttrs_list PySem.F.slot_list_append PySem.F.type_list_append mt_append (pv 9) (@pa_consX _ _ _ _ _ (by rfl) (pe_slice sl_str2 (pv 3) po_none (po_some pe_int)) pa_nil))))
     pss_nil)
    (@pss_cons _ _ _ _ _ (@ps_setX _ _ 9 _ _ _ _ (by rfl) (Or.inl rfl) nd rfl (Or.inl rfl) (pe_op op_catS (pv 9) (pe_compC ["letter", "kinds"] [none, some 3] rfl (pi_str pe_str) (by show ∀ y : Str × NameKind, y ∈ _ → y.2 = NameKind.free → (defScope sLaw).names.lookup y.1 = some .cell; decide +kernel) (by decide) rfl (by decide +kernel) ⟨⟨rfl, rfl, .inl rfl⟩, trivial⟩
     (fun cl C s H fp => (pg_name (i := 0) (show (["letter", "kinds"] : List Str).Nodup by decide +kernel) rfl (Or.inl rfl) (.inr rfl)))
     (fun cl C s H fp => (pts_one (pt_cmpR op_notIn_str (pv 0) (pv 1) (by rfl))))
     (fun cl C s H fp => (pv 0)))))
    (@pss_cons _ _ _ _ _ (@ps_setX _ _ 10 _ _ _ _ (by rfl) (Or.inl rfl) nd rfl (Or.inl rfl) (@pe_lstS _ _ _ _ (@pa_consX _ _ _ _ _ (by rfl) (pe_ix ix_str (pv 3) pe_int (fun _ _ => rfl)) pa_nil)))
    (@pss_cons _ _ _ _ _ (@ps_forX _ _ _ _ _ _ _ _ (fun _ => rfl) PassesOwn.never rfl (@pi_list _ _ _ _ (pe_op op_catS (pv 9) (@pe_lstS _ _ _ _ (@pa_consX _ _ _ _ _ (by rfl) (pv 10) pa_nil)))) (pg_name (i := 11) nd rfl (Or.inl rfl))
     (@pss_one _ _ _ (@ps_if _ _ _ _ _ _ _ _ (PW.pt (pw_or (pt_not (pt_val (pe_def (by rfl) (by rfl) (by rfl) (by decide) Rf (hr.mono (by decide)) (@pa_consX _ _ _ _ _ (by rfl) (pv 3) (@pa_consX _ _ _ _ _ (by rfl) (pv 11) pa_nil))))) (pw_or1 (pt_not (pt_val (pe_def (by rfl) (by rfl) (by rfl) (by decide) Rf (hr.mono (by decide)) (@pa_consX _ _ _ _ _ (by rfl) (pv 3) (@pa_consX _ _ _ _ _ (by rfl) (pv 11) pa_nil))))))))
     (@pss_one _ _ _ (@ps_ret _ _ _ _ pe_bl))
     pss_nil)))
    (@pss_cons _ _ _ _ _ (@ps_if _ _ _ _ _ _ _ _ (pt_cmpR (op_neD hr) (pe_callTy call_listS (by rfl) T.lst boot_list (@pa_consX _ _ _ _ _ (by rfl) (pe_defX (by rfl) (by rfl) (by rfl) (by decide) Lo (hr.mono (by decide)) passN0 (@pa_consX _ _ _ _ _ (by rfl) (pv 3) (@pa_consX _ _ _ _ _ (by rfl) (pv 4) pa_nil))) pa_nil)) (pv 5) (nomark _))
     (@pss_one _ _ _ (@ps_ret _ _ _ _ pe_bl))
     pss_nil)
    (@pss_cons _ _ _ _ _ (@ps_if _ _ _ _ _ _ _ _ (pt_cmpR (op_neD hr) (pv 10) (@pe_lstS _ _ _ _ (@pa_consX _ _ _ _ _ (by rfl) (pe_ix ix_str (pv 3) pe_int (fun _ _ => rfl)) pa_nil)) (nomark _))
     (@pss_one _ _ _ (@ps_ret _ _ _ _ pe_bl))
     pss_nil)
    (@pss_one _ _ _ (@ps_setX _ _ 2 _ _ _ _ (by rfl) (Or.inl rfl) nd rfl (Or.inl rfl) (pe_op op_add (pv 2) pe_int))))))))))))))
    (@pss_one _ _ _ (@ps_ret _ _ _ _ pe_bl))))), ?_⟩
   refine ⟨_, rfl, a, ns, rfl, hS, hlen, fun d H1 s1 hd0 hd => ?_⟩
   refine while_in (fun σ G => DrawsAt G d ∧ ∃ (m : Int) (v3 v4 v5 v6 v7 v8 v9 v10 v11 : Option V), 0 ≤ m ∧ σ = [some (.ref a), some (.ref d), some (.int m), v3, v4, v5, v6, v7, v8, v9, v10, v11])
    (fun σ _ => match σ with | [_, _, some (.int m), _, _, _, _, _, _, _, _, _] => (6 - m).toNat | _ => 0) ⟨hd, 0, none, none, none, none, none, none, none, none, none, by decide, rfl⟩ ?_
   rintro σ G ⟨hG, mm, v3, v4, v5, v6, v7, v8, v9, v10, v11, mm0, rfl⟩
   refine wtest (d := d) (m := mm) rfl rfl hG (by decide) (fun hm G0 t0 => ifT rfl ⟨_, wN, ?_⟩) (fun G0 t0 => ifF rfl (k _))
   have h0 := hG.same t0
   have up : ∀ {G : Hp} {l : Addr} {o : HO}, DrawsAt G d → l ≠ d → DrawsAt (upd G l o) d := fun h n => by
    obtain ⟨ns', e', z'⟩ := h
    exact ⟨ns', by rw [upd_ne (Ne.symm n)]; exact e', z'⟩
   refine ⟨_, rfl, _, rfl, d, 12, rfl, by decide, h0, fun v G1 v0 v1 h1 k1 => ?_⟩
   obtain ⟨n0, rfl⟩ : ∃ n0 : Nat, v = (n0 : Int) := ⟨v.toNat, by omega⟩
   refine ⟨_, _, rfl, rfl, d, 1 + n0, (by show [V.ref d, V.int (1 + (n0 : Int))] = _; rw [show (1 : Int) + (n0 : Int) = ((1 + n0 : Nat) : Int) by omega]), by omega, by omega, h1, fun x G2 xl xr h2 k2 => ?_⟩
   have x12 : x.cps.size ≤ 12 := by omega
   have hl2 : x.cps.toList.length = x.cps.size := Array.length_toList
   have xs0 : x.length ≤ sizeLine := by show x.cps.size ≤ sizeLine; rw [sizeLine_eq]; omega
   obtain ⟨c0, hc0⟩ : ∃ c0, x.cps.toList[0]? = some c0 := ⟨_, List.getElem?_eq_getElem (by omega)⟩
   have ix0 : atI x.cps.toList 0 = some c0 := atI_nat hc0
   refine ⟨fun σ G => DrawsAt G d ∧ ∃ (c : Nat) (du : Addr) (us : List V) (v6 v7 v8 : Option V), c ∈ x.cps.toList ∧ G du = some (.lst us) ∧ FrL K G (Pw.kdL x.cps.toList c) us ∧ du ≠ d ∧ σ = [some (.ref a), some (.ref d), some (.int mm), some (.str x), some (.str (chS c)), some (.ref du), v6, v7, v8, v9, v10, v11], ?_, ?_⟩
   · refine ⟨_, rfl, x, rfl, by omega, by omega, fun cs L G3 pw hmm s3 mL eL => ⟨L, rfl, ⟨_, SqL.of eL⟩, ?_⟩⟩
     have hLd : L ≠ d := h2.ne mL
     refine for_list (K := K) (a := L) (xs := chV cs) (fun i σ G => DrawsAt G d ∧ G L = some (.lst (chV cs)) ∧ ∃ (v4 v5 v6 v7 v8 : Option V), (i = 0 ∨ ∃ (c : Nat) (du : Addr) (us : List V), c ∈ x.cps.toList ∧ v4 = some (.str (chS c)) ∧ v5 = some (.ref du) ∧ G du = some (.lst us) ∧ FrL K G (Pw.kdL x.cps.toList c) us ∧ du ≠ d) ∧ σ = [some (.ref a), some (.ref d), some (.int mm), some (.str x), v4, v5, v6, v7, v8, v9, v10, v11]) ⟨h2.same s3, eL, _, _, _, _, _, .inl rfl, rfl⟩ (fun i σ G _ h => SqL.of h.2.1) ?_ ?_
     · rintro i z σ G hz ⟨gd, gL, w4, w5, w6, w7, w8, _, rfl⟩
       obtain ⟨c, hci, rfl⟩ : ∃ c, cs[i]? = some c ∧ z = .str (chS c) := by
        unfold chV at hz
        rw [List.getElem?_map] at hz
        cases q : cs[i]? with
        | none => rw [q] at hz; cases hz
        | some c => rw [q] at hz; exact ⟨c, rfl, (Option.some.inj hz).symm⟩
       have hc : c ∈ x.cps.toList := (hmm c).mp (List.mem_of_getElem? hci)
       dsimp only [gName]
       refine ⟨(by show 0 ≤ sizeLine; decide), fun du G5 s5 mdu e5 => ?_⟩
       have hdud : du ≠ d := gd.ne mdu
       have hduL : du ≠ L := (ne_of_none gL mdu).symm
       refine ⟨_, rfl, x, rfl, ?_⟩
       refine for_str (x := x) (fun i σ G => DrawsAt G d ∧ G L = some (.lst (chV cs)) ∧ ∃ (us : List V) (v6 : Option V), G du = some (.lst us) ∧ FrL K G ((Pw.kdL x.cps.toList c).take i) us ∧ σ = [some (.ref a), some (.ref d), some (.int mm), some (.str x), some (.str (chS c)), some (.ref du), v6, w7, w8, v9, v10, v11]) ⟨gd.same s5, s5 _ _ gL, [], w6, e5, rfl, rfl⟩ ?_ ?_
       · rintro j b σ U hb ⟨ud, uL, us, u6, eu, fu, rfl⟩
         have hlen := fu.len
         rw [List.length_take] at hlen
         have hjs : j < x.cps.size := (Array.getElem?_eq_some_iff.mp hb).1
         have hkd : (Pw.kdL x.cps.toList c)[j]? = some (if b = c then (1, ((x.cps.toList.count c : Nat) : Int)) else (0, 1)) := by
          unfold Pw.kdL
          rw [List.getElem?_map, Array.getElem?_toList, hb]; rfl
         dsimp only [gName]
         refine ⟨_, rfl, .inl ⟨rfl, _, SqL.of eu⟩, (by show 2 ≤ sizeLine; decide), fun p1 U1 t1 m1 e1 => ?_⟩
         refine ⟨_, rfl, rfl, _, rfl, x, c, rfl, rfl, (by show 2 ≤ sizeLine; decide), fun p2 U2 t2 m2 e2 => ?_⟩
         refine ⟨(by show 2 ≤ sizeLine; decide), fun l3 U3 t3 m3 e3 => ?_⟩
         have t13 := t1.trans (t2.trans t3)
         have st : ∀ (q : Addr) (B : Int × Int), U3 q = some (.tup [.int B.1, .int B.2]) → (if b = c then (1, ((x.cps.toList.count c : Nat) : Int)) else (0, 1)) = B → U3 du = some (.lst us) ∧ us.length < sizeLine ∧ DrawsAt (upd U3 du (.lst (us ++ [.ref q]))) d ∧ (upd U3 du (.lst (us ++ [.ref q]))) L = some (.lst (chV cs)) ∧ (upd U3 du (.lst (us ++ [.ref q]))) du = some (.lst (us ++ [.ref q])) ∧ FrL K (upd U3 du (.lst (us ++ [.ref q]))) ((Pw.kdL x.cps.toList c).take (j + 1)) (us ++ [.ref q]) := fun q B hq hB => by
          have ed := t13 _ _ eu
          refine ⟨ed, small1000 (by omega), up (ud.same t13) hdud, ?_, upd_same, ?_⟩
          · rw [upd_ne (Ne.symm hduL)]; exact t13 _ _ uL
          · rw [List.take_succ, hkd, hB]
            exact ((fu.same t13).snoc hq).set ed
         refine ⟨_, rfl, _, rfl, rfl, .inr ⟨_, rfl, ?_⟩⟩
         by_cases hbc : b = c
         · rw [decide_eq_true (show V.str (chS b) = V.str (chS c) by rw [hbc])]
           obtain ⟨r1, r2, r3, r4, r5, r6⟩ := st p2 _ (t3 _ _ e2) (if_pos hbc)
           exact ⟨l3, _, _, .ref p2, rfl, rfl, SqL.of e3, rfl, du, us, _, rfl, rfl, r1, r2, r3, r4, _, _, r5, r6, rfl⟩
         · rw [decide_eq_false (show ¬ V.str (chS b) = V.str (chS c) from fun z => hbc (chS_inj (V.str.inj z)))]
           obtain ⟨r1, r2, r3, r4, r5, r6⟩ := st p1 _ (t3 _ _ (t2 _ _ e1)) (if_neg hbc)
           exact ⟨l3, _, _, .ref p1, rfl, rfl, SqL.of e3, rfl, du, us, _, rfl, rfl, r1, r2, r3, r4, _, _, r5, r6, rfl⟩
       rintro σ U ⟨ud, uL, us, u6, eu, fu, rfl⟩
       rw [List.take_of_length_le (by rw [Pw.kd_len]; omega)] at fu
       refine ⟨(2 : Int), rfl, by decide, by decide, ?_⟩
       refine for_range (lo := 0) (n := 2) (fun i σ G => Same U G ∧ ∃ (v7 v8 : Option V), σ = [some (.ref a), some (.ref d), some (.int mm), some (.str x), some (.str (chS c)), some (.ref du), u6, v7, v8, v9, v10, v11]) ⟨Same.refl _, w7, w8, rfl⟩ ?_ ?_
       · rintro j σ V hj ⟨sV, y7, y8, rfl⟩
         dsimp only [gName]
         refine ⟨_, rfl, _, rfl, x, .str (chS c), rfl, x12, .inl ⟨c, rfl, hc, fun p V1 us1 t1 e1 f1 => ?_⟩⟩
         refine ⟨_, rfl, _, rfl, x, rfl, xs0, p, us1, _, _, rfl, e1, f1, Pw.kd_canon hc, fun B hB => (kd_sz (by omega) B hB).mono (by decide), ?_, fun V2 t2 => ⟨_, rfl, ifF rfl ?_⟩⟩
         · rw [Pw.kd_len, hl2]; rfl
         refine ⟨_, rfl, p, us1, rfl, .inr (SqT.of (t2 _ _ e1)), fun ll V3 t3 m3 e3 => ?_⟩
         have tu := sV.trans (t1.trans (t2.trans t3))
         exact ⟨_, rfl, neLS (SqL.of e3) (SqL.of (tu _ _ eu)) (f1.same (t2.trans t3)) (fu.same tu).s ⟨_, rfl, ifF rfl ⟨tu, _, _, rfl⟩⟩⟩
       · rintro σ V ⟨sV, y7, y8, rfl⟩
         exact ⟨ud.same sV, sV _ _ uL, _, _, _, _, _, .inr ⟨c, du, us, hc, rfl, rfl, sV _ _ eu, fu.same sV, hdud⟩, rfl⟩
     · rintro σ G ⟨gd, gL, w4, w5, w6, w7, w8, hor, rfl⟩
       rcases hor with h | ⟨c, du, us, hc, rfl, rfl, e, f, n⟩
       · exfalso
         rw [chV_len] at h
         have : cs = [] := List.length_eq_zero_iff.mp h
         have h3 := (hmm c0).mpr (List.mem_of_getElem? hc0)
         rw [this] at h3; cases h3
       · exact ⟨gd, c, du, us, _, _, _, hc, e, f, n, rfl⟩
   rintro σ G3 ⟨h3, c, du, us, w6, w7, w8, hc, edu, fdu, dud, rfl⟩
   refine ⟨_, rfl, x, _, rfl, rfl, (by show x.cps.size + 1 ≤ sizeLine; rw [sizeLine_eq]; omega), ?_⟩
   refine ⟨_, rfl, x, 0, c0, rfl, rfl, xs0, ix0, c0, 2, rfl, rfl, by decide, by decide, ?_⟩
   refine ⟨_, rfl, x, 0, c0, rfl, rfl, xs0, ix0, (by show 1 ≤ sizeLine; decide), fun l1 G4 s4 m4 e4 => ?_⟩
   refine ⟨_, rfl, x, 0, c0, rfl, rfl, xs0, ix0, (by show 1 ≤ sizeLine; decide), fun l2 G5 s5 m5 e5 => ?_⟩
   intro dd mdd
   have s6 : Same G5 (upd G5 dd (.dK [])) := Same.new mdd
   have e6 : (upd G5 dd (.dK [])) dd = some (.dK []) := upd_same
   generalize upd G5 dd (.dK []) = G6 at s6 e6
   refine ⟨(by show 12 ≤ sizeLine; decide), fun so G7 s7 m7 e7 => ?_⟩
   have hdu7 : G7 du = some (.lst us) := s7 _ _ (s6 _ _ (s5 _ _ (s4 _ _ edu)))
   have s37 := s4.trans (s5.trans (s6.trans s7))
   have sod : so ≠ d := (h3.same (s4.trans (s5.trans s6))).ne m7
   have sodu : so ≠ du := (ne_of_none (s6 _ _ (s5 _ _ (s4 _ _ edu))) m7).symm
   have nA : ∀ c, c < 97 → c ∉ x.cps.toList := fun c hlt hmem => by have := (xr c hmem).1; omega
   have nk7 : ∀ v ∈ [V.str (Str.ofString ""), .str (x ++ Str.ofString "a"), .str (Str.ofString "aa"), .str (Str.ofString "A"), .str (Str.ofString " "), .str ⟨(List.replicate (2 : Int).toNat c0).toArray⟩, .non, .bl true, .int 0, .ref l1, .ref l2, .ref dd], NoKd K G7 x v := by
    intro v hv
    simp only [List.mem_cons, List.not_mem_nil, or_false] at hv
    rcases hv with rfl | rfl | rfl | rfl | rfl | rfl | rfl | rfl | rfl | rfl | rfl | rfl
    · exact .inr (.inl ⟨_, rfl, by decide, by decide⟩)
    · have : (x ++ Str.ofString "a").cps.size = x.cps.size + 1 := by
       show (x.cps ++ #[97]).size = _
       rw [Array.size_append]; rfl
      exact .inr (.inl ⟨_, rfl, by omega, by omega⟩)
    · exact .inr (.inl ⟨_, rfl, by decide, by decide⟩)
    · exact .inr (.inr ⟨65, rfl, nA _ (by decide)⟩)
    · exact .inr (.inr ⟨32, rfl, nA _ (by decide)⟩)
    · exact .inr (.inl ⟨_, rfl, (by show (List.replicate 2 c0).toArray.size ≠ 1; simp), (by show (List.replicate 2 c0).toArray.size ≤ 1000; simp)⟩)
    · exact .inl ⟨_, .non, ki_ns K⟩
    · exact .inl ⟨_, .bl _, ki_bs K⟩
    · exact .inl ⟨_, .int _, ki_is K⟩
    · exact .inl ⟨_, .lst (s7 _ _ (s6 _ _ (s5 _ _ e4))), ki_ls K⟩
    · exact .inl ⟨_, .tup (s7 _ _ (s6 _ _ e5)), ki_ts K⟩
    · exact .inl ⟨_, .dK (s7 _ _ e6), ki_ds K⟩
   have h7 := h3.same s37
   have f7 := fdu.same s37
   have gL7 : ∀ xs : List V, xs = [V.str (Str.ofString ""), .str (x ++ Str.ofString "a"), .str (Str.ofString "aa"), .str (Str.ofString "A"), .str (Str.ofString " "), .str ⟨(List.replicate (2 : Int).toNat c0).toArray⟩, .non, .bl true, .int 0, .ref l1, .ref l2, .ref dd] → xs.length = 12 := fun xs e => by rw [e]; rfl
   replace gL7 := gL7 _ rfl
   revert e7 nk7 gL7
   generalize [V.str (Str.ofString ""), .str (x ++ Str.ofString "a"), .str (Str.ofString "aa"), .str (Str.ofString "A"), .str (Str.ofString " "), .str ⟨(List.replicate (2 : Int).toNat c0).toArray⟩, .non, .bl true, .int 0, .ref l1, .ref l2, .ref dd] = xs7
   intro e7 nk7 gL7
   refine ⟨_, rfl, .inl ⟨rfl, _, SqL.of e7⟩, 2990, rfl, by decide, fun D8 G8 xs8 s8 m8 e8 => ⟨so, _, _, rfl, rfl, s8 _ _ e7, small1000 (by omega), ?_⟩⟩
   have q9 : (upd G8 so (.lst (xs7 ++ [.ref D8]))) so = some (.lst (xs7 ++ [.ref D8])) := upd_same
   have d9 : DrawsAt (upd G8 so (.lst (xs7 ++ [.ref D8]))) d := up (h7.same s8) sod
   have u9 : (upd G8 so (.lst (xs7 ++ [.ref D8]))) du = some (.lst us) := by rw [upd_ne (Ne.symm sodu)]; exact s8 _ _ hdu7
   have f9 : FrL K (upd G8 so (.lst (xs7 ++ [.ref D8]))) (Pw.kdL x.cps.toList c) us := (f7.same s8).set (s8 _ _ e7)
   have n9 : ∀ v ∈ xs7 ++ [.ref D8], NoKd K (upd G8 so (.lst (xs7 ++ [.ref D8]))) x v := by
    intro v hv
    refine NoKd.kt ?_ (KTy.set (s8 _ _ e7))
    rcases List.mem_append.mp hv with hv | hv
    · exact (nk7 v hv).kt s8.kt
    · rw [List.mem_singleton.mp hv]
      exact .inl ⟨_, .lst e8, ki_ls K⟩
   have l9 : (xs7 ++ [V.ref D8]).length = 13 := by rw [List.length_append, gL7]; rfl
   generalize upd G8 so (.lst (xs7 ++ [.ref D8])) = G9 at q9 d9 u9 f9 n9
   generalize xs7 ++ [V.ref D8] = xs9 at q9 n9 l9
   refine ⟨fun σ G => DrawsAt G d ∧ ∃ xs, G so = some (.lst xs) ∧ (∀ v ∈ xs, NoKd K G x v) ∧ xs.length ≤ 14 ∧ G du = some (.lst us) ∧ FrL K G (Pw.kdL x.cps.toList c) us ∧ σ = [some (.ref a), some (.ref d), some (.int mm), some (.str x), some (.str (chS c)), some (.ref du), w6, w7, w8, some (.ref so), v10, v11], ?_, ?_⟩
   · refine ⟨_, rfl, x, rfl, xs0, _, _, rfl, rfl, _, rfl, if2 (fun h => ?_) (fun h => ⟨d9, xs9, q9, n9, by omega, u9, f9, rfl⟩)⟩
     have x2 : 2 ≤ x.cps.size := by
      have : (1 : Int) < (x.length : Int) := of_decide_eq_true h
      show 2 ≤ x.length
      omega
     refine ⟨_, rfl, .inl ⟨rfl, _, SqL.of q9⟩, _, rfl, ?_⟩
     refine ⟨2, rfl, x, rfl, rfl, rfl, x2, by omega, fun y y2 => ?_⟩
     refine ⟨so, xs9, _, rfl, rfl, q9, small1000 (by omega), up d9 sod, _, upd_same, fun v hv => ?_, (by rw [List.length_append, l9]; exact Nat.le_refl 14), ?_, f9.set q9, rfl⟩
     · refine NoKd.kt ?_ (KTy.set q9)
       rcases List.mem_append.mp hv with hv | hv
       · exact n9 v hv
       · rw [List.mem_singleton.mp hv]
         exact .inr (.inl ⟨y, rfl, by omega, by omega⟩)
     · rw [upd_ne (Ne.symm sodu)]; exact u9
   rintro σ U ⟨hU, xs, eU, nU, lU, uU, fU, rfl⟩
   refine ⟨_, rfl, _, rfl, fun D hD => ?_⟩
   refine comp_str (x := Str.ofString "abcdefghijklmnopqrstuvwxyz") (D := D) (fun i ys σ G => Same U G ∧ G D = some (.lst ys) ∧ (∀ v ∈ ys, ∃ c, v = .str (chS c) ∧ c ∉ x.cps.toList) ∧ ys.length ≤ i ∧ ∃ v, σ = [v, some (.str x)]) ?_ ?_ ?_ ?_
   · exact ⟨Same.new hD, upd_same, fun v hv => absurd hv List.not_mem_nil, Nat.le_refl _, none, rfl⟩
   · rintro i ys σ G ⟨_, e, _⟩
     exact e
   · rintro i b ys σ G hb hlt ⟨sG, eD, nys, lys, v, rfl⟩
     have h26 : i < 26 := hlt
     dsimp only [gName]
     refine ⟨_, rfl, _, rfl, _, _, rfl, rfl, _, rfl, ?_⟩
     rw [in_one]
     by_cases hbx : b ∈ x.cps.toList
     · rw [decide_eq_true hbx]
       exact ifF rfl (Wt.next hlt ⟨sG, eD, nys, by omega, _, rfl⟩)
     · rw [decide_eq_false hbx]
       refine ifT rfl ⟨_, rfl, eD, small1000 (by omega), Wt.next hlt ⟨fun b' o e => ?_, upd_same, fun v hv => ?_, (by rw [List.length_append, List.length_singleton]; omega), _, rfl⟩⟩
       · rw [upd_ne (ne_of_none e hD)]; exact sG _ _ e
       · rcases List.mem_append.mp hv with hv | hv
         · exact nys v hv
         · rw [List.mem_singleton.mp hv]
           exact ⟨b, rfl, hbx⟩
   rintro ys σ G ⟨sG, eD, nys, lys, _⟩
   have lys26 : ys.length ≤ 26 := lys
   refine ⟨so, D, xs, ys, rfl, rfl, sG _ _ eU, eD, Nat.le_of_lt (small1000 (by omega)), fun s2 G2 t2 m2 e2 => ?_⟩
   have sU2 := sG.trans t2
   have n2 : ∀ v ∈ xs ++ ys, NoKd K G2 x v := fun v hv => by
    rcases List.mem_append.mp hv with hv | hv
    · exact (nU v hv).kt sU2.kt
    · exact .inr (.inr (nys v hv))
   refine ⟨_, rfl, x, 0, c0, rfl, rfl, xs0, ix0, (by show 1 ≤ sizeLine; decide), fun he G3 t3 m3 e3 => ?_⟩
   refine ⟨_, rfl, _, rfl, (by show 1 ≤ sizeLine; decide), fun l4 G4 t4 m4 e4 => ?_⟩
   refine ⟨s2, l4, _, _, rfl, rfl, t4 _ _ (t3 _ _ e2), e4, (by rw [List.length_append]; exact Nat.le_of_lt (small1000 (by simp only [List.length_cons, List.length_nil]; omega))), fun al G5 t5 m5 e5 => ⟨al, rfl, ⟨_, SqL.of e5⟩, ?_⟩⟩
   have t25 := t3.trans (t4.trans t5)
   have n5 : ∀ v ∈ (xs ++ ys) ++ [.ref he], NoKd K G5 x v := fun v hv => by
    rcases List.mem_append.mp hv with hv | hv
    · exact (n2 v hv).kt t25.kt
    · rw [List.mem_singleton.mp hv]
      exact .inl ⟨_, .lst (t5 _ _ (t4 _ _ e3)), ki_ls K⟩
   refine for_list (K := K) (a := al) (xs := (xs ++ ys) ++ [.ref he]) (fun i σ G => Same G5 G ∧ ∃ v11, σ = [some (.ref a), some (.ref d), some (.int mm), some (.str x), some (.str (chS c)), some (.ref du), w6, w7, w8, some (.ref s2), some (.ref he), v11]) ⟨Same.refl _, v11, rfl⟩ (fun i σ G _ h => SqL.of (h.1 _ _ e5)) ?_ ?_
   · rintro i v σ V hv ⟨sV, y11, rfl⟩
     dsimp only [gName]
     have nv := n5 v (List.mem_of_getElem? hv)
     refine ⟨_, rfl, _, rfl, x, v, rfl, x12, nv.kt sV.kt, fun V1 r1 => ⟨_, rfl, ifF rfl ?_⟩⟩
     exact ⟨_, rfl, _, rfl, x, v, rfl, x12, nv.kt (sV.trans r1).kt, fun V2 r2 => ⟨_, rfl, ifF rfl ⟨sV.trans (r1.trans r2), _, rfl⟩⟩⟩
   rintro σ V ⟨sV, y11, rfl⟩
   have sUV := sU2.trans (t25.trans sV)
   refine ⟨_, rfl, _, rfl, x, _, rfl, x12, .inl ⟨c, rfl, hc, fun p V1 us1 r1 e1 f1 => ?_⟩⟩
   refine ⟨p, us1, rfl, .inr (SqT.of e1), fun ll V2 r2 m2' e2' => ?_⟩
   have sU3 := sUV.trans (r1.trans r2)
   refine ⟨_, rfl, neLS (SqL.of e2') (SqL.of (sU3 _ _ uU)) (f1.same r2) (fU.same sU3).s ⟨_, rfl, ifF rfl ?_⟩⟩
   refine ⟨_, rfl, _, rfl, x, 0, c0, rfl, rfl, xs0, ix0, (by show 1 ≤ sizeLine; decide), fun h2' V3 r3 m3' e3' => ?_⟩
   have eh := r3 _ _ (r2 _ _ (r1 _ _ (sV _ _ (t5 _ _ (t4 _ _ e3)))))
   refine ⟨he, h2', _, _, [.str (chS c0)], [.str (chS c0)], rfl, rfl, .inr ⟨SqL.of eh, SqL.of e3'⟩, ⟨_, _, rfl, rfl, rfl⟩, ⟨_, _, rfl, rfl, rfl⟩, (by show max 0 0 ≤ 20; decide), ?_⟩
   rw [eqDs_refl]
   refine ⟨_, rfl, ifF rfl ?_⟩
   refine ⟨_, rfl, _, _, rfl, rfl, ⟨hU.same (sU3.trans r3), _, _, _, _, _, _, _, _, _, _, by omega, rfl⟩, ?_⟩
   show (6 - (mm + 1)).toNat < (6 - mm).toNat
   omega
end
end Lw

namespace Lw
open PySem L2 PyProof.Rows
set_option maxHeartbeats 0 in
theorem all_mk {l : PySem.W.OpenLaw} {w : World} {K : PySem.W.Frag} {h : Heap} {mg : Str → Option Value} {fa f25 zZERO : Addr} (XK : K.In h) (G : h.Ns mainGlobals mg) (hfa : mg "law" = some (.ref fa))
 {odZERO : Option Addr} {slZERO : Array (Option Value)} {nZERO : Nat} {tZERO uZERO : Tok}
 {od an : Option Addr} {sl : Array (Option Value)} {oc kV dc pm cd ct : Value}
 (aZERO : PySem.W.nsIn K mainGlobals "ZERO" = some (some (.ref zZERO))) (lZERO : K.lookup zZERO = some ⟨.type "tuple", odZERO, .seq #[.int 0 tZERO, .int 1 uZERO] nZERO, slZERO⟩)
 (A8 : FnAt K "common" sCommon)
 (A9 : FnAt K "made" sMade)
 (A11 : FnAt K "leaps_of" s_leaps_of)
 (A13 : FnAt K "_law_draws" s_law_draws)
 (A14 : FnAt K "_law_take" s_law_take)
 (A15 : FnAt K "_law_fraction" s_law_fraction)
 (A21 : FnAt K "_law_are_fractions" s_law_are_fractions)
 (A22 : FnAt K "_law_kinds" s_law_kinds)
 (A23 : FnAt K "_law_refused" s_law_refused)
 (A24 : FnAt K "_law_deep" s_law_deep)
 (aL : PySem.W.nsIn K mainGlobals "law" = some (some (.ref f25))) (lL : K.lookup f25 = some ⟨oc, od, .func (PySem.W.fnOf "law" "law" (defArgs sLaw) (defBody sLaw) (defScope sLaw) .none kV dc pm an cd ct), sl⟩) (cL : PySem.W.codeIn K cd "law" = true) (kL : PySem.W.keepIn K (.ref f25) = true)
 (zabs : PySem.W.nsIn K mainGlobals "abs" = some none)
 (zisi : PySem.W.nsIn K mainGlobals "isinstance" = some none)
 (ztup : PySem.W.nsIn K mainGlobals "tuple" = some none)
 (zint : PySem.W.nsIn K mainGlobals "int" = some none)
 (zbool : PySem.W.nsIn K mainGlobals "bool" = some none)
 (zlst : PySem.W.nsIn K mainGlobals "list" = some none)
 (zenu : PySem.W.nsIn K mainGlobals "enumerate" = some none)
 (zlen : PySem.W.nsIn K mainGlobals "len" = some none)
 (zrange : PySem.W.nsIn K mainGlobals "range" = some none)
 (zsrt : PySem.W.nsIn K mainGlobals "sorted" = some none)
 (zsum : PySem.W.nsIn K mainGlobals "sum" = some none)
 (zzip : PySem.W.nsIn K mainGlobals "zip" = some none)
 (zmax : PySem.W.nsIn K mainGlobals "max" = some none)
 (zmin : PySem.W.nsIn K mainGlobals "min" = some none)
 (zset : PySem.W.nsIn K mainGlobals "set" = some none)
 (zstr : PySem.W.nsIn K mainGlobals "str" = some none)
 (zVE : PySem.W.nsIn K mainGlobals "ValueError" = some none)
 {Xc_NoKind : Addr} (E_NoKind : XcAt K "NoKind" Xc_NoKind)
 {Xc_WalkError : Addr} (E_WalkError : XcAt K "WalkError" Xc_WalkError)
 (xga : PySem.W.findIn K (.ref Xc_NoKind) "__getattribute__" = some (some (.builtin "BaseException.__getattribute__")))
 (xgn : PySem.W.findIn K (.ref Xc_NoKind) "__getattr__" = some none)
 (xca : PySem.W.findIn K (.ref Xc_NoKind) "__class__" = some (some (.builtin "object.__class__")))
 (xmo : PySem.W.mroIn K Xc_NoKind (.type "object") = some true)
 (xmb : PySem.W.mroIn K Xc_NoKind (.type "BaseException") = some true)
 (xup : PySem.W.mroIn K Xc_NoKind (.ref Xc_WalkError) = some true)
 (xnw : Xc_WalkError ≠ Xc_NoKind)
 {Xm : Addr} (xbM : PySem.W.nsIn K mainGlobals "NoCommand" = some (some (.ref Xm)))
 {Xl : Addr} (xbL : PySem.W.nsIn K mainGlobals "NoLink" = some (some (.ref Xl)))
 {Xt : Addr} (xbT : PySem.W.nsIn K mainGlobals "NoText" = some (some (.ref Xt)))
 (xki2 : PySem.W.kitOne K (.ref Xc_NoKind) (.type "ValueError") = some true)
 (xki3 : PySem.W.kitAny K (.ref Xc_NoKind) [.ref Xm, .ref Xl, .ref Xt] = some false)
 : ∃ fd : FuncData, (∀ (s : Shared) (v : Value), BindsTo s fd ⟨[v], []⟩ [("script", v)]) ∧ ∀ base : Heap, K.In base → base.Ns mainGlobals mg → FnOk l.prog w K mg base CX0 7 fa fd ["script"] (spLaw K) := by
 have e := hfa.symm.trans (PySem.W.mg_of XK G aL)
 cases e
 have F25 := fun_mk (st := sLaw) lL cL kL
 have nCommon := A8.fnd ["one", "other"] XK G fun _ _ _ _ _ _ us hl => match us, hl with | [_, _], _ => rfl
 have nMade := A9.fnd ["above", "below"] XK G fun _ _ _ _ _ _ us hl => match us, hl with | [_, _], _ => rfl
 have n_leaps_of := A11.fnd ["kinds", "letter"] XK G fun _ _ _ _ _ _ us hl => match us, hl with | [_, _], _ => rfl
 have n_law_draws := A13.fnd ["script"] XK G fun _ _ _ _ _ _ us hl => match us, hl with | [_], _ => rfl
 have n_law_take := A14.fnd ["draws", "many"] XK G fun _ _ _ _ _ _ us hl => match us, hl with | [_, _], _ => rfl
 have n_law_fraction := A15.fnd ["above", "below"] XK G fun _ _ _ _ _ _ us hl => match us, hl with | [_, _], _ => rfl
 have n_law_are_fractions := A21.fnd ["found", "many"] XK G fun _ _ _ _ _ _ us hl => match us, hl with | [_, _], _ => rfl
 have n_law_kinds := A22.fnd ["draws", "many"] XK G fun _ _ _ _ _ _ us hl => match us, hl with | [_, _], _ => rfl
 have n_law_refused := A23.fnd ["kinds", "thing"] XK G fun _ _ _ _ _ _ us hl => match us, hl with | [_, _], _ => rfl
 have n_law_deep := A24.fnd ["many"] XK G fun _ _ _ _ _ _ us hl => match us, hl with | [_], _ => rfl
 have XT_NoKind := E_NoKind.xt XK G
 have XT_WalkError := E_WalkError.xt XK G
 have T : Txt mg := ⟨PySem.W.mg_none_of XK G zabs, PySem.W.mg_none_of XK G zisi, PySem.W.mg_none_of XK G ztup, PySem.W.mg_none_of XK G zint, PySem.W.mg_none_of XK G zbool, PySem.W.mg_none_of XK G zlst, PySem.W.mg_none_of XK G zenu, PySem.W.mg_none_of XK G zlen, PySem.W.mg_none_of XK G zrange, PySem.W.mg_none_of XK G zsrt, PySem.W.mg_none_of XK G zsum, PySem.W.mg_none_of XK G zzip, PySem.W.mg_none_of XK G zmax⟩
 have zmin := PySem.W.mg_none_of XK G zmin
 have zset := PySem.W.mg_none_of XK G zset
 have zstr := PySem.W.mg_none_of XK G zstr
 have zVE := PySem.W.mg_none_of XK G zVE
 have hZERO : ∀ H, SqF K H zZERO (0, 1) := fun H => .inr ⟨_, _, _, lZERO, rfl, rfl, (by show 2 ≤ sizeLine; decide), .cons ⟨_, rfl⟩ (.cons ⟨_, rfl⟩ .nil)⟩
 have mZERO := PySem.W.mg_of XK G aZERO
 refine ⟨PySem.W.fnOf "law" "law" (defArgs sLaw) (defBody sLaw) (defScope sLaw) .none kV dc pm an cd ct, fun s v => .of_eq rfl, fun base _ _ => ?_⟩
 · skip
   have dTk : Def l.prog w K mg base 1 "_law_take" ["draws", "many"] spTake := d_law_take n_law_take T
   have dFr : Def l.prog w K mg base 1 "_law_fraction" ["above", "below"] spMadeS := d_law_fraction n_law_fraction T
   have dDr : Def l.prog w K mg base 1 "_law_draws" ["script"] (spDraws K) := d_law_draws n_law_draws T zmin
   have dM : Def l.prog w K mg base 2 "made" ["above", "below"] spMadeS := d_made nMade nCommon T
   have dLo := d_leaps_of n_leaps_of T XT_NoKind mZERO hZERO zstr dM
   have dKi := d_law_kinds n_law_kinds T dTk
   have dAf := d_law_are_fractions n_law_are_fractions T dFr
   have dDp : Def l.prog w K mg base 1 "_law_deep" ["many"] (spDeep K) := d_law_deep n_law_deep T
   have dRf := d_law_refused n_law_refused T XT_NoKind XT_WalkError xup xnw ⟨xga, xgn, xca, xmo, xmb⟩ (PySem.W.mg_of XK G xbM) (PySem.W.mg_of XK G xbL) (PySem.W.mg_of XK G xbT) zVE kit_self xki2 xki3 dLo
   exact ok_law F25 T zset dDr dTk dKi dAf dRf dDp dLo

theorem walk {l : PySem.W.OpenLaw} {q : Program} {loose : List Str} {XP : (Str → Option Value) → Heap → Prop} {YP : World → Heap → Prop} {d : DefRec} {K : Params → PySem.W.Frag} (hn : l.most = some 63) (hdf : d.params.defaults = [])
 (hY : ∀ (w : World) (h : Heap), YP w h → (K w.params).In h)
 (F : ∀ (w : World) (mg : Str → Option Value) (fa : Addr) (h : Heap), (K w.params).In h → h.Ns mainGlobals mg → mg d.name = some (.ref fa) →
  ∃ fd : FuncData, (∀ (s : Shared) (u : Value), BindsTo s fd ⟨[u], []⟩ [("script", u)]) ∧ ∀ base : Heap, (K w.params).In base → base.Ns mainGlobals mg → FnOk l.prog w (K w.params) mg base CX0 7 fa fd ["script"] (spLaw (K w.params))) :
 PySem.W.WalkO q loose XP YP l.row.toRowW d [] (fun f vs => PySem.call f vs) :=
 L2.walk_of (n := 63) (k := 7) (x := "script") (CX := fun _ => CX0) (sp := fun w => spLaw (K w.params)) hn (by decide) hdf ⟨rfl, by decide, by decide, rfl⟩ hY F (fun _ _ a ns hl _ hS => ⟨a, ns, rfl, hS, hl, fun _ => rfl⟩) fun _ _ _ _ _ z => z
end Lw

open PySem PySem.W PyProof.Rows
set_option maxRecDepth 100000 in
set_option maxHeartbeats 0 in
theorem PySem.Challenge.cw_pagewalks_k37_leaps_by_kinds_holds : PySem.Challenge.rw_pagewalks_k37_leaps_by_kinds.Holds := by
 w_on; o_law; k_head; (case hw => w_witness2)
 k_fill
 refine Lw.walk (l := PySem.Challenge.rw_pagewalks_k37_leaps_by_kinds) rfl rfl (fun w h Y => PySem.W.kIn_of Y) ?F
 case F =>
  intro w mg fa h KX G hmg
  refine' Lw.all_mk KX G hmg ?aZERO ?lZERO ?A8 ?A9 ?A11 ?A13 ?A14 ?A15 ?A21 ?A22 ?A23 ?A24 ?aL ?lL ?cL ?kL ?zabs ?zisi ?ztup ?zint ?zbool ?zlst ?zenu ?zlen ?zrange ?zsrt ?zsum ?zzip ?zmax ?zmin ?zset ?zstr ?zVE ?E_NoKind ?E_WalkError ?xga ?xgn ?xca ?xmo ?xmb ?xup ?xnw ?xbM ?xbL ?xbT ?xki2 ?xki3
  (case aZERO => k_is)
  (case lZERO => k_is)
  (case A8 => refine' L2.FnAt.of ?a ?l ?c ?k; (case a => k_is); (case l => k_is); (case c => k_is); (case k => k_is))
  (case A9 => refine' L2.FnAt.of ?a ?l ?c ?k; (case a => k_is); (case l => k_is); (case c => k_is); (case k => k_is))
  (case A11 => refine' L2.FnAt.of ?a ?l ?c ?k; (case a => k_is); (case l => k_is); (case c => k_is); (case k => k_is))
  (case A13 => refine' L2.FnAt.of ?a ?l ?c ?k; (case a => k_is); (case l => k_is); (case c => k_is); (case k => k_is))
  (case A14 => refine' L2.FnAt.of ?a ?l ?c ?k; (case a => k_is); (case l => k_is); (case c => k_is); (case k => k_is))
  (case A15 => refine' L2.FnAt.of ?a ?l ?c ?k; (case a => k_is); (case l => k_is); (case c => k_is); (case k => k_is))
  (case A21 => refine' L2.FnAt.of ?a ?l ?c ?k; (case a => k_is); (case l => k_is); (case c => k_is); (case k => k_is))
  (case A22 => refine' L2.FnAt.of ?a ?l ?c ?k; (case a => k_is); (case l => k_is); (case c => k_is); (case k => k_is))
  (case A23 => refine' L2.FnAt.of ?a ?l ?c ?k; (case a => k_is); (case l => k_is); (case c => k_is); (case k => k_is))
  (case A24 => refine' L2.FnAt.of ?a ?l ?c ?k; (case a => k_is); (case l => k_is); (case c => k_is); (case k => k_is))
  (case aL => k_is)
  (case lL => k_is)
  (case cL => k_is)
  (case kL => k_is)
  (case zabs => k_is)
  (case zisi => k_is)
  (case ztup => k_is)
  (case zint => k_is)
  (case zbool => k_is)
  (case zlst => k_is)
  (case zenu => k_is)
  (case zlen => k_is)
  (case zrange => k_is)
  (case zsrt => k_is)
  (case zsum => k_is)
  (case zzip => k_is)
  (case zmax => k_is)
  (case zmin => k_is)
  (case zset => k_is)
  (case zstr => k_is)
  (case zVE => k_is)
  (case E_NoKind => refine' L2.XcAt.of ?a ?e ?t; (case a => k_is); (case e => kernel_rfl); (case t => kernel_rfl))
  (case E_WalkError => refine' L2.XcAt.of ?a ?e ?t; (case a => k_is); (case e => kernel_rfl); (case t => kernel_rfl))
  (case xga => (first | k_is | kernel_rfl))
  (case xgn => (first | k_is | kernel_rfl))
  (case xca => (first | k_is | kernel_rfl))
  (case xmo => (first | k_is | kernel_rfl))
  (case xmb => (first | k_is | kernel_rfl))
  (case xup => (first | k_is | kernel_rfl))
  (case xnw => decide)
  (case xbM => k_is)
  (case xbL => k_is)
  (case xbT => k_is)
  (case xki2 => (first | k_is | kernel_rfl))
  (case xki3 => (first | k_is | kernel_rfl))

import PyProof.Rows.All
import Wide.All
import OpenK.AllK
import Wide.FinOn
import Lean
import PyProof.EqAt
import PyProof.EqKinds
import PyProof.TupleCall
import PyProof.NeKinds
import PyProof.EnumMake
import PyProof.Draws
import PyProof.ListNew
import PyProof.Rows.IntBool
import KE.LcSums
import PyProof.ListMulRoad
import PyProof.WalksT
import PyProof.ZipIter
import PyProof.Rows.ZipGen
import PyProof.SumWalk
import PyProof.Rows.CallKwBuiltin
import PyProof.AutoListH
import PyProof.WalkInts
import KE.KRevIter
import PyProof.ListStr
import PyProof.ListRange
import KE.KSortTup
import KE.KLam
import KE.KNestM
import KE.KFind
import KE.KTryDeep
import KE.KIsAll
import PyProof.ExcArgsOwn
import PyProof.Rows.SetFrom
import PyProof.StrWalks
import PyProof.CollectIter
import PyProof.FactsAll.set
import PyProof.StrCalls2
import PyProof.StrLawsIn
import PyProof.SliceStr2
import PyProof.StrOps2
import PyProof.StrBlockH
import PyProof.Rows.StrItems
import PyProof.Rows.StrSplitAre
import PyProof.StrLawsTight
import KE.KIntText
import KE.IntTextText
import PyProof.CompFree
import PyProof.Rows.StrSplitJoin
import PyProof.Rows.FStr
import PyProof.FactsAll.bool_1
import PyProof.ReprLen
import PySem.Challenge.RW_pagewalks_k01_what_is_a_fraction
set_option maxHeartbeats 1000000
set_option Elab.async false
set_option bootstrap.genMatcherCode false
set_option genSizeOfSpec false
set_option genSizeOf false
set_option linter.all false
set_option maxRecDepth 100000
namespace L2
open PySem PySem.Spec PyProof.Rows

noncomputable abbrev Key := Sum Int Str
noncomputable def keyIs : Key → Value → Bool
 | .inl k, v => Value.isInt k v
 | .inr x, v => Value.isStrOf x v
noncomputable def keyH (w : World) : Key → Int
 | .inl k => hashInt k
 | .inr x => hashStr w x
theorem keyIs_shape : ∀ {k : Key} {v : Value}, keyIs k v = true → (∃ i t, k = Sum.inl i ∧ v = Value.int i t) ∨ (∃ x t, k = Sum.inr x ∧ v = Value.str x t)
 | .inl i, v, h => by
   obtain ⟨t, e⟩ := Value.isInt_shape (k := i) (v := v) h
   exact .inl ⟨i, t, rfl, e⟩
 | .inr x, v, h => by
   obtain ⟨t, e⟩ := Value.isStrOf_shape (x := x) (v := v) h
   exact .inr ⟨x, t, rfl, e⟩
theorem key_ll (a b : Int) : decide ((Sum.inl a : Key) = Sum.inl b) = (a == b) := by
 by_cases e : a = b
 · subst e; simp
 · have h : ¬ (Sum.inl a : Key) = Sum.inl b := fun q => e (Sum.inl.inj q)
   rw [decide_eq_false h]
   exact (beq_eq_false_iff_ne.mpr e).symm
theorem key_rr (a b : Str) : decide ((Sum.inr a : Key) = Sum.inr b) = decide (a = b) := by
 by_cases e : a = b
 · subst e; simp
 · have h : ¬ (Sum.inr a : Key) = Sum.inr b := fun q => e (Sum.inr.inj q)
   rw [decide_eq_false h, decide_eq_false e]
theorem key_lr (a : Int) (b : Str) : decide ((Sum.inl a : Key) = Sum.inr b) = false := decide_eq_false (fun q => nomatch q)
theorem key_rl (a : Str) (b : Int) : decide ((Sum.inr a : Key) = Sum.inl b) = false := decide_eq_false (fun q => nomatch q)

noncomputable def mixKind (prog : Program) (w : World) : PySem.KeyKind prog w Key where
 is := keyIs
 hash := keyH w
 inj := fun v a b ha hb => by
  rcases keyIs_shape ha with ⟨i, t, rfl, rfl⟩ | ⟨x, t, rfl, rfl⟩
  · rcases keyIs_shape hb with ⟨j, u, rfl, e⟩ | ⟨y, u, rfl, e⟩
    · injection e with e1 _; rw [e1]
    · exact nomatch e
  · rcases keyIs_shape hb with ⟨j, u, rfl, e⟩ | ⟨y, u, rfl, e⟩
    · exact nomatch e
    · injection e with e1 _; rw [e1]
 byValue := fun k v h => by
  rcases keyIs_shape h with ⟨i, t, rfl, rfl⟩ | ⟨x, t, rfl, rfl⟩ <;> rfl
 pyHash := fun hv h => by
  rcases keyIs_shape hv with ⟨i, t, rfl, rfl⟩ | ⟨x, t, rfl, rfl⟩
  · exact wpAny_pyHash_int h
  · exact wpAny_pyHash_str h
 eqBool := fun hu hv h => by
  rcases keyIs_shape hu with ⟨i, t, rfl, rfl⟩ | ⟨x, t, rfl, rfl⟩
  · rcases keyIs_shape hv with ⟨j, u, rfl, rfl⟩ | ⟨y, u, rfl, rfl⟩
    · rw [key_ll] at h; exact wpAny_eqBool_int h
    · rw [key_lr] at h; exact SeqAt.EqAt.int_str i t y u _ _ _ _ h
  · rcases keyIs_shape hv with ⟨j, u, rfl, rfl⟩ | ⟨y, u, rfl, rfl⟩
    · rw [key_rl] at h; exact SeqAt.EqAt.str_int x t j u _ _ _ _ h
    · rw [key_rr] at h; exact wpAny_eqBool_str h
 «strs» := fun k x t v h => by
  rcases keyIs_shape h with ⟨i, u, rfl, e⟩ | ⟨y, u, rfl, e⟩
  · exact nomatch e
  · injection e with e1 _
    subst e1
    cases v <;> rfl

end L2

namespace L2
open PySem PySem.Spec PyProof.Rows

inductive V where
 | non | bl (b : Bool) | int (i : Int) | str (x : Str) | byt (b : Array UInt8) | flt (b : UInt64) | ref (a : Addr) | ty (n : String)
 deriving DecidableEq

noncomputable def RelV : V → Value → Prop
 | .non, u => u = Value.none
 | .bl b, u => u = Value.bool b
 | .int i, u => ∃ t, u = Value.int i t
 | .str x, u => ∃ t, u = Value.str x t
 | .byt b, u => ∃ t, u = Value.bytes b t
 | .flt b, u => ∃ t, u = Value.float b t
 | .ref a, u => u = Value.ref a
 | .ty n, u => u = Value.type n

noncomputable abbrev Vals : List V → List Value → Prop := Paired RelV
theorem Vals.length {xs : List V} {us : List Value} (r : Vals xs us) : xs.length = us.length := Paired.length r
theorem Vals.get : ∀ {xs : List V} {us : List Value} {i : Nat} {x : V}, Vals xs us → xs[i]? = some x → ∃ u, us[i]? = some u ∧ RelV x u
 | _, _, _, _, .nil, e => by simp at e
 | _, _, 0, _, .cons r _, e => by simp at e; subst e; exact ⟨_, rfl, r⟩
 | _, _, i + 1, x, .cons _ t, e => by
   obtain ⟨u, h1, h2⟩ := Vals.get (i := i) (x := x) t (by simpa using e)
   exact ⟨u, by simpa using h1, h2⟩
theorem Vals.set {x : V} {u : Value} (r : RelV x u) : ∀ {xs : List V} {us : List Value} (i : Nat), Vals xs us → Vals (xs.set i x) (us.set i u)
 | _, _, _, .nil => .nil
 | _, _, 0, .cons _ t => .cons r t
 | _, _, i + 1, .cons q t => .cons q (Vals.set r i t)
theorem Vals.append : ∀ {xs ys : List V} {us ws : List Value}, Vals xs us → Vals ys ws → Vals (xs ++ ys) (us ++ ws)
 | _, _, _, _, .nil, s => s
 | _, _, _, _, .cons r t, s => .cons r (Vals.append t s)
theorem Vals.take : ∀ {xs : List V} {us : List Value} (n : Nat), Vals xs us → Vals (xs.take n) (us.take n)
 | _, _, 0, _ => .nil
 | _, _, _ + 1, .nil => .nil
 | _, _, n + 1, .cons r t => .cons r (Vals.take n t)
theorem Vals.drop : ∀ {xs : List V} {us : List Value} (n : Nat), Vals xs us → Vals (xs.drop n) (us.drop n)
 | _, _, 0, r => r
 | _, _, _ + 1, .nil => .nil
 | _, _, n + 1, .cons _ t => Vals.drop n t
noncomputable def RelO : Option V → Option Value → Prop
 | some v, some u => RelV v u
 | none, none => True
 | _, _ => False
noncomputable def KV {κ : Type} : List (κ × V) → List (κ × Value) → Prop := Paired fun (p : κ × V) (q : κ × Value) => p.1 = q.1 ∧ RelV p.2 q.2

noncomputable def kV : Key → V
 | .inl i => .int i
 | .inr x => .str x

inductive HO where
 | lst (xs : List V)
 | tup (xs : List V)
 | dK (kvs : List (Key × V)) | dT (kvs : List (List Key × V))
 | set (S : Int → Bool) (n : Nat)
 | ins (C dx : Addr) (fs : List (Str × V))
 | own (x : Addr)
 | xd (fs : List (Str × V))
 | met (f x : Addr)
 | rng (lo hi : Int)
 | frz (o : Obj) (u : HO)
 | tbl (ps : Array Value)
 | ext (φ : Heap → Prop)

noncomputable abbrev Hp := Addr → Option HO
noncomputable def upd (H : Hp) (a : Addr) (o : HO) : Hp := fun b => if b = a then some o else H b
theorem upd_same {H : Hp} {a : Addr} {o : HO} : upd H a o a = some o := by unfold upd; rw [if_pos rfl]
theorem upd_ne {H : Hp} {a b : Addr} {o : HO} (h : b ≠ a) : upd H a o b = H b := by unfold upd; rw [if_neg h]
theorem upd_upd {H : Hp} {a : Addr} {o u : HO} : upd (upd H a o) a u = upd H a u := by
 funext b; unfold upd; split <;> rfl
theorem ne_of_none {H : Hp} {a b : Addr} {o : HO} (h : H a = some o) (h' : H b = none) : a ≠ b := by
 intro e; subst e; rw [h] at h'; cases h'

noncomputable def IsTupN (h : Heap) (a : Addr) (items : Array Value) : Prop := ∃ o, h.get? a = some o ∧ (o.cls, o.dict) = (Value.type "tuple", (none : Option Addr)) ∧ ∃ n, o.data = .seq items n
theorem IsTupN.tup {h : Heap} {a : Addr} {items : Array Value} (p : IsTupN h a items) : PyProof.Rows.IsTup h a items := by
 obtain ⟨o, e, c, n, d⟩ := p
 exact ⟨o, e, congrArg Prod.fst c, n, d⟩
section
variable (P : Program) (w : World)
noncomputable def ObjOk (H : Hp) (h : Heap) (a : Addr) : HO → Prop
 | .lst xs => xs.length ≤ sizeLine ∧ ∃ (its : List Value) (n : Nat), Vals xs its ∧ h.get? a = some { cls := .type "list", data := .seq its.toArray n }
 | .tup xs => xs.length ≤ sizeLine ∧ ∃ its : List Value, Vals xs its ∧ IsTupN h a its.toArray
 | .dK kvs => kvs.length ≤ sizeLine ∧ (a == sysModules) = false ∧ ∃ vs, KV kvs vs ∧ h.DictOf (mixKind P w) a vs
 | .dT kvs => kvs.length ≤ sizeLine ∧ (a == sysModules) = false ∧ ∃ xs : List (List Key × Addr × Value),
  Paired (fun (p : List Key × V) (q : List Key × Addr × Value) => p.1 = q.1 ∧ H q.2.1 = some (.tup (p.1.map kV)) ∧ RelV p.2 q.2.2) kvs xs ∧
  ∃ o es ep, h.get? a = some o ∧ o.ExactDict ∧ o.data = .dict es ep ∧ es.toList = xs.map (entryOfKey (tupleKind (mixKind P w))) ∧ (xs.map (·.1)).Nodup
 | .set S n => h.SetOf (intKind P w) a S n
 | .ins C dx fs => H dx = some (.own a) ∧ fs.length ≤ 1000 ∧ dx ≠ a ∧ h.get? a = some (PySem.W.instObj C dx) ∧
  ∃ mA, h.Ns1 dx mA ∧ (∀ f, RelO (fs.lookup f) (mA f)) ∧ PySem.Within mA (fs.map (·.1))
 | .own _ => ∃ o, h.get? a = some o
 | .xd fs => ∃ mA, h.Ns1 a mA ∧ ∀ f, RelO (fs.lookup f) (mA f)
 | .rng lo hi => ∃ t u v, h.get? a = some { cls := .type "range", data := .fields #[.int lo t, .int hi u, .int 1 v] }
 | .frz o u => h.get? a = some o ∧ ObjOk H h a u
 | .tbl ps => h.get? a = some { cls := .none, data := .fields ps }
 | .met f x => h.get? a = some (PySem.W.methodObj (.ref f) (.ref x))
 | .ext φ => φ h ∧ (∃ o, h.get? a = some o) ∧ ∀ h1 h2 : Heap, φ h1 → (∀ o, h1.get? a = some o → h2.get? a = some o) → φ h2
noncomputable def HOk (H : Hp) (h : Heap) : Prop := ∀ a o, H a = some o → ObjOk P w H h a o
end

section
variable {P : Program} {w : World} {H H' : Hp} {h h' : Heap} {a : Addr} {o : HO}
theorem ObjOk.lt (x : ObjOk P w H h a o) : a < h.objs.size := by
 cases o with
 | lst xs => obtain ⟨_, _, _, _, e⟩ := x; exact Heap.lt_size e
 | tup xs => obtain ⟨_, _, _, p⟩ := x; exact p.tup.lt
 | dK kvs => obtain ⟨_, _, _, _, o, _, _, e, _⟩ := x; exact Heap.lt_size e
 | dT kvs => obtain ⟨_, _, _, _, o, _, _, e, _⟩ := x; exact Heap.lt_size e
 | set S n => obtain ⟨o, _, _, _, e, _⟩ := x; exact Heap.lt_size e
 | ins C dx fs => obtain ⟨_, _, _, e, _⟩ := x; exact Heap.lt_size e
 | own y => obtain ⟨_, e⟩ := x; exact Heap.lt_size e
 | xd fs => obtain ⟨_, ⟨_, _, _, e, _⟩, _⟩ := x; exact Heap.lt_size e
 | rng lo hi => obtain ⟨_, _, _, e⟩ := x; exact Heap.lt_size e
 | frz ob u => obtain ⟨e, _⟩ := x; exact Heap.lt_size e
 | tbl ps => exact Heap.lt_size (show h.get? a = some _ from x)
 | met f y => exact Heap.lt_size (show h.get? a = some _ from x)
 | ext φ => obtain ⟨_, ⟨_, e⟩, _⟩ := x; exact Heap.lt_size e
theorem Paired.mapP {α β : Type} {F G : α → β → Prop} : ∀ {l₁ : List α} {l₂ : List β}, Paired F l₁ l₂ → (∀ a b, F a b → G a b) → Paired G l₁ l₂
 | _, _, .nil, _ => .nil
 | _, _, .cons r t, f => .cons (f _ _ r) (Paired.mapP t f)
theorem ObjOk.stay (x : ObjOk P w H h a o) (k : ∀ b u, (b = a ∨ H b = some (.own a)) → h.get? b = some u → h'.get? b = some u)
 (ho : ∀ b, H b = some (.own a) → H' b = some (.own a)) (ht : ∀ b xs, H b = some (.tup xs) → H' b = some (.tup xs)) : ObjOk P w H' h' a o := by
 induction o with
 | lst xs => obtain ⟨z, its, n, r, e⟩ := x; exact ⟨z, its, n, r, k _ _ (.inl rfl) e⟩
 | tup xs => obtain ⟨z, its, r, ob, e, c⟩ := x; exact ⟨z, its, r, ob, k _ _ (.inl rfl) e, c⟩
 | dK kvs => obtain ⟨z, y, vs, r, ob, es, ep, e, c⟩ := x; exact ⟨z, y, vs, r, ob, es, ep, k _ _ (.inl rfl) e, c⟩
 | dT kvs =>
   obtain ⟨z, y, xs, r, ob, es, ep, e, c⟩ := x
   exact ⟨z, y, xs, Paired.mapP r fun p q z => ⟨z.1, ht _ _ z.2.1, z.2.2⟩, ob, es, ep, k _ _ (.inl rfl) e, c⟩
 | set S n => obtain ⟨ob, es, ep, t, e, c⟩ := x; exact ⟨ob, es, ep, t, k _ _ (.inl rfl) e, c⟩
 | ins C dx fs =>
   obtain ⟨d, z, ne, e, mA, ⟨od, es, ep, e2, c⟩, r⟩ := x
   exact ⟨ho _ d, z, ne, k _ _ (.inl rfl) e, mA, ⟨od, es, ep, k _ _ (.inr d) e2, c⟩, r⟩
 | own y => obtain ⟨ob, e⟩ := x; exact ⟨ob, k _ _ (.inl rfl) e⟩
 | xd fs => obtain ⟨mA, ⟨od, es, ep, e, c⟩, r⟩ := x; exact ⟨mA, ⟨od, es, ep, k _ _ (.inl rfl) e, c⟩, r⟩
 | rng lo hi => obtain ⟨t, u, v, e⟩ := x; exact ⟨t, u, v, k _ _ (.inl rfl) e⟩
 | frz ob u ih => obtain ⟨e, q⟩ := x; exact ⟨k _ _ (.inl rfl) e, ih q⟩
 | tbl ps =>
   have e : h.get? a = some { cls := .none, data := .fields ps } := x
   show h'.get? a = some { cls := .none, data := .fields ps }
   exact k a _ (.inl rfl) e
 | met f y =>
   have e : h.get? a = some (PySem.W.methodObj (.ref f) (.ref y)) := x
   show h'.get? a = some (PySem.W.methodObj (.ref f) (.ref y))
   exact k a _ (.inl rfl) e
 | ext φ => obtain ⟨p, ⟨o, e⟩, st⟩ := x; exact ⟨st _ _ p fun o q => k _ _ (.inl rfl) q, ⟨o, k _ _ (.inl rfl) e⟩, st⟩
theorem HOk.lt (x : HOk P w H h) (e : H a = some o) : a < h.objs.size := (x a o e).lt
theorem HOk.fresh (x : HOk P w H h) (e : h.objs.size ≤ a) : H a = none := by
 cases q : H a with
 | none => rfl
 | some u => exact absurd (Nat.lt_of_lt_of_le (x.lt q) e) (Nat.lt_irrefl _)
theorem HOk.kept (x : HOk P w H h) (k : ∀ b u, h.get? b = some u → h'.get? b = some u) : HOk P w H h' := fun a o e =>
 (x a o e).stay (fun b u _ q => k b u q) (fun _ q => q) fun _ _ q => q
theorem HOk.laid (x : HOk P w H h) (k : ∀ b u, h.get? b = some u → h'.get? b = some u) (hp : h.objs.size ≤ a) (new : ObjOk P w (upd H a o) h' a o) : HOk P w (upd H a o) h' := fun b u e => by
 have hn := x.fresh hp
 by_cases hb : b = a
 · subst hb; rw [upd_same] at e; cases e; exact new
 · rw [upd_ne hb] at e
   exact (x b u e).stay (fun c v _ q => k c v q) (fun c q => by rw [upd_ne (ne_of_none q hn)]; exact q) fun c xs q => by rw [upd_ne (ne_of_none q hn)]; exact q
end

noncomputable def Rd (H : Hp) (a : Addr) (u : HO) : Prop := H a = some u ∨ ∃ o, H a = some (.frz o u)
theorem Rd.ok {P : Program} {w : World} {H : Hp} {h : Heap} {a : Addr} {u : HO} (r : Rd H a u) (x : HOk P w H h) : ObjOk P w H h a u := by
 rcases r with r | ⟨o, r⟩
 · exact x a u r
 · obtain ⟨_, q⟩ := x a _ r
   exact q
noncomputable def Mut : Option HO → Prop
 | some (.lst _) => True
 | some (.dK _) => True
 | some (.dT _) => True
 | some (.set _ _) => True
 | some (.ins _ _ _) => True
 | some (.ext _) => True
 | _ => False
section
variable {P : Program} {w : World} {H : Hp} {h h' : Heap} {x e : Addr} {o' : HO}
theorem HOk.write (ok : HOk P w H h) (mu : Mut (H x)) (he : e = x ∨ H e = some (.own x)) (k : ∀ b u, b ≠ e → h.get? b = some u → h'.get? b = some u) (heo : ∃ u, h'.get? e = some u)
 (new : ObjOk P w (upd H x o') h' x o') : HOk P w (upd H x o') h' := fun b u q => by
 have nown : ∀ c y, H c = some (.own y) → c ≠ x := fun c y r z => by subst z; rw [r] at mu; exact mu
 have ntup : ∀ c xs, H c = some (.tup xs) → c ≠ x := fun c xs r z => by subst z; rw [r] at mu; exact mu
 by_cases hb : b = x
 · subst hb; rw [upd_same] at q; cases q; exact new
 · rw [upd_ne hb] at q
   by_cases hbe : b = e
   · have q' : H b = some (.own x) := by
      rcases he with z | z
      · exact absurd (hbe.trans z) hb
      · rw [hbe]; exact z
     rw [q] at q'; cases q'
     obtain ⟨v, hv⟩ := heo
     exact ⟨v, by rw [hbe]; exact hv⟩
   · refine (ok b u q).stay (fun c v hc r => k c v ?_ r) (fun c r => by rw [upd_ne (nown c b r)]; exact r) fun c xs r => by rw [upd_ne (ntup c xs r)]; exact r
     rcases hc with rfl | hc
     · exact hbe
     · rintro rfl
       rcases he with z | z
       · exact nown c b hc z
       · rw [hc] at z; cases z; exact hb rfl
end

structure Un (fs ex : List Addr) (H H' : Hp) (h h' : Heap) : Prop where
 keep : ∀ b o, h.get? b = some o → H b = none → b ∉ fs → b ∉ ex → h'.get? b = some o
 slot : ∀ b o, h.get? b = some o → H b = none → b ∈ fs → b ∉ ex → ∃ sl, h'.get? b = some { o with slots := sl }
 free : ∀ b o, h.get? b = some o → H b = none → b ∉ ex → H' b = none
 there : ∀ b o, h.get? b = some o → b ∉ ex → ∃ o', h'.get? b = some o'
 tups : ∀ b xs, H b = some (.tup xs) → H' b = some (.tup xs)
 frzs : ∀ b o u, H b = some (.frz o u) → H' b = some (.frz o u)
 tbls : ∀ b ps, H b = some (.tbl ps) → ∃ more, H' b = some (.tbl (ps ++ more))
section
variable {fs fs' ex ex' : List Addr} {H H1 H2 : Hp} {h h1 h2 h' : Heap} {a x e : Addr} {o : HO}
theorem Un.any (u : Un fs ex H H1 h h1) {b : Addr} {ob : Obj} (q : h.get? b = some ob) (n : H b = none) (hx : b ∉ ex) : ∃ sl, h1.get? b = some { ob with slots := sl } := by
 by_cases hb : b ∈ fs
 · exact u.slot b ob q n hb hx
 · exact ⟨ob.slots, u.keep b ob q n hb hx⟩
theorem Un.kept (k : ∀ b u, h.get? b = some u → h'.get? b = some u) : Un fs ex H H h h' :=
 ⟨fun b ob q _ _ _ => k b ob q, fun b ob q _ _ _ => ⟨ob.slots, k b ob q⟩, fun _ _ _ n _ => n, fun b ob q _ => ⟨ob, k b ob q⟩, fun _ _ q => q, fun _ _ _ q => q, fun _ ps q => ⟨#[], by rw [q]; simp⟩⟩
theorem Un.refl : Un fs ex H H h h := Un.kept fun _ _ q => q
theorem Un.laid (k : ∀ b u, h.get? b = some u → h'.get? b = some u) (hp : h.objs.size ≤ a) (hn : H a = none) : Un fs ex H (upd H a o) h h' where
 keep := fun b u q _ _ _ => k b u q
 slot := fun b u q _ _ _ => ⟨u.slots, k b u q⟩
 free := fun b u q n _ => by rw [upd_ne (Nat.ne_of_lt (Nat.lt_of_lt_of_le (Heap.lt_size q) hp))]; exact n
 there := fun b u q _ => ⟨u, k b u q⟩
 tups := fun b xs q => by rw [upd_ne (ne_of_none q hn)]; exact q
 frzs := fun b u xs q => by rw [upd_ne (ne_of_none q hn)]; exact q
 tbls := fun b ps q => ⟨#[], by rw [upd_ne (ne_of_none q hn), q]; simp⟩
theorem Un.write (mu : Mut (H x)) (he : e = x ∨ H e = some (.own x)) (k : ∀ b u, b ≠ e → h.get? b = some u → h'.get? b = some u) (heo : ∃ u, h'.get? e = some u) : Un fs ex H (upd H x o) h h' := by
 have hx : ∀ b, H b = none → b ≠ x := fun b n z => by subst z; rw [n] at mu; exact mu
 have hb : ∀ b, H b = none → b ≠ e := fun b n z => by
  subst z
  rcases he with r | r
  · exact hx b n r
  · rw [n] at r; cases r
 have hm : ∀ b u, H b = some u → ¬ Mut (some u) → b ≠ x := fun b u q nm z => by subst z; rw [q] at mu; exact nm mu
 refine ⟨fun b u q n _ _ => k b u (hb b n) q, fun b u q n _ _ => ⟨u.slots, k b u (hb b n) q⟩, fun b u q n _ => by rw [upd_ne (hx b n)]; exact n, fun b u q _ => ?_,
  fun b xs q => by rw [upd_ne (hm b _ q fun z => z)]; exact q, fun b u xs q => by rw [upd_ne (hm b _ q fun z => z)]; exact q, fun b ps q => ⟨#[], by rw [upd_ne (hm b _ q fun z => z), q]; simp⟩⟩
 by_cases hbe : b = e
 · subst hbe; exact heo
 · exact ⟨u, k b u hbe q⟩
end

noncomputable def trk (h : Heap) (H : Hp) : List Addr := (List.range h.objs.size).filter fun a => (H a).isSome
noncomputable def hidT (h : Heap) (H : Hp) : Heap := PySem.W.hideAll h (trk h H)
theorem hidT_size (h : Heap) (H : Hp) : (hidT h H).objs.size = h.objs.size := PySem.W.hideAll_size _ _
theorem hidT_get {h : Heap} {H : Hp} {b : Addr} {o : Obj} (e : h.get? b = some o) (n : H b = none) : (hidT h H).get? b = some o :=
 PySem.W.hideAll_get _ e fun hm => by
  have q : (H b).isSome = true := (List.mem_filter.mp hm).2
  rw [n] at q; simp at q
theorem of_hidT {h : Heap} {H : Hp} {b : Addr} {o : Obj} (e : (hidT h H).get? b = some o) : h.get? b = some o ∧ H b = none := by
 have e' : h.get? b = some o := PySem.W.of_hideAll (trk h H) e
 refine ⟨e', ?_⟩
 cases q : H b with
 | none => rfl
 | some x =>
   have hm : b ∈ trk h H := List.mem_filter.mpr ⟨List.mem_range.mpr (Heap.lt_size e'), by simp [q]⟩
   have z : (hidT h H).get? b = none := PySem.W.hideAll_none (trk h H) hm
   rw [z] at e; cases e

end L2

namespace L2
open PySem PySem.Spec PyProof.Rows

structure Mod (K : PySem.W.Frag) (mg : Str → Option Value) (base : Heap) : Prop where
 kin : K.In base
 glob : base.Ns mainGlobals mg
 blt : ∃ mb, base.Ns builtinsNs mb ∧ ∀ x : Str, x ≠ "__name__" → mb x = bootBuiltins x
 nolimit : base.NoLimit

set_option genInjectivity false in
set_option genInjectivity false in
structure Cx where
 prog : Program
 w : World
 K : PySem.W.Frag
 mg : Str → Option Value
 base : Heap
 A : Around
 N : List Str
 s₀ : Shared
 H₀ : Hp
 env : Env
 outer : List Env
 stack : List Env
 ex : List Addr
 fn : Str → Bool
 calm : Bool
 pn : List (Addr × Obj)
 xe : Value → Shared → Prop
noncomputable def frs (l : List Env) : List Addr := l.filterMap (·.frame)
noncomputable abbrev Cx.fs (X : Cx) : List Addr := frs X.outer

noncomputable def Vis (sc : Scope) (x : Str) : Prop := sc.names.lookup x = some .local ∨ sc.names.lookup x = some .cell ∨ sc.names.lookup x = some .free
noncomputable def Loc (sc : Scope) (x : Str) : Prop := sc.names.lookup x = some .local ∨ sc.names.lookup x = some .cell
noncomputable def Look (env : Env) (h : Heap) (m : Str → Option Value) (x : Str) (u : Value) : Prop :=
 (env.kindOf x = some .local ∧ m x = some u) ∨ ((env.kindOf x = some .cell ∨ env.kindOf x = some .free) ∧ ∃ c, env.cells.lookup x = some c ∧ h.IsCell c (some u))

set_option genInjectivity false in
structure Cx.Ok (X : Cx) : Prop where
 mod : Mod X.K X.mg X.base
 kind : X.env.scope.kind = .function
 glob : X.env.globals = mainGlobals
 blt : X.env.builtins = builtinsNs
 above : X.s₀.heap.objs.size ≤ X.env.locals
 inj : ∀ x y c, X.env.cells.lookup x = some c → X.env.cells.lookup y = some c → x = y
 has : ∀ x, (X.env.kindOf x = some .cell ∨ X.env.kindOf x = some .free) → ∃ c, X.env.cells.lookup x = some c
 cab : ∀ x c, X.fn x = true → X.env.cells.lookup x = some c → X.s₀.heap.objs.size ≤ c
 hd : X.calm = true → X.A.handled = none
 frames : X.A.frames = some X.stack
 stk : X.stack = X.outer ∨ (X.stack = X.env :: X.outer ∧ X.env.frame = some X.env.locals)
 exf : ∀ b ∈ X.ex, b ≠ X.env.locals ∧ ∀ x c, X.env.cells.lookup x = some c → c ≠ b
 bs : ∀ b o, X.base.get? b = some o → X.s₀.heap.get? b = some o ∧ X.H₀ b = none
 bsz : X.base.objs.size ≤ X.s₀.heap.objs.size
 noex : ∀ b o, X.base.get? b = some o → b ∉ X.ex
 exfs : ∀ b ∈ X.ex, b ∉ X.fs
 funs : X.s₀.heap.FunFrames X.base X.outer
 frf : ∀ b ∈ X.fs, X.H₀ b = none

set_option genInjectivity false in
structure Inv (X : Cx) (pins : List (Addr × Obj)) (σ : List (Option V)) (H : Hp) (s : Shared) : Prop where
 ok : X.Ok
 os : s.os = X.s₀.os
 bare : AllBare s.gens
 base : Un X.fs X.ex X.H₀ H X.s₀.heap s.heap
 loc : ∃ m, s.heap.Ns X.env.locals m ∧ ∀ (i : Nat) (x : Str) (v : V), X.N[i]? = some x → σ[i]? = some (some v) → Vis X.env.scope x → ∃ u, RelV v u ∧ Look X.env s.heap m x u
 cell : ∀ x c, X.env.cells.lookup x = some c → ∃ v, s.heap.IsCell c v
 free : H X.env.locals = none
 freeC : ∀ x c, X.env.cells.lookup x = some c → H c = none
 pin : ∀ p ∈ X.pn ++ pins, s.heap.get? p.1 = some p.2 ∧ H p.1 = none ∧ p.1 ≠ X.env.locals ∧ p.1 ∉ X.fs ∧ ∀ v, p.2.data ≠ .cell v
 hok : HOk X.prog X.w H s.heap
 len : σ.length = X.N.length

section
variable {X : Cx} {pins : List (Addr × Obj)} {σ : List (Option V)} {H H' : Hp} {s : Shared} {h' : Heap}

theorem Cx.Ok.nofr (ok : X.Ok) {b : Addr} {o : Obj} (e : X.base.get? b = some o) : b ∉ X.fs := fun hb => by
 have := (ok.funs.mem hb).1
 rw [e] at this; cases this
theorem Inv.bs (I : Inv X pins σ H s) : ∀ b o, X.base.get? b = some o → s.heap.get? b = some o ∧ H b = none := fun b o e =>
 ⟨I.base.keep b o (I.ok.bs b o e).1 (I.ok.bs b o e).2 (I.ok.nofr e) (I.ok.noex b o e), I.base.free b o (I.ok.bs b o e).1 (I.ok.bs b o e).2 (I.ok.noex b o e)⟩
theorem Inv.bk (I : Inv X pins σ H s) : ∀ b o, X.base.get? b = some o → s.heap.get? b = some o := fun b o e => (I.bs b o e).1
theorem Inv.mod (I : Inv X pins σ H s) : Mod X.K X.mg X.base := I.ok.mod
theorem Inv.kIn (I : Inv X pins σ H s) : X.K.In s.heap := I.ok.mod.kin.keeps I.bk
theorem Inv.lt (I : Inv X pins σ H s) : X.env.locals < s.heap.objs.size := let ⟨_, hn, _⟩ := I.loc; hn.lt
theorem Inv.sz (I : Inv X pins σ H s) : X.s₀.heap.objs.size ≤ s.heap.objs.size := Nat.le_trans I.ok.above (Nat.le_of_lt I.lt)
theorem Inv.nofs (I : Inv X pins σ H s) {a : Addr} (h : s.heap.objs.size ≤ a) : a ∉ X.fs := fun hb => by
 obtain ⟨_, o, ho, _⟩ := I.ok.funs.mem hb
 exact absurd (Nat.lt_of_lt_of_le (Heap.lt_size ho) (Nat.le_trans I.sz h)) (Nat.lt_irrefl _)
theorem Inv.cne (I : Inv X pins σ H s) : ∀ x c, X.env.cells.lookup x = some c → c ≠ X.env.locals := fun x c e z => by
 obtain ⟨v, o, ho, hd⟩ := I.cell x c e
 obtain ⟨m, ⟨o', es, ep, ho', hd', _⟩, _⟩ := I.loc
 rw [z, ho'] at ho; cases ho; rw [hd'] at hd; cases hd
theorem Inv.funs (I : Inv X pins σ H s) : s.heap.FunFrames X.base X.outer := by
 have all : ∀ (l : List Env), (∀ b ∈ frs l, b ∈ X.fs) → X.s₀.heap.FunFrames X.base l → s.heap.FunFrames X.base l := by
  intro l
  induction l with
  | nil => intro _ _; trivial
  | cons env r ih =>
    intro hs hl
    obtain ⟨hk, ⟨L, o, hf, hn, ho, hd⟩, hr⟩ := hl
    have hL : L ∈ X.fs := hs L (by unfold frs; rw [List.filterMap_cons, hf]; exact List.mem_cons_self)
    obtain ⟨sl, e⟩ := I.base.slot L o ho (I.ok.frf L hL) hL fun z => I.ok.exfs L z hL
    exact ⟨hk, ⟨L, _, hf, hn, e, hd⟩, ih (fun b hb => hs b (by unfold frs; rw [List.filterMap_cons, hf]; exact List.mem_cons_of_mem _ hb)) hr⟩
 exact all X.outer (fun _ hb => hb) I.ok.funs

theorem Inv.stack (I : Inv X pins σ H s) : s.heap.FunFrames X.base X.stack := by
 rcases I.ok.stk with e | ⟨e, hf⟩
 · rw [e]; exact I.funs
 · rw [e]
   obtain ⟨m, hn, _⟩ := I.loc
   refine .cons (by rw [I.ok.kind]; decide) hf hn ?_ I.funs
   exact Heap.get?_none_of_le (Nat.le_trans I.ok.bsz I.ok.above)
theorem Inv.stkSub (I : Inv X pins σ H s) : ∀ b ∈ frs X.stack, b ∈ X.env.locals :: X.fs := fun b hb => by
 rcases I.ok.stk with e | ⟨e, hf⟩
 · rw [e] at hb; exact List.mem_cons_of_mem _ hb
 · rw [e] at hb
   unfold frs at hb
   rw [List.filterMap_cons, hf] at hb
   exact hb
theorem Inv.stkFree (I : Inv X pins σ H s) : ∀ b ∈ frs X.stack, H b = none := fun b hb => by
 rcases List.mem_cons.mp (I.stkSub b hb) with e | hb
 · rw [e]; exact I.free
 · obtain ⟨_, o, ho, _⟩ := I.ok.funs.mem hb
   exact I.base.free b o ho (I.ok.frf b hb) fun z => I.ok.exfs b z hb

theorem Inv.step {g' : Array GenState} {t' : Nat} {d' : Drawn} {ch : List Addr} (I : Inv X pins σ H s)
 (hch : ∀ b ∈ ch, (b ∈ X.ex ∨ X.s₀.heap.objs.size ≤ b) ∧ b ≠ X.env.locals ∧ (∀ x c, X.env.cells.lookup x = some c → c ≠ b) ∧ ∀ p ∈ X.pn ++ pins, p.1 ≠ b)
 (keep : ∀ b o, b ≠ X.env.locals → b ∉ X.fs → b ∉ ch → s.heap.get? b = some o → H b = none → h'.get? b = some o)
 (slot : ∀ b o, b ≠ X.env.locals → b ∈ X.fs → b ∉ ch → s.heap.get? b = some o → H b = none → ∃ sl, h'.get? b = some { o with slots := sl }) (free : ∀ b o, b ∉ ch → s.heap.get? b = some o → H b = none → H' b = none)
 (there : ∀ b o, b ∉ ch → s.heap.get? b = some o → ∃ o', h'.get? b = some o')
 (tups : ∀ b xs, H b = some (.tup xs) → H' b = some (.tup xs)) (frzs : ∀ b o u, H b = some (.frz o u) → H' b = some (.frz o u)) (tbls : ∀ b ps, H b = some (.tbl ps) → ∃ more, H' b = some (.tbl (ps ++ more)))
 (ns : ∀ m, s.heap.Ns X.env.locals m → h'.Ns X.env.locals m) (hok : HOk X.prog X.w H' h') (hg : AllBare g') :
 Inv X pins σ H' { s with heap := h', gens := g', drawn := d', toks := t' } := by
 have neL : ∀ b o, X.s₀.heap.get? b = some o → b ≠ X.env.locals := fun b o e => Nat.ne_of_lt (Nat.lt_of_lt_of_le (Heap.lt_size e) I.ok.above)
 have neC : ∀ b o, X.s₀.heap.get? b = some o → b ∉ X.ex → b ∉ ch := fun b o e hx hb => by
  rcases (hch b hb).1 with z | z
  · exact hx z
  · exact absurd (Nat.lt_of_lt_of_le (Heap.lt_size e) z) (Nat.lt_irrefl _)
 have cellK : ∀ x c, X.env.cells.lookup x = some c → ∀ v, s.heap.IsCell c v → h'.IsCell c v := fun x c e v ⟨o, ho, hd⟩ => by
  have nch : c ∉ ch := fun z => (hch c z).2.2.1 x c e rfl
  by_cases hc : c ∈ X.fs
  · obtain ⟨sl, q⟩ := slot c o (I.cne x c e) hc nch ho (I.freeC x c e)
    exact ⟨_, q, hd⟩
  · exact ⟨o, keep c o (I.cne x c e) hc nch ho (I.freeC x c e), hd⟩
 refine ⟨I.ok, I.os, hg, ⟨fun b o e n hb hx => ?_, fun b o e n hb hx => ?_, fun b o e n hx => ?_, fun b o e hx => ?_, fun b xs e => tups b xs (I.base.tups b xs e), fun b o xs e => frzs b o xs (I.base.frzs b o xs e), fun b ps e => ?_⟩, ?_, fun x c e => ?_, ?_, fun x c e => ?_, fun p hp => ?_, hok, I.len⟩
 · exact keep b o (neL b o e) hb (neC b o e hx) (I.base.keep b o e n hb hx) (I.base.free b o e n hx)
 · obtain ⟨sl, e1⟩ := I.base.slot b o e n hb hx
   obtain ⟨sl', e2⟩ := slot b _ (neL b o e) hb (neC b o e hx) e1 (I.base.free b o e n hx)
   exact ⟨sl', e2⟩
 · obtain ⟨o', e1⟩ := I.base.there b o e hx
   exact free b o' (neC b o e hx) e1 (I.base.free b o e n hx)
 · obtain ⟨o', e1⟩ := I.base.there b o e hx
   exact there b o' (neC b o e hx) e1
 · obtain ⟨m1, e1⟩ := I.base.tbls b ps e
   obtain ⟨m2, e2⟩ := tbls b _ e1
   exact ⟨m1 ++ m2, by rw [e2, Array.append_assoc]⟩
 · obtain ⟨m, hn, hl⟩ := I.loc
   refine ⟨m, ns m hn, fun i x v e1 e2 e3 => ?_⟩
   obtain ⟨u, r, l⟩ := hl i x v e1 e2 e3
   refine ⟨u, r, ?_⟩
   rcases l with l | ⟨k, c, e, z⟩
   · exact .inl l
   · exact .inr ⟨k, c, e, cellK x c e _ z⟩
 · obtain ⟨v, z⟩ := I.cell x c e
   exact ⟨v, cellK x c e v z⟩
 · obtain ⟨m, ⟨o, _, _, ho, _⟩, _⟩ := I.loc
   exact free _ o (fun z => (hch _ z).2.1 rfl) ho I.free
 · obtain ⟨v, o, ho, hd⟩ := I.cell x c e
   exact free c o (fun z => (hch c z).2.2.1 x c e rfl) ho (I.freeC x c e)
 · obtain ⟨e, n, ne, nf, d⟩ := I.pin p hp
   have nch : p.1 ∉ ch := fun z => (hch p.1 z).2.2.2 p hp rfl
   exact ⟨keep p.1 p.2 ne nf nch e n, free p.1 p.2 nch e n, ne, nf, d⟩
theorem Inv.un {t' : Nat} (I : Inv X pins σ H s) (u : Un X.fs [] H H' s.heap h') (hok : HOk X.prog X.w H' h') : Inv X pins σ H' { s with heap := h', toks := t' } := by
 obtain ⟨m, ⟨o, es, ep, ho, r⟩, _⟩ := id I.loc
 obtain ⟨sl, hL⟩ := u.any ho I.free (by simp)
 exact I.step (g' := s.gens) (d' := s.drawn) (ch := []) (fun _ z => nomatch z) (fun b o _ hb _ e n => u.keep b o e n hb (by simp)) (fun b o _ hb _ e n => u.slot b o e n hb (by simp)) (fun b o _ e n => u.free b o e n (by simp)) (fun b o _ e => u.there b o e (by simp)) u.tups u.frzs u.tbls (fun m' hm => by
  obtain ⟨o', es', ep', ho', r'⟩ := hm
  rw [ho] at ho'; cases ho'
  exact ⟨_, es', ep', hL, r'⟩) hok I.bare
theorem Inv.call {g' : Array GenState} {t' : Nat} {d' : Drawn} {ch : List Addr} (I : Inv X pins σ H s) (u : Un (frs X.stack) ch H H' s.heap h') (hok : HOk X.prog X.w H' h') (hg : AllBare g')
 (hch : ∀ b ∈ ch, (b ∈ X.ex ∨ X.s₀.heap.objs.size ≤ b) ∧ b ≠ X.env.locals ∧ (∀ x c, X.env.cells.lookup x = some c → c ≠ b) ∧ ∀ p ∈ X.pn ++ pins, p.1 ≠ b) :
 Inv X pins σ H' { s with heap := h', gens := g', drawn := d', toks := t' } := by
 obtain ⟨m, ⟨o, es, ep, ho, r⟩, _⟩ := id I.loc
 obtain ⟨sl, hL⟩ := u.any ho I.free fun z => (hch _ z).2.1 rfl
 exact I.step (ch := ch) hch (fun b o hL hb hc e n => u.keep b o e n (fun z => (List.mem_cons.mp (I.stkSub b z)).elim hL hb) hc) (fun b o _ _ hc e n => u.any e n hc) (fun b o hc e n => u.free b o e n hc) (fun b o hc e => u.there b o e hc) u.tups u.frzs u.tbls (fun m' hm => by
  obtain ⟨o', es', ep', ho', r'⟩ := hm
  rw [ho] at ho'; cases ho'
  exact ⟨_, es', ep', hL, r'⟩) hok hg
theorem Inv.turned {t' : Nat} {it : Addr} (I : Inv X pins σ H s) (k : ∀ b o, b ≠ it → s.heap.get? b = some o → h'.get? b = some o) (hn : H it = none) (hL : it ≠ X.env.locals)
 (h1 : it ∈ X.ex ∨ X.s₀.heap.objs.size ≤ it) (h2 : ∀ x c, X.env.cells.lookup x = some c → c ≠ it) (h3 : ∀ p ∈ X.pn ++ pins, p.1 ≠ it) : Inv X pins σ H { s with heap := h', toks := t' } := by
 have nit : ∀ b u, H b = some u → b ≠ it := fun b u e z => by rw [z, hn] at e; cases e
 refine I.step (g' := s.gens) (d' := s.drawn) (ch := [it]) (fun b hb => ?_) (fun b o _ _ hc e _ => k b o (fun z => hc (by simp [z])) e) (fun b o _ _ hc e _ => ⟨o.slots, k b o (fun z => hc (by simp [z])) e⟩) (fun _ _ _ _ n => n)
  (fun b o hc e => ⟨o, k b o (fun z => hc (by simp [z])) e⟩) (fun _ _ e => e) (fun _ _ _ e => e) (fun b ps e => ⟨#[], by rw [e]; simp⟩) (fun m hm => ?_) (fun b u e => ?_) I.bare
 · have e : b = it := by simpa using hb
   subst e
   exact ⟨h1, hL, h2, h3⟩
 · obtain ⟨o, es, ep, ho, r⟩ := hm
   exact ⟨o, es, ep, k _ o (Ne.symm hL) ho, r⟩
 · refine (I.hok b u e).stay (fun c v hc q => k c v ?_ q) (fun _ q => q) fun _ _ q => q
   rcases hc with z | z
   · rw [z]; exact nit b u e
   · exact nit c _ z
theorem Inv.tok (I : Inv X pins σ H s) (t : Nat) : Inv X pins σ H { s with toks := t } := I.un (h' := s.heap) (t' := t) Un.refl I.hok
theorem Inv.kept {t' : Nat} (I : Inv X pins σ H s) (k : ∀ b u, s.heap.get? b = some u → h'.get? b = some u) : Inv X pins σ H { s with heap := h', toks := t' } := I.un (Un.kept k) (I.hok.kept k)
theorem Inv.laid {a : Addr} {o : HO} {t' : Nat} (I : Inv X pins σ H s) (k : ∀ b u, s.heap.get? b = some u → h'.get? b = some u) (hp : s.heap.objs.size ≤ a) (new : ObjOk X.prog X.w (upd H a o) h' a o) :
 Inv X pins σ (upd H a o) { s with heap := h', toks := t' } := I.un (Un.laid k hp (I.hok.fresh hp)) (I.hok.laid k hp new)
theorem Inv.write {x e : Addr} {o : HO} {t' : Nat} (I : Inv X pins σ H s) (mu : Mut (H x)) (he : e = x ∨ H e = some (.own x)) (k : ∀ b u, b ≠ e → s.heap.get? b = some u → h'.get? b = some u) (heo : ∃ u, h'.get? e = some u)
 (new : ObjOk X.prog X.w (upd H x o) h' x o) : Inv X pins σ (upd H x o) { s with heap := h', toks := t' } := I.un (Un.write mu he k heo) (I.hok.write mu he k heo new)
theorem Inv.pins_of {pins' : List (Addr × Obj)} (I : Inv X pins σ H s) (h : ∀ p ∈ pins', s.heap.get? p.1 = some p.2 ∧ H p.1 = none ∧ p.1 ≠ X.env.locals ∧ p.1 ∉ X.fs ∧ ∀ v, p.2.data ≠ .cell v) : Inv X pins' σ H s :=
 ⟨I.ok, I.os, I.bare, I.base, I.loc, I.cell, I.free, I.freeC, fun p hp => (List.mem_append.mp hp).elim (fun z => I.pin p (List.mem_append_left _ z)) (h p), I.hok, I.len⟩

theorem nodup_ix {N : List Str} (hN : N.Nodup) {i j : Nat} {x : Str} (a : N[i]? = some x) (b : N[j]? = some x) : i = j := by
 obtain ⟨h1, e1⟩ := List.getElem?_eq_some_iff.mp a
 obtain ⟨h2, e2⟩ := List.getElem?_eq_some_iff.mp b
 exact (List.getElem_inj hN).mp (e1.trans e2.symm)

theorem store_ok2 {M : Model} {A : Around} {E : Value → Shared → Prop} {i : Nat} {x : Str} {v : V} {u : Value} {Q : Unit → Shared → Prop} (I : Inv X pins σ H s) (hN : X.N.Nodup) (hi : X.N[i]? = some x) (hx : Loc X.env.scope x) (r : RelV v u)
 (h : ∀ s', Inv X pins (σ.set i (some v)) H s' → (∃ a, Heap.SameBut a s.heap s'.heap ∧ (a = X.env.locals ∨ X.env.cells.lookup x = some a)) → Q () s') (hf : X.fn x = true ∨ X.env.scope.names.lookup x = some .local := by first | exact .inl rfl | exact .inr rfl | assumption) : wpAny M A (storeName X.env x u) Q E s := by
 obtain ⟨m, hn, hl⟩ := id I.loc
 have hcls : (X.env.scope.kind == .class || (X.env.scope.kind == .module && X.env.locals != X.env.globals)) = false := by rw [I.ok.kind]; rfl
 have hiσ : i < σ.length := by rw [I.len]; exact (List.getElem?_eq_some_iff.mp hi).1
 have cne := I.cne
 have tracked : ∀ {a : Addr} {h' : Heap}, (∃ o, s.heap.get? a = some o ∧ H a = none) → Heap.SameBut a s.heap h' → HOk X.prog X.w H h' := fun {a h'} ha hs b ob e => by
  obtain ⟨_, _, hfree⟩ := ha
  refine (I.hok b ob e).stay (fun c w' hc q => (hs.2 c ?_).trans q) (fun _ q => q) fun _ _ q => q
  rintro rfl
  rcases hc with rfl | hc
  · rw [hfree] at e; cases e
  · rw [hfree] at hc; cases hc
 rcases hx with hk | hk
 · refine wpAny_storeName_local hk hn (fun h' hn' hs => ?_) hcls
   obtain ⟨oL, _, _, hoL, _⟩ := id hn
   refine h _ ⟨I.ok, I.os, I.bare, ⟨fun b o e n hb hx => ?_, fun b o e n hb hx => ?_, I.base.free, fun b o e hx => ?_, I.base.tups, I.base.frzs, I.base.tbls⟩, ⟨_, hn', fun j y v' e1 e2 e3 => ?_⟩, fun y c e => ?_, I.free, I.freeC, fun p hp => ?_, tracked ⟨oL, hoL, I.free⟩ hs, by simpa using I.len⟩ ⟨_, hs, .inl rfl⟩
   · exact (hs.2 b (Nat.ne_of_lt (Nat.lt_of_lt_of_le (Heap.lt_size e) I.ok.above))).trans (I.base.keep b o e n hb hx)
   · obtain ⟨sl, e1⟩ := I.base.slot b o e n hb hx
     exact ⟨sl, (hs.2 b (Nat.ne_of_lt (Nat.lt_of_lt_of_le (Heap.lt_size e) I.ok.above))).trans e1⟩
   · obtain ⟨o', e1⟩ := I.base.there b o e hx
     exact ⟨o', (hs.2 b (Nat.ne_of_lt (Nat.lt_of_lt_of_le (Heap.lt_size e) I.ok.above))).trans e1⟩
   · by_cases hj : j = i
     · subst hj
       rw [hi] at e1; cases e1
       rw [List.getElem?_set_self hiσ] at e2
       cases e2
       exact ⟨u, r, .inl ⟨hk, by simp⟩⟩
     · rw [List.getElem?_set_ne (Ne.symm hj)] at e2
       obtain ⟨u', r', q⟩ := hl j y v' e1 e2 e3
       refine ⟨u', r', ?_⟩
       rcases q with ⟨k, e⟩ | ⟨k, c, e, z⟩
       · refine .inl ⟨k, ?_⟩
         have : y ≠ x := fun e => hj (nodup_ix hN e1 (e ▸ hi))
         simp [this, e]
       · exact .inr ⟨k, c, e, z.sameBut hs (cne y c e)⟩
   · obtain ⟨w', z⟩ := I.cell y c e
     exact ⟨w', z.sameBut hs (cne y c e)⟩
   · obtain ⟨e, n, ne, nf, d⟩ := I.pin p hp
     exact ⟨(hs.2 p.1 ne).trans e, n, ne, nf, d⟩
 · have hfn : X.fn x = true := by
    rcases hf with z | z
    · exact z
    · rw [z] at hk; cases hk
   obtain ⟨c, hc⟩ := I.ok.has x (.inl hk)
   obtain ⟨w', z⟩ := I.cell x c hc
   refine wpAny_storeName_cell I.ok.kind hk hc z (fun h' hc' hs => ?_)
   obtain ⟨oc, hoc, hocd⟩ := id z
   refine h { s with heap := h' } ⟨I.ok, I.os, I.bare, ⟨fun b o e n hb hx => ?_, fun b o e n hb hx => ?_, I.base.free, fun b o e hx => ?_, I.base.tups, I.base.frzs, I.base.tbls⟩, ⟨m, hn.sameBut hs (Ne.symm (cne x c hc)), fun j y v' e1 e2 e3 => ?_⟩, fun y c' e => ?_, I.free, I.freeC, fun p hp => ?_, tracked ⟨oc, hoc, I.freeC x c hc⟩ hs, by simpa using I.len⟩ ⟨c, hs, .inr hc⟩
   · exact (hs.2 b (Nat.ne_of_lt (Nat.lt_of_lt_of_le (Heap.lt_size e) (I.ok.cab x c hfn hc)))).trans (I.base.keep b o e n hb hx)
   · obtain ⟨sl, e1⟩ := I.base.slot b o e n hb hx
     exact ⟨sl, (hs.2 b (Nat.ne_of_lt (Nat.lt_of_lt_of_le (Heap.lt_size e) (I.ok.cab x c hfn hc)))).trans e1⟩
   · obtain ⟨o', e1⟩ := I.base.there b o e hx
     exact ⟨o', (hs.2 b (Nat.ne_of_lt (Nat.lt_of_lt_of_le (Heap.lt_size e) (I.ok.cab x c hfn hc)))).trans e1⟩
   · by_cases hj : j = i
     · subst hj
       rw [hi] at e1; cases e1
       rw [List.getElem?_set_self hiσ] at e2
       cases e2
       exact ⟨u, r, .inr ⟨.inl hk, c, hc, hc'⟩⟩
     · rw [List.getElem?_set_ne (Ne.symm hj)] at e2
       obtain ⟨u', r', q⟩ := hl j y v' e1 e2 e3
       refine ⟨u', r', ?_⟩
       rcases q with q | ⟨k, c', e, z'⟩
       · exact .inl q
       · refine .inr ⟨k, c', e, z'.sameBut hs ?_⟩
         rintro rfl
         exact hj (nodup_ix hN e1 (I.ok.inj _ _ _ e hc ▸ hi))
   · by_cases hcc : c' = c
     · subst hcc; exact ⟨_, hc'⟩
     · obtain ⟨w2, z2⟩ := I.cell y c' e
       exact ⟨w2, z2.sameBut hs hcc⟩
   · obtain ⟨e, n, ne, nf, d⟩ := I.pin p hp
     refine ⟨(hs.2 p.1 ?_).trans e, n, ne, nf, d⟩
     intro q
     rw [q, hoc] at e
     have q' : oc = p.2 := Option.some.inj e
     exact d w' (by rw [← q']; exact hocd)
theorem store_ok {M : Model} {A : Around} {E : Value → Shared → Prop} {i : Nat} {x : Str} {v : V} {u : Value} {Q : Unit → Shared → Prop} (I : Inv X pins σ H s) (hN : X.N.Nodup) (hi : X.N[i]? = some x) (hx : Loc X.env.scope x) (r : RelV v u)
 (h : ∀ s', Inv X pins (σ.set i (some v)) H s' → Q () s') (hf : X.fn x = true ∨ X.env.scope.names.lookup x = some .local := by first | exact .inl rfl | exact .inr rfl | assumption) : wpAny M A (storeName X.env x u) Q E s :=
 store_ok2 I hN hi hx r (fun s' I' _ => h s' I') hf
theorem Inv.call' {s' : Shared} {ch : List Addr} (I : Inv X pins σ H s) (ho : s'.os = s.os) (u : Un (frs X.stack) ch H H' s.heap s'.heap) (hok : HOk X.prog X.w H' s'.heap) (hg : AllBare s'.gens)
 (hch : ∀ b ∈ ch, (b ∈ X.ex ∨ X.s₀.heap.objs.size ≤ b) ∧ b ≠ X.env.locals ∧ (∀ x c, X.env.cells.lookup x = some c → c ≠ b) ∧ ∀ p ∈ X.pn ++ pins, p.1 ≠ b) : Inv X pins σ H' s' := by
 obtain ⟨h', g', d', t', o'⟩ := s'
 have e : o' = s.os := ho
 subst e
 exact I.call (g' := g') (t' := t') (d' := d') u hok hg hch
end

noncomputable abbrev XK := Value → Option Addr → Hp → Prop
noncomputable abbrev St := List (Option V)
noncomputable abbrev VK := V → Hp → Prop
noncomputable abbrev TE := St → Hp → VK → Prop
noncomputable abbrev TT := St → Hp → (Bool → Hp → Prop) → Prop
noncomputable abbrev TA := St → Hp → (List V → Hp → Prop) → Prop
set_option genInjectivity false in
structure Ends where
 nx : St → Hp → Prop
 rt : VK
 bk : St → Hp → Prop := fun _ _ => False
 ct : St → Hp → Prop := fun _ _ => False
noncomputable abbrev TS := Ends → St → Hp → Prop

noncomputable def EP (X : Cx) (pins : List (Addr × Obj)) (σ : St) (Q : VK) (u : Value) (s' : Shared) : Prop := ∃ v H', Inv X pins σ H' s' ∧ RelV v u ∧ Q v H'
noncomputable def TP (X : Cx) (pins : List (Addr × Obj)) (σ : St) (Q : Bool → Hp → Prop) (b : Bool) (s' : Shared) : Prop := ∃ H', Inv X pins σ H' s' ∧ Q b H'
noncomputable def AP (X : Cx) (pins : List (Addr × Obj)) (σ : St) (Q : List V → Hp → Prop) (us : List Value) (s' : Shared) : Prop := ∃ vs H', Inv X pins σ H' s' ∧ Vals vs us ∧ Q vs H'
noncomputable def SP (X : Cx) (pins : List (Addr × Obj)) (D : Ends) (f : Flow) (s' : Shared) : Prop :=
 match f with
 | .next => ∃ σ' H', Inv X pins σ' H' s' ∧ D.nx σ' H'
 | .brk => ∃ σ' H', Inv X pins σ' H' s' ∧ D.bk σ' H'
 | .cont => ∃ σ' H', Inv X pins σ' H' s' ∧ D.ct σ' H'
 | .ret u => ∃ v σ' H', Inv X pins σ' H' s' ∧ RelV v u ∧ D.rt v H'

noncomputable def PE (X : Cx) (e : Expr) (t : TE) : Prop :=
 ∀ (pins : List (Addr × Obj)) (s : Shared) (σ : St) (H : Hp) (Q : VK), Inv X pins σ H s → t σ H Q → wpAny (model X.prog X.w) X.A (eval e X.env) (EP X pins σ Q) X.xe s
noncomputable def PT (X : Cx) (e : Expr) (t : TT) : Prop :=
 ∀ (pins : List (Addr × Obj)) (s : Shared) (σ : St) (H : Hp) (Q : Bool → Hp → Prop), Inv X pins σ H s → t σ H Q → wpAny (model X.prog X.w) X.A (isTrue e X.env (eval e X.env)) (TP X pins σ Q) X.xe s
noncomputable def PW (X : Cx) (e : Expr) (t : TT) : Prop :=
 ∀ (whole : Sem Value) (pins : List (Addr × Obj)) (s : Shared) (σ : St) (H : Hp) (Q : Bool → Hp → Prop), Inv X pins σ H s → t σ H Q → wpAny (model X.prog X.w) X.A (isTrue e X.env whole) (TP X pins σ Q) X.xe s
theorem PW.pt {X : Cx} {e : Expr} {t : TT} (h : PW X e t) : PT X e t := h _
noncomputable def PA (X : Cx) (es : List Expr) (t : TA) : Prop :=
 ∀ (pos : Pos) (pins : List (Addr × Obj)) (s : Shared) (σ : St) (H : Hp) (Q : List V → Hp → Prop), Inv X pins σ H s → t σ H Q → wpAny (model X.prog X.w) X.A (spliced (backTo pos (starEach es X.env))) (AP X pins σ Q) X.xe s
noncomputable def PS (X : Cx) (st : Stmt) (t : TS) : Prop :=
 ∀ (pins : List (Addr × Obj)) (s : Shared) (σ : St) (H : Hp) (D : Ends), Inv X pins σ H s → t D σ H → wpAny (model X.prog X.w) X.A (exec st X.env) (SP X pins D) X.xe s
noncomputable def PSs (X : Cx) (st : List Stmt) (t : TS) : Prop :=
 ∀ (pins : List (Addr × Obj)) (s : Shared) (σ : St) (H : Hp) (D : Ends), Inv X pins σ H s → t D σ H → wpAny (model X.prog X.w) X.A (execs st X.env) (SP X pins D) X.xe s
theorem thn {α : Type} {t : Sem α} {Q Q' : α → Shared → Prop} {M : Model} {A : Around} {E : Value → Shared → Prop} {s : Shared} (h : wpAny M A t Q E s) (hQ : ∀ a s, Q a s → Q' a s) : wpAny M A t Q' E s := wpAny_mono h hQ fun _ _ x => x
end L2

namespace L2
open PySem PySem.Spec PyProof.Rows
section
variable {X : Cx}

noncomputable def tVar (i : Nat) : TE := fun σ H Q => ∃ v, σ[i]? = some (some v) ∧ Q v H
noncomputable def tC (v : V) : TE := fun _ H Q => Q v H
theorem pe_var {i : Nat} {x : Str} {pos : Pos} (hN : X.N[i]? = some x) (hv : Vis X.env.scope x) (hd : (x == ("__debug__" : Str)) = false := by decide) (hcd : (x == ("__classdict__" : Str)) = false := by decide) : PE X (.Name x pos) (tVar i) := by
 intro pins s σ H Q I h
 obtain ⟨v, e, h⟩ := h
 obtain ⟨m, hn, hl⟩ := I.loc
 obtain ⟨u, r, l⟩ := hl i x v hN e hv
 have fin : EP X pins σ Q u s := ⟨v, H, I, r, h⟩
 rcases l with ⟨hk, hm⟩ | ⟨hk, c, hc, hcell⟩
 · exact wpAny_Name (wpAny_loadName_local I.ok.kind hk hn hm fin) hd
 · rcases hk with hk | hk
   · exact wpAny_Name (wpAny_loadName_cell I.ok.kind hk hc hcell fin) hd
   · exact wpAny_Name (wpAny_loadName_free I.ok.kind hk hc hcell fin hcd) hd
theorem pe_int {i j pos} : PE X (.Constant (.int i) j pos) (tC (.int i)) := fun _ _ _ H _ I h => wpAny_Constant_int ⟨.int i, H, I.tok _, ⟨_, rfl⟩, h⟩
theorem pe_bl {b j pos} : PE X (.Constant (.bool b) j pos) (tC (.bl b)) := fun _ _ _ H _ I h => Constant_bool ⟨.bl b, H, I, rfl, h⟩
theorem pe_non {j pos} : PE X (.Constant .none j pos) (tC .non) := fun _ _ _ H _ I h => Constant_none ⟨.non, H, I, rfl, h⟩
theorem pe_str {x j pos} : PE X (.Constant (.str x) j pos) (tC (.str x)) := fun _ _ _ H _ I h => Calls.Constant_str ⟨.str x, H, I.tok _, ⟨_, rfl⟩, h⟩

noncomputable def Gl (X : Cx) (x : Str) : Prop := X.env.kindOf x = some .globalImplicit
theorem ld_glob {E : Value → Shared → Prop} {pins : List (Addr × Obj)} {s : Shared} {σ : St} {H : Hp} {x : Str} {u : Value} {pos : Pos} {Q : Value → Shared → Prop} (I : Inv X pins σ H s) (hg : Gl X x) (hm : X.mg x = some u) (h : Q u s)
 (hd : (x == ("__debug__" : Str)) = false := by decide) : wpAny (model X.prog X.w) X.A (eval (.Name x pos) X.env) Q E s :=
 Calls.Name_function_global I.ok.kind hg (Calls.loadGlobal_global (by rw [I.ok.glob]; exact I.mod.glob.keeps I.bk) hm h) hd
theorem ld_blt {E : Value → Shared → Prop} {pins : List (Addr × Obj)} {s : Shared} {σ : St} {H : Hp} {x : Str} {u : Value} {pos : Pos} {Q : Value → Shared → Prop} (I : Inv X pins σ H s) (hg : Gl X x) (hm : X.mg x = none) (hv : bootBuiltins x = some u) (h : Q u s)
 (hn : x ≠ "__name__" := by decide) (hd : (x == ("__debug__" : Str)) = false := by decide) : wpAny (model X.prog X.w) X.A (eval (.Name x pos) X.env) Q E s := by
 obtain ⟨mb, h1, h2⟩ := I.mod.blt
 exact Calls.Name_function_global I.ok.kind hg (Calls.loadGlobal_builtin (by rw [I.ok.glob]; exact I.mod.glob.keeps I.bk) hm (by rw [I.ok.blt]; exact h1.keeps I.bk) ((h2 x hn).trans hv) h) hd
theorem pe_bltn {x : Str} {v : V} {u : Value} {pos : Pos} (hg : Gl X x) (hm : X.mg x = none) (hv : bootBuiltins x = some u) (r : RelV v u) (hn : x ≠ "__name__" := by decide) (hd : (x == ("__debug__" : Str)) = false := by decide) : PE X (.Name x pos) (tC v) :=
 fun _ _ _ H _ I h => ld_blt I hg hm hv ⟨v, H, I, r, h⟩ hn hd

variable {a b : Expr} {ta tb : TE} {pos : Pos}
noncomputable def tB (t : TE) : TT := fun σ H Q => t σ H fun x H1 => ∃ c, x = .bl c ∧ Q c H1
theorem pt_val {e : Expr} {t : TE} (h : PE X e t) (he : ∀ whole, isTrue e X.env whole = (do let v ← whole; standAt e.pos; holding [v] (truthy v)) := by intro _; rfl) : PT X e (tB t) := by
 intro pins s σ H Q I hw
 refine isTrue_plain (thn (h pins s σ H _ I hw) fun v s1 ⟨x, H1, I1, r1, q1⟩ => ?_) (he _)
 obtain ⟨d, rfl, q⟩ := q1
 cases r1
 exact wpAny_truthy_bool ⟨H1, I1, q⟩

variable {tA tB' : TT} {rest : List Expr}
noncomputable def tAnd (t u : TT) : TT := fun σ H Q => t σ H fun c H1 => if c = true then u σ H1 Q else Q false H1
noncomputable def tOr (t u : TT) : TT := fun σ H Q => t σ H fun c H1 => if c = true then Q true H1 else u σ H1 Q
noncomputable def tNot (t : TT) : TT := fun σ H Q => t σ H fun c H1 => Q (!c) H1
theorem pw_and1 (ha : PT X a tA) : PW X (.BoolOp .And [a] pos) tA := by
 intro wh pins s σ H Q I h
 refine isTrue_and (thn (ha pins s σ H Q I h) fun c s1 e => ?_)
 cases c with
 | true => exact isTrue_and_nil e
 | false => exact e
theorem pw_or1 (ha : PT X a tA) : PW X (.BoolOp .Or [a] pos) tA := by
 intro wh pins s σ H Q I h
 refine isTrue_or (thn (ha pins s σ H Q I h) fun c s1 e => ?_)
 cases c with
 | false => exact isTrue_or_nil e
 | true => exact e
theorem pw_and (ha : PT X a tA) (hb : PW X (.BoolOp .And (b :: rest) pos) tB') : PW X (.BoolOp .And (a :: b :: rest) pos) (tAnd tA tB') := by
 intro wh pins s σ H Q I h
 refine isTrue_and (thn (ha pins s σ H _ I h) fun c s1 ⟨H1, I1, q1⟩ => ?_)
 cases c with
 | true => exact hb wh pins s1 σ H1 Q I1 q1
 | false => exact ⟨H1, I1, q1⟩
theorem pw_or (ha : PT X a tA) (hb : PW X (.BoolOp .Or (b :: rest) pos) tB') : PW X (.BoolOp .Or (a :: b :: rest) pos) (tOr tA tB') := by
 intro wh pins s σ H Q I h
 refine isTrue_or (thn (ha pins s σ H _ I h) fun c s1 ⟨H1, I1, q1⟩ => ?_)
 cases c with
 | true => exact ⟨H1, I1, q1⟩
 | false => exact hb wh pins s1 σ H1 Q I1 q1
theorem pt_not (ha : PT X a tA) : PT X (.UnaryOp .Not a pos) (tNot tA) := by
 intro pins s σ H Q I h
 exact isTrue_not (ha pins s σ H (fun c H1 => Q (!c) H1) I h)
noncomputable def tAndV (ta tb : TE) : TE := fun σ H Q => ta σ H fun x H1 => ∃ c, x = .bl c ∧ if c = true then tb σ H1 Q else Q (.bl false) H1
noncomputable def tNotV (ta : TE) : TE := fun σ H Q => ta σ H fun x H1 => ∃ c, x = .bl c ∧ Q (.bl (!c)) H1
theorem pe_one {op} {t : TE} (h : PE X a t) : PE X (.BoolOp op [a] pos) t := fun pins s σ H Q I hw => BoolOp_one (h pins s σ H Q I hw)
theorem pe_and (ha : PE X a ta) (hb : PE X (.BoolOp .And (b :: rest) pos) tb) : PE X (.BoolOp .And (a :: b :: rest) pos) (tAndV ta tb) := by
 intro pins s σ H Q I h
 refine BoolOp_and (thn (ha pins s σ H _ I h) fun v s1 ⟨x, H1, I1, r1, q1⟩ => ?_)
 obtain ⟨c, rfl, q1⟩ := q1
 cases r1
 refine wpAny_truthy_bool ?_
 cases c with
 | true => exact hb pins s1 σ H1 Q I1 q1
 | false => exact ⟨.bl false, H1, I1, rfl, q1⟩
theorem pe_not (ha : PE X a ta) : PE X (.UnaryOp .Not a pos) (tNotV ta) := by
 intro pins s σ H Q I h
 refine UnaryOp_ (thn (ha pins s σ H _ I h) fun v s1 ⟨x, H1, I1, r1, q1⟩ => ?_)
 obtain ⟨c, rfl, q1⟩ := q1
 cases r1
 exact not_of (wpAny_truthy_bool ⟨.bl (!c), H1, I1, rfl, q1⟩)
end
end L2

namespace L2
open PySem PySem.Spec PyProof.Rows

noncomputable def SqL (K : PySem.W.Frag) (H : Hp) (a : Addr) (xs : List V) : Prop :=
 Rd H a (.lst xs) ∨
  ∃ (o : Obj) (its : Array Value) (n : Nat), K.lookup a = some o ∧ o.cls = .type "list" ∧ o.dict = none ∧ o.data = .seq its n ∧ its.size ≤ sizeLine ∧ Vals xs its.toList
noncomputable def SqT (K : PySem.W.Frag) (H : Hp) (a : Addr) (xs : List V) : Prop :=
 Rd H a (.tup xs) ∨
  ∃ (o : Obj) (its : Array Value) (n : Nat), K.lookup a = some o ∧ o.cls = .type "tuple" ∧ o.data = .seq its n ∧ its.size ≤ sizeLine ∧ Vals xs its.toList
noncomputable def absV : Value → Option V
 | .none => some .non
 | .bool b => some (.bl b)
 | .int i _ => some (.int i)
 | .str x _ => some (.str x)
 | .bytes b _ => some (.byt b)
 | .float b _ => some (.flt b)
 | .ref a => some (.ref a)
 | .type n => some (.ty n)
 | _ => none
theorem RelV.abs {x : V} {u : Value} (r : RelV x u) : absV u = some x := by
 cases x with
 | non => cases r; rfl
 | bl _ => cases r; rfl
 | int _ => obtain ⟨t, rfl⟩ := r; rfl
 | str _ => obtain ⟨t, rfl⟩ := r; rfl
 | byt _ => obtain ⟨t, rfl⟩ := r; rfl
 | flt _ => obtain ⟨t, rfl⟩ := r; rfl
 | ref _ => cases r; rfl
 | ty _ => cases r; rfl
theorem RelV.inj {x y : V} {u : Value} (r : RelV x u) (q : RelV y u) : x = y := Option.some.inj (r.abs.symm.trans q.abs)
theorem Vals.inj : ∀ {xs ys : List V} {us : List Value}, Vals xs us → Vals ys us → xs = ys
 | _, _, _, .nil, .nil => rfl
 | _, _, _, .cons r t, .cons r' t' => by rw [r.inj r', Vals.inj t t']
section
variable {X : Cx} {pins : List (Addr × Obj)} {σ : St} {H : Hp} {s : Shared} {a : Addr} {xs ys : List V}
theorem SqL.of {K : PySem.W.Frag} (h : H a = some (.lst xs)) : SqL K H a xs := .inl (.inl h)
theorem SqT.of {K : PySem.W.Frag} (h : H a = some (.tup xs)) : SqT K H a xs := .inl (.inl h)
theorem Inv.list (I : Inv X pins σ H s) (h : SqL X.K H a xs) : ∃ its : List Value, Vals xs its ∧ PlainL s.heap a its.toArray ∧ xs.length ≤ sizeLine := by
 rcases h with h | ⟨o, its, n, hk, hc, hd, hs, hz, r⟩
 · obtain ⟨z, its, n, r, e⟩ := h.ok I.hok
   exact ⟨its, r, ⟨_, n, e, rfl, rfl, rfl⟩, z⟩
 · refine ⟨its.toList, r, ⟨o, n, I.kIn a o hk, hc, hd, by simpa using hs⟩, ?_⟩
   have e := r.length
   simp only [Array.length_toList] at e
   omega
theorem Inv.tuple (I : Inv X pins σ H s) (h : SqT X.K H a xs) : ∃ its : List Value, Vals xs its ∧ IsTup s.heap a its.toArray ∧ xs.length ≤ sizeLine := by
 rcases h with h | ⟨o, its, n, hk, hc, hs, hz, r⟩
 · obtain ⟨z, its, r, p⟩ := h.ok I.hok
   exact ⟨its, r, p.tup, z⟩
 · refine ⟨its.toList, r, ⟨o, I.kIn a o hk, hc, n, by simpa using hs⟩, ?_⟩
   have e := r.length
   simp only [Array.length_toList] at e
   omega
theorem Inv.list_inj (I : Inv X pins σ H s) (h : SqL X.K H a xs) (h' : SqL X.K H a ys) : xs = ys := by
 obtain ⟨its, r, ⟨o, n, e, _, _, d⟩, _⟩ := I.list h
 obtain ⟨its', r', ⟨o', n', e', _, _, d'⟩, _⟩ := I.list h'
 rw [e] at e'; cases e'
 rw [d] at d'
 injection d' with d1 _
 have : its = its' := by simpa using congrArg Array.toList d1
 subst this
 exact r.inj r'
theorem Inv.tuple_inj (I : Inv X pins σ H s) (h : SqT X.K H a xs) (h' : SqT X.K H a ys) : xs = ys := by
 obtain ⟨its, r, ⟨o, e, _, n, d⟩, _⟩ := I.tuple h
 obtain ⟨its', r', ⟨o', e', _, n', d'⟩, _⟩ := I.tuple h'
 rw [e] at e'; cases e'
 rw [d] at d'
 injection d' with d1 _
 have : its = its' := by simpa using congrArg Array.toList d1
 subst this
 exact r.inj r'
end

noncomputable abbrev Cx.wish (X : Cx) (E : Value → Shared → Prop) : Cx := { X with xe := E }
noncomputable abbrev Cx.nox (X : Cx) : Cx := X.wish fun _ _ => False
theorem Cx.Ok.wish {X : Cx} (ok : X.Ok) (E : Value → Shared → Prop) : (X.wish E).Ok :=
 ⟨ok.mod, ok.kind, ok.glob, ok.blt, ok.above, ok.inj, ok.has, ok.cab, ok.hd, ok.frames, ok.stk, ok.exf, ok.bs, ok.bsz, ok.noex, ok.exfs, ok.funs, ok.frf⟩
theorem Cx.Ok.unwish {X : Cx} {E : Value → Shared → Prop} (ok : (X.wish E).Ok) : X.Ok :=
 ⟨ok.mod, ok.kind, ok.glob, ok.blt, ok.above, ok.inj, ok.has, ok.cab, ok.hd, ok.frames, ok.stk, ok.exf, ok.bs, ok.bsz, ok.noex, ok.exfs, ok.funs, ok.frf⟩
section
variable {X : Cx} {pins : List (Addr × Obj)} {σ : St} {H : Hp} {s : Shared} {E : Value → Shared → Prop}
theorem Inv.wish (I : Inv X pins σ H s) (E : Value → Shared → Prop) : Inv (X.wish E) pins σ H s := ⟨I.ok.wish E, I.os, I.bare, I.base, I.loc, I.cell, I.free, I.freeC, I.pin, I.hok, I.len⟩
theorem Inv.unwish (I : Inv (X.wish E) pins σ H s) : Inv X pins σ H s := ⟨I.ok.unwish, I.os, I.bare, I.base, I.loc, I.cell, I.free, I.freeC, I.pin, I.hok, I.len⟩
theorem SP.unwish {D : Ends} {f : Flow} {s' : Shared} (h : SP (X.wish E) pins D f s') : SP X pins D f s' := by
 cases f with
 | next => obtain ⟨σ', H', I, q⟩ := h; exact ⟨σ', H', I.unwish, q⟩
 | brk => obtain ⟨σ', H', I, q⟩ := h; exact ⟨σ', H', I.unwish, q⟩
 | cont => obtain ⟨σ', H', I, q⟩ := h; exact ⟨σ', H', I.unwish, q⟩
 | ret u => obtain ⟨v, σ', H', I, r, q⟩ := h; exact ⟨v, σ', H', I.unwish, r, q⟩
theorem PSs.nox {st : List Stmt} {t : TS} (h : PSs X.nox st t) : PSs X st t := fun pins s σ H D I hw =>
 wpAny_mono (h pins s σ H D (I.wish _) hw) (fun _ _ q => q.unwish) fun _ _ z => False.elim z
end

section
variable {X : Cx} {st : Stmt} {rest : List Stmt} {t u : TS} {e : Expr} {te : TE} {pos : Pos}
noncomputable def tNext : TS := fun D σ H => D.nx σ H
noncomputable def tSeq (t u : TS) : TS := fun D σ H => t { D with nx := u D } σ H
theorem pss_nil : PSs X [] tNext := fun _ _ σ H _ I h => wpAny_execs_nil ⟨σ, H, I, h⟩
theorem pss_cons (h1 : PS X st t) (h2 : PSs X rest u) : PSs X (st :: rest) (tSeq t u) := by
 intro pins s σ H D I h
 refine wpAny_execs_cons (thn (h1 pins s σ H { D with nx := u D } I h) fun f s1 q => ?_)
 cases f with
 | next =>
   obtain ⟨σ', H', I', q⟩ := q
   exact h2 pins s1 σ' H' D I' q
 | ret v => exact q
 | brk => exact q
 | cont => exact q
theorem pss_one (h1 : PS X st t) : PSs X [st] t := by
 intro pins s σ H D I h
 refine wpAny_execs_cons (thn (h1 pins s σ H D I h) fun f s1 q => ?_)
 cases f with
 | next => exact wpAny_execs_nil q
 | ret v => exact q
 | brk => exact q
 | cont => exact q
theorem Inv.quiet {pins : List (Addr × Obj)} {σ : St} {H : Hp} {s : Shared} (I : Inv X pins σ H s) : interactive X.env = false := by simp [interactive, I.ok.kind]
noncomputable def tDrop (te : TE) : TS := fun D σ H => te σ H fun _ H1 => D.nx σ H1
theorem ps_expr (he : PE X e te) (hs : swapsWith e none pos.line X.env = pure false := by rfl) : PS X (.Expr e pos) (tDrop te) := by
 intro pins s σ H D I h
 exact wpAny_Expr_any (thn (he pins s σ H _ I h) fun v s1 ⟨x, H1, I1, r1, q1⟩ => ⟨σ, H1, I1, q1⟩) I.quiet hs
noncomputable def tRet (te : TE) : TS := fun D σ H => te σ H D.rt
theorem ps_ret (he : PE X e te) : PS X (.Return (some e) pos) (tRet te) := by
 intro pins s σ H D I h
 exact wpAny_Return_some (thn (he pins s σ H _ I h) fun v s1 ⟨x, H1, I1, r1, q1⟩ => ⟨x, σ, H1, I1, r1, q1⟩)
noncomputable def tIfS (c : TT) (t u : TS) : TS := fun D σ H => c σ H fun b H1 => if b = true then t D σ H1 else u D σ H1
theorem ps_if {c : Expr} {a b : List Stmt} {tc : TT} (hc : PT X c tc) (ha : PSs X a t) (hb : PSs X b u) : PS X (.If c a b pos) (tIfS tc t u) := by
 intro pins s σ H D I h
 refine wpAny_If (thn (hc pins s σ H _ I h) fun d s1 ⟨H1, I1, q1⟩ => ?_)
 cases d with
 | true => exact ha pins s1 σ H1 D I1 q1
 | false => exact hb pins s1 σ H1 D I1 q1
end

noncomputable abbrev TG := V → St → Hp → (St → Hp → Prop) → Prop
noncomputable abbrev TGs := List V → St → Hp → (St → Hp → Prop) → Prop
noncomputable def PG (X : Cx) (target : Expr) (t : TG) : Prop :=
 ∀ (pins : List (Addr × Obj)) (s : Shared) (σ : St) (H : Hp) (v : V) (u : Value) (Q : St → Hp → Prop), Inv X pins σ H s → RelV v u → t v σ H Q →
   wpAny (model X.prog X.w) X.A (assign target X.env u) (fun _ s' => ∃ σ' H', Inv X pins σ' H' s' ∧ Q σ' H') X.xe s
noncomputable def PGs (X : Cx) (ts : List Expr) (t : TGs) : Prop :=
 ∀ (pins : List (Addr × Obj)) (s : Shared) (σ : St) (H : Hp) (vs : List V) (us : List Value) (Q : St → Hp → Prop), Inv X pins σ H s → Vals vs us → t vs σ H Q →
   wpAny (model X.prog X.w) X.A (assignInOrder ((assignEach ts X.env).map (·.2)) us) (fun _ s' => ∃ σ' H', Inv X pins σ' H' s' ∧ Q σ' H') X.xe s
noncomputable abbrev TSet := V → V → V → Hp → (Hp → Prop) → Prop
noncomputable def PSet (X : Cx) (t : TSet) : Prop :=
 ∀ (pins : List (Addr × Obj)) (s : Shared) (σ : St) (H : Hp) (o i v : V) (ov iv u : Value) (Q : Hp → Prop), Inv X pins σ H s → RelV o ov → RelV i iv → RelV v u → t o i v H Q →
   wpAny (model X.prog X.w) X.A (setItem ov iv u) (fun _ s' => ∃ H', Inv X pins σ H' s' ∧ Q H') X.xe s
section
variable {X : Cx} {pos : Pos}
noncomputable def gName (i : Nat) : TG := fun v σ H Q => Q (σ.set i (some v)) H
theorem pg_name {i : Nat} {x : Str} (hN : X.N.Nodup) (hi : X.N[i]? = some x) (hx : Loc X.env.scope x) (hf : X.fn x = true ∨ X.env.scope.names.lookup x = some .local := by first | exact .inl rfl | exact .inr rfl | assumption) : PG X (.Name x pos) (gName i) := by
 intro pins s σ H v u Q I r h
 exact wpAny_assign_Name (store_ok I hN hi hx r (fun s' I' => ⟨_, H, I', h⟩) hf)
noncomputable def gNil : TGs := fun vs σ H Q => vs = [] ∧ Q σ H
noncomputable def gCons (t : TG) (u : TGs) : TGs := fun vs σ H Q => ∃ v r, vs = v :: r ∧ t v σ H fun σ' H' => u r σ' H' Q
theorem pgs_nil : PGs X [] gNil := by
 intro pins s σ H vs us Q I r h
 obtain ⟨e, h⟩ := h
 subst e
 cases r
 exact assignInOrder_nil ⟨σ, H, I, h⟩
theorem pgs_cons {e : Expr} {es : List Expr} {t : TG} {u : TGs} (h1 : PG X e t) (h2 : PGs X es u)
 (hs : (assignEach (e :: es) X.env).map (·.2) = assign e X.env :: (assignEach es X.env).map (·.2) := by rfl) : PGs X (e :: es) (gCons t u) := by
 intro pins s σ H vs us Q I r h
 obtain ⟨v, vr, e1, h⟩ := h
 subst e1
 cases r with
 | cons r rr =>
   rw [hs]
   refine assignInOrder_cons (thn (h1 pins s σ H _ _ _ I r h) fun _ s1 ⟨σ1, H1, I1, q1⟩ => ?_)
   exact h2 pins s1 σ1 H1 _ _ Q I1 rr q1
noncomputable def gTup (K : PySem.W.Frag) (n : Nat) (t : TGs) : TG := fun v σ H Q => ∃ a xs, v = .ref a ∧ SqT K H a xs ∧ xs.length = n ∧ t xs σ H Q
theorem pg_tup {es : List Expr} {k : Nat} {t : TGs} {n : Nat} (hc : X.calm = true) (h : PGs X es t)
 (hn : (assignEach es X.env).length = n := by rfl) (hst : (assignEach es X.env).findIdx? (·.1) = none := by rfl) : PG X (.Tuple es k pos) (gTup X.K n t) := by
 intro pins s σ H v u Q I r hw
 obtain ⟨a, xs, e1, hq, hl, hw⟩ := hw
 subst e1
 cases r
 obtain ⟨its, rv, ht, hz⟩ := I.tuple hq
 refine assign_Tuple_tuple (I.ok.hd hc) ht (by simp [hn, ← hl, rv.length]) hst fun h' hx => ?_
 have I1 : Inv X pins σ H { s with heap := h' } := I.kept (t' := s.toks) fun b o e => hx b o (Nat.ne_of_lt (Heap.lt_size e)) e
 exact h pins _ σ H xs _ Q I1 (by simpa using rv) hw
noncomputable def gSub (to ti : TE) (t : TSet) : TG := fun v σ H Q => to σ H fun o H1 => ti σ H1 fun i H2 => t o i v H2 fun H3 => Q σ H3
theorem pg_sub {o i : Expr} {to ti : TE} {t : TSet} (ho : PE X o to) (hi : PE X i ti) (hs : PSet X t)
 (ha : ∀ v, assign (.Subscript o i pos) X.env v = (do
  let ov ← holding [v] (eval o X.env)
  let iv ← holding [v, ov] (eval i X.env)
  standAt pos
  holding [v, ov, iv] (setItem ov iv v)
  release [v, ov, iv] []) := by intro _; rfl) : PG X (.Subscript o i pos) (gSub to ti t) := by
 intro pins s σ H v u Q I r h
 rw [ha]
 refine wpAny_bind (wpAny_holding (thn (ho pins s σ H _ I h) fun ov s1 ⟨x, H1, I1, r1, q1⟩ => ?_))
 refine wpAny_bind (wpAny_holding (thn (hi pins s1 σ H1 _ I1 q1) fun iv s2 ⟨y, H2, I2, r2, q2⟩ => ?_))
 refine wpAny_bind (wpAny_standAt (wpAny_bind (wpAny_holding (thn (hs pins s2 σ H2 x y v ov iv u _ I2 r1 r2 r q2) fun _ s3 ⟨H3, I3, q3⟩ => ?_))))
 exact wpAny_release ⟨σ, H3, I3, q3⟩
noncomputable def tAsg (te : TE) (g : TG) : TS := fun D σ H => te σ H fun x H1 => g x σ H1 D.nx
theorem ps_asg {tg e : Expr} {te : TE} {g : TG} (he : PE X e te) (hg : PG X tg g) (hs : swapsWithSole [tg] e pos.line X.env = pure false := by rfl) (hw : swappedStores [tg] e X.env = pure none := by rfl)
 (h1 : (assignEach [tg] X.env).map (·.2) = [assign tg X.env] := by rfl) : PS X (.Assign [tg] e pos) (tAsg te g) := by
 intro pins s σ H D I h
 refine wpAny_Assign_stores (thn (he pins s σ H _ I h) fun v s1 ⟨x, H1, I1, r1, q1⟩ => ?_) hs hw
 rw [h1]
 exact thn (hg pins s1 σ H1 x v _ I1 r1 q1) fun _ s2 q => q
theorem ps_set {i : Nat} {x : Str} {e : Expr} {te : TE} {pos' : Pos} (hN : X.N.Nodup) (hi : X.N[i]? = some x) (hx : Loc X.env.scope x) (he : PE X e te) (hs : swapsWith e (some (.Name x pos')) pos.line X.env = pure false := by rfl) (hf : X.fn x = true ∨ X.env.scope.names.lookup x = some .local := by first | exact .inl rfl | exact .inr rfl | assumption) :
 PS X (.Assign [.Name x pos'] e pos) (tAsg te (gName i)) := by
 intro pins s σ H D I h
 refine wpAny_Assign_Name (thn (he pins s σ H _ I h) fun v s1 ⟨y, H1, I1, r1, q1⟩ => ?_) hs
 exact store_ok I1 hN hi hx r1 (fun s2 I2 => ⟨_, H1, I2, q1⟩) hf
noncomputable def tPar (i j : Nat) (ta : TA) : TS := fun D σ H => ta σ H fun vs H1 => ∃ v w, vs = [v, w] ∧ D.nx ((σ.set i (some v)).set j (some w)) H1
theorem ps_par {i j : Nat} {x y : Str} {a b : Expr} {ta : TA} {px py pt : Pos} {kt k2 pt2} (hc : X.calm = true) (hN : X.N.Nodup) (hi : X.N[i]? = some x) (hj : X.N[j]? = some y) (hij : i ≠ j)
 (hx : X.env.scope.names.lookup x = some .local) (hy : X.env.scope.names.lookup y = some .local) (ha : PA X [a, b] ta)
 (hw : swappedStores [.Tuple [.Name x px, .Name y py] kt pt] (.Tuple [a, b] k2 pt2) X.env = pure (some [x, y]))
 (hs : swapsWithSole [.Tuple [.Name x px, .Name y py] kt pt] (.Tuple [a, b] k2 pt2) pos.line X.env = pure false := by rfl) :
 PS X (.Assign [.Tuple [.Name x px, .Name y py] kt pt] (.Tuple [a, b] k2 pt2) pos) (tPar i j ta) := by
 intro pins s σ H D I h
 rw [exec_Assign_arm]
 refine wpAny_bind (wpAny_standAt ?_)
 rw [hs]
 refine wpAny_bind (wpAny_pure ?_)
 rw [if_neg (by decide)]
 refine wpAny_bind (Tuple_ (thn (ha _ pins s σ H _ I h) fun us s1 ⟨vs, H1, I1, r1, q1⟩ => ?_))
 obtain ⟨v, w, e1, q1⟩ := q1
 subst e1
 obtain ⟨u1, u2, rfl, rv, rw'⟩ : ∃ u1 u2, us = [u1, u2] ∧ RelV v u1 ∧ RelV w u2 := by
  cases r1 with
  | cons p q =>
    cases q with
    | cons p' q' =>
      cases q'
      exact ⟨_, _, rfl, p, p'⟩
 refine wpAny_newObj_type ?_ (by show 2 ≤ sizeLine; decide)
 have I2 : Inv X pins σ H1 { s1 with heap := s1.heap.push { cls := .type "tuple", data := .seq [u1, u2].toArray } } := I1.kept (t' := s1.toks) fun b o e => Heap.get?_push_of_some _ e
 rw [hw]
 refine wpAny_bind (wpAny_pure ?_)
 show wpAny (model X.prog X.w) X.A (do rule "assign.swapped-stores"; let items ← unpackItems (.ref s1.heap.objs.size) 2 none; assignInOrder [fun v => bindName X.env y v, fun v => bindName X.env x v] items.reverse; pure Flow.next) _ _ _
 refine wpAny_bind (wpAny_rule (wpAny_bind (unpackItems_tuple (items := #[u1, u2]) (I.ok.hd hc) (IsTup.new s1.heap _) fun h' hx' => ?_)))
 have I3 := I2.kept (h' := h') (t' := s1.toks) fun b o e => hx' b o (Nat.ne_of_lt (Heap.lt_size e)) e
 show wpAny _ _ (assignInOrder [fun v => bindName X.env y v, fun v => bindName X.env x v] [u2, u1] >>= fun _ => pure Flow.next) _ _ _
 refine wpAny_bind (assignInOrder_cons (wpAny_bindName (store_ok I3 hN hj (.inl hy) rw' (fun s2 I4 => ?_) (.inr hy))))
 refine assignInOrder_cons (wpAny_bindName (store_ok I4 hN hi (.inl hx) rv (fun s3 I5 => assignInOrder_nil (wpAny_pure ?_)) (.inr hx)))
 rw [List.set_comm _ _ (Ne.symm hij)] at I5
 exact ⟨_, H1, I5, q1⟩
end

section
variable {X : Cx} {pos : Pos}
noncomputable def tWhile (c : TT) (tb : TS) : TS := fun D σ H => ∃ W : Nat → St → Hp → Prop, (∃ m, W m σ H) ∧ ∀ m σ H, W m σ H →
 c σ H fun b H1 => if b = true then ∃ N : St → Hp → Prop, (∀ σ' H', N σ' H' → ∃ m', m' < m ∧ W m' σ' H') ∧ tb { D with nx := N, ct := N, bk := D.nx } σ H1 else D.nx σ H1
theorem ps_while {c : Expr} {body : List Stmt} {tc : TT} {tb : TS} (hp : PassesOwn (model X.prog X.w) X.A X.env X.xe) (hc : PT X c tc) (hb : PSs X body tb) : PS X (.While c body [] pos) (tWhile tc tb) := by
 intro pins s σ H D I h
 obtain ⟨W, ⟨m0, w0⟩, turn⟩ := h
 refine wpAny_While (codeAny_whileLoop (fun n s' => ∃ σ' H', Inv X pins σ' H' s' ∧ W n σ' H') ?_ m0 ⟨σ, H, I, w0⟩)
 rintro n s1 ⟨σ1, H1, I1, w1⟩
 refine wpAny_passesOwn hp (thn (hc pins s1 σ1 H1 _ I1 (turn n σ1 H1 w1)) fun b s2 ⟨H2, I2, q2⟩ => ?_)
 cases b with
 | true =>
   obtain ⟨N, hN, q2⟩ := q2
   rw [if_pos rfl]
   refine wpAny_passesOwn hp (thn (hb pins s2 σ1 H2 _ I2 q2) fun f s3 q3 => ?_)
   cases f with
   | next =>
     obtain ⟨σ3, H3, I3, n3⟩ := q3
     obtain ⟨m', hm, w3⟩ := hN σ3 H3 n3
     exact ⟨m', hm, σ3, H3, I3, w3⟩
   | cont =>
     obtain ⟨σ3, H3, I3, n3⟩ := q3
     obtain ⟨m', hm, w3⟩ := hN σ3 H3 n3
     exact ⟨m', hm, σ3, H3, I3, w3⟩
   | brk => exact q3
   | ret v => exact q3
 | false =>
   rw [if_neg Bool.false_ne_true]
   exact wpAny_execs_nil ⟨σ1, H2, I2, q2⟩
end

set_option genInjectivity false in
structure It where
 go : Nat → Hp → Prop
 yld : Nat → Hp → V → Hp → Prop
 stop : Nat → Hp → Prop
noncomputable def FpOk (X : Cx) (pins : List (Addr × Obj)) (H : Hp) (b : Addr) : Prop :=
 H b = none ∧ b ≠ X.env.locals ∧ b ∉ X.fs ∧ (b ∈ X.ex ∨ X.s₀.heap.objs.size ≤ b) ∧ (∀ x c, X.env.cells.lookup x = some c → c ≠ b) ∧ ∀ p ∈ X.pn ++ pins, p.1 ≠ b
theorem Inv.fpOk {X : Cx} {pins : List (Addr × Obj)} {σ : St} {H H' : Hp} {s : Shared} {b : Addr} (I : Inv X pins σ H s) (hb : s.heap.objs.size ≤ b) (hn : H' b = none) : FpOk X pins H' b := by
 refine ⟨hn, Nat.ne_of_gt (Nat.lt_of_lt_of_le I.lt hb), I.nofs hb, .inr (Nat.le_trans I.sz hb), fun x c e z => ?_, fun p hp z => ?_⟩
 · obtain ⟨v, q⟩ := I.cell x c e
   exact absurd (Nat.lt_of_lt_of_le q.lt (by rw [z]; exact hb)) (Nat.lt_irrefl _)
 · exact absurd (Nat.lt_of_lt_of_le (Heap.lt_size (I.pin p hp).1) (by rw [z]; exact hb)) (Nat.lt_irrefl _)
structure Turn (P : Program) (w : World) (K : PySem.W.Frag) (tg : Expr) (J : It) (fp : List Addr) (it : Addr) (tn : Nat → Heap → Prop) : Prop where
 mem : it ∈ fp
 obj : ∀ i h, tn i h → ∀ b ∈ fp, ∃ o, h.get? b = some o ∧ ∀ v, o.data ≠ .cell v
 keep : ∀ i h h', tn i h → (∀ b ∈ fp, ∀ o, h.get? b = some o → h'.get? b = some o) → tn i h'
 item : ∀ (X : Cx), X.prog = P → X.w = w → X.K = K → X.calm = true → ∀ (i : Nat) (pins : List (Addr × Obj)) (s : Shared) (σ : St) (H : Hp) (E : Value → Shared → Prop), Inv X pins σ H s → (∀ b ∈ fp, FpOk X pins H b) → tn i s.heap → J.go i H →
  wpAny (model P w) X.A (pyNext (.ref it)) (fun r s1 => ∃ u, r = some u ∧
   wpAny (model P w) X.A (letOwnedTupleGo tg (.ref it) u) (fun _ s2 => ∃ x H', Inv X pins σ H' s2 ∧ RelV x u ∧ J.yld i H x H' ∧ tn (i + 1) s2.heap ∧ ∀ b ∈ fp, H' b = none) E s1) E s
 done : ∀ (X : Cx), X.prog = P → X.w = w → X.K = K → X.calm = true → ∀ (i : Nat) (pins : List (Addr × Obj)) (s : Shared) (σ : St) (H : Hp) (E : Value → Shared → Prop), Inv X pins σ H s → (∀ b ∈ fp, FpOk X pins H b) → tn i s.heap → J.stop i H →
  wpAny (model P w) X.A (pyNext (.ref it)) (fun r s1 => r = none ∧ Inv X pins σ H s1) E s
 self : ∀ (A : Around) (i : Nat) (s : Shared) (Q : Value → Shared → Prop) (E : Value → Shared → Prop), tn i s.heap → Q (.ref it) s → wpAny (model P w) A (pyIter (.ref it)) Q E s
noncomputable abbrev TI := St → Hp → (It → Hp → Prop) → Prop
noncomputable def PIE (X : Cx) (pins : List (Addr × Obj)) (σ : St) (tg : Expr) (R : It → Hp → Prop) (itv : Value) (s2 : Shared) : Prop :=
 ∃ (it : Addr) (fp : List Addr) (tn : Nat → Heap → Prop) (J : It) (H' : Hp), itv = .ref it ∧ Inv X pins σ H' s2 ∧ Turn X.prog X.w X.K tg J fp it tn ∧ tn 0 s2.heap ∧ (∀ b ∈ fp, FpOk X pins H' b) ∧ R J H'
noncomputable def PI (X : Cx) (tg iter : Expr) (wi : TI) : Prop :=
 ∀ (pins : List (Addr × Obj)) (s : Shared) (σ : St) (H : Hp) (R : It → Hp → Prop), Inv X pins σ H s → wi σ H R →
   wpAny (model X.prog X.w) X.A (eval iter X.env) (fun v s1 => wpAny (model X.prog X.w) X.A (pyIter v) (PIE X pins σ tg R) X.xe s1) X.xe s

theorem go_of {M : Model} {A : Around} {E : Value → Shared → Prop} {s : Shared} {tg : Expr} {it : Addr} {u : Value} {o : Obj} {n : String} {vs : Array Value} {Q : Unit → Shared → Prop} (ho : s.heap.get? it = some o) (hc : o.cls = .type n) (hd : o.data = .fields vs)
 (hn : ["enumerate", "zip", "dict_itemiterator", "dict_reverseitemiterator", "odict_iterator", "itertools.zip_longest", "itertools.pairwise"].contains n = false) (hQ : Q () s) : wpAny M A (letOwnedTupleGo tg (.ref it) u) Q E s := by
 unfold letOwnedTupleGo
 cases tg <;> first
  | exact wpAny_pure hQ
  | (cases u <;> first
   | exact wpAny_pure hQ
   | (refine wpAny_bind (wpAny_load ho ?_)
      rw [hc, hd]
      show wpAny M A (if (["enumerate", "zip", "dict_itemiterator", "dict_reverseitemiterator", "odict_iterator", "itertools.zip_longest", "itertools.pairwise"].contains n && vs[0]? == some (rawInt _)) = true then _ else _) Q E s
      rw [if_neg (by intro h; rw [hn, Bool.false_and] at h; cases h)]
      exact wpAny_pure hQ))

noncomputable def Itl (K : PySem.W.Frag) (a : Addr) : It :=
 ⟨fun i H => ∃ xs x, SqL K H a xs ∧ xs[i]? = some x, fun i H x H' => H' = H ∧ ∀ xs, SqL K H a xs → xs[i]? = some x, fun i H => ∃ xs, SqL K H a xs ∧ xs.length ≤ i⟩
noncomputable def Itt (K : PySem.W.Frag) (a : Addr) : It :=
 ⟨fun i H => ∃ xs x, SqT K H a xs ∧ xs[i]? = some x, fun i H x H' => H' = H ∧ ∀ xs, SqT K H a xs → xs[i]? = some x, fun i H => ∃ xs, SqT K H a xs ∧ xs.length ≤ i⟩
noncomputable def Itr (lo : Int) (n : Nat) : It := ⟨fun i _ => i < n, fun i H x H' => H' = H ∧ x = .int (lo + i), fun i _ => n ≤ i⟩
theorem turn_list {P : Program} {w : World} {K : PySem.W.Frag} {tg : Expr} (a it : Addr) : Turn P w K tg (Itl K a) [it] it (fun i h => h.IsListIter it a i) where
 mem := by simp
 obj := fun i h st b hb => by
  have e : b = it := by simpa using hb
  subst e
  obtain ⟨o, e, c, d⟩ := st
  exact ⟨o, e, fun v z => by rw [d] at z; cases z⟩
 keep := fun i h h' st k => st.at fun o e => k it (by simp) o e
 item := by
  intro X hP hw hK hc i pins s σ H E I hf st hg
  subst hP hw hK
  obtain ⟨xs, x, hq, hx⟩ := hg
  obtain ⟨its, rv, p, hz⟩ := I.list hq
  obtain ⟨u, hu, ru⟩ := rv.get hx
  obtain ⟨f0, f1, f2, f3, f4, f5⟩ := hf it (by simp)
  refine wpAny_pyNext_list_item st p.isList (x := u) (by simpa using hu) fun h' st' sb => ?_
  have I1 : Inv X pins σ H { s with heap := h' } := I.turned (t' := s.toks) (fun b o hb e => (sb.2 b hb).trans e) f0 f1 f3 f4 f5
  obtain ⟨o, e, c, d⟩ := id st'
  exact ⟨u, rfl, go_of (s := { s with heap := h' }) e c d (by decide) ⟨x, H, I1, ru, ⟨rfl, fun ys hy => by rw [I.list_inj hy hq]; exact hx⟩, st', fun b hb => (hf b hb).1⟩⟩
 done := by
  intro X hP hw hK hc i pins s σ H E I hf st hg
  subst hP hw hK
  obtain ⟨xs, hq, hx⟩ := hg
  obtain ⟨its, rv, p, hz⟩ := I.list hq
  obtain ⟨f0, f1, f2, f3, f4, f5⟩ := hf it (by simp)
  have hl := rv.length
  exact wpAny_pyNext_list_end (I.ok.hd hc) st p.isList (by simp; omega) fun h' eb => ⟨rfl, I.turned (t' := s.toks) (fun b o hb e => eb b o hb e) f0 f1 f3 f4 f5⟩
 self := fun _ _ _ _ _ st h => wpAny_pyIter_listiter st h
theorem turn_tuple {P : Program} {w : World} {K : PySem.W.Frag} {tg : Expr} (a it : Addr) : Turn P w K tg (Itt K a) [it] it (fun i h => h.IsTupleIter it a i) where
 mem := by simp
 obj := fun i h st b hb => by
  have e : b = it := by simpa using hb
  subst e
  obtain ⟨o, e, c, d⟩ := st
  exact ⟨o, e, fun v z => by rw [d] at z; cases z⟩
 keep := fun i h h' st k => st.at fun o e => k it (by simp) o e
 item := by
  intro X hP hw hK hc i pins s σ H E I hf st hg
  subst hP hw hK
  obtain ⟨xs, x, hq, hx⟩ := hg
  obtain ⟨its, rv, p, hz⟩ := I.tuple hq
  obtain ⟨u, hu, ru⟩ := rv.get hx
  obtain ⟨f0, f1, f2, f3, f4, f5⟩ := hf it (by simp)
  refine wpAny_pyNext_tuple_item st (show s.heap.IsTuple a its.toArray from p) (x := u) (by simpa using hu) fun h' st' sb => ?_
  have I1 : Inv X pins σ H { s with heap := h' } := I.turned (t' := s.toks) (fun b o hb e => (sb.2 b hb).trans e) f0 f1 f3 f4 f5
  obtain ⟨o, e, c, d⟩ := id st'
  exact ⟨u, rfl, go_of (s := { s with heap := h' }) e c d (by decide) ⟨x, H, I1, ru, ⟨rfl, fun ys hy => by rw [I.tuple_inj hy hq]; exact hx⟩, st', fun b hb => (hf b hb).1⟩⟩
 done := by
  intro X hP hw hK hc i pins s σ H E I hf st hg
  subst hP hw hK
  obtain ⟨xs, hq, hx⟩ := hg
  obtain ⟨its, rv, p, hz⟩ := I.tuple hq
  obtain ⟨f0, f1, f2, f3, f4, f5⟩ := hf it (by simp)
  have hl := rv.length
  exact wpAny_pyNext_tuple_end (I.ok.hd hc) st (show s.heap.IsTuple a its.toArray from p) (by simp; omega) fun h' eb => ⟨rfl, I.turned (t' := s.toks) (fun b o hb e => eb b o hb e) f0 f1 f3 f4 f5⟩
 self := fun _ _ _ _ _ st h => wpAny_pyIter_tupleiter st h
theorem turn_range {P : Program} {w : World} {K : PySem.W.Frag} {tg : Expr} (it : Addr) (lo : Int) (n : Nat) : Turn P w K tg (Itr lo n) [it] it (fun i h => IsRangeIter h it (lo + (i : Nat) * 1) ((n : Int) - (i : Nat)) 1) where
 mem := by simp
 obj := fun i h st b hb => by
  have e : b = it := by simpa using hb
  subst e
  exact ⟨_, st, fun v z => by
   have z' : Data.fields _ = Data.cell v := z
   cases z'⟩
 keep := fun i h h' st k => k it (by simp) _ st
 item := by
  intro X hP hw hK hc i pins s σ H E I hf st hg
  subst hP hw hK
  obtain ⟨f0, f1, f2, f3, f4, f5⟩ := hf it (by simp)
  have W := Walks.range (prog := X.prog) (w := X.w) (I.ok.hd hc) it lo 1 n
  refine W.item i s _ _ hg st fun v h' tk hv st' kk => ?_
  obtain ⟨t, rfl⟩ := hv
  have I1 : Inv X pins σ H { s with heap := h', toks := tk } := I.turned (fun b o hb e => kk b o (by simpa using hb) e) f0 f1 f3 f4 f5
  refine ⟨_, rfl, go_of (s := { s with heap := h', toks := tk }) (n := "range_iterator") st' rfl rfl (by decide) ⟨.int (lo + i), H, I1, ⟨t, ?_⟩, ⟨rfl, rfl⟩, st', fun b hb => (hf b hb).1⟩⟩
  rw [Int.mul_one]
 done := by
  intro X hP hw hK hc i pins s σ H E I hf st hg
  subst hP hw hK
  obtain ⟨f0, f1, f2, f3, f4, f5⟩ := hf it (by simp)
  exact wpAny_pyNext_range_end (I.ok.hd hc) st (by have : n ≤ i := hg; omega) fun h' eb => ⟨rfl, I.turned (t' := s.toks) (fun b o hb e => eb b o hb e) f0 f1 f3 f4 f5⟩
 self := fun _ _ _ _ _ st h => wpAny_pyIter_rangeiter st h
end L2

namespace L2
open PySem PySem.Spec PyProof.Rows
section
variable {X : Cx} {tg : Expr}
noncomputable def iList (K : PySem.W.Frag) (tl : TE) : TI := fun σ H R => tl σ H fun x H1 => ∃ a, x = .ref a ∧ (∃ xs, SqL K H1 a xs) ∧ R (Itl K a) H1
noncomputable def iTup (K : PySem.W.Frag) (tl : TE) : TI := fun σ H R => tl σ H fun x H1 => ∃ a, x = .ref a ∧ (∃ xs, SqT K H1 a xs) ∧ R (Itt K a) H1
theorem pi_list {l : Expr} {tl : TE} (hl : PE X l tl) : PI X tg l (iList X.K tl) := by
 intro pins s σ H R I h
 refine thn (hl pins s σ H _ I h) fun v s1 ⟨x, H1, I1, r1, q1⟩ => ?_
 obtain ⟨a, e, ⟨xs, hq⟩, q⟩ := q1
 subst e
 cases r1
 obtain ⟨its, rv, p, hz⟩ := I1.list hq
 refine wpAny_pyIter_list p.isList ?_
 refine ⟨s1.heap.objs.size, [s1.heap.objs.size], _, _, H1, rfl, I1.kept (t' := s1.toks) fun b o e => Heap.get?_push_of_some _ e, turn_list a _, ⟨_, Heap.get?_push_size _ rfl, rfl, rfl⟩, fun b hb => ?_, q⟩
 have e : b = s1.heap.objs.size := by simpa using hb
 subst e
 exact I1.fpOk (Nat.le_refl _) (I1.hok.fresh (Nat.le_refl _))
theorem pi_tup {l : Expr} {tl : TE} (hl : PE X l tl) : PI X tg l (iTup X.K tl) := by
 intro pins s σ H R I h
 refine thn (hl pins s σ H _ I h) fun v s1 ⟨x, H1, I1, r1, q1⟩ => ?_
 obtain ⟨a, e, ⟨xs, hq⟩, q⟩ := q1
 subst e
 cases r1
 obtain ⟨its, rv, p, hz⟩ := I1.tuple hq
 refine wpAny_pyIter_tuple (show s1.heap.IsTuple a its.toArray from p) ?_
 refine ⟨s1.heap.objs.size, [s1.heap.objs.size], _, _, H1, rfl, I1.kept (t' := s1.toks) fun b o e => Heap.get?_push_of_some _ e, turn_tuple a _, ⟨_, Heap.get?_push_size _ rfl, rfl, rfl⟩, fun b hb => ?_, q⟩
 have e : b = s1.heap.objs.size := by simpa using hb
 subst e
 exact I1.fpOk (Nat.le_refl _) (I1.hok.fresh (Nat.le_refl _))
theorem range_it {pins : List (Addr × Obj)} {σ : St} {H : Hp} {s : Shared} {R : It → Hp → Prop} {E : Value → Shared → Prop} {lo hi : Int} {t u v : Tok} {tk : Nat} (I : Inv X pins σ H s) (h1 : -(2 ^ 62) ≤ lo) (h2 : lo < 2 ^ 62) (h3 : -(2 ^ 62) ≤ hi) (h4 : hi < 2 ^ 62)
 (q : R (Itr lo (hi - lo).toNat) H) : wpAny (model X.prog X.w) X.A (pyIter (.ref s.heap.objs.size)) (PIE X pins σ tg R) E { s with heap := s.heap.push { cls := .type "range", data := .fields #[.int lo t, .int hi u, .int 1 v] }, toks := tk } := by
 refine wpAny_pyIter_range (IsRange.new ..) (small_one h1 h2 h3 h4) ?_
 have I1 : Inv X pins σ H { s with heap := s.heap.push { cls := .type "range", data := .fields #[.int lo t, .int hi u, .int 1 v] }, toks := tk } := I.kept fun b o e => Heap.get?_push_of_some _ e
 refine ⟨(s.heap.push { cls := .type "range", data := .fields #[.int lo t, .int hi u, .int 1 v] }).objs.size, [(s.heap.push { cls := .type "range", data := .fields #[.int lo t, .int hi u, .int 1 v] }).objs.size], _, _, H, rfl,
  I1.kept (t' := tk) fun b o e => Heap.get?_push_of_some _ e, turn_range _ lo (hi - lo).toNat, ?_, fun b hb => ?_, q⟩
 · have e1 : lo + ((0 : Nat) : Int) * 1 = lo := by simp
   have e2 : (((hi - lo).toNat : Nat) : Int) - ((0 : Nat) : Int) = Builtin.Range.rangeSize lo hi 1 := by rw [rangeSize_one]; split <;> omega
   show IsRangeIter _ _ (lo + ((0 : Nat) : Int) * 1) ((((hi - lo).toNat : Nat) : Int) - ((0 : Nat) : Int)) 1
   rw [e1, e2]
   exact Heap.get?_push_size _ rfl
 · have e : b = (s.heap.push { cls := .type "range", data := .fields #[.int lo t, .int hi u, .int 1 v] }).objs.size := by simpa using hb
   subst e
   exact I1.fpOk (Nat.le_refl _) (I1.hok.fresh (Nat.le_refl _))
noncomputable def iRng1 (ta : TA) : TI := fun σ H R => ta σ H fun vs H1 => ∃ j : Int, vs = [.int j] ∧ -(2 ^ 62) ≤ j ∧ j < 2 ^ 62 ∧ R (Itr 0 j.toNat) H1
theorem pi_range1 {a : Expr} {ta : TA} {p pos : Pos} (hg : Gl X "range") (hm : X.mg "range" = none) (ha : PA X [a] ta) (hs : starEach [a] X.env = [(false, eval a X.env)] := by rfl) : PI X tg (.Call (.Name "range" p) [a] [] pos) (iRng1 ta) := by
 intro pins s σ H R I h
 refine Call_ (ld_blt I hg hm boot_range (PyProof.Rows.callWith_type1 (thn (ha pos pins s σ H _ I h) fun us s1 ⟨vs, H1, I1, r1, q1⟩ => ?_) hs rfl))
 obtain ⟨j, e, q1, q2, q⟩ := q1
 subst e
 cases r1 with
 | cons r rr =>
   cases rr
   obtain ⟨t, rfl⟩ := r
   exact call_range_1 (range_it I1 (by omega) (by omega) q1 q2 (by simpa using q))
noncomputable def tFor (wi : TI) (g : TG) (tb : TS) : TS := fun D σ H => wi σ H fun J H1 => ∃ W : Nat → Nat → St → Hp → Prop, (∃ m, W 0 m σ H1) ∧ ∀ i m σ H, W i m σ H →
 (J.stop i H ∧ D.nx σ H) ∨ (J.go i H ∧ ∃ N : St → Hp → Prop, (∀ σ' H', N σ' H' → ∃ m', m' < m ∧ W (i + 1) m' σ' H') ∧ ∀ x H', J.yld i H x H' → g x σ H' fun σ2 H2 => tb { D with nx := N, ct := N, bk := D.nx } σ2 H2)
noncomputable def pinsAt (fp : List Addr) (h : Heap) : List (Addr × Obj) := fp.filterMap fun b => (h.get? b).map fun o => (b, o)
theorem mem_pinsAt {fp : List Addr} {h : Heap} {b : Addr} {o : Obj} (hb : b ∈ fp) (e : h.get? b = some o) : (b, o) ∈ pinsAt fp h := List.mem_filterMap.mpr ⟨b, hb, by rw [e]; rfl⟩
theorem of_pinsAt {fp : List Addr} {h : Heap} {p : Addr × Obj} (hp : p ∈ pinsAt fp h) : p.1 ∈ fp ∧ h.get? p.1 = some p.2 := by
 obtain ⟨b, hb, e⟩ := List.mem_filterMap.mp hp
 cases q : h.get? b with
 | none => rw [q] at e; cases e
 | some o =>
   rw [q] at e
   have e' : (b, o) = p := Option.some.inj e
   subst e'
   exact ⟨hb, q⟩
theorem Inv.pinned {pins : List (Addr × Obj)} {σ : St} {H : Hp} {s : Shared} {fp : List Addr} (I : Inv X pins σ H s) (hf : ∀ b ∈ fp, FpOk X pins H b) (ho : ∀ b ∈ fp, ∃ o, s.heap.get? b = some o ∧ ∀ v, o.data ≠ .cell v) : Inv X (pins ++ pinsAt fp s.heap) σ H s :=
 I.pins_of fun p hp => (List.mem_append.mp hp).elim (fun z => I.pin p (List.mem_append_right _ z)) fun z => by
  obtain ⟨hb, e⟩ := of_pinsAt z
  obtain ⟨f0, f1, f2, _⟩ := hf p.1 hb
  obtain ⟨o, e', d⟩ := ho p.1 hb
  rw [e] at e'; cases e'
  exact ⟨e, f0, f1, f2, d⟩
theorem Inv.unpinned {pins pl : List (Addr × Obj)} {σ : St} {H : Hp} {s : Shared} (I : Inv X (pins ++ pl) σ H s) : Inv X pins σ H s := I.pins_of fun p hp => I.pin p (List.mem_append_right _ (List.mem_append_left _ hp))
theorem ps_for {iter : Expr} {body : List Stmt} {wi : TI} {g : TG} {tb : TS} {pos : Pos} (hp : PassesOwn (model X.prog X.w) X.A X.env X.xe) (hc : X.calm = true) (hi : PI X tg iter wi) (hg : PG X tg g) (hb : PSs X body tb)
 (hs : ∀ x, foldedSetIterable iter X.env x = pure x := by intro _; rfl) : PS X (.For tg iter body [] pos) (tFor wi g tb) := by
 intro pins s σ H D I h
 refine wpAny_For (thn (hi pins s σ H _ I h) fun v s1 h1 => thn h1 fun itv s2 h2 => ?_) hs
 obtain ⟨it, fp, tn, J, H2, e, I2, T, st2, f2, W, ⟨m0, w0⟩, turn⟩ := h2
 subst e
 -- what stays true of the iterator's objects through the loop
 have stat : ∀ {H' : Hp}, (∀ b ∈ fp, H' b = none) → ∀ b ∈ fp, FpOk X pins H' b := fun hn b hb => ⟨hn b hb, (f2 b hb).2⟩
 refine codeAny_forLoop_any (fun n s' => ∃ i σ' H', Inv X pins σ' H' s' ∧ tn i s'.heap ∧ (∀ b ∈ fp, H' b = none) ∧ W i n σ' H') ?_ m0 ⟨0, σ, H2, I2, st2, fun b hb => (f2 b hb).1, w0⟩
 rintro n s3 ⟨i, σ3, H3, I3, st3, fr3, w3⟩
 rcases turn i n σ3 H3 w3 with ⟨stop, qn⟩ | ⟨go, N, hN, step⟩
 · refine wpAny_passesOwn hp (thn (T.done X rfl rfl rfl hc i pins s3 σ3 H3 X.xe I3 (stat fr3) st3 stop) fun r s4 ⟨hr, I4⟩ => ?_)
   subst hr
   exact wpAny_execs_nil ⟨σ3, H3, I4, qn⟩
 · refine wpAny_passesOwn hp (thn (T.item X rfl rfl rfl hc i pins s3 σ3 H3 X.xe I3 (stat fr3) st3 go) fun r s4 ⟨u, hr, h4⟩ => ?_)
   subst hr
   refine wpAny_passesOwn hp (thn h4 fun _ s5 ⟨x, H5, I5, r5, y5, st5, fr5⟩ => ?_)
   have I5' := I5.pinned (stat fr5) (T.obj _ _ st5)
   refine wpAny_passesOwn hp (thn (hg _ s5 σ3 H5 x u _ I5' r5 (step x H5 y5)) fun _ s6 ⟨σ6, H6, I6, q6⟩ => ?_)
   refine wpAny_passesOwn hp (thn (hb _ s6 σ6 H6 _ I6 q6) fun f s7 q7 => ?_)
   have again : ∀ {σ7 : St} {H7 : Hp}, Inv X (pins ++ pinsAt fp s5.heap) σ7 H7 s7 → N σ7 H7 → ∃ m, m < n ∧ ∃ i σ' H', Inv X pins σ' H' s7 ∧ tn i s7.heap ∧ (∀ b ∈ fp, H' b = none) ∧ W i m σ' H' := fun {σ7 H7} I7 n7 => by
    obtain ⟨m', hm, w7⟩ := hN σ7 H7 n7
    refine ⟨m', hm, i + 1, σ7, H7, I7.unpinned, T.keep _ _ _ st5 fun b hb o e => (I7.pin (b, o) (List.mem_append_right _ (List.mem_append_right _ (mem_pinsAt hb e)))).1, fun b hb => ?_, w7⟩
    obtain ⟨o, e, d⟩ := T.obj _ _ st5 b hb
    exact (I7.pin (b, o) (List.mem_append_right _ (List.mem_append_right _ (mem_pinsAt hb e)))).2.1
   cases f with
   | next => obtain ⟨σ7, H7, I7, n7⟩ := q7; exact again I7 n7
   | cont => obtain ⟨σ7, H7, I7, n7⟩ := q7; exact again I7 n7
   | brk => obtain ⟨σ7, H7, I7, q7⟩ := q7; exact ⟨σ7, H7, I7.unpinned, q7⟩
   | ret v => obtain ⟨x7, σ7, H7, I7, r7, q7⟩ := q7; exact ⟨x7, σ7, H7, I7.unpinned, r7, q7⟩
end

theorem for_list {K : PySem.W.Frag} {a : Addr} {xs : List V} {g : TG} {tb : TS} {D : Ends} {σ : St} {H : Hp} (Pv : Nat → St → Hp → Prop) (h0 : Pv 0 σ H) (hl : ∀ i σ H, i ≤ xs.length → Pv i σ H → SqL K H a xs)
 (hs : ∀ i x σ H, xs[i]? = some x → Pv i σ H → g x σ H fun σ2 H2 => tb { D with nx := Pv (i + 1), ct := Pv (i + 1), bk := D.nx } σ2 H2) (hd : ∀ σ H, Pv xs.length σ H → D.nx σ H) :
 ∃ W : Nat → Nat → St → Hp → Prop, (∃ m, W 0 m σ H) ∧ ∀ i m σ H, W i m σ H →
   ((Itl K a).stop i H ∧ D.nx σ H) ∨ ((Itl K a).go i H ∧ ∃ N : St → Hp → Prop, (∀ σ' H', N σ' H' → ∃ m', m' < m ∧ W (i + 1) m' σ' H') ∧ ∀ x H', (Itl K a).yld i H x H' → g x σ H' fun σ2 H2 => tb { D with nx := N, ct := N, bk := D.nx } σ2 H2) := by
 refine ⟨fun i m σ H => m = xs.length - i ∧ i ≤ xs.length ∧ Pv i σ H, ⟨xs.length, by simp, Nat.zero_le _, h0⟩, ?_⟩
 rintro i m σ H ⟨rfl, hi, p⟩
 have q := hl i σ H hi p
 by_cases hlt : i < xs.length
 · refine .inr ⟨⟨xs, xs[i], q, by simp [hlt]⟩, Pv (i + 1), fun σ' H' p' => ⟨xs.length - (i + 1), by omega, rfl, hlt, p'⟩, fun x H' y => ?_⟩
   obtain ⟨e, y⟩ := y
   subst e
   exact hs i x σ _ (y xs q) p
 · have e : i = xs.length := by omega
   subst e
   exact .inl ⟨⟨xs, q, Nat.le_refl _⟩, hd σ H p⟩
theorem for_range {lo : Int} {n : Nat} {g : TG} {tb : TS} {D : Ends} {σ : St} {H : Hp} (Pv : Nat → St → Hp → Prop) (h0 : Pv 0 σ H)
 (hs : ∀ i σ H, i < n → Pv i σ H → g (.int (lo + i)) σ H fun σ2 H2 => tb { D with nx := Pv (i + 1), ct := Pv (i + 1), bk := D.nx } σ2 H2) (hd : ∀ σ H, Pv n σ H → D.nx σ H) :
 ∃ W : Nat → Nat → St → Hp → Prop, (∃ m, W 0 m σ H) ∧ ∀ i m σ H, W i m σ H →
   ((Itr lo n).stop i H ∧ D.nx σ H) ∨ ((Itr lo n).go i H ∧ ∃ N : St → Hp → Prop, (∀ σ' H', N σ' H' → ∃ m', m' < m ∧ W (i + 1) m' σ' H') ∧ ∀ x H', (Itr lo n).yld i H x H' → g x σ H' fun σ2 H2 => tb { D with nx := N, ct := N, bk := D.nx } σ2 H2) := by
 refine ⟨fun i m σ H => m = n - i ∧ i ≤ n ∧ Pv i σ H, ⟨n, by simp, Nat.zero_le _, h0⟩, ?_⟩
 rintro i m σ H ⟨rfl, hi, p⟩
 by_cases hlt : i < n
 · refine .inr ⟨hlt, Pv (i + 1), fun σ' H' p' => ⟨n - (i + 1), by omega, rfl, hlt, p'⟩, fun x H' y => ?_⟩
   obtain ⟨e, y⟩ := y
   subst e y
   exact hs i σ _ hlt p
 · have e : i = n := by omega
   subst e
   exact .inl ⟨Nat.le_refl _, hd σ H p⟩
theorem while_by {c : TT} {tb : TS} {D : Ends} {σ : St} {H : Hp} (Pv : St → Hp → Prop) (μ : St → Hp → Nat) (h0 : Pv σ H)
 (hs : ∀ σ H, Pv σ H → c σ H fun b H1 => if b = true then tb { D with nx := fun σ' H' => Pv σ' H' ∧ μ σ' H' < μ σ H, ct := fun σ' H' => Pv σ' H' ∧ μ σ' H' < μ σ H, bk := D.nx } σ H1 else D.nx σ H1)
 (mono : ∀ σ H Q Q', (∀ b H1, Q b H1 → Q' b H1) → c σ H Q → c σ H Q') : tWhile c tb D σ H := by
 refine ⟨fun m σ H => m = μ σ H ∧ Pv σ H, ⟨_, rfl, h0⟩, ?_⟩
 rintro m σ H ⟨rfl, p⟩
 refine mono σ H _ _ (fun b H1 q => ?_) (hs σ H p)
 cases b with
 | true => exact ⟨_, fun σ' H' ⟨p', l⟩ => ⟨_, l, rfl, p'⟩, q⟩
 | false => exact q
end L2

namespace L2
open PySem PySem.Spec PyProof.Rows

noncomputable abbrev R2 := V → V → Hp → VK → Prop
noncomputable def OpR (X : Cx) (f : Value → Value → Sem Value) (r : R2) : Prop :=
 ∀ (pins : List (Addr × Obj)) (s : Shared) (σ : St) (H : Hp) (x y : V) (v u : Value) (Q : VK), Inv X pins σ H s → RelV x v → RelV y u → r x y H Q →
   wpAny (model X.prog X.w) X.A (f v u) (EP X pins σ Q) X.xe s
noncomputable def UnR (X : Cx) (f : Value → Sem Value) (r : V → Hp → VK → Prop) : Prop :=
 ∀ (pins : List (Addr × Obj)) (s : Shared) (σ : St) (H : Hp) (x : V) (v : Value) (Q : VK), Inv X pins σ H s → RelV x v → r x H Q →
   wpAny (model X.prog X.w) X.A (f v) (EP X pins σ Q) X.xe s
noncomputable def CallR (X : Cx) (f : Value) (r : List V → Hp → VK → Prop) : Prop :=
 ∀ (pins : List (Addr × Obj)) (s : Shared) (σ : St) (H : Hp) (xs : List V) (us : List Value) (Q : VK), Inv X pins σ H s → Vals xs us → r xs H Q →
   wpAny (model X.prog X.w) X.A (call f us) (EP X pins σ Q) X.xe s
noncomputable def tOp (r : R2) (ta tb : TE) : TE := fun σ H Q => ta σ H fun x H1 => tb σ H1 fun y H2 => r x y H2 Q
noncomputable def tUn (r : V → Hp → VK → Prop) (ta : TE) : TE := fun σ H Q => ta σ H fun x H1 => r x H1 Q
noncomputable def rI (C : Int → Int → Prop) (g : Int → Int → V) : R2 := fun x y H Q => ∃ i j, x = .int i ∧ y = .int j ∧ C i j ∧ Q (g i j) H
noncomputable def rI0 (g : Int → Int → V) : R2 := fun x y H Q => ∃ i j, x = .int i ∧ y = .int j ∧ Q (g i j) H
noncomputable def rU (g : Int → V) : V → Hp → VK → Prop := fun x H Q => ∃ i, x = .int i ∧ Q (g i) H

section
variable {X : Cx} {a b c : Expr} {ta tb tc : TE} {pos : Pos}

theorem binT (ha : PE X a ta) (hb : PE X b tb) {pins : List (Addr × Obj)} {s : Shared} {σ : St} {H : Hp} {R : V → V → Hp → Prop} (I : Inv X pins σ H s)
 (h : ta σ H fun x H1 => tb σ H1 fun y H2 => R x y H2) {Q : Value → Shared → Prop} {f : Value → Value → Sem Value}
 (hf : ∀ v u s2 x y H2, Inv X pins σ H2 s2 → RelV x v → RelV y u → R x y H2 → wpAny (model X.prog X.w) X.A (f v u) Q X.xe s2) :
 wpAny (model X.prog X.w) X.A (eval a X.env) (fun v s₁ => wpAny (model X.prog X.w) X.A (eval b X.env) (fun u s₂ => wpAny (model X.prog X.w) X.A (f v u) Q X.xe s₂) X.xe s₁) X.xe s := by
 refine thn (ha pins s σ H _ I h) fun v s1 ⟨x, H1, I1, r1, q1⟩ => ?_
 refine thn (hb pins s1 σ H1 _ I1 q1) fun u s2 ⟨y, H2, I2, r2, q2⟩ => ?_
 exact hf v u s2 x y H2 I2 r1 r2 q2

theorem pe_op {op : Operator} {r : R2} (ho : OpR X (binaryOp op) r) (ha : PE X a ta) (hb : PE X b tb) : PE X (.BinOp a op b pos) (tOp r ta tb) := by
 intro pins s σ H Q I h
 exact wpAny_BinOp (binT ha hb I h fun v u s2 x y H2 I2 rx ry q => ho pins s2 σ H2 x y v u Q I2 rx ry q)
theorem pe_un {op : UnaryOp} {r : V → Hp → VK → Prop} (ho : UnR X (unaryOp op) r) (ha : PE X a ta) : PE X (.UnaryOp op a pos) (tUn r ta) := by
 intro pins s σ H Q I h
 exact UnaryOp_ (thn (ha pins s σ H _ I h) fun v s1 ⟨x, H1, I1, r1, q1⟩ => ho pins s1 σ H1 x v Q I1 r1 q1)
theorem opI {f : Value → Value → Sem Value} {C : Int → Int → Prop} {g : Int → Int → Int}
 (rule : ∀ (i j : Int) (t u : Tok) (s : Shared) (Q : Value → Shared → Prop) (E : Value → Shared → Prop), C i j → Q (.int (g i j) s.toks) { s with toks := s.toks + 1 } → wpAny (model X.prog X.w) X.A (f (.int i t) (.int j u)) Q E s) :
 OpR X f (rI C fun i j => .int (g i j)) := by
 intro pins s σ H x y v u Q I rx ry h
 obtain ⟨i, j, rfl, rfl, hc, q⟩ := h
 obtain ⟨t, rfl⟩ := rx
 obtain ⟨t', rfl⟩ := ry
 exact rule i j t t' s _ _ hc ⟨.int (g i j), H, I.tok _, ⟨_, rfl⟩, q⟩
theorem opI0 {f : Value → Value → Sem Value} {g : Int → Int → Int}
 (rule : ∀ (i j : Int) (t u : Tok) (s : Shared) (Q : Value → Shared → Prop) (E : Value → Shared → Prop), Q (.int (g i j) s.toks) { s with toks := s.toks + 1 } → wpAny (model X.prog X.w) X.A (f (.int i t) (.int j u)) Q E s) :
 OpR X f (rI0 fun i j => .int (g i j)) := by
 intro pins s σ H x y v u Q I rx ry h
 obtain ⟨i, j, rfl, rfl, q⟩ := h
 obtain ⟨t, rfl⟩ := rx
 obtain ⟨t', rfl⟩ := ry
 exact rule i j t t' s _ _ ⟨.int (g i j), H, I.tok _, ⟨_, rfl⟩, q⟩
theorem opB0 {f : Value → Value → Sem Value} {g : Int → Int → Bool}
 (rule : ∀ (i j : Int) (t u : Tok) (s : Shared) (Q : Value → Shared → Prop) (E : Value → Shared → Prop), Q (.bool (g i j)) s → wpAny (model X.prog X.w) X.A (f (.int i t) (.int j u)) Q E s) :
 OpR X f (rI0 fun i j => .bl (g i j)) := by
 intro pins s σ H x y v u Q I rx ry h
 obtain ⟨i, j, rfl, rfl, q⟩ := h
 obtain ⟨t, rfl⟩ := rx
 obtain ⟨t', rfl⟩ := ry
 exact rule i j t t' s _ _ ⟨.bl (g i j), H, I, rfl, q⟩

noncomputable def CDiv (i j : Int) : Prop := 0 < j ∧ j < 1073741824
noncomputable def CPow (i j : Int) : Prop := 0 ≤ j ∧ j ≤ 1000000 ∧ i.natAbs < 2 ^ 64
noncomputable def CMul (i j : Int) : Prop := (-(2 ^ 64) < i ∧ i < 2 ^ 64) ∨ (-(2 ^ 64) < j ∧ j < 2 ^ 64)
theorem CMul.ok {i j : Int} (h : CMul i j) : IntMulOk i j := by
 rcases h with ⟨h1, h2⟩ | ⟨h1, h2⟩
 · exact .of_left (intBits_le_64 h1 h2)
 · exact .of_right (intBits_le_64 h1 h2)
theorem op_add : OpR X (binaryOp .Add) (rI0 fun i j => .int (i + j)) := opI0 fun _ _ _ _ _ _ _ q => add_int q
theorem op_sub : OpR X (binaryOp .Sub) (rI0 fun i j => .int (i - j)) := opI0 fun _ _ _ _ _ _ _ q => sub_int q
theorem op_mul : OpR X (binaryOp .Mult) (rI CMul fun i j => .int (i * j)) := opI fun _ _ _ _ _ _ _ hc q => mul_int q hc.ok
theorem op_fdiv : OpR X (binaryOp .FloorDiv) (rI CDiv fun i j => .int (i / j)) := opI fun i j _ _ _ _ _ hc q => by
 have h1 : (0 : Int) < j := hc.1
 have h2 : j < 1073741824 := hc.2
 exact floordiv_int (by omega) (by rw [Int.fdiv_eq_ediv_of_nonneg i (by omega)]; exact q) (.inl (PyProof.noPylong_small (by omega)))
theorem op_mod : OpR X (binaryOp .Mod) (rI (fun _ j => 0 < j) fun i j => .int (i % j)) := opI fun i j _ _ _ _ _ hc q => by
 have h1 : (0 : Int) < j := hc
 exact mod_int' (by omega) (by rw [Int.fmod_eq_emod_of_nonneg i (by omega)]; exact q)
theorem op_pow : OpR X (binaryOp .Pow) (rI CPow fun i j => .int (i ^ j.toNat)) := opI fun _ _ _ _ _ _ _ hc q => pow_int_small hc.1 hc.2.1 hc.2.2 q
theorem unI {f : Value → Sem Value} {g : Int → Int}
 (rule : ∀ (i : Int) (t : Tok) (s : Shared) (Q : Value → Shared → Prop) (E : Value → Shared → Prop), Q (.int (g i) s.toks) { s with toks := s.toks + 1 } → wpAny (model X.prog X.w) X.A (f (.int i t)) Q E s) :
 UnR X f (rU fun i => .int (g i)) := by
 intro pins s σ H x v Q I rx h
 obtain ⟨i, rfl, q⟩ := h
 obtain ⟨t, rfl⟩ := rx
 exact rule i t s _ _ ⟨.int (g i), H, I.tok _, ⟨_, rfl⟩, q⟩
theorem un_neg : UnR X (unaryOp .USub) (rU fun i => .int (-i)) := unI fun _ _ _ _ _ q => neg_int q
end

noncomputable def scal : V → V → Bool
 | .non, .non => true | .non, .int _ => true | .int _, .non => true | .non, .bl _ => true | .bl _, .non => true | .non, .str _ => true | .str _, .non => true
 | .int _, .int _ => true | .bl _, .bl _ => true | .str _, .str _ => true | .byt _, .byt _ => true
 | .int _, .str _ => true | .str _, .int _ => true | .bl _, .str _ => true | .str _, .bl _ => true
 | _, _ => false
noncomputable def rEq : R2 := fun x y H Q => scal x y = true ∧ Q (.bl (decide (x = y))) H
noncomputable def rNe : R2 := fun x y H Q => scal x y = true ∧ Q (.bl (!decide (x = y))) H

theorem dec_int {i j : Int} : decide (V.int i = V.int j) = (i == j) := by
 rw [Bool.eq_iff_iff]
 simp
theorem dec_bl {i j : Bool} : decide (V.bl i = V.bl j) = (i == j) := by
 rw [Bool.eq_iff_iff]
 simp
theorem dec_str {i j : Str} : decide (V.str i = V.str j) = (i == j) := by
 rw [Bool.eq_iff_iff]
 simp
theorem dec_byt {i j : Array UInt8} : decide (V.byt i = V.byt j) = (i.toList == j.toList) := by
 rw [Bool.eq_iff_iff]
 cases i
 cases j
 simp

section
variable {X : Cx} {a b c : Expr} {ta tb tc : TE} {pos : Pos}
theorem fin_bl {pins : List (Addr × Obj)} {σ : St} {H : Hp} {s : Shared} {Q : VK} {k k' : Bool} (I : Inv X pins σ H s) (q : Q (.bl k) H) (e : k = k') : EP X pins σ Q (.bool k') s := by
 subst e
 exact ⟨.bl k, H, I, rfl, q⟩
theorem op_eq : OpR X (compareOp .Eq) rEq := by
 intro pins s σ H x y v u Q I rx ry h
 obtain ⟨hs, q⟩ := h
 cases x with
 | non =>
   cases rx
   cases y with
   | non => cases ry; exact PySem.EqNone.eq_none_none (fin_bl I q (by simp))
   | bl j => cases ry; exact PySem.EqNone.eq_none_bool (fin_bl I q (by simp))
   | int j => obtain ⟨t', rfl⟩ := ry; exact PySem.EqNone.eq_none_int (fin_bl I q (by simp))
   | str j => obtain ⟨t', rfl⟩ := ry; exact PySem.EqNone.eq_none_str (fin_bl I q (by simp))
   | _ => exact absurd (show false = true from hs) Bool.false_ne_true
 | bl i =>
   cases rx
   cases y with
   | non => cases ry; exact PySem.EqNone.eq_bool_none (fin_bl I q (by simp))
   | bl j => cases ry; exact eq_bool (fin_bl I q dec_bl)
   | str j => obtain ⟨t', rfl⟩ := ry; exact PySem.EqMixed.eq_bool_str (fin_bl I q (by simp))
   | _ => exact absurd (show false = true from hs) Bool.false_ne_true
 | int i =>
   obtain ⟨t, rfl⟩ := rx
   cases y with
   | non => cases ry; exact PySem.EqNone.eq_int_none (fin_bl I q (by simp))
   | int j => obtain ⟨t', rfl⟩ := ry; exact eq_int (fin_bl I q dec_int)
   | str j => obtain ⟨t', rfl⟩ := ry; exact PySem.EqMixed.eq_int_str (fin_bl I q (by simp))
   | _ => exact absurd (show false = true from hs) Bool.false_ne_true
 | str i =>
   obtain ⟨t, rfl⟩ := rx
   cases y with
   | non => cases ry; exact PySem.EqNone.eq_str_none (fin_bl I q (by simp))
   | bl j => cases ry; exact PySem.EqMixed.eq_str_bool (fin_bl I q (by simp))
   | int j => obtain ⟨t', rfl⟩ := ry; exact PySem.EqMixed.eq_str_int (fin_bl I q (by simp))
   | str j => obtain ⟨t', rfl⟩ := ry; exact eq_str (fin_bl I q dec_str)
   | _ => exact absurd (show false = true from hs) Bool.false_ne_true
 | byt i =>
   obtain ⟨t, rfl⟩ := rx
   cases y with
   | byt j => obtain ⟨t', rfl⟩ := ry; exact PySem.W.eq_bytes (fin_bl I q dec_byt)
   | _ => exact absurd (show false = true from hs) Bool.false_ne_true
 | _ => cases y <;> exact absurd (show false = true from hs) Bool.false_ne_true
theorem op_ne : OpR X (compareOp .NotEq) rNe := by
 intro pins s σ H x y v u Q I rx ry h
 obtain ⟨hs, q⟩ := h
 cases x with
 | non =>
   cases rx
   cases y with
   | non => cases ry; exact PySem.EqNone.ne_none_none (fin_bl I q (by simp))
   | bl j => cases ry; exact PySem.EqNone.ne_none_bool (fin_bl I q (by simp))
   | int j => obtain ⟨t', rfl⟩ := ry; exact PySem.EqNone.ne_none_int (fin_bl I q (by simp))
   | str j => obtain ⟨t', rfl⟩ := ry; exact PySem.EqNone.ne_none_str (fin_bl I q (by simp))
   | _ => exact absurd (show false = true from hs) Bool.false_ne_true
 | bl i =>
   cases rx
   cases y with
   | non => cases ry; exact PySem.EqNone.ne_bool_none (fin_bl I q (by simp))
   | bl j => cases ry; exact ne_bool (fin_bl I q (congrArg not dec_bl))
   | str j => obtain ⟨t', rfl⟩ := ry; exact PySem.EqMixed.ne_bool_str (fin_bl I q (by simp))
   | _ => exact absurd (show false = true from hs) Bool.false_ne_true
 | int i =>
   obtain ⟨t, rfl⟩ := rx
   cases y with
   | non => cases ry; exact PySem.EqNone.ne_int_none (fin_bl I q (by simp))
   | int j => obtain ⟨t', rfl⟩ := ry; exact ne_int (fin_bl I q (congrArg not dec_int))
   | str j => obtain ⟨t', rfl⟩ := ry; exact PySem.EqMixed.ne_int_str (fin_bl I q (by simp))
   | _ => exact absurd (show false = true from hs) Bool.false_ne_true
 | str i =>
   obtain ⟨t, rfl⟩ := rx
   cases y with
   | non => cases ry; exact PySem.EqNone.ne_str_none (fin_bl I q (by simp))
   | bl j => cases ry; exact PySem.EqMixed.ne_str_bool (fin_bl I q (by simp))
   | int j => obtain ⟨t', rfl⟩ := ry; exact PySem.EqMixed.ne_str_int (fin_bl I q (by simp))
   | str j => obtain ⟨t', rfl⟩ := ry; exact ne_str (fin_bl I q (congrArg not dec_str))
   | _ => exact absurd (show false = true from hs) Bool.false_ne_true
 | byt i =>
   obtain ⟨t, rfl⟩ := rx
   cases y with
   | byt j => obtain ⟨t', rfl⟩ := ry; exact PySem.W.ne_bytes (fin_bl I q (congrArg not dec_byt))
   | _ => exact absurd (show false = true from hs) Bool.false_ne_true
 | _ => cases y <;> exact absurd (show false = true from hs) Bool.false_ne_true

theorem op_lt : OpR X (compareOp .Lt) (rI0 fun i j => .bl (decide (i < j))) := opB0 fun _ _ _ _ _ _ _ q => lt_int q
theorem op_gt : OpR X (compareOp .Gt) (rI0 fun i j => .bl (decide (j < i))) := opB0 fun _ _ _ _ _ _ _ q => gt_int q
theorem op_ge : OpR X (compareOp .GtE) (rI0 fun i j => .bl (decide (j ≤ i))) := opB0 fun _ _ _ _ _ _ _ q => ge_int q
theorem nomark (b : Expr) {op : CmpOp} (h : op ≠ .In := by decide) (h2 : op ≠ .NotIn := by decide) : behindInMarks op b = false := by
 have e1 : (op == CmpOp.In) = false := by cases op <;> first | rfl | exact absurd rfl h
 have e2 : (op == CmpOp.NotIn) = false := by cases op <;> first | rfl | exact absurd rfl h2
 cases b <;> simp [behindInMarks, e1, e2]
theorem pe_cmpR {op : CmpOp} {r : R2} (ho : OpR X (compareOp op) r) (ha : PE X a ta) (hb : PE X b tb) (hm : behindInMarks op b = false) : PE X (.Compare a [op] [b] pos) (tOp r ta tb) := by
 intro pins s σ H Q I h
 exact wpAny_Compare1 (binT ha hb I h fun v u s2 x y H2 I2 rx ry q => ho pins s2 σ H2 x y v u Q I2 rx ry q) hm
noncomputable def tTest (t : TE) : TT := fun σ H Q => t σ H fun x H' => ∃ k, x = .bl k ∧ Q k H'
theorem pt_cmpR {op : CmpOp} {r : R2} (ho : OpR X (compareOp op) r) (ha : PE X a ta) (hb : PE X b tb) (hm : behindInMarks op b = false) : PT X (.Compare a [op] [b] pos) (tTest (tOp r ta tb)) := by
 intro pins s σ H Q I h
 refine wpAny_isTrue_Compare1 (thn (ha pins s σ H _ I h) fun v s1 ⟨x, H1, I1, r1, q1⟩ => thn (hb pins s1 σ H1 _ I1 q1) fun u s2 ⟨y, H2, I2, r2, q2⟩ =>
  thn (ho pins s2 σ H2 x y v u _ I2 r1 r2 q2) fun c s3 ⟨z, H3, I3, r3, k, e, q3⟩ => ?_) hm
 subst e
 cases r3
 exact wpAny_truthy_bool ⟨H3, I3, q3⟩
theorem line63 : (sizeLine : Nat) < 2 ^ 63 := by rw [sizeLine_eq]; decide
theorem vals1 {x : V} {us : List Value} (r : Vals [x] us) : ∃ u, us = [u] ∧ RelV x u := by
 cases r with
 | cons r1 r2 => cases r2; exact ⟨_, rfl, r1⟩
theorem vals2 {x y : V} {us : List Value} (r : Vals [x, y] us) : ∃ u w', us = [u, w'] ∧ RelV x u ∧ RelV y w' := by
 cases r with
 | cons r1 r2 =>
   cases r2 with
   | cons r3 r4 => cases r4; exact ⟨_, _, rfl, r1, r3⟩
theorem call_abs : CallR X (.builtin "abs") (fun xs H Q => ∃ i, xs = [.int i] ∧ Q (.int (if i < 0 then -i else i)) H) := by
 intro pins s σ H xs us Q I r h
 obtain ⟨i, rfl, q⟩ := h
 obtain ⟨u, rfl, t, rfl⟩ := vals1 r
 exact call_abs_int fun u tk => ⟨.int (if i < 0 then -i else i), H, I.tok _, ⟨_, rfl⟩, q⟩
theorem call_int1 : CallR X (.type "int") (fun xs H Q => (∃ i, xs = [.int i] ∧ Q (.int i) H) ∨ ∃ k, xs = [.bl k] ∧ Q (.int (if k then 1 else 0)) H) := by
 intro pins s σ H xs us Q I r h
 rcases h with ⟨i, rfl, q⟩ | ⟨k, rfl, q⟩
 · obtain ⟨u, rfl, t, rfl⟩ := vals1 r
   exact call_int_int ⟨.int i, H, I, ⟨_, rfl⟩, q⟩
 · obtain ⟨u, rfl, r1⟩ := vals1 r
   cases r1
   exact call_int_bool ⟨.int (if k then 1 else 0), H, I.tok _, ⟨_, rfl⟩, q⟩
end
end L2

namespace L2
open PySem PySem.Spec PyProof.Rows

structure ObjM (h : Heap) (x dx C : Addr) (mA : Str → Option Value) : Prop where
 obj : h.get? x = some (PySem.W.instObj C dx)
 ns : h.Ns1 dx mA
 ne : dx ≠ x

theorem lookIn_ns {h : Heap} {dx : Addr} {mA : Str → Option Value} (n : h.Ns1 dx mA) : ∃ od, h.get? dx = some od ∧ ∀ name, PySem.W.lookIn name od = some (mA name) := by
 obtain ⟨o, es, ep, ho, hd, hk, _, hm⟩ := n
 refine ⟨o, ho, fun name => ?_⟩
 have e := hm name
 unfold nsFind findBy at e
 rw [← Array.find?_toList] at e
 unfold PySem.W.lookIn
 rw [hd]
 dsimp only
 split
 · rename_i y q
   rw [q] at e
   exact congrArg some e
 · rename_i q
   rw [q] at e
   have a : es.toList.any (·.refKey) = false := by
    rw [List.any_eq_false]
    intro y hy
    obtain ⟨z, t, hkey⟩ := hk y (Array.mem_toList_iff.mp hy)
    simp [DictEntry.refKey, hkey]
   have a' : ¬ es.toList.any (·.refKey) = true := by rw [a]; exact Bool.false_ne_true
   rw [if_neg a']
   exact congrArg some e

theorem ObjM.look {h : Heap} {x dx C : Addr} {mA : Str → Option Value} (I : ObjM h x dx C mA) : ∃ od, PySem.W.InstAt h x (PySem.W.instObj C dx) C (some od) ∧ ∀ name, PySem.W.lookIn name od = some (mA name) :=
 let ⟨od, ho, hl⟩ := lookIn_ns I.ns
 ⟨od, ⟨I.obj, rfl, rfl, ho⟩, hl⟩

section
variable {prog : Program} {w : World} {A : Around} {E : Value → Shared → Prop} {s : Shared} {K : PySem.W.Frag} {x dx C f : Addr} {mA : Str → Option Value} {name : Str} {v : Value}

end

section
variable {P : Program} {w : World} {H H' : Hp} {h h' : Heap} {a C dx : Addr} {fs fs' : List (Str × V)}
theorem ins_get (hok : HOk P w H h) (e : H a = some (.ins C dx fs)) : ∃ mA, ObjM h a dx C mA ∧ (∀ f, RelO (fs.lookup f) (mA f)) ∧ PySem.Within mA (fs.map (·.1)) ∧ fs.length ≤ 1000 ∧ H dx = some (.own a) := by
 obtain ⟨d, z, ne, ob, mA, n, r, q⟩ := (show ObjOk P w H h a (.ins C dx fs) from hok a _ e)
 exact ⟨mA, ⟨ob, n, ne⟩, r, q, z, d⟩
end

structure Cls (K : PySem.W.Frag) (C : Addr) : Prop where
 pg : PySem.W.plainGet K C Str.empty = true
 hd : PySem.W.hasDictIn K C = true
 po : PySem.W.plainOver K C = true
 sa : PySem.W.findIn K (.ref C) "__setattr__" = some (some (.builtin "object.__setattr__"))
theorem Cls.get {K : PySem.W.Frag} {C : Addr} (c : Cls K C) (f : Str) : PySem.W.plainGet K C f = true := c.pg
section
variable {X : Cx} {pins : List (Addr × Obj)} {σ : St} {H : Hp} {s : Shared} {a C dx : Addr} {fs : List (Str × V)} {f : Str} {v : V} {A : Around} {E : Value → Shared → Prop}

end

section
variable {X : Cx} {o e value : Expr} {f : Str} {pos pos' tpos : Pos} {ta tv : TE}
end

section
variable {X : Cx} {pins : List (Addr × Obj)} {σ : St} {H : Hp} {s : Shared} {A : Around} {E : Value → Shared → Prop} {Q : Value → Shared → Prop} {c : Value} {b : Bool}
inductive TyOf (K : PySem.W.Frag) (H : Hp) : V → Value → Prop where
 | non : TyOf K H .non (.type "NoneType")
 | bl (x : Bool) : TyOf K H (.bl x) (.type "bool")
 | int (i : Int) : TyOf K H (.int i) (.type "int")
 | str (x : Str) : TyOf K H (.str x) (.type "str")
 | flt (x : UInt64) : TyOf K H (.flt x) (.type "float")
 | lst {a : Addr} {xs : List V} (e : H a = some (.lst xs)) : TyOf K H (.ref a) (.type "list")
 | frz {a : Addr} {o : Obj} {xs : List V} (e : H a = some (.frz o (.lst xs))) : TyOf K H (.ref a) (.type "list")
 | tup {a : Addr} {xs : List V} (e : H a = some (.tup xs)) : TyOf K H (.ref a) (.type "tuple")
 | dK {a : Addr} {kvs : List (Key × V)} (e : H a = some (.dK kvs)) : TyOf K H (.ref a) (.type "dict")
 | dT {a : Addr} {kvs : List (List Key × V)} (e : H a = some (.dT kvs)) : TyOf K H (.ref a) (.type "dict")
 | ins {a C dx : Addr} {fs : List (Str × V)} (e : H a = some (.ins C dx fs)) (cl : Cls K C) (ha : PySem.W.findIn K (.ref C) "__class__" = some (some (.builtin "object.__class__")))
  (hn : PySem.W.specialIn K (.builtin "object.__class__") "__get__" = some (some (.builtin "getset_descriptor.__get__"))) (htk : PySem.W.takesIn K (.builtin "object.__class__") = some true)
  (hm : PySem.W.mroIn K C (.type "object") = some true) : TyOf K H (.ref a) (.ref C)
theorem isinst_ok {x : V} {u t : Value} (I : Inv X pins σ H s) (rx : RelV x u) (ty : TyOf X.K H x t) (e : PySem.W.kitOne X.K t c = some b) (h : ∀ tk, Q (.bool b) { s with toks := tk }) :
 wpAny (model X.prog X.w) A (call (.builtin "isinstance") [u, c]) Q E s := by
 cases ty with
 | non => cases (show u = Value.none from rx); exact PySem.W.kia_one PySem.W.kitx_none I.kIn True.intro e (fun z => nomatch z) h
 | bl y => cases (show u = Value.bool y from rx); exact PySem.W.kia_one PySem.W.kitx_bool I.kIn True.intro e (fun z => nomatch z) h
 | int i => obtain ⟨t, q⟩ := (show ∃ t, u = Value.int i t from rx); cases q; exact PySem.W.kia_one PySem.W.kitx_int I.kIn True.intro e (fun z => nomatch z) h
 | str y => obtain ⟨t, q⟩ := (show ∃ t, u = Value.str y t from rx); cases q; exact PySem.W.kia_one PySem.W.kitx_str I.kIn True.intro e (fun z => nomatch z) h
 | flt y => obtain ⟨t, q⟩ := (show ∃ t, u = Value.float y t from rx); cases q; exact PySem.W.kia_one PySem.W.kitx_float I.kIn True.intro e (fun z => nomatch z) h
 | @lst a xs ea =>
   cases (show u = Value.ref a from rx)
   obtain ⟨_, _, n, _, h1⟩ := (show ObjOk X.prog X.w H s.heap a (.lst xs) from I.hok a _ ea)
   exact PySem.W.kia_one PySem.W.kitx_list I.kIn ⟨_, h1, rfl⟩ e (fun z => nomatch z) h
 | @frz a ob xs ea =>
   cases (show u = Value.ref a from rx)
   obtain ⟨_, _, _, n, _, h1⟩ := (show ObjOk X.prog X.w H s.heap a (.frz ob (.lst xs)) from I.hok a _ ea)
   exact PySem.W.kia_one PySem.W.kitx_list I.kIn ⟨_, h1, rfl⟩ e (fun z => nomatch z) h
 | @tup a xs ea =>
   cases (show u = Value.ref a from rx)
   obtain ⟨_, _, _, p⟩ := (show ObjOk X.prog X.w H s.heap a (.tup xs) from I.hok a _ ea)
   obtain ⟨o, h1, h2, _⟩ := p.tup
   exact PySem.W.kia_one PySem.W.kitx_tuple I.kIn ⟨o, h1, h2⟩ e (fun z => nomatch z) h
 | @dK a kvs ea =>
   cases (show u = Value.ref a from rx)
   obtain ⟨_, _, vs, _, p⟩ := (show ObjOk X.prog X.w H s.heap a (.dK kvs) from I.hok a _ ea)
   obtain ⟨o, es, ep, h1, h2, _⟩ := p
   exact PySem.W.kia_one PySem.W.kitx_dict I.kIn ⟨o, h1, h2.1⟩ e (fun z => nomatch z) h
 | @dT a kvs ea =>
   cases (show u = Value.ref a from rx)
   obtain ⟨_, _, xs, _, o, es, ep, h1, h2, _⟩ := (show ObjOk X.prog X.w H s.heap a (.dT kvs) from I.hok a _ ea)
   exact PySem.W.kia_one PySem.W.kitx_dict I.kIn ⟨o, h1, h2.1⟩ e (fun z => nomatch z) h
 | @ins a C dx fs ea cl ha hn htk hm =>
   cases (show u = Value.ref a from rx)
   obtain ⟨mA, O, _⟩ := ins_get I.hok ea
   obtain ⟨od, J, _⟩ := O.look
   exact PySem.W.kia_one (PySem.W.kitx_own (cl.get _) cl.hd ha hn htk hm) I.kIn J e (fun z => nomatch z) h
end
end L2

namespace L2
open PySem PySem.Spec PyProof.Rows

structure Room (k : Nat) (A : Around) : Prop where
 hd : A.handled = none
 dp : A.depth + 3 * k + 5 < recursionLimit
 un : A.units + 16 * k + 200 < cLine
 gd : A.guards = some []
theorem Room.mono {j k : Nat} {A : Around} (r : Room k A) (h : j ≤ k) : Room j A := ⟨r.hd, by have := r.dp; omega, by have := r.un; omega, r.gd⟩
theorem Room.deeper {k : Nat} {A : Around} (r : Room (k + 1) A) (env : Env) : Room k (A.deeper env) :=
 ⟨r.hd, by have := r.dp; show A.depth + 1 + 3 * k + 5 < _; omega, by have := r.un; show A.units + 3 + 16 * k + 200 < _; omega, r.gd⟩
theorem Room.depth {k : Nat} {A : Around} (r : Room k A) : A.depth < recursionLimit := by have := r.dp; omega
theorem Room.units {k : Nat} {A : Around} (r : Room k A) : A.units + 64 < cLine := by have := r.un; omega
noncomputable def tNil : TA := fun _ H Q => Q [] H
noncomputable def tCons (ta : TE) (tr : TA) : TA := fun σ H Q => ta σ H fun x H1 => tr σ H1 fun xs H2 => Q (x :: xs) H2
section
variable {X : Cx} {e : Expr} {es : List Expr} {te : TE} {t : TA} {pos : Pos}
theorem pa_nil : PA X [] tNil := fun _ _ _ _ H Q I h => Calls.spliced_nil ⟨[], H, I, .nil, h⟩
theorem pa_cons (ha : PE X e te) (hr : PA X es t) (hs : starEach (e :: es) X.env = (false, eval e X.env) :: starEach es X.env := by rfl) : PA X (e :: es) (tCons te t) := by
 intro pos pins s σ H Q I h
 rw [hs]
 show wpAny _ _ (spliced ((false, eval e X.env) :: backTo pos (starEach es X.env))) _ _ s
 refine Calls.spliced_cons (thn (ha pins s σ H _ I h) fun u s1 ⟨x, H1, I1, r1, q1⟩ => ?_)
 exact thn (hr pos pins s1 σ H1 _ I1 q1) fun us s2 ⟨xs, H2, I2, r2, q2⟩ => ⟨x :: xs, H2, I2, .cons r1 r2, q2⟩

noncomputable def tTup (t : TA) : TE := fun σ H Q => t σ H fun xs H1 => xs.length ≤ sizeLine ∧ ∀ p, H1 p = none → Q (.ref p) (upd H1 p (.tup xs))
noncomputable def tLst (t : TA) : TE := fun σ H Q => t σ H fun xs H1 => xs.length ≤ sizeLine ∧ ∀ p, H1 p = none → Q (.ref p) (upd H1 p (.lst xs))
theorem pe_tup {x1} (h : PA X es t) : PE X (.Tuple es x1 pos) (tTup t) := by
 intro pins s σ H Q I hq
 refine wpAny_Tuple_spliced (thn (h pos pins s σ H _ I hq) fun us s1 ⟨xs, H1, I1, r, z, q⟩ => ⟨by rw [← r.length]; exact z, ?_⟩)
 have hf : H1 s1.heap.objs.size = none := I1.hok.fresh (Nat.le_refl _)
 refine ⟨.ref s1.heap.objs.size, upd H1 s1.heap.objs.size (.tup xs), I1.laid (t' := s1.toks) (fun b u e => Heap.get?_push_of_some _ e) (Nat.le_refl _) ?_, rfl, q _ hf⟩
 exact ⟨z, us, r, ⟨_, Heap.get?_push_size _ rfl, rfl, _, rfl⟩⟩
theorem pe_lst (h : PA X es t) : PE X (.List es pos) (tLst t) := by
 intro pins s σ H Q I hq
 refine wpAny_List_spliced (thn (h pos pins s σ H _ I hq) fun us s1 ⟨xs, H1, I1, r, z, q⟩ => ⟨by rw [← r.length]; exact z, ?_⟩)
 have hf : H1 s1.heap.objs.size = none := I1.hok.fresh (Nat.le_refl _)
 refine ⟨.ref s1.heap.objs.size, upd H1 s1.heap.objs.size (.lst xs), I1.laid (t' := s1.toks) (fun b u e => Heap.get?_push_of_some _ e) (Nat.le_refl _) ?_, rfl, q _ hf⟩
 exact ⟨z, us, 0, r, Heap.get?_push_size _ rfl⟩
end

noncomputable abbrev Sp := List V → Hp → VK → XK → Prop
noncomputable abbrev CXT := List Env → Hp → Shared → XK → Value → Shared → Prop

structure Env0 (P : Program) (w : World) (K : PySem.W.Frag) (mg : Str → Option Value) (base : Heap) (A : Around) (outer : List Env) (s : Shared) (H : Hp) : Prop where
 frames : A.frames = some outer
 mod : Mod K mg base
 bs : ∀ b o, base.get? b = some o → s.heap.get? b = some o ∧ H b = none
 bsz : base.objs.size ≤ s.heap.objs.size
 funs : s.heap.FunFrames base outer
 frf : ∀ b ∈ frs outer, H b = none
 hok : HOk P w H s.heap
 bare : AllBare s.gens
noncomputable def CE (outer : List Env) (P : Program) (w : World) (H : Hp) (s : Shared) (Q : VK) (u : Value) (s' : Shared) : Prop :=
 ∃ v H', s'.os = s.os ∧ AllBare s'.gens ∧ Un (frs outer) [] H H' s.heap s'.heap ∧ HOk P w H' s'.heap ∧ RelV v u ∧ Q v H'
noncomputable def CR (CX : CXT) (outer : List Env) (P : Program) (w : World) (H : Hp) (s : Shared) (Q : VK) (E : XK) (r : Result) (s' : Shared) : Prop :=
 match r with
 | .ok (.ret u) => CE outer P w H s Q u s'
 | .ok _ => False
 | .error e => CX outer H s E e s'
structure FnOk (P : Program) (w : World) (K : PySem.W.Frag) (mg : Str → Option Value) (base : Heap) (CX : CXT) (k : Nat) (f : Addr) (fd : FuncData) (ps : List Str) (sp : Sp) : Prop where
 len : ∀ vs H Q E, sp vs H Q E → vs.length = ps.length
 run : ∀ (A : Around) (outer : List Env) (s : Shared) (H : Hp) (args : Args) (us : List Value) (vs : List V) (Q : VK) (E : XK), Room k A → Env0 P w K mg base A outer s H → BindsTo s fd args (ps.zip us) → Vals vs us → sp vs H Q E →
  codeAny (model P w) A (.call (.ref f) args) (CR CX outer P w H s Q E) s
theorem FnOk.imp {P : Program} {w : World} {K : PySem.W.Frag} {mg : Str → Option Value} {base : Heap} {CX : CXT} {k : Nat} {f : Addr} {fd : FuncData} {ps : List Str} {sp sp' : Sp} (F : FnOk P w K mg base CX k f fd ps sp)
 (h : ∀ vs H Q E, sp' vs H Q E → sp vs H Q E) : FnOk P w K mg base CX k f fd ps sp' :=
 ⟨fun vs H Q E q => F.len vs H Q E (h _ _ _ _ q), fun A outer s H args us vs Q E hr he hb hv hs => F.run A outer s H args us vs Q E hr he hb hv (h _ _ _ _ hs)⟩

section
variable {X : Cx} {pins : List (Addr × Obj)} {σ : St} {H : Hp} {s s' : Shared}
theorem Inv.env0 (I : Inv X pins σ H s) : Env0 X.prog X.w X.K X.mg X.base X.A X.stack s H :=
 ⟨I.ok.frames, I.ok.mod, I.bs, Nat.le_trans I.ok.bsz I.sz, I.stack, I.stkFree, I.hok, I.bare⟩
theorem Inv.after {Q : VK} {u : Value} (I : Inv X pins σ H s) (h : CE X.stack X.prog X.w H s Q u s') : EP X pins σ Q u s' := by
 obtain ⟨v, H', os, bare, un, hok, r, q⟩ := h
 obtain ⟨hh, g, d, t, os'⟩ := s'
 obtain rfl : os' = s.os := os
 exact ⟨v, H', I.call (h' := hh) (g' := g) (d' := d) (t' := t) (ch := []) un hok bare (fun b z => absurd z (by simp)), r, q⟩
end

noncomputable def tCall (sp : Sp) (dvs : List V) (E : XK) (t : TA) : TE := fun σ H Q => t σ H fun vs H1 => sp (vs ++ dvs) H1 Q E
noncomputable def Binds (K : PySem.W.Frag) (fd : FuncData) (ps : List Str) (ds : List Value) : Prop :=
 ∀ (s : Shared) (us : List Value), K.In s.heap → (us ++ ds).length = ps.length → BindsTo s fd ⟨us, []⟩ (ps.zip (us ++ ds))
theorem Binds.all {K : PySem.W.Frag} {fd : FuncData} {ps : List Str} (h : ∀ us : List Value, us.length = ps.length → bindArgs fd ⟨us, []⟩ = pure (ps.zip us)) : Binds K fd ps [] := fun s us _ hl => by
 rw [List.append_nil] at hl ⊢
 exact .of_eq (h us hl)

noncomputable def Passes (CX : CXT) (X : Cx) (E : XK) : Prop := ∀ (pins : List (Addr × Obj)) (σ : St) (H : Hp) (s : Shared) (e : Value) (s' : Shared), Inv X pins σ H s → CX X.stack H s E e s' → X.xe e s'

section
variable {X : Cx} {CX : CXT} {k : Nat} {f C : Addr} {fd : FuncData} {ps : List Str} {sp : Sp} {dvs : List V} {ds : List Value} {E : XK} {x m : Str} {p pos apos : Pos} {e o : Expr} {es : List Expr} {ta : TE} {t : TA}

theorem run_fn {pins : List (Addr × Obj)} {σ : St} {H : Hp} {s : Shared} {Q : VK} {us : List Value} {vs : List V} (F : FnOk X.prog X.w X.K X.mg X.base CX k f fd ps sp) (hr : Room k X.A) (hb : Binds X.K fd ps ds) (hd : Vals dvs ds) (hx : Passes CX X E)
 (I : Inv X pins σ H s) (r : Vals vs us) (h : sp (vs ++ dvs) H Q E) : wpAny (model X.prog X.w) X.A (call (.ref f) us) (EP X pins σ Q) X.xe s := by
 have r2 : Vals (vs ++ dvs) (us ++ ds) := r.append hd
 have hl : (us ++ ds).length = ps.length := by rw [← r2.length]; exact F.len _ _ _ _ h
 refine wpAny_call (codeAny_mono (F.run X.A X.stack s H ⟨us, []⟩ (us ++ ds) (vs ++ dvs) Q E hr I.env0 (hb s us I.kIn hl) r2 h) fun r s' hq => ?_)
 cases r with
 | error e => exact hx pins σ H s e s' I hq
 | ok fl =>
   cases fl with
   | ret u => exact I.after hq
   | next => exact False.elim hq
   | brk => exact False.elim hq
   | cont => exact False.elim hq

theorem pe_call (F : FnOk X.prog X.w X.K X.mg X.base CX k f fd ps sp) (hr : Room k X.A) (hg : Gl X x) (hm : X.mg x = some (.ref f)) (hk : PySem.W.keepIn X.K (.ref f) = true) (hb : Binds X.K fd ps ds) (hd : Vals dvs ds) (hx : Passes CX X E)
 (ha : PA X (e :: es) t) (hdb : (x == ("__debug__" : Str)) = false := by decide) (he : starEach (e :: es) X.env = (false, eval e X.env) :: starEach es X.env := by rfl) (hpl : (backTo pos (starEach es X.env)).any (·.1) = false := by rfl) :
 PE X (.Call (.Name x p) (e :: es) [] pos) (tCall sp dvs E t) := by
 intro pins s σ H Q I h
 refine wpAny_Call_Name_kw (ld_glob I hg hm ?_ hdb)
 refine PySem.W.callWith_K (h₀ := X.base) I.ok.mod.kin hk (thn (ha pos pins s σ H _ I h) fun us s1 ⟨vs, H1, I1, r, q⟩ => ⟨I1.kIn, ?_⟩) he hpl
 exact run_fn F hr hb hd hx I1 r q
end

section
variable {X : Cx} {CX : CXT} {k : Nat} {f C : Addr} {fd : FuncData} {ps ks : List Str} {sp : Sp} {E : XK} {x m : Str} {p pos apos kpos : Pos} {e o : Expr} {es : List Expr} {kws : List Keyword} {te ta : TE} {t tk : TA} {nm : Option Str}
variable {g : List Value → List Value → List Value} {gV : List V → List V → List V}
end

structure FnScope (N P : List Str) (sc : Scope) : Prop where
 kind : sc.kind = .function
 co : sc.isCoroutine = false
 gen : sc.isGenerator = false
 nd : N.Nodup
 pre : N.take P.length = P
 par : ∀ x ∈ P, sc.names.lookup x = some .local ∨ sc.names.lookup x = some .cell
 nofree : ∀ y ∈ sc.names, y.2 ≠ .free

theorem bindL_out {kindOf : Str → Option NameKind} {x : Str} : ∀ {binds : List (Str × Value)} {m : Str → Option Value}, (∀ v, (x, v) ∉ binds) → bindL kindOf binds m x = m x
 | [], _, _ => rfl
 | (n, v) :: r, m, h => by
   unfold bindL
   rw [bindL_out fun w hw => h w (List.mem_cons_of_mem _ hw)]
   split
   · have : x ≠ n := by rintro rfl; exact h v List.mem_cons_self
     simp [this]
   · rfl
theorem bindC_out {kindOf : Str → Option NameKind} {x : Str} : ∀ {binds : List (Str × Value)} {m : Str → Option Value}, (∀ v, (x, v) ∉ binds) → bindC kindOf binds m x = m x
 | [], _, _ => rfl
 | (n, v) :: r, m, h => by
   unfold bindC
   rw [bindC_out fun w hw => h w (List.mem_cons_of_mem _ hw)]
   split
   · rfl
   · have : x ≠ n := by rintro rfl; exact h v List.mem_cons_self
     simp [this]
theorem bindL_get {kindOf : Str → Option NameKind} {x : Str} {v : Value} : ∀ {P : List Str} {vs : List Value} {i : Nat} {m : Str → Option Value}, P.Nodup → P[i]? = some x → vs[i]? = some v → kindOf x = some .local →
 bindL kindOf (P.zip vs) m x = some v
 | [], _, _, _, _, h, _, _ => by simp at h
 | _ :: _, [], _, _, _, _, h, _ => by simp at h
 | p :: P, w :: vs, 0, m, nd, h1, h2, hk => by
   simp at h1 h2; subst h1; subst h2
   show bindL kindOf ((p, w) :: P.zip vs) m p = _
   unfold bindL
   rw [bindL_out fun v hv => (List.nodup_cons.mp nd).1 (List.of_mem_zip hv).1, if_pos hk]
   simp
 | p :: P, w :: vs, i + 1, m, nd, h1, h2, hk => by
   show bindL kindOf ((p, w) :: P.zip vs) m x = _
   unfold bindL
   exact bindL_get (i := i) (List.nodup_cons.mp nd).2 (by simpa using h1) (by simpa using h2) hk
theorem bindC_get {kindOf : Str → Option NameKind} {x : Str} {v : Value} : ∀ {P : List Str} {vs : List Value} {i : Nat} {m : Str → Option Value}, P.Nodup → P[i]? = some x → vs[i]? = some v → kindOf x ≠ some .local →
 bindC kindOf (P.zip vs) m x = some v
 | [], _, _, _, _, h, _, _ => by simp at h
 | _ :: _, [], _, _, _, _, h, _ => by simp at h
 | p :: P, w :: vs, 0, m, nd, h1, h2, hk => by
   simp at h1 h2; subst h1; subst h2
   show bindC kindOf ((p, w) :: P.zip vs) m p = _
   unfold bindC
   rw [bindC_out fun v hv => (List.nodup_cons.mp nd).1 (List.of_mem_zip hv).1, if_neg hk]
   simp
 | p :: P, w :: vs, i + 1, m, nd, h1, h2, hk => by
   show bindC kindOf ((p, w) :: P.zip vs) m x = _
   unfold bindC
   exact bindC_get (i := i) (List.nodup_cons.mp nd).2 (by simpa using h1) (by simpa using h2) hk

noncomputable def start (N : List Str) (vs : List V) : St := vs.map some ++ List.replicate (N.length - vs.length) none

noncomputable def cxOf (CX : CXT) (P : Program) (w : World) (K : PySem.W.Frag) (mg : Str → Option Value) (base : Heap) (N : List Str) (qual : Str) (scope : Scope) (f : Addr) (cd : Value) (A : Around) (outer : List Env) (s : Shared) (H : Hp) (E : XK) : Cx where
 prog := P
 w := w
 K := K
 mg := mg
 base := base
 A := A.deeper (envOfC qual scope s.heap.objs.size f cd)
 N := N
 s₀ := s
 H₀ := H
 env := envOfC qual scope s.heap.objs.size f cd
 outer := outer
 stack := envOfC qual scope s.heap.objs.size f cd :: outer
 ex := []
 calm := true
 fn := fun _ => true
 pn := []
 xe := fun e s' => wpAny (model P w) (A.deeper (envOfC qual scope s.heap.objs.size f cd)) (leaving (envOfC qual scope s.heap.objs.size f cd) e) (fun _ s'' => CX outer H s E e s'') (fun e' s'' => CX outer H s E e' s'') s'

theorem cell_has {sc : Scope} {n : Nat} {x : Str} (h : sc.names.lookup x = some .cell) : ∃ c, (cellsFrom n sc.names []).lookup x = some c := by
 have q := PySem.W.cellsFrom_some sc.names n [] (.inl h)
 exact Option.isSome_iff_exists.mp q

theorem inv_start {CX : CXT} {P : Program} {w : World} {K : PySem.W.Frag} {mg : Str → Option Value} {base : Heap} {N ps : List Str} {qual : Str} {scope : Scope} {f : Addr} {cd : Value} {A : Around} {outer : List Env} {s s1 : Shared} {H : Hp} {E : XK} {us : List Value} {vs : List V}
 (S : FnScope N ps scope) (hd : A.handled = none) (e0 : Env0 P w K mg base A outer s H) (hl : vs.length = ps.length) (r : Vals vs us)
 (x : InCallC s s.heap.objs.size (bindL (envOfC qual scope s.heap.objs.size f cd).kindOf (ps.zip us) fun _ => none) (cellsFrom (s.heap.objs.size + 1) scope.names []) (bindC (envOfC qual scope s.heap.objs.size f cd).kindOf (ps.zip us) fun _ => none) s1) :
 Inv (cxOf CX P w K mg base N qual scope f cd A outer s H E) [] (start N vs) H s1 := by
 have hpl : ps.length ≤ N.length := by have := congrArg List.length S.pre; rw [List.length_take] at this; omega
 obtain ⟨h1, tk, rfl, hk⟩ := x.done
 have noA : ∀ b : Addr, b ∉ (cxOf CX P w K mg base N qual scope f cd A outer s H E).ex := fun b z => absurd (show b ∈ ([] : List Addr) from z) (by simp)
 refine ⟨⟨e0.mod, S.kind, rfl, rfl, Nat.le_refl _, fun y z c h1 h2 => ?_, fun y hy => ?_, fun y c _ h => ?_, fun _ => hd, Around.frames_deeper e0.frames, .inr ⟨rfl, rfl⟩, fun b z => absurd z (noA b), e0.bs, e0.bsz, fun b _ _ => noA b, fun b z => absurd z (noA b), e0.funs, e0.frf⟩,
  rfl, e0.bare, Un.kept hk, ⟨_, x.toInCall.ns, fun i y v h1 h2 h3 => ?_⟩, fun y c h => ⟨_, x.cell y c h⟩, e0.hok.fresh (Nat.le_refl _), fun y c h => ?_, fun p hp => absurd (show p ∈ ([] : List (Addr × Obj)) from hp) (by simp), e0.hok.kept hk, ?_⟩
 · exact name_of_addr x.apart (PySem.mem_of_lookup h1) (PySem.mem_of_lookup h2)
 · have hy : scope.names.lookup y = some .cell ∨ scope.names.lookup y = some .free := hy
   rcases hy with hy | hy
   · exact cell_has hy
   · exact absurd rfl (S.nofree _ (PySem.mem_of_lookup hy))
 · exact Nat.le_of_lt (x.above y c (PySem.mem_of_lookup h))
 · have hi : i < vs.length := by
    unfold start at h2
    by_cases hi : i < vs.length
    · exact hi
    · rw [List.getElem?_append_right (by simpa using hi)] at h2
      rw [List.getElem?_replicate] at h2
      split at h2 <;> cases h2
   have ha : vs[i]? = some v := by
    unfold start at h2
    rw [List.getElem?_append_left (by simpa using hi), List.getElem?_map] at h2
    cases e : vs[i]? with
    | none => rw [e] at h2; cases h2
    | some a => rw [e] at h2; cases h2; rfl
   obtain ⟨u, hu, rv⟩ := r.get ha
   have hp : ps[i]? = some y := by
    rw [← S.pre, List.getElem?_take_of_lt (by omega)]; exact h1
   have ndP : ps.Nodup := by rw [← S.pre]; exact S.nd.sublist (List.take_sublist _ _)
   refine ⟨u, rv, ?_⟩
   rcases S.par y (List.mem_of_getElem? hp) with k | k
   · exact .inl ⟨k, bindL_get ndP hp hu k⟩
   · obtain ⟨c, e⟩ := cell_has (n := s.heap.objs.size + 1) k
     refine .inr ⟨.inl k, c, e, ?_⟩
     have q := x.cell y c e
     rw [bindC_get ndP hp hu (by show scope.names.lookup y ≠ _; rw [k]; decide)] at q
     exact q
 · exact e0.hok.fresh (Nat.le_of_lt (x.above y c (PySem.mem_of_lookup h)))
 · unfold start
   show _ = N.length
   rw [List.length_append, List.length_map, List.length_replicate]
   omega

theorem fn_of {CX : CXT} {P : Program} {w : World} {K : PySem.W.Frag} {mg : Str → Option Value} {base : Heap} {k : Nat} {f : Addr} {name qual : Str} {params : Arguments} {body : List Stmt} {scope : Scope} {dV kV doc pm cdv ct oc : Value} {an od : Option Addr}
 {osl : Array (Option Value)} {N ps : List Str} {sp : Sp} (lk : K.lookup f = some ⟨oc, od, .func (PySem.W.fnOf name qual params body scope dV kV doc pm an cdv ct), osl⟩) (hcd : PySem.W.codeIn K cdv qual = true) (S : FnScope N ps scope)
 (len : ∀ vs H Q E, sp vs H Q E → vs.length = ps.length)
 (hbody : ∀ (A : Around) (outer : List Env) (s : Shared) (H : Hp) (vs : List V) (Q : VK) (E : XK), Room k (A.deeper (envOfC qual scope s.heap.objs.size f cdv)) → sp vs H Q E →
  ∃ t, PSs (cxOf CX P w K mg base N qual scope f cdv A outer s H E) body t ∧ t { nx := fun _ H' => Q .non H', rt := Q } (start N vs) H) :
 FnOk P w K mg base CX (k + 1) f (PySem.W.fnOf name qual params body scope dV kV doc pm an cdv ct) ps sp := by
 refine ⟨len, fun A outer s H args us vs Q E hr e0 hb r hsp => ?_⟩
 have hl := len _ _ _ _ hsp
 have KX : K.In s.heap := e0.mod.kin.keeps fun b o e => (e0.bs b o e).1
 have lim : s.heap.NoLimit := e0.mod.nolimit.keeps fun b o e => (e0.bs b o e).1
 have hkind : ∀ y ∈ ps.zip us, scope.names.lookup y.1 = some .local ∨ (scope.names.lookup y.1 = some .cell ∧ ((cellsFrom (s.heap.objs.size + 1) scope.names []).lookup y.1).isSome = true) := fun ⟨n, v⟩ hy => by
  rcases S.par n (List.of_mem_zip hy).1 with q | q
  · exact .inl q
  · exact .inr ⟨q, PySem.W.cellsFrom_some _ _ _ (.inl q)⟩
 refine codeAny_call_function hr.depth (KX _ _ lk) rfl S.co S.gen rfl (PySem.W.codeRec_of KX hcd) (hb _ _ _ _ ?_)
 refine wpAny_newFunctionEnv_cells S.kind hkind fun env he s1 x => ?_
 subst he
 refine ⟨lim.keeps x.toInCall.keep, codeAny_func ?_⟩
 obtain ⟨t, ht, hq⟩ := hbody A outer s H vs Q E (hr.deeper _) hsp
 have I : Inv (cxOf CX P w K mg base N qual scope f cdv A outer s H E) [] (start N vs) H s1 := inv_start S hr.hd e0 hl r x
 refine wpAny_mono (ht [] s1 (start N vs) H _ I hq) (fun fl s' hs => ?_) fun e s' hs => hs
 have fin : ∀ {σ' : St} {H' : Hp} {v : V} {u : Value}, Inv (cxOf CX P w K mg base N qual scope f cdv A outer s H E) [] σ' H' s' → RelV v u → Q v H' → CE outer P w H s Q u s' :=
  fun {σ' H' v u} J rv q => ⟨v, H', J.os, J.bare, J.base, J.hok, rv, q⟩
 cases fl with
 | ret u =>
   obtain ⟨v, σ', H', J, rv, q⟩ := hs
   exact fin J rv q
 | next =>
   obtain ⟨σ', H', J, q⟩ := hs
   exact fin (v := V.non) (u := Value.none) J rfl q
 | brk =>
   obtain ⟨_, _, _, q⟩ := hs
   exact False.elim q
 | cont =>
   obtain ⟨_, _, _, q⟩ := hs
   exact False.elim q
end L2

namespace L2
open PySem PySem.Spec PyProof.Rows
section
variable {X : Cx} {x : Str} {p pos : Pos} {e : Expr} {es : List Expr} {t : TA} {id T : String} {r : List V → Hp → VK → Prop}

noncomputable def tCB (r : List V → Hp → VK → Prop) (t : TA) : TE := fun σ H Q => t σ H fun vs H1 => r vs H1 Q
theorem pe_callB (hc : CallR X (.builtin id) r) (hg : Gl X x) (hm : X.mg x = none) (hv : bootBuiltins x = some (.builtin id)) (ha : PA X (e :: es) t) (hn : x ≠ "__name__" := by decide) (hdb : (x == ("__debug__" : Str)) = false := by decide)
 (he : starEach (e :: es) X.env = (false, eval e X.env) :: starEach es X.env := by rfl) (hpl : (backTo pos (starEach es X.env)).any (·.1) = false := by rfl) : PE X (.Call (.Name x p) (e :: es) [] pos) (tCB r t) := by
 intro pins s σ H Q I h
 refine wpAny_Call_Name_kw (ld_blt I hg hm hv ?_ hn hdb)
 exact PyProof.Rows.callWith_builtin1 (thn (ha pos pins s σ H _ I h) fun us s1 ⟨vs, H1, I1, r1, q1⟩ => hc pins s1 σ H1 vs us Q I1 r1 q1) he hpl
theorem pe_callTy (hc : CallR X (.type T) r) (hg : Gl X x) (hm : X.mg x = none) (hv : bootBuiltins x = some (.type T)) (ha : PA X (e :: es) t) (hn : x ≠ "__name__" := by decide) (hdb : (x == ("__debug__" : Str)) = false := by decide)
 (he : starEach (e :: es) X.env = (false, eval e X.env) :: starEach es X.env := by rfl) (hpl : (backTo pos (starEach es X.env)).any (·.1) = false := by rfl) : PE X (.Call (.Name x p) (e :: es) [] pos) (tCB r t) := by
 intro pins s σ H Q I h
 refine wpAny_Call_Name_kw (ld_blt I hg hm hv ?_ hn hdb)
 exact PyProof.Rows.callWith_type1 (thn (ha pos pins s σ H _ I h) fun us s1 ⟨vs, H1, I1, r1, q1⟩ => hc pins s1 σ H1 vs us Q I1 r1 q1) he hpl
end
end L2

namespace HT
open PySem PyProof.Rows

section
open PySem.SeqAt
open PySem.AutoSeq1 (wpAny_loadPart')
open PySem.MeetsSeq PySem.MeetsSeq2 PySem.MeetsSeq3

end

section
variable {prog : Program} {w : World} {A : Around} {E : Value → Shared → Prop} {s : Shared}

noncomputable def sIx (n d : Nat) : Option Int → Nat
 | none => d
 | some v => if v < 0 then (v + (n : Int)).toNat else min v.toNat n
end
end HT

namespace L2
open PySem PySem.Spec PyProof.Rows

noncomputable abbrev TO := St → Hp → (Option Int → Hp → Prop) → Prop
noncomputable def PO (X : Cx) (e : Option Expr) (t : TO) : Prop :=
 ∀ (pins : List (Addr × Obj)) (s : Shared) (σ : St) (H : Hp) (Q : Option Int → Hp → Prop), Inv X pins σ H s → t σ H Q →
   wpAny (model X.prog X.w) X.A (evalPart e X.env) (fun u s' => ∃ o H', Inv X pins σ H' s' ∧ IsPart u o ∧ Q o H') X.xe s
noncomputable def tNoPart : TO := fun _ H Q => Q none H
noncomputable def tPart (t : TE) : TO := fun σ H Q => t σ H fun x H1 => ∃ i, x = .int i ∧ Q (some i) H1

section
variable {X : Cx} {e : Expr} {te : TE} {lo hi : Option Expr} {tl th : TO} {pos p2 : Pos}

theorem po_none : PO X none tNoPart := by
 intro pins s σ H Q I h
 rw [evalPart_none]
 exact wpAny_pure ⟨none, H, I, .none, h⟩
theorem po_some (h : PE X e te) : PO X (some e) (tPart te) := by
 intro pins s σ H Q I hw
 rw [evalPart_some]
 refine thn (h pins s σ H _ I hw) fun u s1 ⟨x, H1, I1, r1, q1⟩ => ?_
 obtain ⟨i, rfl, q⟩ := q1
 obtain ⟨t, rfl⟩ := r1
 exact ⟨some i, H1, I1, .int i t, q⟩

noncomputable def SlR (X : Cx) (r : V → Option Int → Option Int → Hp → VK → Prop) : Prop :=
 ∀ (pins : List (Addr × Obj)) (s : Shared) (σ : St) (H : Hp) (x : V) (v vl vu : Value) (lo hi : Option Int) (sl : Addr) (Q : VK), Inv X pins σ H s → RelV x v → s.heap.IsSliceOf sl vl vu .none → IsPart vl lo → IsPart vu hi → r x lo hi H Q →
   ∃ T id, typeLookup (.type T) "__getitem__" = pure (some (.builtin id)) ∧ s.TypeIs v T ∧ wpAny (model X.prog X.w) X.A (getItem v (.ref sl)) (EP X pins σ Q) X.xe s
noncomputable def tSl (r : V → Option Int → Option Int → Hp → VK → Prop) (te : TE) (tl th : TO) : TE := fun σ H Q => te σ H fun x H1 => tl σ H1 fun l H2 => th σ H2 fun u H3 => r x l u H3 Q
theorem pe_slice {r : V → Option Int → Option Int → Hp → VK → Prop} (hr : SlR X r) (he : PE X e te) (hl : PO X lo tl) (hu : PO X hi th) : PE X (.Subscript e (.Slice lo hi none p2) pos) (tSl r te tl th) := by
 intro pins s σ H Q I h
 refine Subscript_ (thn (he pins s σ H _ I h) fun v s1 ⟨x, H1, I1, r1, q1⟩ => ?_)
 refine wpAny_Slice (thn (hl pins s1 σ H1 _ I1 q1) fun vl s2 ⟨l, H2, I2, pl, q2⟩ => thn (hu pins s2 σ H2 _ I2 q2) fun vu s3 ⟨u, H3, I3, pu, q3⟩ => ?_)
 rw [evalPart_none]
 refine wpAny_pure ?_
 have I4 : Inv X pins σ H3 { s3 with heap := s3.heap.push { cls := .type "slice", data := .fields #[vl, vu, .none] } } := I3.kept (t' := s3.toks) fun b ob q => Heap.get?_push_of_some _ q
 obtain ⟨T, id, hT, ht, hg⟩ := hr pins { s3 with heap := s3.heap.push { cls := .type "slice", data := .fields #[vl, vu, .none] } } σ H3 x v vl vu l u s3.heap.objs.size Q I4 r1 (Heap.IsSliceOf.new ..) pl pu q3
 show wpAny (model X.prog X.w) X.A (subscriptTail e (.Slice lo hi none p2) v (.ref s3.heap.objs.size)) (EP X pins σ Q) X.xe { s3 with heap := s3.heap.push { cls := .type "slice", data := .fields #[vl, vu, .none] } }
 exact tail_any (ops := [.ref s3.heap.objs.size, v]) ht hT hg (by with_unfolding_all rfl)

noncomputable def cutV (xs : List V) (lo hi : Option Int) : List V := (xs.drop (HT.sIx xs.length 0 lo)).take (HT.sIx xs.length xs.length hi - HT.sIx xs.length 0 lo)
theorem cutV_length (xs : List V) (lo hi : Option Int) : (cutV xs lo hi).length ≤ xs.length := by
 unfold cutV
 rw [List.length_take, List.length_drop]
 omega
end
end L2

namespace L2
open PySem PySem.Spec PyProof.Rows

noncomputable def ixN (n : Nat) (i : Int) : Option Nat := if 0 ≤ i then (if i < n then some i.toNat else none) else if -(n : Int) ≤ i then some (i + n).toNat else none
noncomputable def atI {α : Type} (xs : List α) (i : Int) : Option α := (ixN xs.length i).bind fun j => xs[j]?
theorem ixN_seq {n : Nat} {i : Int} {j : Nat} (h : ixN n i = some j) : seqIndex? i n = some j ∧ j < n ∧ -(n : Int) ≤ i ∧ i < n := by
 unfold ixN at h
 by_cases h0 : 0 ≤ i
 · rw [if_pos h0] at h
   by_cases h1 : i < n
   · rw [if_pos h1] at h
     have e : i.toNat = j := Option.some.inj h
     exact ⟨by rw [seqIndex_of h0 h1, e], by omega, by omega, h1⟩
   · rw [if_neg h1] at h; cases h
 · rw [if_neg h0] at h
   by_cases h1 : -(n : Int) ≤ i
   · rw [if_pos h1] at h
     have e : (i + n).toNat = j := Option.some.inj h
     exact ⟨by rw [seqIndex_neg (by omega) h1, e], by omega, h1, by omega⟩
   · rw [if_neg h1] at h; cases h
theorem atI_get {α : Type} {xs : List α} {i : Int} {v : α} (h : atI xs i = some v) : ∃ j, seqIndex? i xs.length = some j ∧ xs[j]? = some v ∧ j < xs.length ∧ -(xs.length : Int) ≤ i ∧ i < xs.length := by
 unfold atI at h
 cases e : ixN xs.length i with
 | none => rw [e] at h; cases h
 | some j =>
   rw [e] at h
   obtain ⟨h1, h2, h3, h4⟩ := ixN_seq e
   exact ⟨j, h1, h, h2, h3, h4⟩
theorem atI_nat {α : Type} {xs : List α} {j : Nat} {v : α} (h : xs[j]? = some v) : atI xs (j : Int) = some v := by
 have hj : j < xs.length := (List.getElem?_eq_some_iff.mp h).1
 have e : ixN xs.length (j : Int) = some j := by
  unfold ixN
  rw [if_pos (by omega), if_pos (by omega)]; simp
 unfold atI; rw [e]; exact h
noncomputable def PlainIx (b : Expr) : Prop := ∀ o i, subscripted b false o i = operate [o, i] (getItem o i)
noncomputable def IxR (X : Cx) (r : R2) : Prop :=
 ∀ (value slice : Expr) (pins : List (Addr × Obj)) (s : Shared) (σ : St) (H : Hp) (x y : V) (v u : Value) (Q : VK), Inv X pins σ H s → RelV x v → RelV y u → r x y H Q →
   subscripted slice false v u = operate [v, u] (getItem v u) → wpAny (model X.prog X.w) X.A (subscriptTail value slice v u) (EP X pins σ Q) X.xe s
noncomputable def MtR (X : Cx) (id : String) (r : V → List V → Hp → VK → Prop) : Prop :=
 ∀ (pins : List (Addr × Obj)) (s : Shared) (σ : St) (H : Hp) (x : V) (xs : List V) (v : Value) (us : List Value) (Q : VK), Inv X pins σ H s → RelV x v → Vals xs us → r x xs H Q →
   wpAny (model X.prog X.w) X.A (call (.builtin id) (v :: us)) (EP X pins σ Q) X.xe s
section
variable {X : Cx} {a b : Expr} {ta tb : TE} {pos : Pos}
theorem pe_ix {r : R2} (hr : IxR X r) (ha : PE X a ta) (hb : PE X b tb) (hs : PlainIx b) : PE X (.Subscript a b pos) (tOp r ta tb) := by
 intro pins s σ H Q I h
 exact Subscript_ (binT ha hb I h fun v u s2 x y H2 I2 rx ry q => hr a b pins s2 σ H2 x y v u Q I2 rx ry q (hs _ _))

noncomputable def rIxL (K : PySem.W.Frag) : R2 := fun x y H Q => ∃ p xs i v, x = .ref p ∧ y = .int i ∧ SqL K H p xs ∧ atI xs i = some v ∧ Q v H
noncomputable def rIxT (K : PySem.W.Frag) : R2 := fun x y H Q => ∃ p xs i v, x = .ref p ∧ y = .int i ∧ SqT K H p xs ∧ atI xs i = some v ∧ Q v H
theorem ix_list : IxR X (rIxL X.K) := by
 intro value slice pins s σ H x y v u Q I rx ry h hs
 obtain ⟨p, xs, i, z, rfl, rfl, hq, he, q⟩ := h
 cases rx
 obtain ⟨t, rfl⟩ := ry
 obtain ⟨its, r, pl, hz⟩ := I.list hq
 obtain ⟨j, h1, h2, h3, h4, h5⟩ := atI_get he
 obtain ⟨w, ew, rw'⟩ := r.get h2
 have hl := r.length
 have hn := line63
 have fin : EP X pins σ Q w s := ⟨z, H, I, rw', q⟩
 by_cases h0 : 0 ≤ i
 · have hj : i.toNat = j := by
    rw [seqIndex_of h0 h5] at h1
    exact Option.some.inj h1
   exact item_listR pl.isList h0 (by omega) (by rw [hj]; simpa using ew) fin hs
 · have hj : (i + (its.toArray.size : Int)).toNat = j := by
    rw [seqIndex_neg (by omega) h4] at h1
    rw [List.size_toArray, ← hl]
    exact Option.some.inj h1
   exact subscriptTail_builtinR (x := w) pl.isList.typeIs slot_list_getitem.lookup
    (wpAny_getItem_list_neg (Q := fun r s' => r = w ∧ EP X pins σ Q r s') pl.isList (by omega) (by rw [List.size_toArray] <;> omega) (by omega) (by rw [hj]; simpa using ew) ⟨rfl, fin⟩) hs
theorem ix_tup : IxR X (rIxT X.K) := by
 intro value slice pins s σ H x y v u Q I rx ry h hs
 obtain ⟨p, xs, i, z, rfl, rfl, hq, he, q⟩ := h
 cases rx
 obtain ⟨t, rfl⟩ := ry
 obtain ⟨its, r, pl, hz⟩ := I.tuple hq
 obtain ⟨j, h1, h2, h3, h4, h5⟩ := atI_get he
 obtain ⟨w, ew, rw'⟩ := r.get h2
 have hl := r.length
 have hn := line63
 have fin : EP X pins σ Q w s := ⟨z, H, I, rw', q⟩
 exact subscriptTail_builtinR (x := w) pl.typeIs slot_tuple_getitem.lookup
  (getItem_tuple (j := j) (Q := fun r s' => r = w ∧ EP X pins σ Q r s') pl (by omega) (by omega) (by rw [List.size_toArray, ← hl]; exact h1) (by simpa using ew) ⟨rfl, fin⟩) hs
theorem mapSeq_set (its : List Value) (n j : Nat) (u : Value) : Obj.mapSeq (·.setIfInBounds j u) { cls := .type "list", data := .seq its.toArray n } = { cls := .type "list", data := .seq (its.set j u).toArray n } := by
 simp [Obj.mapSeq]
theorem Inv.lst {pins : List (Addr × Obj)} {σ : St} {H : Hp} {s : Shared} {p : Addr} {xs : List V} (I : Inv X pins σ H s) (h : H p = some (.lst xs)) :
 ∃ (its : List Value) (n : Nat), Vals xs its ∧ s.heap.get? p = some { cls := .type "list", data := .seq its.toArray n } ∧ xs.length ≤ sizeLine := by
 obtain ⟨z, its, n, r, e⟩ := I.hok p _ h
 exact ⟨its, n, r, e, z⟩
theorem Inv.lstUpd {pins : List (Addr × Obj)} {σ : St} {H : Hp} {s : Shared} {p : Addr} {xs ys : List V} {its its' : List Value} {n n' : Nat} {f : Obj → Obj} (I : Inv X pins σ H s) (h : H p = some (.lst xs))
 (ho : s.heap.get? p = some { cls := .type "list", data := .seq its.toArray n }) (hf : f { cls := .type "list", data := .seq its.toArray n } = { cls := .type "list", data := .seq its'.toArray n' }) (r : Vals ys its') (hz : ys.length ≤ sizeLine) (t : Nat) :
 Inv X pins σ (upd H p (.lst ys)) { s with heap := s.heap.update p f, toks := t } := by
 have e : (s.heap.update p f).get? p = some { cls := .type "list", data := .seq its'.toArray n' } := by
  rw [Heap.get?_update_self f ho (by rw [hf] <;> rfl), hf]
 refine I.write (x := p) (e := p) (by rw [h]; trivial) (.inl rfl) (fun b u hb q => (Heap.get?_update_other _ _ (Ne.symm hb)).trans q) ⟨_, e⟩ ?_
 exact ⟨hz, its', n', r, e⟩
noncomputable def rSetL : V → V → V → Hp → (Hp → Prop) → Prop := fun o i v H Q => ∃ p xs k j, o = .ref p ∧ i = .int k ∧ H p = some (.lst xs) ∧ ixN xs.length k = some j ∧ Q (upd H p (.lst (xs.set j v)))
theorem set_list : PSet X rSetL := by
 intro pins s σ H o i v ov iv u Q I ro ri rv h
 obtain ⟨p, xs, k, j, rfl, rfl, hp, hj, q⟩ := h
 cases ro
 obtain ⟨t, rfl⟩ := ri
 obtain ⟨its, n, r, ho, hz⟩ := I.lst hp
 obtain ⟨h1, h2, h3, h4⟩ := ixN_seq hj
 have hl := r.length
 have hn := line63
 have I' : Inv X pins σ (upd H p (.lst (xs.set j v))) { s with heap := s.heap.update p (Obj.mapSeq (·.setIfInBounds j u)) } :=
  I.lstUpd hp ho (mapSeq_set its n j u) (r.set rv j) (by rw [List.length_set]; exact hz) s.toks
 by_cases h0 : 0 ≤ k
 · have hk : k.toNat = j := by
    rw [seqIndex_of h0 h4] at h1
    exact Option.some.inj h1
   exact PySem.W.ki_setAt ho h0 (by omega) (by rw [List.size_toArray, ← hl]; exact h4) (by rw [hk]; exact ⟨_, I', q⟩)
 · have hk : (k + (its.toArray.size : Int)).toNat = j := by
    rw [seqIndex_neg (by omega) h3] at h1
    rw [List.size_toArray, ← hl]
    exact Option.some.inj h1
   exact PySem.W.ki_setBack ho (by omega) (by rw [List.size_toArray, ← hl]; exact h3) (by omega) (by rw [hk]; exact ⟨_, I', q⟩)

theorem slice_bounds (lo hi : Option Int) (n : Nat) : (sliceBounds lo hi none n).1 = ((HT.sIx n 0 lo : Nat) : Int) ∧ (sliceBounds lo hi none n).2.1 = ((HT.sIx n n hi : Nat) : Int) ∧ (sliceBounds lo hi none n).2.2 = 1 := by
 refine ⟨?_, ?_, rfl⟩
 · cases lo with
   | none => simp [sliceBounds, HT.sIx]
   | some i =>
     simp only [sliceBounds, HT.sIx, Option.getD_none, show (1 : Int) > 0 by decide, if_true]
     by_cases h : i < 0
     · simp only [h, if_true] <;> omega
     · simp only [h, if_false] <;> omega
 · cases hi with
   | none => simp [sliceBounds, HT.sIx]
   | some i =>
     simp only [sliceBounds, HT.sIx, Option.getD_none, show (1 : Int) > 0 by decide, if_true]
     by_cases h : i < 0
     · simp only [h, if_true] <;> omega
     · simp only [h, if_false] <;> omega
theorem slicePick_cut (its : List Value) (lo hi : Option Int) : slicePick its.toArray lo hi none = ((its.drop (HT.sIx its.length 0 lo)).take (HT.sIx its.length its.length hi - HT.sIx its.length 0 lo)).toArray := by
 obtain ⟨h1, h2, h3⟩ := slice_bounds lo hi its.toArray.size
 unfold slicePick
 rw [h1, h2, h3]
 simp only [sliceRange_one, pick_run, List.size_toArray] <;> rfl
noncomputable def rSlL (K : PySem.W.Frag) : V → Option Int → Option Int → Hp → VK → Prop := fun x lo hi H Q => ∃ a xs, x = .ref a ∧ SqL K H a xs ∧ ∀ p, H p = none → Q (.ref p) (upd H p (.lst (cutV xs lo hi)))
theorem sl_list : SlR X (rSlL X.K) := by
 intro pins s σ H x v vl vu lo hi sl Q I rx hs pl pu h
 obtain ⟨a, xs, rfl, hx, q⟩ := h
 cases rx
 obtain ⟨its, r, ht, hz⟩ := I.list hx
 have hlen := r.length
 refine ⟨"list", _, slot_list_getitem.lookup, ht.isList.typeIs, ?_⟩
 refine wpAny_getItem_list_slice ht.isList hs pl pu .none (by simp) ?_ (by rw [List.size_toArray] <;> omega)
 rw [slicePick_cut, ← hlen]
 refine ⟨.ref s.heap.objs.size, _, I.laid (t' := s.toks) (o := .lst (cutV xs lo hi)) (fun b ob q => Heap.get?_push_of_some _ q) (Nat.le_refl _) ?_, rfl, q _ (I.hok.fresh (Nat.le_refl _))⟩
 exact ⟨Nat.le_trans (cutV_length xs lo hi) hz, _, 0, (r.drop (HT.sIx xs.length 0 lo)).take (HT.sIx xs.length xs.length hi - HT.sIx xs.length 0 lo), Heap.get?_push_size _ rfl⟩

noncomputable def flatV : V → Bool
 | .non => true
 | .bl _ => true
 | .int _ => true
 | .str _ => true
 | _ => false
noncomputable def eqV : V → V → Bool
 | .non, .non => true
 | .bl a, .bl b => a == b
 | .bl a, .int b => (if a then 1 else 0) == b
 | .int a, .bl b => a == (if b then 1 else 0)
 | .int a, .int b => a == b
 | .str a, .str b => a == b
 | _, _ => false
theorem eqAt_V {A : Around} {s : Shared} {y x : V} {u v : Value} (ry : RelV y u) (rx : RelV x v) (fy : flatV y = true) (fx : flatV x = true) : SeqAt.EqAt A s u v (eqV y x) := by
 cases y with
 | non =>
   cases ry
   cases x with
   | non => cases rx; exact SeqAt.EqAt.same _
   | bl b => cases rx; exact SeqAt.EqAt.none_bool b
   | int b => obtain ⟨t, rfl⟩ := rx; exact SeqAt.EqAt.none_int b t
   | str b => obtain ⟨t, rfl⟩ := rx; exact SeqAt.EqAt.none_str b t
   | _ => exact absurd (show false = true from fx) Bool.false_ne_true
 | bl a =>
   cases ry
   cases x with
   | non => cases rx; exact SeqAt.EqAt.bool_none a
   | bl b => cases rx; exact SeqAt.EqAt.bool_bool a b
   | int b => obtain ⟨t, rfl⟩ := rx; exact SeqAt.EqAt.bool_int a b t
   | str b => obtain ⟨t, rfl⟩ := rx; exact SeqAt.EqAt.bool_str a b t
   | _ => exact absurd (show false = true from fx) Bool.false_ne_true
 | int a =>
   obtain ⟨t', rfl⟩ := ry
   cases x with
   | non => cases rx; exact SeqAt.EqAt.int_none a t'
   | bl b => cases rx; exact SeqAt.EqAt.int_bool a t' b
   | int b => obtain ⟨t, rfl⟩ := rx; exact SeqAt.EqAt.int_int a t' b t
   | str b => obtain ⟨t, rfl⟩ := rx; exact SeqAt.EqAt.int_str a t' b t
   | _ => exact absurd (show false = true from fx) Bool.false_ne_true
 | str a =>
   obtain ⟨t', rfl⟩ := ry
   cases x with
   | non => cases rx; exact SeqAt.EqAt.str_none a t'
   | bl b => cases rx; exact SeqAt.EqAt.str_bool a t' b
   | int b => obtain ⟨t, rfl⟩ := rx; exact SeqAt.EqAt.str_int a t' b t
   | str b => obtain ⟨t, rfl⟩ := rx; exact SeqAt.EqAt.str_str a t' b t
   | _ => exact absurd (show false = true from fx) Bool.false_ne_true
 | _ => exact absurd (show false = true from fy) Bool.false_ne_true
theorem call_len_seq : CallR X (.builtin "len") (fun xs H Q => ∃ p ys, xs = [.ref p] ∧ (SqL X.K H p ys ∨ SqT X.K H p ys) ∧ Q (.int ys.length) H) := by
 intro pins s σ H xs us Q I r h
 obtain ⟨p, ys, rfl, hq, q⟩ := h
 obtain ⟨u, rfl, rx⟩ := vals1 r
 cases rx
 have hn := line63
 rcases hq with hq | hq
 · obtain ⟨its, r', pl, hz⟩ := I.list hq
   have hlen := r'.length
   exact Calls.call_len_list pl.isList (by simp only [List.size_toArray] <;> omega) ⟨.int ys.length, H, I.tok _, ⟨s.toks + 1, by rw [List.size_toArray, hlen]⟩, q⟩
 · obtain ⟨its, r', pl, hz⟩ := I.tuple hq
   have hlen := r'.length
   exact len_tuple pl (by simp only [List.size_toArray] <;> omega) ⟨.int ys.length, H, I.tok _, ⟨s.toks + 1, by rw [List.size_toArray, hlen]⟩, q⟩
noncomputable def tyV (K : PySem.W.Frag) (T : String) (x : V) (H : Hp) : Prop := match x with
 | .str _ => T = "str"
 | .int _ => T = "int"
 | .ref p => (T = "list" ∧ ∃ xs, SqL K H p xs) ∨ (T = "tuple" ∧ ∃ o, K.lookup p = some o ∧ o.cls = .type "tuple" ∧ o.dict = none) ∨
  (T = "dict" ∧ ((∃ kvs, H p = some (.dK kvs)) ∨ ∃ kvs, H p = some (.dT kvs))) ∨ (T = "set" ∧ ∃ S n, H p = some (.set S n))
 | _ => False
theorem tyV_is {pins : List (Addr × Obj)} {σ : St} {H : Hp} {s : Shared} {T : String} {x : V} {v : Value} (I : Inv X pins σ H s) (r : RelV x v) (ty : tyV X.K T x H) :
 s.TypeIs v T ∧ ∀ a, v = .ref a → ∃ ob, s.heap.get? a = some ob ∧ ob.dict = none := by
 cases x with
 | str z =>
   obtain ⟨t, rfl⟩ := r
   cases (show T = "str" from ty)
   exact ⟨typeIs_str s z t, fun _ e => nomatch e⟩
 | int i =>
   obtain ⟨t, rfl⟩ := r
   cases (show T = "int" from ty)
   exact ⟨typeIs_int s i t, fun _ e => nomatch e⟩
 | ref p =>
   cases r
   rcases ty with ⟨rfl, xs, hq⟩ | ⟨rfl, o, hk, hc, hd⟩ | ⟨rfl, hk⟩ | ⟨rfl, S, n, hk⟩
   · obtain ⟨its, _, pl, _⟩ := I.list hq
     refine ⟨pl.isList.typeIs, fun a e => ?_⟩
     cases e
     obtain ⟨o, n, e, c, hd, _⟩ := pl
     exact ⟨o, e, hd⟩
   · refine ⟨⟨o, I.kIn p o hk, hc⟩, fun a e => ?_⟩
     cases e
     exact ⟨o, I.kIn _ o hk, hd⟩
   · have z : ∃ o, s.heap.get? p = some o ∧ o.ExactDict := by
      rcases hk with ⟨kvs, hk⟩ | ⟨kvs, hk⟩
      · obtain ⟨_, _, _, _, o, _, _, e, ex, _⟩ := I.hok p _ hk
        exact ⟨o, e, ex⟩
      · obtain ⟨_, _, _, _, o, _, _, e, ex, _⟩ := I.hok p _ hk
        exact ⟨o, e, ex⟩
     obtain ⟨o, e, ex⟩ := z
     refine ⟨⟨o, e, ex.1⟩, fun a e2 => ?_⟩
     cases e2
     exact ⟨o, e, ex.2.1⟩
   · obtain ⟨o, _, _, _, e, ex, _⟩ := I.hok p _ hk
     refine ⟨⟨o, e, ex.1⟩, fun a e2 => ?_⟩
     cases e2
     exact ⟨o, e, ex.2.1⟩
 | _ => exact False.elim ty
noncomputable def tBM (K : PySem.W.Frag) (T : String) (r : V → List V → Hp → VK → Prop) (to : TE) (t : TA) : TE := fun σ H Q => to σ H fun x H1 => tyV K T x H1 ∧ t σ H1 fun xs H2 => r x xs H2 Q
variable {o e : Expr} {es : List Expr} {to : TE} {t : TA} {name : Str} {apos cpos : Pos} {T id : String} {r : V → List V → Hp → VK → Prop}
theorem pe_bm (pa : PlainAttrs T) (slot : Slot T name id) (hty : typeOf (.builtin id) = pure (.type "method_descriptor")) (hm : MtR X id r) (ho : PE X o to) (ha : PA X (e :: es) t)
 (hbase : attributeBase o name X.env (eval o X.env) = eval o X.env := by rfl)
 (hfew : ((backTo cpos (starEach (e :: es) X.env)).all (fun x => !x.1) && (backToKw cpos (keywordEach [] X.env)).all (fun x => x.1.isSome)
  && decide ((e :: es).length + ([] : List Keyword).length + (if ([] : List Keyword).isEmpty then 0 else 1) < 30)) = true := by rfl)
 (hline : (apos.endLine == cpos.line) = true := by rfl) (hs : starEach (e :: es) X.env = (false, eval e X.env) :: starEach es X.env := by rfl) (hplain : (backTo cpos (starEach es X.env)).any (·.1) = false := by rfl) :
 PE X (.Call (.Attribute o name apos) (e :: es) [] cpos) (tBM X.K T r to t) := by
 intro pins s σ H Q I h
 refine wpAny_Call_method_late hbase hfew hline rfl (thn (ho pins s σ H _ I h) fun v s1 ⟨x, H1, I1, r1, ty, q1⟩ => ?_)
 obtain ⟨h1, h2⟩ := tyV_is I1 r1 ty
 refine ⟨T, id, pa, slot, hty, h1, h2, ?_⟩
 have hA := ha cpos pins s1 σ H1 _ I1 q1
 rw [hs] at hA ⊢
 refine Calls.callWith_builtin (by show (false || (backTo cpos (starEach es X.env)).any (·.1)) = false; rw [hplain] <;> rfl) (Calls.evalArgs_plain ?_)
 exact thn hA fun us s2 ⟨vs, H2, I2, r2, q2⟩ => hm pins s2 σ H2 x vs v us Q I2 r1 r2 q2
/- xs.append(e), list.index on a module's tuple .. are MtR facts of 06m -/
end
end L2

namespace L2
open PySem PySem.Spec PyProof.Rows

noncomputable def MtM (X : Cx) (id : String) (r : V → List V → Hp → VK → Prop) : Prop :=
 ∀ (pins : List (Addr × Obj)) (s : Shared) (σ : St) (H : Hp) (x : V) (xs : List V) (v : Value) (us : List Value) (Q : VK), Inv X pins σ H s → RelV x v → Vals xs us → r x xs H Q →
   wpAny (model X.prog X.w) X.A (call (.builtin id) (v :: us)) (EP X pins σ Q) X.xe s

theorem Vals.one : ∀ {x : V} {us : List Value}, Vals [x] us → ∃ u, us = [u] ∧ RelV x u
 | _, _, .cons r .nil => ⟨_, rfl, r⟩
theorem Vals.rep {xs : List V} {us : List Value} (h : Vals xs us) : ∀ k : Nat, Vals (List.replicate k xs).flatten (List.replicate k us).flatten
 | 0 => .nil
 | k + 1 => by
   rw [List.replicate_succ, List.replicate_succ, List.flatten_cons, List.flatten_cons]
   exact Vals.append h (Vals.rep h k)
theorem foldl_rep (its : List Value) : ∀ (k : Nat) (acc : List Value),
 List.foldl (fun x1 x2 => x1 ++ x2) acc.toArray (List.replicate k its.toArray) = (acc ++ (List.replicate k its).flatten).toArray
 | 0, acc => by simp
 | k + 1, acc => by
   have e : acc.toArray ++ its.toArray = (acc ++ its).toArray := by simp
   have e2 : (acc ++ its) ++ (List.replicate k its).flatten = acc ++ (List.replicate (k + 1) its).flatten := by
    rw [List.replicate_succ, List.flatten_cons, List.append_assoc]
   rw [← e2, ← foldl_rep its k (acc ++ its), ← e, List.replicate_succ, List.foldl_cons]

section
variable {X : Cx} {pins : List (Addr × Obj)} {σ : St} {H : Hp} {s : Shared} {l b : Addr} {xs ys zs : List V}

theorem Inv.lset {its its' : List Value} {n : Nat} {f : Array Value → Array Value} {t' : Nat} (I : Inv X pins σ H s) (hH : H l = some (.lst xs))
 (e : s.heap.get? l = some { cls := .type "list", data := .seq its.toArray n }) (hf : f its.toArray = its'.toArray) (hv : Vals ys its') (hz : ys.length ≤ sizeLine) :
 Inv X pins σ (upd H l (.lst ys)) { s with heap := s.heap.update l (Obj.mapSeq f), toks := t' } := by
 have q := PySem.IsL.update e f
 rw [hf] at q
 refine I.write (x := l) (e := l) (by rw [hH]; exact trivial) (.inl rfl) (fun b' u hb hu => (Heap.get?_update_other s.heap (Obj.mapSeq f) (Ne.symm hb)).trans hu) ⟨_, q⟩ ?_
 exact ⟨hz, its', _, hv, q⟩
theorem Inv.lnew {its : List Value} {t' : Nat} (I : Inv X pins σ H s) (hv : Vals ys its) (hz : ys.length ≤ sizeLine) :
 Inv X pins σ (upd H s.heap.objs.size (.lst ys)) { s with heap := s.heap.push { cls := .type "list", data := .seq its.toArray }, toks := t' } :=
 I.laid (fun _ _ q => Heap.get?_push_of_some _ q) (Nat.le_refl _) ⟨hz, its, 0, hv, Heap.get?_push_size _ rfl⟩
theorem Inv.fresh (I : Inv X pins σ H s) : H s.heap.objs.size = none := I.hok.fresh (Nat.le_refl _)
theorem Inv.lstM (I : Inv X pins σ H s) (hH : H l = some (.lst xs)) : xs.length ≤ sizeLine ∧ ∃ (its : List Value) (n : Nat), Vals xs its ∧ xs.length = its.length ∧ s.heap.get? l = some { cls := .type "list", data := .seq its.toArray n } := by
 obtain ⟨z, its, n, r, e⟩ := I.hok l _ hH
 exact ⟨z, its, n, r, r.length, e⟩

theorem notLongL {n : Nat} (h : n ≤ sizeLine) : Builtin.List.listTooLong n = false := by
 unfold Builtin.List.listTooLong
 exact decide_eq_false (by omega)
end

section
variable {X : Cx}

noncomputable def rAppend : V → List V → Hp → VK → Prop := fun x vs H Q => ∃ l xs y, x = .ref l ∧ vs = [y] ∧ H l = some (.lst xs) ∧ xs.length < sizeLine ∧ Q .non (upd H l (.lst (xs ++ [y])))
theorem mt_append : MtM X "list.append" rAppend := by
 intro pins s σ H x vs v us Q I rx rv h
 obtain ⟨l, xs, y, rfl, rfl, hH, hz, q⟩ := h
 cases rx
 obtain ⟨u, rfl, ru⟩ := rv.one
 obtain ⟨z, its, n, r, hl, e⟩ := I.lstM hH
 refine call_meets F.slot_list_append ⟨_, e, rfl⟩ F.entry_list_append (F.args_list_append_2 _ _) (PySem.list_append l its.toArray n u (by rw [List.size_toArray]; omega)) ⟨e, ?_⟩
 refine ⟨.non, _, I.lset (its' := its ++ [u]) hH e (by simp) (r.append (.cons ru .nil)) ?_, rfl, q⟩
 rw [List.length_append, List.length_singleton]
 omega

noncomputable def rCat : R2 := fun x y H Q => ∃ l b xs zs, x = .ref l ∧ y = .ref b ∧ H l = some (.lst xs) ∧ H b = some (.lst zs) ∧ xs.length + zs.length ≤ sizeLine ∧ ∀ p, H p = none → Q (.ref p) (upd H p (.lst (xs ++ zs)))
theorem op_cat : OpR X (binaryOp .Add) rCat := by
 intro pins s σ H x y v u Q I rx ry h
 obtain ⟨l, b, xs, zs, rfl, rfl, hH, hB, hz, q⟩ := h
 cases rx
 cases ry
 obtain ⟨z, its, n, r, hl, e⟩ := I.lstM hH
 obtain ⟨z2, its2, n2, r2, hl2, e2⟩ := I.lstM hB
 refine PySem.P.add_list e e2 ?_ (by rw [List.size_toArray, List.size_toArray]; omega)
 have ea : its.toArray ++ its2.toArray = (its ++ its2).toArray := by simp
 rw [ea]
 exact ⟨.ref _, _, I.lnew (t' := s.toks) (r.append r2) (by rw [List.length_append]; omega), rfl, q _ I.fresh⟩
noncomputable def rRep : R2 := fun x y H Q => ∃ l k xs, x = .ref l ∧ y = .int k ∧ H l = some (.lst xs) ∧ -(2 ^ 63) ≤ k ∧ k < 2 ^ 63 ∧ xs.length * k.toNat ≤ sizeLine ∧
 ∀ p, H p = none → Q (.ref p) (upd H p (.lst (List.replicate k.toNat xs).flatten))
theorem len_rep {α : Type} (xs : List α) (k : Nat) : (List.replicate k xs).flatten.length = k * xs.length := by
 induction k with
 | zero => simp
 | succ k ih => rw [List.replicate_succ, List.flatten_cons, List.length_append, ih, Nat.succ_mul, Nat.add_comm]
theorem op_rep : OpR X (binaryOp .Mult) rRep := by
 intro pins s σ H x y v u Q I rx ry h
 obtain ⟨l, k, xs, rfl, rfl, hH, h1, h2, hz, q⟩ := h
 cases rx
 obtain ⟨t, rfl⟩ := ry
 obtain ⟨z, its, n, r, hl, e⟩ := I.lstM hH
 have hlen : its.toArray.size * k.toNat ≤ sizeLine := by rw [List.size_toArray, ← hl]; exact hz
 have hcap : ¬ its.toArray.size * k.toNat > (2 ^ 63 - 1) / 8 := by
  have : (sizeLine : Nat) ≤ (2 ^ 63 - 1) / 8 := by decide
  omega
 have hfit : ¬ (!Builtin.List.listFitsIndex k) = true := by
  rw [fitsIndex_both h1 h2]
  exact Bool.false_ne_true
 have hlong : ¬ Builtin.List.listTooLong (its.toArray.size * k.toNat) = true := by
  rw [notLongL hlen]
  exact Bool.false_ne_true
 have hnew : List.foldl (fun x1 x2 => x1 ++ x2) #[] (List.replicate (if its.toArray.isEmpty = true then 0 else k.toNat) its.toArray) = (List.replicate k.toNat its).flatten.toArray := by
  have f0 : ∀ m : Nat, List.foldl (fun x1 x2 => x1 ++ x2) #[] (List.replicate m its.toArray) = (List.replicate m its).flatten.toArray := fun m => by
   have := foldl_rep its m []
   rw [List.nil_append] at this
   exact this
  rw [f0]
  cases its with
  | nil => simp
  | cons a r' => rw [if_neg (by simp)]
 refine wpAny_binaryOp_repeat_ref (T := "list") (U := "int") (by decide) ⟨_, e, rfl⟩ (fun s' => typeIs_int s' k t) noFill_list_mul F.fills_int_mul F.slot_int_rmul repeat_list F.slot_int_index.lookup
  (call_meets F.slot_int_rmul (typeIs_int s k t) F.entry_int_rmul (F.args_int_rmul_2 _ _) (int___rmul___int_list k t l its.toArray n)
   ⟨e, rfl, ⟨_, e, rfl⟩, call_meets F.slot_list_mul ⟨_, e, rfl⟩ F.entry_list_mul (F.args_list_mul_2 _ _) (AutoListH.list___mul___list_int_3 l its.toArray n k t hfit hcap hlong) ⟨e, ?_⟩⟩)
 rw [hnew]
 exact ⟨.ref _, _, I.lnew (t' := s.toks) (r.rep k.toNat) (by rw [len_rep, Nat.mul_comm]; exact hz), rfl, q _ I.fresh⟩

end

section
variable {prog : Program} {w : World} {A : Around} {E : Value → Shared → Prop} {s : Shared}
end

section
variable {X : Cx}
end
end L2

namespace Att
open PySem PySem.W PySem.Calls PyProof.Rows

theorem ints_of_wellAll {P : Params} {h : Heap} : ∀ (ns : List Int) (vs : List Value), WellAll P h vs (ns.map WData.int) → IntsAre vs ns := by
 intro ns
 induction ns with
 | nil =>
   intro vs w
   rw [List.map_nil] at w
   cases w
   exact .nil
 | cons n ns ih =>
   intro vs w
   rw [List.map_cons] at w
   cases w with
   | cons a b =>
     cases a
     exact .cons _ _ (ih _ b)

theorem script_of {l : OpenLaw} {n : Nat} (hn : l.most = some n) {P : Params} {h : Heap} {args : List WData} {vals : List Value}
 (hpre : l.row.toRowW.claim.pre args = true) (hwl : WellAll P h vals args) :
 ∃ a vs ns, vals = [Value.ref a] ∧ args = [WData.list (ns.map WData.int)] ∧ h.get? a = some { cls := .type "list", data := .seq vs.toArray } ∧ IntsAre vs ns ∧ ns.length ≤ n := by
 have hsh : WShape.hasAll [] args [.list .int] = true := (pre_splitW hpre).1
 have hc : l.pre.holds [] { args := args } = true := (pre_splitW hpre).2
 obtain ⟨d, r, rfl, h1, h2⟩ := hasAllW_cons hsh
 obtain rfl := hasAllW_nil h2
 obtain ⟨xs, rfl, h3⟩ := hasW_list h1
 obtain ⟨ns, rfl⟩ := items_int h3
 have hlen : ns.length ≤ n := by
  unfold OpenLaw.pre at hc
  have h4 : (WTm.not (.lt (.lit (.int (n : Int))) (.len (.arg 0)))).holds [] { args := [.list (ns.map .int)] } = true := by
   have h4 := (holds_andW hc).1
   rw [hn] at h4
   exact h4
  have h5 := condW_of h4 (w_not (w_lt w_lit (w_len_list (w_arg rfl))))
  rw [List.length_map] at h5
  refine Nat.le_of_not_lt fun q => ?_
  have q' : (n : Int) < ((ns.length : Nat) : Int) := by omega
  first
   | (rw [decide_eq_true q'] at h5; exact absurd h5 (by decide))
   | (simp at h5; omega)
 cases hwl with
 | cons w1 w2 =>
   cases w2
   cases w1 with
   | list ho hall => exact ⟨_, _, ns, rfl, rfl, ho, ints_of_wellAll ns _ hall, hlen⟩

theorem post_true (l : OpenLaw) (args : List WData) : l.row.toRowW.claim.post args (.bool true) args = true :=
 postW_of (r := l.row.toRowW) (X := (true == true))
  (show WShape.has [] (.bool true) .bool = true by first | rfl | decide | simp [WShape.has, WShape.arms, WShape.armsAll])
  (show (WTm.eq .res (.lit (.bool true))).value [] { args := args, res := some (.bool true), after := args } = some (.bool (true == true)) from w_eq_bool (w_res rfl) w_lit) rfl

theorem attach_call {l : OpenLaw} {n : Nat} {q : Program} {loose : List Str} {XP : (Str → Option Value) → Heap → Prop} {YP : World → Heap → Prop} {d : DefRec}
 (hn : l.most = some n) (hdf : d.params.defaults = [])
 (call : ∀ (w : World) (s₀ s₁ : Shared) (mg mb : Str → Option Value) (fa : Addr) (o : Obj) (pm cd doc : Value) (a : Addr) (vs : List Value) (ns : List Int),
  Ground q loose [] XP w s₀ mg mb s₁.heap → YP w s₁.heap →
  s₁.heap.get? fa = some o → o.data = .func (docDef d.name d.params d.body d.scope pm cd doc) → s₁.heap.CodeRec cd d.name → mg d.name = some (.ref fa) →
  s₁.heap.get? a = some { cls := .type "list", data := .seq vs.toArray } → IntsAre vs ns → ns.length ≤ n → s₁.gens = #[] →
  codeAny (model l.prog w) callerA (.call (.ref fa) ⟨[.ref a], []⟩) (fun r s' => r = .ok (.ret (.bool true)) ∧ OldK s₁.heap s'.heap ∧ s'.os = s₁.os ∧ AllBare s'.gens) s₁) :
 WalkO q loose XP YP l.row.toRowW d [] (fun f vs => PySem.call f vs) := by
 intro w s₀ s₁ mg mb G Y fa o pm cd doc dV kV ho hd hcd hD hmg hg args vals as hpre hlay hrd hwl hlo
 obtain rfl : dV = .none := Dflts.none hD hdf
 obtain rfl : kV = .none := Dflts.noKw hD
 obtain ⟨a, vs, ns, rfl, rfl, hobj, hints, hlen⟩ := script_of hn hpre hwl
 refine enter_call (codeAny_mono (call w s₀ s₁ mg mb fa o pm cd doc a vs ns G Y ho (fd_plain hd) hcd hmg hobj hints hlen hg) fun r s' hq => ?_)
 obtain ⟨rfl, h2, h3, h4⟩ := hq
 exact ⟨.inl ⟨.bool true, .bool true, [], rfl, fun _ => rfl, .bool true, post_true l _, fun _ => ⟨List.Pairwise.nil, fun _ hm => (nomatch hm)⟩⟩, h2, h3, h4⟩

section
variable {prog : Program} {w : World} {A : Around} {E : Value → Shared → Prop} {s : Shared} {K : Frag}

end
end Att

namespace L2
open PySem PySem.Spec PyProof.Rows

theorem vals_ints : ∀ {vs : List Value} {ns : List Int}, IntsAre vs ns → Vals (ns.map V.int) vs
 | _, _, .nil => .nil
 | _, _, .cons n t h => .cons ⟨t, rfl⟩ (vals_ints h)

noncomputable def Only (H : Hp) : Prop := ∀ b, H b = none ∨ ∃ o xs, H b = some (.frz o (.lst xs))

theorem law_call {P : Program} {w : World} {K : PySem.W.Frag} {mg mb : Str → Option Value} {CX : CXT} {k : Nat} {fa a : Addr} {fd : FuncData} {x : Str} {sp : Sp} {s₁ : Shared} {vs : List Value} {ns : List Int}
 (KX : K.In s₁.heap) (hns : s₁.heap.Ns mainGlobals mg) (hb : s₁.heap.Ns builtinsNs mb) (hbb : ∀ x : Str, x ≠ "__name__" → mb x = bootBuiltins x) (hlim : s₁.heap.NoLimit) (hg : s₁.gens = #[])
 (ha : s₁.heap.get? a = some { cls := .type "list", data := .seq vs.toArray }) (hi : IntsAre vs ns) (hl : ns.length ≤ sizeLine) (hr : Room k callerA)
 (F : ∀ base : Heap, K.In base → base.Ns mainGlobals mg → FnOk P w K mg base CX k fa fd [x] sp) (hbind : ∀ (s : Shared) (u : Value), BindsTo s fd ⟨[u], []⟩ [(x, u)])
 (hsp : ∀ H : Hp, Only H → SqL K H a (ns.map V.int) → sp [.ref a] H (fun v _ => v = .bl true) fun _ _ _ => False)
 (hCX : ∀ H e s', CX [] H s₁ (fun _ _ _ => False) e s' → False) :
 codeAny (model P w) callerA (.call (.ref fa) ⟨[.ref a], []⟩) (fun r s' => r = .ok (.ret (.bool true)) ∧ OldK s₁.heap s'.heap ∧ s'.os = s₁.os ∧ AllBare s'.gens) s₁ := by
 have rv := vals_ints hi
 have lenV := hi.length
 -- from an abstract heap in which nothing but the script may be tracked
 have core : ∀ H : Hp, Only H → SqL K H a (ns.map V.int) → HOk P w H s₁.heap → (∀ b, H b ≠ none → b = a) → (H a ≠ none → K.lookup a = none) →
  codeAny (model P w) callerA (.call (.ref fa) ⟨[.ref a], []⟩) (fun r s' => r = .ok (.ret (.bool true)) ∧ OldK s₁.heap s'.heap ∧ s'.os = s₁.os ∧ AllBare s'.gens) s₁ := by
  intro H hO hS hok hA hK
  have base_of : ∀ {b : Addr} {o : Obj}, s₁.heap.get? b = some o → H b = none → (hidT s₁.heap H).get? b = some o := fun e n => hidT_get e n
  have noA : ∀ {b : Addr} {o : Obj} {es : Array DictEntry} {ep : Nat}, s₁.heap.get? b = some o → o.data = .dict es ep → H b = none := fun {b o es ep} e d => by
   cases q : H b with
   | none => rfl
   | some u =>
     have e' : b = a := hA b (by rw [q]; simp)
     subst e'
     rw [ha] at e; cases e
     have d' : Data.seq vs.toArray _ = Data.dict es ep := d
     cases d'
  have nsK : ∀ {b : Addr} {m : Str → Option Value}, s₁.heap.Ns b m → (hidT s₁.heap H).Ns b m := fun {b m} ⟨o, es, ep, e, d, r⟩ => ⟨o, es, ep, base_of e (noA e d), d, r⟩
  have hKb : K.In (hidT s₁.heap H) := fun b o e => base_of (KX b o e) (by
   cases q : H b with
   | none => rfl
   | some u =>
     have e' : b = a := hA b (by rw [q]; simp)
     subst e'
     rw [hK (by rw [q]; simp)] at e; cases e)
  have hM : Mod K mg (hidT s₁.heap H) := ⟨hKb, nsK hns, ⟨mb, nsK hb, hbb⟩, let ⟨mc, h1, h2⟩ := hlim; ⟨mc, nsK h1, h2⟩⟩
  have e0 : Env0 P w K mg (hidT s₁.heap H) callerA [] s₁ H := ⟨rfl, hM, fun b o e => of_hidT e, Nat.le_of_eq (hidT_size _ _), trivial, fun b hb => absurd (show b ∈ ([] : List Addr) from hb) (by simp), hok, .of_eq hg⟩
  refine codeAny_mono ((F _ hKb (nsK hns)).run callerA [] s₁ H ⟨[.ref a], []⟩ [.ref a] [.ref a] _ _ hr e0 (hbind s₁ (.ref a)) (.cons rfl .nil) (hsp H hO hS)) fun r s' h => ?_
  cases r with
  | error e => exact (hCX H e s' h).elim
  | ok fl =>
    cases fl with
    | next => exact False.elim h
    | brk => exact False.elim h
    | cont => exact False.elim h
    | ret u =>
      obtain ⟨v, H', os, bare, un, hok', r', q⟩ := h
      have q' : v = .bl true := q
      subst q'
      obtain rfl : u = Value.bool true := r'
      refine ⟨rfl, OldK.of_keep fun b o e => ?_, os, bare⟩
      cases q : H b with
      | none => exact un.keep b o e q (by intro z; exact absurd (show b ∈ ([] : List Addr) from z) (by simp)) (by simp)
      | some u =>
        rcases hO b with z | ⟨ob, xs, z⟩
        · rw [q] at z; cases z
        · have z2 := un.frzs b ob _ z
          obtain ⟨e1, _⟩ := hok b _ z
          obtain ⟨e2, _⟩ := hok' b _ z2
          rw [e] at e1; cases e1
          exact e2
 cases hk : K.lookup a with
 | some o =>
   -- the script is one of the module's own objects
   have e := KX a o hk
   rw [ha] at e
   cases e
   refine core (fun _ => none) (fun _ => .inl rfl) (.inr ⟨_, vs.toArray, _, hk, rfl, rfl, rfl, by rw [List.size_toArray, lenV]; exact hl, by simpa using rv⟩) (fun b u z => by have z' : (none : Option HO) = some u := z; cases z') (fun b z => absurd rfl z) fun z => absurd rfl z
 | none =>
   refine core (fun b => if b = a then some (.frz { cls := .type "list", data := .seq vs.toArray } (.lst (ns.map V.int))) else none) (fun b => ?_) (.inl (.inr ⟨{ cls := .type "list", data := .seq vs.toArray }, if_pos rfl⟩)) (fun b u z => ?_) (fun b z => ?_) fun _ => hk
   · by_cases hb : b = a
     · exact .inr ⟨_, _, if_pos hb⟩
     · exact .inl (if_neg hb)
   · by_cases hb : b = a
     · have z' := (if_pos hb).symm.trans z
       cases z'
       subst hb
       exact ⟨ha, by rw [List.length_map]; exact hl, vs, _, rv, ha⟩
     · have z' := (if_neg hb).symm.trans z
       cases z'
   · by_cases hb : b = a
     · exact hb
     · exact absurd (if_neg hb) z
end L2

namespace L2
open PySem PySem.Spec PyProof.Rows

theorem walk_of {l : PySem.W.OpenLaw} {n k : Nat} {q : Program} {loose : List Str} {XP : (Str → Option Value) → Heap → Prop} {YP : World → Heap → Prop} {d : DefRec} {K : Params → PySem.W.Frag} {CX : World → CXT} {sp : World → Sp} {x : Str}
 (hn : l.most = some n) (hn2 : n ≤ sizeLine) (hdf : d.params.defaults = []) (hr : Room k callerA)
 (hY : ∀ (w : World) (h : Heap), YP w h → (K w.params).In h)
 (F : ∀ (w : World) (mg : Str → Option Value) (fa : Addr) (h : Heap), (K w.params).In h → h.Ns mainGlobals mg → mg d.name = some (.ref fa) →
  ∃ fd : FuncData, (∀ (s : Shared) (u : Value), BindsTo s fd ⟨[u], []⟩ [(x, u)]) ∧
    ∀ base : Heap, (K w.params).In base → base.Ns mainGlobals mg → FnOk l.prog w (K w.params) mg base (CX w) k fa fd [x] (sp w))
 (hsp : ∀ (w : World) (H : Hp) (a : Addr) (ns : List Int), ns.length ≤ n → Only H → SqL (K w.params) H a (ns.map V.int) → sp w [.ref a] H (fun v _ => v = .bl true) fun _ _ _ => False)
 (hCX : ∀ (w : World) (H : Hp) (s : Shared) (e : Value) (s' : Shared), CX w [] H s (fun _ _ _ => False) e s' → False) :
 PySem.W.WalkO q loose XP YP l.row.toRowW d [] (fun f vs => PySem.call f vs) := by
 refine Att.attach_call hn hdf fun w s₀ s₁ mg mb fa o pm cd doc a vs ns G Y ho hd hcd hmg hobj hints hlen hg => ?_
 have KX := hY w _ Y
 obtain ⟨fd, hb, hF⟩ := F w mg fa _ KX G.T.g hmg
 exact law_call KX G.T.g G.T.b G.T.builtins G.T.nolimit hg hobj hints (Nat.le_trans hlen hn2) hr hF hb (fun H hO hS => hsp w H a ns hlen hO hS) fun H e s' => hCX w H s₁ e s'
end L2

namespace L2
open PySem PySem.Spec PyProof.Rows

noncomputable def defArgs (s : Stmt) : Arguments := match s with
 | .FunctionDef _ a _ _ _ _ _ _ _ _ => a
 | _ => { posonlyargs := [], args := [], vararg := none, kwonlyargs := [], kw_defaults := [], kwarg := none, defaults := [] }
noncomputable def defBody (s : Stmt) : List Stmt := match s with
 | .FunctionDef _ _ b _ _ _ _ _ _ _ => b
 | _ => []
noncomputable def defScope (s : Stmt) : Scope := match s with
 | .FunctionDef _ _ _ _ _ _ sc _ _ _ => sc
 | _ => { kind := .function, names := [], isGenerator := false, isCoroutine := false }

noncomputable abbrev CX0 : CXT := fun _ _ _ _ _ _ => False
noncomputable abbrev E0 : XK := fun _ _ _ => False
theorem pass0 {X : Cx} : Passes CX0 X E0 := fun _ _ _ _ _ _ _ h => h.elim

structure Fun (K : PySem.W.Frag) (x qual : Str) (st : Stmt) (f : Addr) (fd : FuncData) : Prop where
 ex : ∃ (oc : Value) (od : Option Addr) (kV doc pm : Value) (an : Option Addr) (cdv ct : Value) (osl : Array (Option Value)),
  fd = PySem.W.fnOf x qual (defArgs st) (defBody st) (defScope st) .none kV doc pm an cdv ct ∧ K.lookup f = some ⟨oc, od, .func fd, osl⟩ ∧ PySem.W.codeIn K cdv qual = true
 kp : PySem.W.keepIn K (.ref f) = true
section
variable {P : Program} {w : World} {K : PySem.W.Frag} {mg : Str → Option Value} {base : Heap}
theorem Fun.ok {x qual : Str} {st : Stmt} {f : Addr} {fd : FuncData} {N ps : List Str} {k : Nat} {sp : Sp} (F : Fun K x qual st f fd) (S : FnScope N ps (defScope st)) (len : ∀ vs H Q E, sp vs H Q E → vs.length = ps.length)
 (hbody : ∀ (cdv : Value) (A : Around) (outer : List Env) (s : Shared) (H : Hp) (vs : List V) (Q : VK) (E : XK), Room k (A.deeper (envOfC qual (defScope st) s.heap.objs.size f cdv)) → sp vs H Q E →
  ∃ t, PSs (cxOf CX0 P w K mg base N qual (defScope st) f cdv A outer s H E).nox (defBody st) t ∧ t { nx := fun _ H' => Q .non H', rt := Q } (start N vs) H) : FnOk P w K mg base CX0 (k + 1) f fd ps sp := by
 obtain ⟨oc, od, kV, doc, pm, an, cdv, ct, osl, rfl, lk, hcd⟩ := F.ex
 refine fn_of lk hcd S len fun A outer s H vs Q E hr hsp => ?_
 obtain ⟨t, h, q⟩ := hbody cdv A outer s H vs Q E hr hsp
 exact ⟨t, h.nox, q⟩
theorem Fun.binds {x qual : Str} {st : Stmt} {f : Addr} {fd : FuncData} {ps : List Str} (F : Fun K x qual st f fd)
 (h : ∀ (kV doc pm : Value) (an : Option Addr) (cdv ct : Value) (us : List Value), us.length = ps.length → bindArgs (PySem.W.fnOf x qual (defArgs st) (defBody st) (defScope st) .none kV doc pm an cdv ct) ⟨us, []⟩ = pure (ps.zip us)) : Binds K fd ps [] := by
 obtain ⟨oc, od, kV, doc, pm, an, cdv, ct, osl, rfl, lk, hcd⟩ := F.ex
 exact .all (h kV doc pm an cdv ct)
theorem fun_mk {x qual : Str} {st : Stmt} {f : Addr} {oc : Value} {od an : Option Addr} {osl : Array (Option Value)} {kV doc pm cdv ct : Value} (l : K.lookup f = some ⟨oc, od, .func (PySem.W.fnOf x qual (defArgs st) (defBody st) (defScope st) .none kV doc pm an cdv ct), osl⟩)
 (c : PySem.W.codeIn K cdv qual = true) (k : PySem.W.keepIn K (.ref f) = true) : Fun K x qual st f (PySem.W.fnOf x qual (defArgs st) (defBody st) (defScope st) .none kV doc pm an cdv ct) := ⟨⟨oc, od, kV, doc, pm, an, cdv, ct, osl, rfl, l, c⟩, k⟩
end
section
variable {X : Cx}
theorem pv (i : Nat) {x : Str} {pos : Pos} (hN : X.N[i]? = some x := by rfl) (hv : Vis X.env.scope x := by first | exact Or.inl rfl | exact Or.inr (Or.inl rfl) | exact Or.inr (Or.inr rfl)) (hd : (x == ("__debug__" : Str)) = false := by decide)
 (hcd : (x == ("__classdict__" : Str)) = false := by decide) : PE X (.Name x pos) (tVar i) := pe_var hN hv hd hcd
end

theorem iteF {A B : Prop} (h : B) : if false = true then A else B := by
 rw [if_neg Bool.false_ne_true]
 exact h
theorem iteT {A B : Prop} (h : A) : if true = true then A else B := by
 rw [if_pos rfl]
 exact h
noncomputable def Same (H H' : Hp) : Prop := ∀ b o, H b = some o → H' b = some o
theorem Same.refl (H : Hp) : Same H H := fun _ _ h => h
theorem Same.trans {H H1 H2 : Hp} (a : Same H H1) (b : Same H1 H2) : Same H H2 := fun c o h => b c o (a c o h)
theorem Same.free {H H' : Hp} (e : Same H H') {l : Addr} (h : H' l = Option.none) : H l = Option.none := by
 cases q : H l with
 | none => rfl
 | some o =>
   rw [e l o q] at h
   cases h
theorem Same.seq {K : PySem.W.Frag} {H H' : Hp} {a : Addr} {xs : List V} (e : Same H H') (h : SqL K H a xs) : SqL K H' a xs := by
 rcases h with (h | ⟨o, h⟩) | h
 · exact .inl (.inl (e _ _ h))
 · exact .inl (.inr ⟨o, e _ _ h⟩)
 · exact .inr h

end L2

namespace L2
open PySem PySem.Spec PyProof.Rows

section
variable {prog : Program} {w : World} {A : Around} {R : Result → Shared → Prop} {s : Shared}
theorem compLoop_any {elt target iter : Expr} {ifs : List Expr} {scope : Scope} {pos : Pos} {it acc : Value} {env : Env} (I : Nat → Shared → Prop)
 (turn : ∀ n s, I n s → wpAny (model prog w) A (pyNext it) (fun r s₁ => match r with
  | none => R (.ok .next) s₁
  | some v => wpAny (model prog w) A (letOwnedTupleGo target it v) (fun _ s₁' => wpAny (model prog w) A (assign target env v) (fun _ s₂ =>
   wpAny (model prog w) A (forIn ifs true fun c r => if r = true then do let ok ← isTrue c env (eval c env); pure (ForInStep.yield ok) else pure (ForInStep.yield r)) (fun ok s₃ =>
    if ok = true then wpAny (model prog w) A (eval elt env) (fun x s₄ =>
     wpAny (model prog w) A (call (.builtin "list.append") [acc, x]) (fun _ s₅ => ∃ m, m < n ∧ I m s₅) (fun _ _ => False) s₄) (fun _ _ => False) s₃
    else ∃ m, m < n ∧ I m s₃) (fun _ _ => False) s₂) (fun _ _ => False) s₁') (fun _ _ => False) s₁) (fun _ _ => False) s)
 (n : Nat) (h : I n s) :
 codeAny (model prog w) A (.compLoop (.ListComp elt [⟨target, iter, ifs, 0⟩] scope pos) 0 it acc env) R s := by
 refine codeAny_loop rfl I (fun n s hI => ?_) n h
 show wpAny _ A ((compTurn (.ListComp elt [⟨target, iter, ifs, 0⟩] scope pos) 0 it acc env).onRaise (fun x => do noteFrame x env; theTreesLotGoes x)) _ _ s
 refine wpAny_noted ?_
 rw [compTurn_list]
 have el : ∀ {E' : Value → Shared → Prop} (x : Value) (s' : Shared), False → E' x s' := fun _ _ f => f.elim
 refine wpAny_bind (wpAny_standAt (wpAny_bind (wpAny_mono (turn n s hI) (fun r s₁ h₁ => ?_) fun _ _ f => f.elim)))
 cases r with
 | none => exact wpAny_pure h₁
 | some v =>
   refine wpAny_bind (wpAny_mono h₁ (fun _ s₁' h₁' => ?_) fun _ _ f => f.elim)
   refine wpAny_bind (wpAny_mono h₁' (fun _ s₂ h₂ => wpAny_bind (wpAny_mono h₂ (fun ok s₃ h₃ => ?_) fun _ _ f => f.elim)) fun _ _ f => f.elim)
   cases ok with
   | false => exact wpAny_pure ⟨rfl, h₃⟩
   | true =>
     exact wpAny_bind (wpAny_bind (wpAny_mono h₃ (fun x s₄ h₄ => wpAny_bind (wpAny_mono h₄ (fun _ s₅ h₅ => wpAny_pure (wpAny_pure ⟨rfl, h₅⟩)) fun _ _ f => f.elim)) fun _ _ f => f.elim))
end

noncomputable def compX (X : Cx) (N' : List Str) (scope : Scope) (cl : List (Str × Addr)) (C : Addr) (s : Shared) (H : Hp) (fp : List Addr) : Cx where
 prog := X.prog
 w := X.w
 K := X.K
 mg := X.mg
 base := X.base
 A := X.A
 N := N'
 s₀ := s
 H₀ := H
 env := compEnvC scope cl C X.env
 outer := X.stack
 stack := X.stack
 ex := fp
 fn := fun _ => false
 calm := X.calm
 pn := []
 xe := fun _ _ => False

noncomputable def PTs (X : Cx) (ifs : List Expr) (t : TT) : Prop :=
 ∀ (pins : List (Addr × Obj)) (s : Shared) (σ : St) (H : Hp) (Q : Bool → Hp → Prop), Inv X pins σ H s → t σ H Q →
   wpAny (model X.prog X.w) X.A (forIn ifs true fun c r => if r = true then do let ok ← isTrue c X.env (eval c X.env); pure (ForInStep.yield ok) else pure (ForInStep.yield r)) (TP X pins σ Q) X.xe s
theorem pts_one {X : Cx} {c : Expr} {t : TT} (h : PT X c t) : PTs X [c] t := fun pins s σ H Q I hw => by
 simp only [List.forIn_cons, List.forIn_nil, if_true]
 exact wpAny_bind (wpAny_bind (wpAny_mono (h pins s σ H Q I hw) (fun b s' hb => wpAny_pure (wpAny_pure hb)) fun _ _ x => x))

noncomputable def Cap (X : Cx) (sc : Scope) : List Str → List (Option Nat) → Prop
 | [], [] => True
 | _ :: N, none :: ks => Cap X sc N ks
 | x :: N, some k :: ks => (X.N[k]? = some x ∧ X.env.scope.names.lookup x = some .cell ∧ (sc.names.lookup x = some .cell ∨ sc.names.lookup x = some .free)) ∧ Cap X sc N ks
 | _, _ => False
theorem Cap.len {X : Cx} {sc : Scope} : ∀ {N : List Str} {ks : List (Option Nat)}, Cap X sc N ks → ks.length = N.length
 | [], [], _ => rfl
 | _ :: N, none :: ks, h => by simp [Cap.len (show Cap X sc N ks from h)]
 | _ :: N, some _ :: ks, h => by simp [Cap.len (show Cap X sc N ks from h.2)]
 | [], _ :: _, h => by cases h
 | _ :: _, [], h => by cases h
theorem Cap.get {X : Cx} {sc : Scope} : ∀ {N : List Str} {ks : List (Option Nat)} {i k : Nat} {x : Str}, Cap X sc N ks → N[i]? = some x → ks[i]? = some (some k) →
 X.N[k]? = some x ∧ X.env.scope.names.lookup x = some .cell ∧ (sc.names.lookup x = some .cell ∨ sc.names.lookup x = some .free)
 | [], [], _, _, _, _, e, _ => by simp at e
 | [], _ :: _, _, _, _, h, _, _ => by cases h
 | _ :: _, [], _, _, _, h, _, _ => by cases h
 | _ :: N, none :: ks, 0, k, x, h, e1, e2 => by simp at e2
 | _ :: N, none :: ks, i + 1, k, x, h, e1, e2 => Cap.get (i := i) (show Cap X sc N ks from h) (by simpa using e1) (by simpa using e2)
 | y :: N, some j :: ks, 0, k, x, h, e1, e2 => by
   simp at e1 e2
   subst e1 e2
   exact h.1
 | _ :: N, some _ :: ks, i + 1, k, x, h, e1, e2 => Cap.get (i := i) (show Cap X sc N ks from h.2) (by simpa using e1) (by simpa using e2)
noncomputable def capt (ks : List (Option Nat)) (σ : St) : St := ks.map fun o => match o with
 | none => none
 | some k => σ.getD k none

noncomputable def CompW (J : It) (D : Addr) (g : TG) (tt : TT) (te : TE) (Q : VK) (σ0 : St) (H0 : Hp) : Prop :=
 ∃ W : Nat → Nat → List V → St → Hp → Prop, (∃ m, W 0 m [] σ0 H0) ∧ ∀ i m ys σ' H', W i m ys σ' H' → H' D = some (.lst ys) ∧
   ((J.stop i H' ∧ Q (.ref D) H') ∨ (J.go i H' ∧ ∀ x H2, J.yld i H' x H2 → g x σ' H2 fun σ3 H3 => tt σ3 H3 fun b H4 => if b = true then
     te σ3 H4 fun y H5 => H5 D = some (.lst ys) ∧ ys.length < sizeLine ∧ ∃ m', m' < m ∧ W (i + 1) m' (ys ++ [y]) σ3 (upd H5 D (.lst (ys ++ [y]))) else ∃ m', m' < m ∧ W (i + 1) m' ys σ3 H4))
noncomputable def tComp (wi : TI) (ks : List (Option Nat)) (g : TG) (tt : TT) (te : TE) : TE := fun σ H Q => wi σ H fun J H1 => ∀ D, H1 D = none → CompW J D g tt te Q (capt ks σ) (upd H1 D (.lst []))

section
variable {X : Cx}
theorem pe_comp {tg iter elt : Expr} {ifs : List Expr} {scope : Scope} {pos : Pos} {N' : List Str} {ks : List (Option Nat)} {cl : List (Str × Addr)} {wi : TI} {g : TG} {tt : TT} {te : TE}
 (hcalm : X.calm = true) (hi : PI X tg iter wi) (hclos : closureFor scope X.env = pure cl) (hcl : ∀ x c, cl.lookup x = some c → X.env.cells.lookup x = some c)
 (hcell : ∀ y ∈ scope.names, y.2 ≠ .cell) (hkind : scope.kind = .function) (hnames : ∀ y ∈ scope.names, y.2 = .local → scope.names.lookup y.1 = some .local)
 (hhas : ∀ x, ((relabel scope X.env).names.lookup x = some .cell ∨ (relabel scope X.env).names.lookup x = some .free) → ∃ c, cl.lookup x = some c)
 (hcap : Cap X (relabel scope X.env) N' ks)
 (hg : ∀ C s H fp, PG (compX X N' scope cl C s H fp) tg g) (ht : ∀ C s H fp, PTs (compX X N' scope cl C s H fp) ifs tt) (he : ∀ C s H fp, PE (compX X N' scope cl C s H fp) elt te)
 (hs : ∀ x, foldedSetIterable iter X.env x = pure x := by intro _; rfl) : PE X (.ListComp elt [⟨tg, iter, ifs, 0⟩] scope pos) (tComp wi ks g tt te) := by
 intro pins s σ H Q I h
 rw [eval_ListComp]
 refine wpAny_comprehension_free (use := none) rfl hs hclos hkind hnames (thn (hi pins s σ H _ I h) fun v s1 h1 => thn h1 fun itv s2 h2 => ?_)
 obtain ⟨it, fp, tn, J, H2, e, I2, T, st2, f2, R⟩ := h2
 subst e
 refine wpAny_newObj_type (wpAny_newFunctionEnv hcell (by intro y hy; simp at hy) (fun h₁ hns₁ hsb₁ => ?_) hkind)
 dsimp only at hns₁ hsb₁ ⊢
 have hD : H2 s2.heap.objs.size = none := I2.hok.fresh (Nat.le_refl _)
 obtain ⟨W, ⟨m0, w0⟩, turn⟩ := R _ hD
 generalize hs3 : ({ s2 with heap := s2.heap.push { cls := .type "list", dict := none, data := .seq ([] : List Value).toArray } } : Shared) = s3
 have e3 : s3.heap = s2.heap.push { cls := .type "list", dict := none, data := .seq ([] : List Value).toArray } := by rw [← hs3]
 have I3 : Inv X pins σ (upd H2 s2.heap.objs.size (.lst [])) s3 := by
  rw [← hs3]
  exact I2.laid (t' := s2.toks) (fun b o e => Heap.get?_push_of_some _ e) (Nat.le_refl _) ⟨Nat.zero_le _, [], 0, .nil, Heap.get?_push_size _ rfl⟩
 generalize hD0 : s2.heap.objs.size = D at *
 generalize hH3 : upd H2 D (.lst []) = H3 at *
 rw [← e3] at hns₁ hsb₁ ⊢
 -- what newFunctionEnv keeps
 have kp : ∀ b o, s3.heap.get? b = some o → h₁.get? b = some o := fun b o e => hsb₁.extBut b o (Nat.ne_of_lt (Heap.lt_size e)) (Heap.get?_push_of_some _ e)
 have f3 : ∀ b ∈ fp, FpOk X pins H3 b ∧ b < s3.heap.objs.size := fun b hb => by
  obtain ⟨o, ho, _⟩ := T.obj 0 _ st2 b hb
  have hlt : b < D := by rw [← hD0]; exact Heap.lt_size ho
  refine ⟨⟨?_, (f2 b hb).2⟩, ?_⟩
  · rw [← hH3, upd_ne (Nat.ne_of_lt hlt)]; exact (f2 b hb).1
  · rw [e3, Heap.size_push, hD0]; exact Nat.lt_succ_of_lt hlt
 have st3 : tn 0 h₁ := T.keep 0 s2.heap h₁ st2 fun b hb o e => kp b o (by rw [e3]; exact Heap.get?_push_of_some _ e)
 have capK : ∀ x c, cl.lookup x = some c → X.env.cells.lookup x = some c := hcl
 have stkne : ∀ b ∈ fp, b ∉ frs X.stack := fun b hb z => by
  rcases List.mem_cons.mp (I3.stkSub b z) with e | e
  · exact (f3 b hb).1.2.1 e
  · exact (f3 b hb).1.2.2.1 e
 have Cfresh : H3 s3.heap.objs.size = none := I3.hok.fresh (Nat.le_refl _)
 have ok' : (compX X N' scope cl s3.heap.objs.size s3 H3 fp).Ok := by
  refine ⟨I3.ok.mod, hkind, I3.ok.glob, I3.ok.blt, Nat.le_refl _, fun x y c h1 h2 => I3.ok.inj x y c (capK x c h1) (capK y c h2), fun x hx => hhas x hx, fun x c hf _ => absurd (show false = true from hf) Bool.false_ne_true, fun z => I3.ok.hd z, I3.ok.frames, .inl rfl,
   fun b hb => ⟨Nat.ne_of_lt (f3 b hb).2, fun x c e => (f3 b hb).1.2.2.2.2.1 x c (capK x c e)⟩, I3.bs, Nat.le_trans I3.ok.bsz I3.sz, fun b o e hb => ?_, fun b hb => stkne b hb, I3.stack, I3.stkFree⟩
  rcases (f3 b hb).1.2.2.2.1 with z | z
  · exact I3.ok.noex b o e z
  · exact absurd (Nat.lt_of_lt_of_le (Heap.lt_size e) (Nat.le_trans I3.ok.bsz z)) (Nat.lt_irrefl _)
 have I4 : Inv (compX X N' scope cl s3.heap.objs.size s3 H3 fp) [] (capt ks σ) H3 { s3 with heap := h₁, toks := s3.toks + ([] : List (Str × Value)).length } := by
  refine ⟨ok', rfl, I3.bare, Un.kept kp, ⟨_, hns₁, fun i x v e1 e2 e3' => ?_⟩, fun x c e => ?_, Cfresh, fun x c e => I3.freeC x c (capK x c e), fun p hp => absurd (show p ∈ ([] : List (Addr × Obj)) from hp) (by simp), I3.hok.kept kp, ?_⟩
  · have e2' : (capt ks σ)[i]? = some (some v) := e2
    unfold capt at e2'
    rw [List.getElem?_map] at e2'
    cases hk : ks[i]? with
    | none => rw [hk] at e2'; cases e2'
    | some o =>
      rw [hk] at e2'
      cases o with
      | none => cases e2'
      | some k =>
        have ev : σ.getD k none = some v := Option.some.inj e2'
        obtain ⟨c1, c2, c3⟩ := hcap.get e1 hk
        obtain ⟨m, hn, hl⟩ := I3.loc
        have es : σ[k]? = some (some v) := by
         rw [List.getD_eq_getElem?_getD] at ev
         cases q : σ[k]? with
         | none => rw [q] at ev; cases ev
         | some z => rw [q] at ev; exact congrArg some ev
        obtain ⟨u, r, l⟩ := hl k x v c1 es (.inr (.inl c2))
        refine ⟨u, r, .inr ⟨c3, ?_⟩⟩
        rcases l with ⟨l1, _⟩ | ⟨_, c, l2, l3⟩
        · have l1' : X.env.scope.names.lookup x = some .local := l1
          rw [c2] at l1'; cases l1'
        · obtain ⟨c', hc'⟩ := hhas x c3
          have : X.env.cells.lookup x = some c' := capK x c' hc'
          rw [l2] at this
          cases this
          refine ⟨c, hc', ?_⟩
          obtain ⟨o, ho, hd⟩ := l3
          exact ⟨o, kp c o ho, hd⟩
  · obtain ⟨v, o, ho, hd⟩ := I3.cell x c (capK x c e)
    exact ⟨v, o, kp c o ho, hd⟩
  · show (capt ks σ).length = N'.length
    unfold capt
    rw [List.length_map, hcap.len]
 -- behind the block
 have Cne : ∀ p ∈ X.pn ++ pins, p.1 ≠ s3.heap.objs.size := fun p hp => Nat.ne_of_lt (Heap.lt_size (I3.pin p hp).1)
 have back : ∀ {σ' : St} {H' : Hp} {s' : Shared}, Inv (compX X N' scope cl s3.heap.objs.size s3 H3 fp) [] σ' H' s' → ∀ h'' : Heap, Heap.SameBut s3.heap.objs.size s'.heap h'' → Inv X pins σ H' { s' with heap := h'' } := fun {σ' H' s'} I' h'' sb => by
  have J1 : Inv X pins σ H' s' := I3.call' (ch := fp) I'.os I'.base I'.hok I'.bare fun b hb => ⟨(f3 b hb).1.2.2.2.1, (f3 b hb).1.2.1, (f3 b hb).1.2.2.2.2.1, (f3 b hb).1.2.2.2.2.2⟩
  refine J1.turned (t' := s'.toks) (it := s3.heap.objs.size) (fun b o hb e => (sb.2 b hb).trans e) I'.free (Nat.ne_of_gt I3.lt) (.inr I3.sz) (fun x c e => ?_) Cne
  obtain ⟨v, q⟩ := I3.cell x c e
  exact Nat.ne_of_lt q.lt
 have fpok : ∀ {H' : Hp}, (∀ b ∈ fp, H' b = none) → ∀ b ∈ fp, FpOk (compX X N' scope cl s3.heap.objs.size s3 H3 fp) [] H' b := fun hn b hb =>
  ⟨hn b hb, Nat.ne_of_lt (f3 b hb).2, stkne b hb, .inl hb, fun x c e => (f3 b hb).1.2.2.2.2.1 x c (capK x c e), fun p hp => absurd (show p ∈ ([] : List (Addr × Obj)) from hp) (by simp)⟩
 have loop : codeAny (model X.prog X.w) X.A (.compLoop (.ListComp elt [⟨tg, iter, ifs, 0⟩] scope pos) 0 (.ref it) (.ref D) (compEnvC scope cl s3.heap.objs.size X.env))
  (compPost (model X.prog X.w) X.A X.xe none (EP X pins σ Q) (.ref D) s3.heap.objs.size) { s3 with heap := h₁, toks := s3.toks + ([] : List (Str × Value)).length } := by
  refine compLoop_any (fun n s' => ∃ i ys σ' H', Inv (compX X N' scope cl s3.heap.objs.size s3 H3 fp) [] σ' H' s' ∧ tn i s'.heap ∧ (∀ b ∈ fp, H' b = none) ∧ W i n ys σ' H') ?_ m0 ⟨0, [], _, _, I4, st3, fun b hb => (f3 b hb).1.1, w0⟩
  rintro n s5 ⟨i, ys, σ5, H5, I5, st5, fr5, w5⟩
  obtain ⟨hD5, tq⟩ := turn i n ys σ5 H5 w5
  rcases tq with ⟨stop, q⟩ | ⟨go, step⟩
  · refine thn (T.done (compX X N' scope cl s3.heap.objs.size s3 H3 fp) rfl rfl rfl hcalm i [] s5 σ5 H5 _ I5 (fpok fr5) st5 stop) fun r s6 ⟨hr, I6⟩ => ?_
    subst hr
    obtain ⟨m, hn, _⟩ := I6.loc
    exact ⟨m, hn, fun h'' sb => ⟨.ref D, H5, back I6 h'' sb, rfl, q⟩⟩
  · refine thn (T.item (compX X N' scope cl s3.heap.objs.size s3 H3 fp) rfl rfl rfl hcalm i [] s5 σ5 H5 _ I5 (fpok fr5) st5 go) fun r s6 ⟨u, hr, h6⟩ => ?_
    subst hr
    refine thn h6 fun _ s7 ⟨x, H7, I7, r7, y7, st7, fr7⟩ => ?_
    have I7' := I7.pinned (fpok fr7) (T.obj _ _ st7)
    refine thn (hg _ _ _ _ _ s7 σ5 H7 x u _ I7' r7 (step x H7 y7)) fun _ s8 ⟨σ8, H8, I8, q8⟩ => ?_
    refine thn (ht _ _ _ _ _ s8 σ8 H8 _ I8 q8) fun ok s9 ⟨H9, I9, q9⟩ => ?_
    have again : ∀ {σ' : St} {H' : Hp} {s' : Shared} {ys' : List V}, Inv (compX X N' scope cl s3.heap.objs.size s3 H3 fp) ([] ++ pinsAt fp s7.heap) σ' H' s' → (∃ m', m' < n ∧ W (i + 1) m' ys' σ' H') →
     ∃ m', m' < n ∧ ∃ i ys σ' H', Inv (compX X N' scope cl s3.heap.objs.size s3 H3 fp) [] σ' H' s' ∧ tn i s'.heap ∧ (∀ b ∈ fp, H' b = none) ∧ W i m' ys σ' H' := fun {σ' H' s' ys'} I' hw => by
     obtain ⟨m', hm, w'⟩ := hw
     refine ⟨m', hm, i + 1, ys', σ', H', I'.unpinned, T.keep _ _ _ st7 fun b hb o e => (I'.pin (b, o) (List.mem_append_right _ (List.mem_append_right _ (mem_pinsAt hb e)))).1, fun b hb => ?_, w'⟩
     obtain ⟨o, e, d⟩ := T.obj _ _ st7 b hb
     exact (I'.pin (b, o) (List.mem_append_right _ (List.mem_append_right _ (mem_pinsAt hb e)))).2.1
    cases ok with
    | false =>
      rw [if_neg Bool.false_ne_true] at q9 ⊢
      exact again I9 q9
    | true =>
      rw [if_pos rfl] at q9 ⊢
      refine thn (he _ _ _ _ _ s9 σ8 H9 _ I9 q9) fun y s10 ⟨yv, H10, I10, r10, q10, z10, w10⟩ => ?_
      refine thn (mt_append _ s10 σ8 H10 (.ref D) [yv] (.ref D) [y] (fun v H' => v = .non ∧ H' = upd H10 D (.lst (ys ++ [yv]))) I10 rfl (.cons r10 .nil) ⟨D, ys, yv, rfl, rfl, q10, z10, rfl, rfl⟩) fun _ s11 ⟨_, H11, I11, _, _, e11⟩ => ?_
      subst e11
      exact again I11 w10
 have es : ({ s3 with heap := h₁, toks := s3.toks + ([] : List (Str × Value)).length } : Shared) = { s2 with heap := h₁, toks := s2.toks + ([] : List (Str × Value)).length } := by rw [← hs3]
 rw [es] at loop
 exact codeAny_compStart_list loop (T.self _ 0 _ _ _ st3 loop)
end
end L2

namespace L2
open PySem PySem.Spec PyProof.Rows

noncomputable def Sz (n : Nat) (k : Int) : Prop := k.natAbs < 2 ^ n
theorem Sz.mono {n m : Nat} {k : Int} (h : Sz n k) (l : n ≤ m) : Sz m k := Nat.lt_of_lt_of_le h (Nat.pow_le_pow_right (by decide) l)
theorem Sz.mul {n m : Nat} {a b : Int} (h : Sz n a) (h' : Sz m b) : Sz (n + m) (a * b) := by
 unfold Sz at *
 rw [Int.natAbs_mul, Nat.pow_add]
 exact Nat.mul_lt_mul'' h h'
theorem Sz.add {n : Nat} {a b : Int} (h : Sz n a) (h' : Sz n b) : Sz (n + 1) (a + b) := by
 unfold Sz at *
 rw [Nat.pow_succ]
 omega
theorem Sz.sub {n : Nat} {a b : Int} (h : Sz n a) (h' : Sz n b) : Sz (n + 1) (a - b) := by
 unfold Sz at *
 rw [Nat.pow_succ]
 omega
theorem Sz.bits {n : Nat} {k : Int} (h : Sz n k) : Builtin.Int.intBits k ≤ n := by
 unfold Builtin.Int.intBits
 split
 · exact Nat.zero_le _
 · rename_i hk
   have h0 : k.natAbs ≠ 0 := fun z => hk (by simp at z; simp [z])
   have := (Nat.log2_lt h0).mpr h
   omega
theorem Sz.log2 {n : Nat} {k : Int} (h : Sz n k) (hn : 0 < n) : k.natAbs.log2 < n := by
 by_cases h0 : k.natAbs = 0
 · rw [h0]; exact hn
 · exact (Nat.log2_lt h0).mpr h
noncomputable def CMulB (i j : Int) : Prop := Sz 100000 i ∧ Sz 100000 j
theorem CMulB.ok {i j : Int} (h : CMulB i j) : IntMulOk i j := by
 have h1 := h.1.bits
 have h2 := h.2.bits
 have e : Builtin.Int.intTooBig ((Builtin.Int.intBits i : Int) + Builtin.Int.intBits j) = false := by
  unfold Builtin.Int.intTooBig
  refine decide_eq_false ?_
  have : (bitsLine : Nat) = 134217728 := rfl
  rw [this]
  omega
 unfold IntMulOk
 simp [e]
noncomputable def CDivB (_ j : Int) : Prop := j ≠ 0 ∧ Sz 9000 j
section
variable {X : Cx}
theorem op_fdivB : OpR X (binaryOp .FloorDiv) (rI CDivB fun i j => .int (i.fdiv j)) := opI fun _ _ _ _ _ _ _ hc q => floordiv_int hc.1 q (.inl (PyProof.noPylong_of_log2 (hc.2.log2 (by decide))))
end

inductive Dt where
 | non | bl (b : Bool) | int (i : Int) | str (x : Str) | tup (xs : List Dt) | lst (xs : List Dt)
mutual
def Den (K : PySem.W.Frag) (H : Hp) : Dt → V → Prop
 | .non, v => v = .non
 | .bl b, v => v = .bl b
 | .int i, v => v = .int i
 | .str x, v => v = .str x
 | .tup ds, v => ∃ a xs, v = .ref a ∧ SqT K H a xs ∧ Dens K H ds xs
 | .lst ds, v => ∃ a xs, v = .ref a ∧ SqL K H a xs ∧ Dens K H ds xs
def Dens (K : PySem.W.Frag) (H : Hp) : List Dt → List V → Prop
 | [], xs => xs = []
 | d :: ds, xs => ∃ x r, xs = x :: r ∧ Den K H d x ∧ Dens K H ds r
end
mutual
def eqD : Dt → Dt → Bool
 | .non, .non => true
 | .bl a, .bl b => a == b
 | .bl a, .int b => (if a then 1 else 0) == b
 | .int a, .bl b => a == (if b then 1 else 0)
 | .int a, .int b => a == b
 | .str a, .str b => a == b
 | .tup xs, .tup ys => eqDs xs ys
 | .lst xs, .lst ys => eqDs xs ys
 | _, _ => false
def eqDs : List Dt → List Dt → Bool
 | [], [] => true
 | x :: xs, y :: ys => eqD x y && eqDs xs ys
 | _, _ => false
end
mutual
def depD : Dt → Nat
 | .tup xs => depDs xs + 1
 | .lst xs => depDs xs + 1
 | _ => 0
def depDs : List Dt → Nat
 | [] => 0
 | x :: xs => max (depD x) (depDs xs)
end
mutual
theorem eqD_refl : ∀ d : Dt, eqD d d = true
 | .non => rfl
 | .bl b => by simp [eqD]
 | .int b => by simp [eqD]
 | .str b => by simp [eqD]
 | .tup xs => by simp only [eqD]; exact eqDs_refl xs
 | .lst xs => by simp only [eqD]; exact eqDs_refl xs
theorem eqDs_refl : ∀ ds : List Dt, eqDs ds ds = true
 | [] => rfl
 | x :: xs => by simp only [eqDs, eqD_refl x, eqDs_refl xs, Bool.and_self]
end
theorem Dens.length {K : PySem.W.Frag} {H : Hp} : ∀ {ds : List Dt} {xs : List V}, Dens K H ds xs → xs.length = ds.length
 | [], _, h => by simp only [Dens] at h; subst h; rfl
 | d :: ds, _, h => by
   simp only [Dens] at h
   obtain ⟨x, r, rfl, _, h⟩ := h
   simp [Dens.length h]
section
variable {X : Cx} {pins : List (Addr × Obj)} {σ : St} {H : Hp} {s : Shared}
theorem kinds_apart (I : Inv X pins σ H s) {a : Addr} {xs ys : List V} (h : SqT X.K H a xs) (h' : SqL X.K H a ys) : False := by
 obtain ⟨its, _, ⟨o, e, c, _⟩, _⟩ := I.tuple h
 obtain ⟨its', _, ⟨o', n', e', c', _⟩, _⟩ := I.list h'
 rw [e] at e'; cases e'
 rw [c] at c'
 have : ("tuple" : String) = "list" := by injection c'
 exact absurd this (by decide)
mutual
theorem Den.inj (I : Inv X pins σ H s) : ∀ {d e : Dt} {v : V}, Den X.K H d v → Den X.K H e v → d = e
 | .non, e, v, h, h' => by
   simp only [Den] at h
   subst h
   cases e <;> simp only [Den] at h' <;> first
    | rfl
    | (obtain ⟨_, _, z, _⟩ := h'; cases z; done)
    | (cases h'; done)
 | .bl b, e, v, h, h' => by
   simp only [Den] at h
   subst h
   cases e <;> simp only [Den] at h' <;> first
    | (obtain ⟨_, _, z, _⟩ := h'; cases z; done)
    | (cases h'; rfl)
    | (cases h'; done)
 | .int b, e, v, h, h' => by
   simp only [Den] at h
   subst h
   cases e <;> simp only [Den] at h' <;> first
    | (obtain ⟨_, _, z, _⟩ := h'; cases z; done)
    | (cases h'; rfl)
    | (cases h'; done)
 | .str b, e, v, h, h' => by
   simp only [Den] at h
   subst h
   cases e <;> simp only [Den] at h' <;> first
    | (obtain ⟨_, _, z, _⟩ := h'; cases z; done)
    | (cases h'; rfl)
    | (cases h'; done)
 | .tup ds, e, v, h, h' => by
   simp only [Den] at h
   obtain ⟨a, xs, rfl, hx, hd⟩ := h
   cases e with
   | tup es =>
     simp only [Den] at h'
     obtain ⟨b, ys, z, hy, he⟩ := h'
     cases z
     rw [I.tuple_inj hy hx] at he
     rw [Dens.inj I hd he]
   | lst es =>
     simp only [Den] at h'
     obtain ⟨b, ys, z, hy, he⟩ := h'
     cases z
     exact (kinds_apart I hx hy).elim
   | non => simp only [Den] at h'; cases h'
   | bl b => simp only [Den] at h'; cases h'
   | int b => simp only [Den] at h'; cases h'
   | str b => simp only [Den] at h'; cases h'
 | .lst ds, e, v, h, h' => by
   simp only [Den] at h
   obtain ⟨a, xs, rfl, hx, hd⟩ := h
   cases e with
   | lst es =>
     simp only [Den] at h'
     obtain ⟨b, ys, z, hy, he⟩ := h'
     cases z
     rw [I.list_inj hy hx] at he
     rw [Dens.inj I hd he]
   | tup es =>
     simp only [Den] at h'
     obtain ⟨b, ys, z, hy, he⟩ := h'
     cases z
     exact (kinds_apart I hy hx).elim
   | non => simp only [Den] at h'; cases h'
   | bl b => simp only [Den] at h'; cases h'
   | int b => simp only [Den] at h'; cases h'
   | str b => simp only [Den] at h'; cases h'
theorem Dens.inj (I : Inv X pins σ H s) : ∀ {ds es : List Dt} {vs : List V}, Dens X.K H ds vs → Dens X.K H es vs → ds = es
 | [], [], _, _, _ => rfl
 | [], e :: es, vs, h, h' => by
   simp only [Dens] at h h'
   subst h
   obtain ⟨_, _, z, _⟩ := h'
   cases z
 | d :: ds, [], vs, h, h' => by
   simp only [Dens] at h h'
   subst h'
   obtain ⟨_, _, z, _⟩ := h
   cases z
 | d :: ds, e :: es, vs, h, h' => by
   simp only [Dens] at h h'
   obtain ⟨x, r, rfl, h1, h2⟩ := h
   obtain ⟨y, r', z, h3, h4⟩ := h'
   cases z
   rw [Den.inj I h1 h3, Dens.inj I h2 h4]
end
noncomputable def eqAtD (ds es : List Dt) (j : Nat) : Bool := match ds[j]?, es[j]? with
 | some d, some e => eqD d e
 | _, _ => true
theorem all_eqAtD : ∀ (ds es : List Dt), ds.length = es.length → (List.range ds.length).all (eqAtD ds es) = eqDs ds es
 | [], [], _ => rfl
 | d :: ds, e :: es, h => by
   have ih := all_eqAtD ds es (by simpa using h)
   rw [List.length_cons, List.range_succ_eq_map, List.all_cons, List.all_map]
   have e0 : eqAtD (d :: ds) (e :: es) 0 = eqD d e := rfl
   have e1 : (eqAtD (d :: ds) (e :: es)) ∘ Nat.succ = eqAtD ds es := by
    funext j
    simp [eqAtD, Function.comp]
   rw [e0, e1, ih]
   rfl
theorem eqDs_len : ∀ (ds es : List Dt), ds.length ≠ es.length → eqDs ds es = false
 | [], [], h => absurd rfl h
 | [], _ :: _, _ => rfl
 | _ :: _, [], _ => rfl
 | d :: ds, e :: es, h => by
   simp only [eqDs]
   rw [eqDs_len ds es (by simpa using h), Bool.and_false]
end
end L2

namespace L2
open PySem PySem.Spec PyProof.Rows
section
variable {X : Cx} {pins : List (Addr × Obj)} {σ : St} {H : Hp} {s : Shared}
theorem Dens.get {K : PySem.W.Frag} {H : Hp} : ∀ {ds : List Dt} {xs : List V} {j : Nat} {d : Dt}, Dens K H ds xs → ds[j]? = some d → ∃ x, xs[j]? = some x ∧ Den K H d x
 | [], _, _, _, _, e => by simp at e
 | d :: ds, xs, 0, d', h, e => by
   simp only [Dens] at h
   obtain ⟨x, r, rfl, h1, _⟩ := h
   simp at e
   subst e
   exact ⟨x, rfl, h1⟩
 | d :: ds, xs, j + 1, d', h, e => by
   simp only [Dens] at h
   obtain ⟨x, r, rfl, _, h2⟩ := h
   obtain ⟨y, h3, h4⟩ := Dens.get (j := j) h2 (by simpa using e)
   exact ⟨y, by simpa using h3, h4⟩
theorem depDs_mem : ∀ {ds : List Dt} {j : Nat} {d : Dt}, ds[j]? = some d → depD d ≤ depDs ds
 | [], _, _, e => by simp at e
 | d :: ds, 0, d', e => by simp at e; subst e; simp only [depDs]; exact Nat.le_max_left _ _
 | d :: ds, j + 1, d', e => by
   have := depDs_mem (ds := ds) (j := j) (d := d') (by simpa using e)
   simp only [depDs]
   exact Nat.le_trans this (Nat.le_max_right _ _)
theorem items_eq {A : Around} (n : Nat) (ih : ∀ (A : Around) (d e : Dt) (x y : V) (u v : Value), depD d ≤ n → A.units + n < cLine → Den X.K H d x → Den X.K H e y → RelV x u → RelV y v → SeqAt.EqAt A s u v (eqD d e))
 {ds es : List Dt} {xs ys : List V} {us vs : List Value} (hd : depDs ds ≤ n) (hu : A.units + n + 1 < cLine) (h1 : Dens X.K H ds xs) (h2 : Dens X.K H es ys) (r1 : Vals xs us) (r2 : Vals ys vs) :
 ∀ j (g1 : j < us.toArray.size) (g2 : j < vs.toArray.size), SeqAt.EqAt A.in1 s us.toArray[j] vs.toArray[j] (eqAtD ds es j) := by
 intro j g1 g2
 have l1 := h1.length
 have l2 := h2.length
 have l3 := r1.length
 have l4 := r2.length
 have g1' : j < us.length := by simpa using g1
 have g2' : j < vs.length := by simpa using g2
 have j1 : j < ds.length := by rw [← l1, l3]; exact g1'
 have j2 : j < es.length := by rw [← l2, l4]; exact g2'
 have e1 : ds[j]? = some ds[j] := by simp [j1]
 have e2 : es[j]? = some es[j] := by simp [j2]
 obtain ⟨x, ex, dx⟩ := h1.get e1
 obtain ⟨y, ey, dy⟩ := h2.get e2
 obtain ⟨u, eu, ru⟩ := r1.get ex
 obtain ⟨v, ev, rv⟩ := r2.get ey
 have e3 : eqAtD ds es j = eqD ds[j] es[j] := by unfold eqAtD; rw [e1, e2]
 rw [e3]
 have a1 : us.toArray[j] = u := by
  have : us[j]? = some us[j] := by simp [g1']
  rw [this] at eu
  simpa using Option.some.inj eu
 have a2 : vs.toArray[j] = v := by
  have : vs[j]? = some vs[j] := by simp [g2']
  rw [this] at ev
  simpa using Option.some.inj ev
 rw [a1, a2]
 exact ih A.in1 _ _ x y u v (Nat.le_trans (depDs_mem e1) hd) (by show A.units + 1 + n < cLine; omega) dx dy ru rv
theorem rc_seqT {A : Around} (I : Inv X pins σ H s) (n : Nat) (ih : ∀ (A : Around) (d e : Dt) (x y : V) (u v : Value), depD d ≤ n → A.units + n < cLine → Den X.K H d x → Den X.K H e y → RelV x u → RelV y v → SeqAt.EqAt A s u v (eqD d e))
 {ds es : List Dt} {a b : Addr} {xs ys : List V} (hd : depDs ds ≤ n) (hu : A.units + n + 1 < cLine) (ha : SqT X.K H a xs) (hb : SqT X.K H b ys) (h1 : Dens X.K H ds xs) (h2 : Dens X.K H es ys) :
 SeqAt.RcAt A s (.ref a) (.ref b) (eqDs ds es) ∧ SeqAt.RcNeAt A s (.ref a) (.ref b) (!eqDs ds es) := by
 obtain ⟨its, r1, p1, _⟩ := I.tuple ha
 obtain ⟨its2, r2, p2, _⟩ := I.tuple hb
 have l1 := h1.length
 have l2 := h2.length
 have l3 := r1.length
 have l4 := r2.length
 have hu' : A.units < cLine := by omega
 have q := SeqAt.RcAt.tuples (A := A) (s := s) (e := eqAtD ds es) p1 p2 hu' (items_eq n ih hd hu h1 h2 r1 r2)
 have q2 := SeqAt.RcNeAt.tuples (A := A) (s := s) (e := eqAtD ds es) p1 p2 hu' (items_eq n ih hd hu h1 h2 r1 r2)
 have e : ((List.range (min its.toArray.size its2.toArray.size)).all (eqAtD ds es) && its.toArray.size == its2.toArray.size) = eqDs ds es := by
  simp only [List.size_toArray]
  by_cases hl : ds.length = es.length
  · have : its.length = its2.length := by rw [← l3, ← l4, l1, l2, hl]
    rw [this, Nat.min_self, ← l4, l2, ← hl, all_eqAtD ds es hl]
    simp
  · have : its.length ≠ its2.length := by rw [← l3, ← l4, l1, l2]; exact hl
    rw [eqDs_len ds es hl]
    simp [this]
 rw [e] at q q2
 exact ⟨q, q2⟩
theorem rc_seqL {A : Around} (I : Inv X pins σ H s) (n : Nat) (ih : ∀ (A : Around) (d e : Dt) (x y : V) (u v : Value), depD d ≤ n → A.units + n < cLine → Den X.K H d x → Den X.K H e y → RelV x u → RelV y v → SeqAt.EqAt A s u v (eqD d e))
 {ds es : List Dt} {a b : Addr} {xs ys : List V} (hd : depDs ds ≤ n) (hu : A.units + n + 1 < cLine) (ha : SqL X.K H a xs) (hb : SqL X.K H b ys) (h1 : Dens X.K H ds xs) (h2 : Dens X.K H es ys) :
 SeqAt.RcAt A s (.ref a) (.ref b) (eqDs ds es) ∧ SeqAt.RcNeAt A s (.ref a) (.ref b) (!eqDs ds es) := by
 obtain ⟨its, r1, p1, _⟩ := I.list ha
 obtain ⟨its2, r2, p2, _⟩ := I.list hb
 have l1 := h1.length
 have l2 := h2.length
 have l3 := r1.length
 have l4 := r2.length
 have hu' : A.units < cLine := by omega
 by_cases hl : ds.length = es.length
 · have hsz : its.toArray.size = its2.toArray.size := by simp only [List.size_toArray]; rw [← l3, ← l4, l1, l2, hl]
   have q := SeqAt.RcAt.lists (A := A) (s := s) (e := eqAtD ds es) p1.isList p2.isList hsz hu' (items_eq n ih hd hu h1 h2 r1 r2)
   have q2 := SeqAt.RcNeAt.lists (A := A) (s := s) (e := eqAtD ds es) p1.isList p2.isList hsz hu' (items_eq n ih hd hu h1 h2 r1 r2)
   have e : (List.range its.toArray.size).all (eqAtD ds es) = eqDs ds es := by
    simp only [List.size_toArray]
    rw [← l3, l1, all_eqAtD ds es hl]
   rw [e] at q q2
   exact ⟨q, q2⟩
 · have hsz : (its.toArray.size != its2.toArray.size) = true := by
    simp only [List.size_toArray]
    rw [← l3, ← l4, l1, l2]
    simpa using hl
   rw [eqDs_len ds es hl]
   exact ⟨SeqAt.RcAt.lists_lengths p1.isList p2.isList hsz hu', SeqAt.RcNeAt.lists_lengths p1.isList p2.isList hsz hu'⟩
theorem eqAt_D (I : Inv X pins σ H s) : ∀ (n : Nat) (A : Around) (d e : Dt) (x y : V) (u v : Value), depD d ≤ n → A.units + n < cLine → Den X.K H d x → Den X.K H e y → RelV x u → RelV y v → SeqAt.EqAt A s u v (eqD d e) := by
 intro n
 induction n with
 | zero =>
   intro A d e x y u v hd hu h1 h2 rx ry
   have hu' : A.units < cLine := by omega
   cases d with
   | tup ds => simp only [depD] at hd; omega
   | lst ds => simp only [depD] at hd; omega
   | non =>
     simp only [Den] at h1
     subst h1
     cases e with
     | tup es =>
       simp only [Den] at h2
       obtain ⟨b, ys, rfl, hy, _⟩ := h2
       cases rx; cases ry
       obtain ⟨its, _, p, _⟩ := I.tuple hy
       exact SeqAt.EqAt.none_tuple p hu'
     | lst es =>
       simp only [Den] at h2
       obtain ⟨b, ys, rfl, hy, _⟩ := h2
       cases rx; cases ry
       obtain ⟨its, _, p, _⟩ := I.list hy
       exact SeqAt.EqAt.none_list p.isList hu'
     | _ => simp only [Den] at h2; subst h2; exact eqAt_V rx ry rfl rfl
   | bl i =>
     simp only [Den] at h1
     subst h1
     cases e with
     | tup es =>
       simp only [Den] at h2
       obtain ⟨b, ys, rfl, hy, _⟩ := h2
       cases rx; cases ry
       obtain ⟨its, _, p, _⟩ := I.tuple hy
       exact SeqAt.EqAt.bool_tuple _ p hu'
     | lst es =>
       simp only [Den] at h2
       obtain ⟨b, ys, rfl, hy, _⟩ := h2
       cases rx; cases ry
       obtain ⟨its, _, p, _⟩ := I.list hy
       exact SeqAt.EqAt.bool_list _ p.isList hu'
     | _ => simp only [Den] at h2; subst h2; exact eqAt_V rx ry rfl rfl
   | int i =>
     simp only [Den] at h1
     subst h1
     cases e with
     | tup es =>
       simp only [Den] at h2
       obtain ⟨b, ys, rfl, hy, _⟩ := h2
       obtain ⟨t, rfl⟩ := rx
       cases ry
       obtain ⟨its, _, p, _⟩ := I.tuple hy
       exact SeqAt.EqAt.int_tuple _ _ p hu'
     | lst es =>
       simp only [Den] at h2
       obtain ⟨b, ys, rfl, hy, _⟩ := h2
       obtain ⟨t, rfl⟩ := rx
       cases ry
       obtain ⟨its, _, p, _⟩ := I.list hy
       exact SeqAt.EqAt.int_list _ _ p.isList hu'
     | _ => simp only [Den] at h2; subst h2; exact eqAt_V rx ry rfl rfl
   | str i =>
     simp only [Den] at h1
     subst h1
     cases e with
     | tup es =>
       simp only [Den] at h2
       obtain ⟨b, ys, rfl, hy, _⟩ := h2
       obtain ⟨t, rfl⟩ := rx
       cases ry
       obtain ⟨its, _, p, _⟩ := I.tuple hy
       exact SeqAt.EqAt.str_tuple _ _ p hu'
     | lst es =>
       simp only [Den] at h2
       obtain ⟨b, ys, rfl, hy, _⟩ := h2
       obtain ⟨t, rfl⟩ := rx
       cases ry
       obtain ⟨its, _, p, _⟩ := I.list hy
       exact SeqAt.EqAt.str_list _ _ p.isList hu'
     | _ => simp only [Den] at h2; subst h2; exact eqAt_V rx ry rfl rfl
 | succ n ih =>
   intro A d e x y u v hd hu h1 h2 rx ry
   have hu' : A.units < cLine := by omega
   by_cases hle : depD d ≤ n
   · exact ih A d e x y u v hle (by omega) h1 h2 rx ry
   cases d with
   | tup ds =>
     simp only [depD] at hd
     have h1' := h1
     simp only [Den] at h1
     obtain ⟨a, xs, rfl, hx, hds⟩ := h1
     cases rx
     have hT := I.tuple hx
     obtain ⟨its, r1, p1, _⟩ := hT
     cases e with
     | tup es =>
       have h2' := h2
       simp only [Den] at h2
       obtain ⟨b, ys, rfl, hy, hes⟩ := h2
       cases ry
       by_cases hab : a = b
       · subst hab
         rw [Den.inj I h1' h2', eqD_refl]
         exact SeqAt.EqAt.same _
       · simp only [eqD]
         exact SeqAt.EqAt.of_refs hab (rc_seqT I n ih (by omega) (by omega) hx hy hds hes).1
     | lst es =>
       simp only [Den] at h2
       obtain ⟨b, ys, rfl, hy, _⟩ := h2
       cases ry
       obtain ⟨its', _, p, _⟩ := I.list hy
       exact SeqAt.EqAt.tuple_list p1 p.isList hu'
     | non => simp only [Den] at h2; subst h2; cases ry; exact SeqAt.EqAt.tuple_none p1 hu'
     | bl i => simp only [Den] at h2; subst h2; cases ry; exact SeqAt.EqAt.tuple_bool _ p1 hu'
     | int i => simp only [Den] at h2; subst h2; obtain ⟨t, rfl⟩ := ry; exact SeqAt.EqAt.tuple_int _ _ p1 hu'
     | str i => simp only [Den] at h2; subst h2; obtain ⟨t, rfl⟩ := ry; exact SeqAt.EqAt.tuple_str _ _ p1 hu'
   | lst ds =>
     simp only [depD] at hd
     have h1' := h1
     simp only [Den] at h1
     obtain ⟨a, xs, rfl, hx, hds⟩ := h1
     cases rx
     have hT := I.list hx
     obtain ⟨its, r1, p1, _⟩ := hT
     cases e with
     | lst es =>
       have h2' := h2
       simp only [Den] at h2
       obtain ⟨b, ys, rfl, hy, hes⟩ := h2
       cases ry
       by_cases hab : a = b
       · subst hab
         rw [Den.inj I h1' h2', eqD_refl]
         exact SeqAt.EqAt.same _
       · simp only [eqD]
         exact SeqAt.EqAt.of_refs hab (rc_seqL I n ih (by omega) (by omega) hx hy hds hes).1
     | tup es =>
       simp only [Den] at h2
       obtain ⟨b, ys, rfl, hy, _⟩ := h2
       cases ry
       obtain ⟨its', _, p, _⟩ := I.tuple hy
       exact SeqAt.EqAt.list_tuple p1.isList p hu'
     | non => simp only [Den] at h2; subst h2; cases ry; exact SeqAt.EqAt.list_none p1.isList hu'
     | bl i => simp only [Den] at h2; subst h2; cases ry; exact SeqAt.EqAt.list_bool _ p1.isList hu'
     | int i => simp only [Den] at h2; subst h2; obtain ⟨t, rfl⟩ := ry; exact SeqAt.EqAt.list_int _ _ p1.isList hu'
     | str i => simp only [Den] at h2; subst h2; obtain ⟨t, rfl⟩ := ry; exact SeqAt.EqAt.list_str _ _ p1.isList hu'
   | _ => simp only [depD] at hle; omega
end
section
variable {X : Cx}
noncomputable def rEqD (K : PySem.W.Frag) (neg : Bool) : R2 := fun x y H Q => ∃ a b xs ys ds es, x = .ref a ∧ y = .ref b ∧ ((SqT K H a xs ∧ SqT K H b ys) ∨ (SqL K H a xs ∧ SqL K H b ys)) ∧ Dens K H ds xs ∧ Dens K H es ys ∧ depDs ds ≤ 20 ∧
 Q (.bl (if neg then !eqDs ds es else eqDs ds es)) H
theorem op_eqD {k : Nat} (hr : Room k X.A) : OpR X (compareOp .Eq) (rEqD X.K false) := by
 intro pins s σ H x y v u Q I rx ry h
 obtain ⟨a, b, xs, ys, ds, es, rfl, rfl, hk, h1, h2, hd, q⟩ := h
 cases rx
 cases ry
 have hu := hr.units
 rcases hk with ⟨ha, hb⟩ | ⟨ha, hb⟩
 · exact (rc_seqT (A := X.A) I 20 (eqAt_D I 20) hd (by omega) ha hb h1 h2).1 _ _ _ _ ⟨.bl _, H, I, rfl, q⟩
 · exact (rc_seqL (A := X.A) I 20 (eqAt_D I 20) hd (by omega) ha hb h1 h2).1 _ _ _ _ ⟨.bl _, H, I, rfl, q⟩
noncomputable def rIsi (K : PySem.W.Frag) : List V → Hp → VK → Prop := fun xs H Q => ∃ x T t b, xs = [x, .ty T] ∧ TyOf K H x t ∧ PySem.W.kitOne K t (.type T) = some b ∧ Q (.bl b) H
theorem call_isi : CallR X (.builtin "isinstance") (rIsi X.K) := by
 intro pins s σ H xs us Q I r h
 obtain ⟨x, T, t, b, rfl, ty, e, q⟩ := h
 obtain ⟨u, w', rfl, ru, rw'⟩ := vals2 r
 cases rw'
 exact isinst_ok I ru ty e fun tk => ⟨.bl b, H, I.tok tk, rfl, q⟩
theorem isi_tt (K : PySem.W.Frag) : PySem.W.kitOne K (.type "tuple") (.type "tuple") = some true := rfl
theorem isi_it (K : PySem.W.Frag) : PySem.W.kitOne K (.type "int") (.type "tuple") = some false := by rfl
theorem isi_ii (K : PySem.W.Frag) : PySem.W.kitOne K (.type "int") (.type "int") = some true := by rfl
theorem isi_ib (K : PySem.W.Frag) : PySem.W.kitOne K (.type "int") (.type "bool") = some false := by rfl
theorem isi_bi (K : PySem.W.Frag) : PySem.W.kitOne K (.type "bool") (.type "int") = some true := by rfl
theorem isi_bb (K : PySem.W.Frag) : PySem.W.kitOne K (.type "bool") (.type "bool") = some true := by rfl
end
end L2

namespace L2
open PySem PySem.Spec PyProof.Rows

section
variable {prog : Program} {w : World} {A : Around} {E : Value → Shared → Prop} {s : Shared}
theorem loadIfAlive_ok {M : Model} {a : Addr} {Q : Option Obj → Shared → Prop} (h : Q (s.heap.get? a) s) : wpAny M A (loadIfAlive a) Q E s := fun Γ p hΓ => by
 unfold loadIfAlive
 rw [Sem.wp_loadIfAlive]
 exact wpAny_pure h Γ p hΓ

noncomputable abbrev EnOut (h : Heap) (e it : Addr) (i : Int) (f1 : Bool) (old : Value) (a : Addr) : Prop :=
 h.get? e = some { cls := .type "enumerate", dict := none, data := .fields #[rawInt a, .bool f1, .ref it, rawInt i, .none, old], slots := #[] }
noncomputable def EnSt (h : Heap) (e it : Addr) (i : Int) : Prop := (∃ old, IsEnum h e it i old) ∨ ∃ f1 old a o, EnOut h e it i f1 old a ∧ h.get? a = some o ∧ a ≠ e ∧ a ≠ it

theorem enum_next_out {e it a : Addr} {f1 : Bool} {o : Obj} {fp : List Addr} {n i : Nat} {P : Nat → Value → Prop} {St : Nat → Heap → Prop} {old : Value} {Q : Value → Shared → Prop}
 (D : Draws prog w A it fp n P St) (he : EnOut s.heap e it i f1 old a) (ha : s.heap.get? a = some o) (hae : a ≠ e) (hai : a ≠ it) (hst : St i s.heap) (hlt : i < n) (hne : e ≠ it) (hef : e ∉ fp)
 (hQ : ∀ x h' tk, P i x → EnSt h' e it ((i : Int) + 1) → St (i + 1) h' →
  h'.get? s.heap.objs.size = some { cls := .type "tuple", data := .seq #[.int i tk, x] } →
  (∀ b o, b ≠ e → b ≠ it → s.heap.get? b = some o → h'.get? b = some o) → Q (.ref s.heap.objs.size) { s with heap := h', toks := tk + 1 }) :
 wpAny (model prog w) A (Builtin.«enumerate.__next__» ⟨[.ref e], []⟩) (fun fin s' => ∃ v, fin = .done (.ret v) ∧ Q v s') E s := by
 obtain ⟨hp, g, d, tk₀, os⟩ := s
 show wpAny _ _ (field (.ref e) 2 >>= _) _ _ _
 refine wpAny_bind (wpAny_field he rfl (x := .ref it) rfl ?_)
 refine wpAny_bind (D.item i _ _ _ hlt hst fun x h₁ tk hPx hit₁ hs₁ => ?_)
 replace hs₁ : Heap.SameBut it hp h₁ := hs₁
 have he₁ : EnOut h₁ e it i f1 old a := (hs₁.2 e hne).trans he
 show wpAny _ _ (field (.ref e) 3 >>= _) _ _ ⟨h₁, g, d, tk, os⟩
 refine wpAny_bind (wpAny_field he₁ rfl (x := rawInt i) rfl ?_)
 show wpAny _ _ (field (.ref e) 4 >>= _) _ _ ⟨h₁, g, d, tk, os⟩
 refine wpAny_bind (wpAny_field he₁ rfl (x := .none) rfl ?_)
 show wpAny _ _ (mkInt i >>= _) _ _ ⟨h₁, g, d, tk, os⟩
 refine wpAny_bind (wpAny_mkInt ?_)
 show wpAny _ _ (setField (.ref e) 3 (rawInt ((i : Int) + 1)) >>= _) _ _ ⟨h₁, g, d, tk + 1, os⟩
 refine wpAny_bind (wpAny_setField_rec he₁ (by simp) fun h₂ he₂ hs₂ => ?_)
 replace hs₂ : Heap.SameBut e h₁ h₂ := hs₂
 replace he₂ : EnOut h₂ e it ((i : Int) + 1) f1 old a := he₂
 show wpAny _ _ (setField (.ref e) 4 .none >>= _) _ _ ⟨h₂, g, d, tk + 1, os⟩
 refine wpAny_bind (wpAny_setField_rec he₂ (by simp) fun h₃ he₃ hs₃ => ?_)
 replace hs₃ : Heap.SameBut e h₂ h₃ := hs₃
 replace he₃ : EnOut h₃ e it ((i : Int) + 1) f1 old a := he₃
 show wpAny _ _ (newTuple [.int i tk, x] >>= _) _ _ ⟨h₃, g, d, tk + 1, os⟩
 refine wpAny_bind (wpAny_newTuple ?_)
 have he₄ : EnOut (h₃.push { cls := .type "tuple", data := .seq #[.int i tk, x] }) e it ((i : Int) + 1) f1 old a := Heap.get?_push_of_some _ he₃
 generalize hh₄ : h₃.push { cls := .type "tuple", data := .seq #[.int i tk, x] } = h₄ at he₄
 have hsz : h₃.objs.size = hp.objs.size := by rw [hs₃.1, hs₂.1, hs₁.1]
 have hel : e < hp.objs.size := Heap.lt_size he
 have ht₄ : h₄.get? hp.objs.size = some { cls := .type "tuple", data := .seq #[.int i tk, x] } := by rw [← hh₄, ← hsz]; exact Heap.get?_push_size _ rfl
 have hk₄ : ∀ b o, b ≠ e → b ≠ it → hp.get? b = some o → h₄.get? b = some o := fun b o hbe hbi hb => by
  rw [← hh₄]; exact Heap.get?_push_of_some _ (hs₃.extBut b o hbe (hs₂.extBut b o hbe (hs₁.extBut b o hbi hb)))
 have hit₄ : St (i + 1) h₄ := D.frame _ _ _ hit₁ fun b hb o y => by
  have hbe : b ≠ e := fun q => hef (q ▸ hb)
  rw [← hh₄]; exact Heap.get?_push_of_some _ (hs₃.extBut b o hbe (hs₂.extBut b o hbe y))
 have ha₄ : h₄.get? a = some o := hk₄ a o hae hai ha
 show wpAny _ _ (Builtin.SmallTypes.ownedTupleIsFree (.ref e) >>= _) _ _ ⟨h₄, g, d, tk + 1, os⟩
 rw [hsz]
 clear hh₄ he₃ hs₃ he₂ hs₂ he₁ hs₁ hit₁ hsz h₃ h₂ h₁
 refine wpAny_bind ?_
 unfold Builtin.SmallTypes.ownedTupleIsFree
 refine wpAny_bind (wpAny_field he₄ rfl (x := rawInt a) rfl ?_)
 show wpAny _ _ (loadIfAlive ((a : Int).toNat) >>= _) _ _ _
 refine wpAny_bind (loadIfAlive_ok ?_)
 have ea : h₄.get? ((a : Int).toNat) = some o := by rw [Int.toNat_natCast]; exact ha₄
 dsimp only
 rw [ea]
 simp only [Option.isNone_some, Bool.false_eq_true, if_false]
 refine wpAny_bind (wpAny_field he₄ rfl (x := .bool f1) rfl ?_)
 cases f1 with
 | true =>
   rw [if_neg (by simp)]
   refine wpAny_pure ?_
   simp only [Bool.false_eq_true, if_false]
   refine wpAny_pure ⟨_, rfl, hQ x h₄ tk hPx (.inr ⟨_, _, a, o, he₄, ha₄, hae, hai⟩) hit₄ ht₄ hk₄⟩
 | false =>
   rw [if_pos (by decide)]
   refine wpAny_bind (wpAny_setField_rec he₄ (by simp) fun h₅ he₅ hs₅ => ?_)
   replace hs₅ : Heap.SameBut e h₄ h₅ := hs₅
   replace he₅ : EnOut h₅ e it ((i : Int) + 1) true old a := he₅
   refine wpAny_pure ?_
   simp only [Bool.false_eq_true, if_false]
   refine wpAny_pure ⟨_, rfl, hQ x h₅ tk hPx (.inr ⟨_, _, a, o, he₅, hs₅.extBut a o hae ha₄, hae, hai⟩) ?_ ?_ ?_⟩
   · exact D.frame _ _ _ hit₄ fun b hb o y => hs₅.extBut b o (fun q => hef (q ▸ hb)) y
   · exact hs₅.extBut _ _ (Nat.ne_of_gt hel) ht₄
   · exact fun b o hbe hbi hb => hs₅.extBut b o hbe (hk₄ b o hbe hbi hb)

theorem EnSt.typeIs {e it : Addr} {i : Int} (h : EnSt s.heap e it i) : s.TypeIs (.ref e) "enumerate" := by
 rcases h with ⟨_, h⟩ | ⟨_, _, _, _, h, _⟩
 · exact ⟨_, h, rfl⟩
 · exact ⟨_, h, rfl⟩
theorem enum_item {e it : Addr} {fp : List Addr} {n i : Nat} {P : Nat → Value → Prop} {St : Nat → Heap → Prop} {Q : Option Value → Shared → Prop}
 (D : Draws prog w A.in1 it fp n P St) (he : EnSt s.heap e it i) (hst : St i s.heap) (hlt : i < n) (hne : e ≠ it) (hef : e ∉ fp)
 (hQ : ∀ x h' tk, P i x → EnSt h' e it ((i : Int) + 1) → St (i + 1) h' →
  h'.get? s.heap.objs.size = some { cls := .type "tuple", data := .seq #[.int i tk, x] } →
  (∀ b o, b ≠ e → b ≠ it → s.heap.get? b = some o → h'.get? b = some o) → Q (some (.ref s.heap.objs.size)) { s with heap := h', toks := tk + 1 }) :
 wpAny (model prog w) A (pyNext (.ref e)) Q E s := by
 have hT := he.typeIs
 have hel : e < s.heap.objs.size := by
  rcases he with ⟨_, h⟩ | ⟨_, _, _, _, h, _⟩
  · exact Heap.lt_size h
  · exact Heap.lt_size h
 have hil : it < s.heap.objs.size := by obtain ⟨_, y⟩ := D.live _ _ hst; exact Heap.lt_size y
 unfold pyNext
 refine wpAny_bind (wpAny_attempt (wpAny_callSpecial?_slot (name := Str.ofString "__next__") hT F.slot_enumerate_next
  (wpAny_call_entry F.slot_enumerate_next hT F.entry_enumerate_next ?_ (F.args_enumerate_next_1 _))))
 rcases he with ⟨old, h⟩ | ⟨f1, old, a, o, h, ha, hae, hai⟩
 · exact enumerate_next_itemD D h hst hlt hne hef fun x h' tk p q r t _ k => wpAny_pure (hQ x h' tk p (.inr ⟨_, _, _, _, q, t, Nat.ne_of_gt hel, Nat.ne_of_gt hil⟩) r t k)
 · exact enum_next_out D h ha hae hai hst hlt hne hef fun x h' tk p q r t k => wpAny_pure (hQ x h' tk p q r t k)
theorem enum_done {e it : Addr} {fp : List Addr} {n : Nat} {P : Nat → Value → Prop} {St : Nat → Heap → Prop} {i : Int} {Q : Option Value → Shared → Prop}
 (D : Draws prog w A.in1 it fp n P St) (he : EnSt s.heap e it i) (hst : St n s.heap)
 (hQ : ∀ h', Heap.ExtBut it s.heap h' → Q none { s with heap := h' }) : wpAny (model prog w) A (pyNext (.ref e)) Q E s := by
 have hT := he.typeIs
 unfold pyNext
 refine wpAny_bind (wpAny_attempt (wpAny_callSpecial?_slot (name := Str.ofString "__next__") hT F.slot_enumerate_next
  (wpAny_call_entry F.slot_enumerate_next hT F.entry_enumerate_next ?_ (F.args_enumerate_next_1 _))))
 show wpAny _ _ (field (.ref e) 2 >>= _) _ _ _
 have go : wpAny (model prog w) A.in1 (Builtin.SmallTypes.nextOf (.ref it)) (fun _ _ => False) (fun e' s' => ∃ h' , s' = { s with heap := h' } ∧ Heap.ExtBut it s.heap h' ∧ ∃ a o, e' = .ref a ∧ h'.get? a = some o ∧ o.cls = .type "StopIteration") s := by
  refine D.done _ _ _ hst fun h' x he' hx' => ?_
  obtain ⟨o, ho, hc⟩ := hx'
  exact ⟨h', rfl, he', x, o, rfl, ho, hc⟩
 have f2 : wpAny (model prog w) A.in1 (field (.ref e) 2) (fun v s' => v = .ref it ∧ s' = s) (fun _ _ => False) s := by
  rcases he with ⟨_, h⟩ | ⟨_, _, _, _, h, _⟩
  · exact wpAny_field h rfl (x := .ref it) rfl ⟨rfl, rfl⟩
  · exact wpAny_field h rfl (x := .ref it) rfl ⟨rfl, rfl⟩
 refine wpAny_bind (wpAny_mono f2 (fun v s' hv => ?_) fun _ _ f => f.elim)
 obtain ⟨rfl, rfl⟩ := hv
 refine wpAny_bind (wpAny_mono go (fun _ _ f => f.elim) fun e' s'' he' => ?_)
 obtain ⟨h', rfl, hx, a, o, rfl, ho, hc⟩ := he'
 refine wpAny_bind (wpAny_isInstance (T := "StopIteration") (b := true) ⟨o, ho, hc⟩ isSubtype_stop ?_)
 exact wpAny_pure (hQ _ hx)
end
end L2

namespace L2
open PySem PySem.Spec PyProof.Rows
section
variable {X : Cx} {pins : List (Addr × Obj)} {σ : St} {H : Hp} {s : Shared} {h' : Heap}
theorem Inv.turnedNew {e it T : Addr} {o : HO} {t' : Nat} (I : Inv X pins σ H s) (k : ∀ b ob, b ≠ e → b ≠ it → s.heap.get? b = some ob → h'.get? b = some ob) (fe : FpOk X pins H e) (fi : FpOk X pins H it)
 (hT : s.heap.objs.size ≤ T) (new : ObjOk X.prog X.w (upd H T o) h' T o) : Inv X pins σ (upd H T o) { s with heap := h', toks := t' } := by
 have hn : H T = none := I.hok.fresh hT
 have ne2 : ∀ b, b ∉ [e, it] → b ≠ e ∧ b ≠ it := fun b hb => ⟨fun z => hb (by simp [z]), fun z => hb (by simp [z])⟩
 have neT : ∀ b ob, s.heap.get? b = some ob → b ≠ T := fun b ob q => Nat.ne_of_lt (Nat.lt_of_lt_of_le (Heap.lt_size q) hT)
 have nit : ∀ b u, H b = some u → b ≠ e ∧ b ≠ it := fun b u q => ⟨fun z => (by rw [z, fe.1] at q; cases q), fun z => (by rw [z, fi.1] at q; cases q)⟩
 refine I.step (g' := s.gens) (d' := s.drawn) (ch := [e, it]) (fun b hb => ?_) (fun b ob _ _ hc q _ => k b ob (ne2 b hc).1 (ne2 b hc).2 q) (fun b ob _ _ hc q _ => ⟨ob.slots, k b ob (ne2 b hc).1 (ne2 b hc).2 q⟩)
  (fun b ob _ q n => by rw [upd_ne (neT b ob q)]; exact n) (fun b ob hc q => ⟨ob, k b ob (ne2 b hc).1 (ne2 b hc).2 q⟩)
  (fun b xs q => by rw [upd_ne (ne_of_none q hn)]; exact q) (fun b ob u q => by rw [upd_ne (ne_of_none q hn)]; exact q) (fun b ps q => ⟨#[], by rw [upd_ne (ne_of_none q hn), q]; simp⟩) (fun m hm => ?_) (fun b u q => ?_) I.bare
 · rcases List.mem_cons.mp hb with z | z
   · subst z; exact ⟨fe.2.2.2.1, fe.2.1, fe.2.2.2.2.1, fe.2.2.2.2.2⟩
   · have z := List.mem_singleton.mp z
     subst z; exact ⟨fi.2.2.2.1, fi.2.1, fi.2.2.2.2.1, fi.2.2.2.2.2⟩
 · obtain ⟨ob, es, ep, ho, r⟩ := hm
   exact ⟨ob, es, ep, k _ ob (Ne.symm fe.2.1) (Ne.symm fi.2.1) ho, r⟩
 · by_cases hb : b = T
   · subst hb; rw [upd_same] at q; cases q; exact new
   · rw [upd_ne hb] at q
     refine (I.hok b u q).stay (fun c v hc z => ?_) (fun c z => by rw [upd_ne (ne_of_none z hn)]; exact z) fun c xs z => by rw [upd_ne (ne_of_none z hn)]; exact z
     rcases hc with e1 | e1
     · subst e1; exact k _ v (nit _ u q).1 (nit _ u q).2 z
     · exact k c v (nit c _ e1).1 (nit c _ e1).2 z

noncomputable def TsOk (H : Hp) (xs ts : List V) : Prop := ∀ (j : Nat) (t : V), ts[j]? = some t → ∃ x T, xs[j]? = some x ∧ t = .ref T ∧ H T = some (.tup [.int j, x])
theorem enum_loop {A : Around} {R : Result → Shared → Prop} {e it l S : Addr} {xs : List V} {res : Value} (hh : A.handled = none) (hz : xs.length ≤ sizeLine) (hei : e ≠ it) (hel : e ≠ l) (hil : l ≠ it) (H0 : Hp) :
 ∀ (k i : Nat) (s : Shared) (H : Hp) (ts : List V), xs.length - i = k → i ≤ xs.length → Inv X pins σ H s → EnSt s.heap e it i → s.heap.IsListIter it l i → SqL X.K H l xs → H S = some (.lst ts) → ts.length = i → TsOk H xs ts →
   FpOk X pins H e → FpOk X pins H it → l ≠ S → (∀ b o, H0 b = some o → b ≠ S ∧ H b = some o) →
   (∀ (s' : Shared) (H' : Hp) (ts' : List V), Inv X pins σ H' s' → (∀ b o, H0 b = some o → H' b = some o) → H' S = some (.lst ts') → ts'.length = xs.length → TsOk H' xs ts' → R (.ok (.ret res)) s') →
   codeAny (model X.prog X.w) A (.builtin "list.extend.loop" ⟨[.ref S, .ref e, res], []⟩) R s := by
 intro k
 induction k with
 | zero =>
   intro i s H ts hk hi I he hit hl hS hts hok fe fi hlS h0 hR
   have hin : i = xs.length := by omega
   subst hin
   obtain ⟨its, rv, pl, _⟩ := I.list hl
   have hlen : xs.length = its.toArray.size := by rw [List.size_toArray]; exact rv.length
   refine codeAny_builtin F.entry_extend_loop ?_
   rw [Around.under_plainId F.plain_extend_loop _]
   show wpAny _ A.in1 (pyNext (.ref e) >>= _) _ _ s
   have D := Draws.list (prog := X.prog) (w := X.w) (A := A.in1.in1) hh it l hil its.toArray
   rw [hlen] at hit
   refine wpAny_bind (enum_done D he ⟨hit, pl.isList⟩ fun h' hx => ?_)
   have I' : Inv X pins σ H { s with heap := h' } := I.turned (t' := s.toks) (fun b o hb q => hx b o hb q) fi.1 fi.2.1 fi.2.2.2.1 fi.2.2.2.2.1 fi.2.2.2.2.2
   exact wpAny_pure (hR _ H ts I' (fun b o q => (h0 b o q).2) hS hts hok)
 | succ k ih =>
   intro i s H ts hk hi I he hit hl hS hts hok fe fi hlS h0 hR
   have hlt : i < xs.length := by omega
   obtain ⟨its, rv, pl, _⟩ := I.list hl
   have hlen : xs.length = its.toArray.size := by rw [List.size_toArray]; exact rv.length
   refine codeAny_builtin F.entry_extend_loop ?_
   rw [Around.under_plainId F.plain_extend_loop _]
   show wpAny _ A.in1 (pyNext (.ref e) >>= _) _ _ s
   have D := Draws.list (prog := X.prog) (w := X.w) (A := A.in1.in1) hh it l hil its.toArray
   refine wpAny_bind (enum_item D he ⟨hit, pl.isList⟩ (by rw [← hlen]; exact hlt) hei (fun hm => ?_) fun x h' tk hP hen hst' hT hkp => ?_)
   · rcases List.mem_cons.mp hm with z | z
     · exact hei z
     · exact hel (List.mem_singleton.mp z)
   -- the item and its pair
   obtain ⟨xv, hxv⟩ : ∃ xv, xs[i]? = some xv := ⟨xs[i], by simp [hlt]⟩
   obtain ⟨u, hu, ru⟩ := rv.get hxv
   have hux : u = x := by
    have : its.toArray[i]? = some x := hP
    have h2 : its[i]? = some x := by simpa using this
    rw [hu] at h2
    exact Option.some.inj h2
   subst hux
   have hnT : H s.heap.objs.size = none := I.hok.fresh (Nat.le_refl _)
   have I1 : Inv X pins σ (upd H s.heap.objs.size (.tup [.int i, xv])) { s with heap := h', toks := tk + 1 } :=
    I.turnedNew hkp fe fi (Nat.le_refl _) ⟨by show 2 ≤ sizeLine; decide, [.int i tk, u], .cons ⟨_, rfl⟩ (.cons ru .nil), ⟨_, hT, rfl, 0, rfl⟩⟩
   have hS1 : upd H s.heap.objs.size (.tup [.int i, xv]) S = some (.lst ts) := by rw [upd_ne (ne_of_none hS hnT)]; exact hS
   obtain ⟨its1, n1, r1, hS2, hz1⟩ := I1.lst hS1
   have hl1 := r1.length
   show wpAny _ A.in1 (updateSeq S (·.push (.ref s.heap.objs.size)) >>= _) _ _ _
   refine wpAny_bind ?_
   have hsz : its1.toArray.size ≤ sizeLine := by rw [List.size_toArray, ← hl1]; omega
   refine wpAny_updateSeq hS2 rfl (wpAny_pure ⟨plainId_quiet F.plain_extend_loop _, ?_⟩) hsz (by show (its1.toArray.push _).size ≤ sizeLine + 1; rw [Array.size_push]; omega)
   have I2 := I1.lstUpd (f := Obj.mapSeq (·.push (.ref s.heap.objs.size))) (ys := ts ++ [.ref s.heap.objs.size]) (its' := its1 ++ [.ref s.heap.objs.size]) (n' := (match (Obj.mapSeq (·.push (.ref s.heap.objs.size)) { cls := .type "list", data := .seq its1.toArray n1 }).data with | .seq _ n => n | _ => 0)) hS1 hS2
    (by simp [Obj.mapSeq]) (r1.append (.cons rfl .nil)) (by rw [List.length_append, List.length_singleton]; omega) (tk + 1)
   have hdel : S ≠ e := fun z => by rw [z, fe.1] at hS; cases hS
   have hdil : S ≠ it := fun z => by rw [z, fi.1] at hS; cases hS
   have hk2 : ∀ b o, b ≠ S → h'.get? b = some o → (h'.update S (Obj.mapSeq (·.push (.ref s.heap.objs.size)))).get? b = some o := fun b o hb q => (Heap.get?_update_other _ _ (Ne.symm hb)).trans q
   have hen2 : EnSt (h'.update S (Obj.mapSeq (·.push (.ref s.heap.objs.size)))) e it ((i + 1 : Nat) : Int) := by
    have ec : ((i + 1 : Nat) : Int) = (i : Int) + 1 := by push_cast; rfl
    rw [ec]
    rcases hen with ⟨old, q⟩ | ⟨f1, old, a, o, q, qa, q1, q2⟩
    · exact .inl ⟨old, hk2 e _ (Ne.symm hdel) q⟩
    · by_cases hAS : a = S
      · subst hAS
        exact .inr ⟨f1, old, a, _, hk2 e _ (Ne.symm hdel) q, Heap.get?_update_self _ hS2 (by simp [Obj.mapSeq, Obj.isFreed]), q1, q2⟩
      · exact .inr ⟨f1, old, a, o, hk2 e _ (Ne.symm hdel) q, hk2 a o hAS qa, q1, q2⟩
   have hit2 : (h'.update S (Obj.mapSeq (·.push (.ref s.heap.objs.size)))).IsListIter it l (i + 1) := hst'.1.at fun o q => hk2 it o (Ne.symm hdil) q
   have neN : ∀ b, (∃ o, H b = some o) → b ≠ s.heap.objs.size := fun b ⟨o, q⟩ => ne_of_none q hnT
   have fp2 : ∀ b, b ≠ S → b < s.heap.objs.size → FpOk X pins H b → FpOk X pins (upd (upd H s.heap.objs.size (.tup [.int i, xv])) S (.lst (ts ++ [.ref s.heap.objs.size]))) b := fun b hb hb2 f => by
    refine ⟨?_, f.2⟩
    rw [upd_ne hb, upd_ne (Nat.ne_of_lt hb2)]
    exact f.1
   have hel2 : e < s.heap.objs.size := by
    rcases he with ⟨_, q⟩ | ⟨_, _, _, _, q, _⟩
    · exact Heap.lt_size q
    · exact Heap.lt_size q
   have hil2 : it < s.heap.objs.size := by obtain ⟨o, q, _⟩ := hit; exact Heap.lt_size q
   refine ih (i + 1) _ _ (ts ++ [.ref s.heap.objs.size]) (by omega) hlt I2 hen2 hit2 ?_ upd_same (by rw [List.length_append, List.length_singleton, hts]) ?_ (fp2 e (Ne.symm hdel) hel2 fe) (fp2 it (Ne.symm hdil) hil2 fi) hlS ?_ hR
   · rcases hl with (q | ⟨o, q⟩) | q
     · exact .inl (.inl (by rw [upd_ne hlS, upd_ne (ne_of_none q hnT)]; exact q))
     · exact .inl (.inr ⟨o, by rw [upd_ne hlS, upd_ne (ne_of_none q hnT)]; exact q⟩)
     · exact .inr q
   · intro j t hj
     by_cases hji : j < ts.length
     · rw [List.getElem?_append_left hji] at hj
       obtain ⟨x', T, a1, a2, a3⟩ := hok j t hj
       refine ⟨x', T, a1, a2, ?_⟩
       rw [upd_ne (by intro z; rw [z, hS] at a3; cases a3), upd_ne (ne_of_none a3 hnT)]
       exact a3
     · have hj2 : j < (ts ++ [V.ref s.heap.objs.size]).length := (List.getElem?_eq_some_iff.mp hj).1
       rw [List.length_append, List.length_singleton] at hj2
       have ej : j = ts.length := by omega
       subst ej
       rw [List.getElem?_append_right (Nat.le_refl _), Nat.sub_self] at hj
       have ht : t = V.ref s.heap.objs.size := by
        have : ([V.ref s.heap.objs.size] : List V)[0]? = some (V.ref s.heap.objs.size) := rfl
        rw [this] at hj
        exact (Option.some.inj hj).symm
       refine ⟨xv, s.heap.objs.size, by rw [hts]; exact hxv, ht, ?_⟩
       rw [upd_ne (Ne.symm (ne_of_none hS hnT)), upd_same, hts]
   · intro b o q
     obtain ⟨q1, q2⟩ := h0 b o q
     exact ⟨q1, by rw [upd_ne q1, upd_ne (ne_of_none q2 hnT)]; exact q2⟩
end
end L2

namespace L2
open PySem PySem.Spec PyProof.Rows
theorem enum_no_len : typeLookup (.type "enumerate") "__len__" = pure none := by rw [typeLookup_type, builtinLookup_eq_fast]; kernel_rfl
theorem enum_no_hint : typeLookup (.type "enumerate") "__length_hint__" = pure none := by rw [typeLookup_type, builtinLookup_eq_fast]; kernel_rfl
section
variable {X : Cx} {pins : List (Addr × Obj)} {σ : St} {H : Hp} {s : Shared}
theorem call_list_enum {e it l : Addr} {xs : List V} {Q : VK} (hc : X.calm = true) (I : Inv X pins σ H s) (he : IsEnum s.heap e it 0 .none) (hit : s.heap.IsListIter it l 0) (hl : SqL X.K H l xs) (hei : e ≠ it) (hel : e ≠ l) (hil : l ≠ it)
 (fe : FpOk X pins H e) (fi : FpOk X pins H it)
 (q : ∀ (H' : Hp) (L : Addr) (ts : List V), (∀ b o, H b = some o → H' b = some o) → H L = none → H' L = some (.lst ts) → ts.length = xs.length → TsOk H' xs ts → Q (.ref L) H') :
 wpAny (model X.prog X.w) X.A (call (.type "list") [.ref e]) (EP X pins σ Q) X.xe s := by
 have hh : X.A.handled = none := I.ok.hd hc
 obtain ⟨its, rv, pl, hz⟩ := id (I.list hl)
 have hll : l < s.heap.objs.size := by obtain ⟨o, z, _⟩ := pl.isList; exact Heap.lt_size z
 refine callType_codes (Q₁ := fun obj s₁ => obj = .ref s.heap.objs.size ∧ s₁ = { s with heap := s.heap.push { cls := .type "list", data := .seq #[] } }) F.called_list (F.typeCall_list_1 _) F.entry_list_init
  (code_list_new _ ⟨rfl, rfl⟩) fun obj s₁ h₁ => ?_
 obtain ⟨rfl, rfl⟩ := h₁
 have hS : (s.heap.push { cls := .type "list", data := .seq #[] }).get? s.heap.objs.size = some { cls := .type "list", data := .seq #[] } := Heap.get?_push_size _ rfl
 refine ⟨⟨_, hS, rfl⟩, F.args_list_init_2 _ _, ?_⟩
 generalize hSd : s.heap.objs.size = S at *
 have hSe : S ≠ e := by rw [← hSd]; exact Nat.ne_of_gt (Heap.lt_size he)
 have hSl : S ≠ l := Nat.ne_of_gt hll
 have hSi : S ≠ it := by obtain ⟨o, z, _⟩ := hit; rw [← hSd]; exact Nat.ne_of_gt (Heap.lt_size z)
 have up : ∀ b o, s.heap.get? b = some o → b ≠ S ∧ (s.heap.push { cls := .type "list", data := .seq #[] }).get? b = some o := fun b o z => ⟨by rw [← hSd]; exact Nat.ne_of_lt (Heap.lt_size z), Heap.get?_push_of_some _ z⟩
 -- the loop from any heap that keeps what stood
 have key : ∀ (h : Heap) (c : Nat), (∀ b o, s.heap.get? b = some o → h.get? b = some o) → h.get? S = some { cls := .type "list", dict := none, data := .seq #[] c, slots := #[] } →
  codeAny (model X.prog X.w) X.A.in1 (.builtin "list.extend.loop" ⟨[.ref S, .ref e, .none], []⟩) (wants (fun r s₂ => r = .none ∧ EP X pins σ Q (.ref S) s₂) X.xe) { s with heap := h } := by
  intro h c kp hS'
  have hn : H S = none := I.hok.fresh (by rw [hSd]; exact Nat.le_refl _)
  have I1 : Inv X pins σ (upd H S (.lst [])) { s with heap := h } := I.laid (t' := s.toks) kp (by rw [hSd]; exact Nat.le_refl _) ⟨Nat.zero_le _, [], c, .nil, hS'⟩
  have fp : ∀ b, b ≠ S → FpOk X pins H b → FpOk X pins (upd H S (.lst [])) b := fun b hb f => ⟨by rw [upd_ne hb]; exact f.1, f.2⟩
  have hl1 : SqL X.K (upd H S (.lst [])) l xs := by
   rcases hl with (z | ⟨o, z⟩) | z
   · exact .inl (.inl (by rw [upd_ne (Ne.symm hSl)]; exact z))
   · exact .inl (.inr ⟨o, by rw [upd_ne (Ne.symm hSl)]; exact z⟩)
   · exact .inr z
  refine enum_loop (A := X.A.in1) (S := S) (xs := xs) (H0 := H) hh hz hei hel hil _ 0 _ _ [] rfl (Nat.zero_le _) I1 (.inl ⟨_, kp _ _ he⟩) (hit.at fun o z => kp _ o z) hl1 upd_same rfl (fun j t z => by simp at z)
   (fp e (Ne.symm hSe) fe) (fp it (Ne.symm hSi) fi) (Ne.symm hSl) (fun b o z => ⟨ne_of_none z hn, by rw [upd_ne (ne_of_none z hn)]; exact z⟩) fun s' H' ts' I' k' hL' hlen' hts' => ?_
  exact ⟨rfl, .ref S, H', I', rfl, q H' S ts' k' hn hL' hlen' hts'⟩
 show wpAny _ X.A.in1.in1 (do let old ← Builtin.List.listItems (.ref S); Builtin.List.listUpdate (.ref S) (fun _ => #[]); letGo old.toList.reverse; Builtin.List.listExtendWith (.ref S) (.ref e) .none) _ _ _
 refine wpAny_bind ?_
 unfold Builtin.List.listItems
 refine wpAny_bind (wpAny_seqItems hS rfl (wpAny_pure ?_))
 show wpAny _ X.A.in1.in1 (updateSeq S (fun _ => #[]) >>= fun _ => letGo (#[] : Array Value).toList.reverse >>= fun _ => Builtin.List.listExtendWith (.ref S) (.ref e) .none) _ _ _
 refine wpAny_bind (wpAny_updateSeq hS rfl ?_)
 have hS₂ := Heap.get?_update_self (Obj.mapSeq (fun _ => (#[] : Array Value))) hS rfl
 generalize hh1 : (s.heap.push { cls := .type "list", data := .seq #[] }).update S (Obj.mapSeq (fun _ => (#[] : Array Value))) = h1 at hS₂
 have up1 : ∀ b o, s.heap.get? b = some o → h1.get? b = some o := fun b o z => by rw [← hh1]; exact (Heap.get?_update_other _ _ (Ne.symm (up b o z).1)).trans (up b o z).2
 refine wpAny_bind (wpAny_letGo ?_)
 unfold Builtin.List.listExtendWith
 have hT1 : Shared.TypeIs { s with heap := h1 } (.ref e) "enumerate" := ⟨_, up1 _ _ he, rfl⟩
 refine wpAny_bind (wpAny_typeOf hT1 ?_)
 have g1 : Builtin.List.listSameRef (.ref S) (.ref e) = false := by simp [Builtin.List.listSameRef, hSe]
 have g2 : (Value.type "enumerate" == Value.type "list") = false := by decide
 have g3 : (Value.type "enumerate" == Value.type "tuple") = false := by decide
 simp only [g1, g2, g3, Bool.or_false, Bool.false_eq_true, if_false]
 refine wpAny_bind (wpAny_pyIter_enum (s := { s with heap := h1 }) (up1 _ _ he) ?_)
 refine wpAny_bind (wpAny_holding ?_)
 unfold Builtin.List.listLengthHint
 refine wpAny_bind (wpAny_specialOf hT1 enum_no_len ?_)
 show wpAny _ X.A.in1.in1 (specialOf (Value.ref e) (Str.ofString "__length_hint__") >>= _) _ _ _
 refine wpAny_bind (wpAny_specialOf hT1 enum_no_hint ?_)
 refine wpAny_pure ?_
 show wpAny _ X.A.in1.in1 (rule "list.extend.makes-room" >>= fun _ => Builtin.List.listTouch (.ref S) >>= fun _ =>
  again (.builtin "list.extend.loop" ⟨[.ref S, .ref e, .none], []⟩)) _ _ _
 refine wpAny_bind (wpAny_rule ?_)
 refine wpAny_bind ?_
 show wpAny _ X.A.in1.in1 (updateSeq S (·.push .none) >>= fun _ => updateSeq S (·.pop)) _ _ _
 refine wpAny_bind (wpAny_updateSeq hS₂ rfl ?_)
 have hS₃ := Heap.get?_update_self (Obj.mapSeq (·.push Value.none)) hS₂ rfl
 refine wpAny_updateSeq (hz := by seq_fits) hS₃ rfl ?_
 have hS₄ := Heap.get?_update_self (Obj.mapSeq (·.pop)) hS₃ rfl
 refine wpAny_pure ⟨plainId_quiet F.plain_extend_loop _, key _ _ (fun b o z => ?_) hS₄⟩
 exact (Heap.get?_update_other _ _ (Ne.symm (up b o z).1)).trans ((Heap.get?_update_other _ _ (Ne.symm (up b o z).1)).trans (up1 b o z))
end
section
variable {X : Cx}
noncomputable def tLEnum (K : PySem.W.Frag) (ta : TA) : TE := fun σ H Q => ta σ H fun vs H1 => ∃ l xs, vs = [.ref l] ∧ SqL K H1 l xs ∧
 ∀ (H' : Hp) (L : Addr) (ts : List V), (∀ b o, H1 b = some o → H' b = some o) → H1 L = none → H' L = some (.lst ts) → ts.length = xs.length → TsOk H' xs ts → Q (.ref L) H'
theorem pe_lenum {a : Expr} {ta : TA} {p p' pos pos' : Pos} (hc : X.calm = true) (hgL : Gl X "list") (hmL : X.mg "list" = none) (hgE : Gl X "enumerate") (hmE : X.mg "enumerate" = none) (ha : PA X [a] ta)
 (hs : starEach [.Call (.Name "enumerate" p') [a] [] pos'] X.env = [(false, eval (.Call (.Name "enumerate" p') [a] [] pos') X.env)] := by rfl) (hs2 : starEach [a] X.env = [(false, eval a X.env)] := by rfl) :
 PE X (.Call (.Name "list" p) [.Call (.Name "enumerate" p') [a] [] pos'] [] pos) (tLEnum X.K ta) := by
 intro pins s σ H Q I h
 refine wpAny_Call_Name_kw (ld_blt I hgL hmL boot_list ?_ (by decide) (by decide))
 refine PyProof.Rows.callWith_type1 ?_ hs rfl
 rw [hs]
 show wpAny _ _ (spliced ((false, eval (.Call (.Name "enumerate" p') [a] [] pos') X.env) :: backTo pos [])) _ _ s
 refine Calls.spliced_cons ?_
 refine wpAny_Call_Name_kw (ld_blt I hgE hmE boot_enumerate ?_ (by decide) (by decide))
 refine PyProof.Rows.callWith_type1 (thn (ha pos' pins s σ H _ I h) fun us s1 ⟨vs, H1, I1, r1, q1⟩ => ?_) hs2 rfl
 obtain ⟨l, xs, rfl, hl, q⟩ := q1
 obtain ⟨u, rfl, ru⟩ := vals1 r1
 cases ru
 obtain ⟨its, rv, pl, hz⟩ := id (I1.list hl)
 have hll : l < s1.heap.objs.size := by obtain ⟨o, z, _⟩ := pl.isList; exact Heap.lt_size z
 refine call_enumerate_list pl.isList fun h' he hit hsz hk => ?_
 have I2 : Inv X pins σ H1 { s1 with heap := h' } := I1.kept (t' := s1.toks) hk
 refine Calls.spliced_nil ?_
 have nx : ∀ b, s1.heap.objs.size ≤ b → FpOk X pins H1 b := fun b hb => I1.fpOk hb (I1.hok.fresh hb)
 exact call_list_enum hc I2 he hit hl (Nat.succ_ne_self _) (Nat.ne_of_gt (Nat.lt_succ_of_lt hll)) (Nat.ne_of_lt hll) (nx _ (Nat.le_succ _)) (nx _ (Nat.le_refl _)) q
end
end L2

namespace Pw
noncomputable def mk (a b : Int) : Int × Int := if b < 0 then (a.fdiv (-(Int.gcd a b : Int)), b.fdiv (-(Int.gcd a b : Int))) else (a.fdiv (Int.gcd a b : Int), b.fdiv (Int.gcd a b : Int))
noncomputable def Canon (p : Int × Int) : Prop := 0 < p.2 ∧ Int.gcd p.1 p.2 = 1
theorem gpos {a b : Int} (h : b ≠ 0) : 0 < (Int.gcd a b : Int) := by
 have : 0 < Int.gcd a b := Nat.pos_of_ne_zero fun z => h (Int.gcd_eq_zero_iff.mp z).2
 omega
theorem dvd_left {k m n : Int} (h : k ∣ m * n) (c : Int.gcd m k = 1) : k ∣ n := by
 have h1 : k.natAbs ∣ m.natAbs * n.natAbs := by rw [← Int.natAbs_mul]; exact Int.natAbs_dvd_natAbs.mpr h
 have h2 : Nat.Coprime k.natAbs m.natAbs := by
  show Nat.gcd _ _ = 1
  rw [Nat.gcd_comm]; exact c
 exact Int.natAbs_dvd_natAbs.mp (Nat.Coprime.dvd_of_dvd_mul_left h2 h1)
theorem mk_spec {a b : Int} (h : b ≠ 0) : Canon (mk a b) ∧ (mk a b).1 * b = a * (mk a b).2 := by
 have hg := gpos (a := a) h
 obtain ⟨x, hx⟩ : ((Int.gcd a b : Nat) : Int) ∣ a := Int.gcd_dvd_left ..
 obtain ⟨y, hy⟩ : ((Int.gcd a b : Nat) : Int) ∣ b := Int.gcd_dvd_right ..
 generalize hG : (Int.gcd a b : Int) = g at *
 have hgn : g ≠ 0 := by omega
 have cop : Int.gcd x y = 1 := by
  have h1 : Int.gcd a b = Int.gcd (g * x) (g * y) := by rw [← hx, ← hy]
  rw [Int.gcd_mul_left] at h1
  have h2 : (g.natAbs : Int) = g := by omega
  have h3 : (Int.gcd a b : Int) = g.natAbs := by rw [hG, h2]
  have h4 : Int.gcd a b = g.natAbs := by omega
  have h5 : g.natAbs * Int.gcd x y = g.natAbs * 1 := by rw [← h1, h4]; simp
  exact Nat.eq_of_mul_eq_mul_left (by omega) h5
 have e1 : a.fdiv g = x := by rw [hx]; exact Int.mul_fdiv_cancel_left _ hgn
 have e2 : b.fdiv g = y := by rw [hy]; exact Int.mul_fdiv_cancel_left _ hgn
 have e3 : a.fdiv (-g) = -x := by
  have : a = (-g) * (-x) := by rw [Int.neg_mul_neg]; exact hx
  rw [this]; exact Int.mul_fdiv_cancel_left _ (by omega)
 have e4 : b.fdiv (-g) = -y := by
  have : b = (-g) * (-y) := by rw [Int.neg_mul_neg]; exact hy
  rw [this]; exact Int.mul_fdiv_cancel_left _ (by omega)
 unfold mk
 rw [hG]
 by_cases hb : b < 0
 · rw [if_pos hb, e3, e4]
   have hy0 : y < 0 := by
    refine Int.not_le.mp fun hy0 => ?_
    have := Int.mul_nonneg (Int.le_of_lt hg) hy0
    omega
   refine ⟨⟨by show 0 < -y; omega, by show Int.gcd (-x) (-y) = 1; rw [Int.neg_gcd, Int.gcd_neg]; exact cop⟩, ?_⟩
   show -x * b = a * -y
   rw [hx, hy]; grind
 · rw [if_neg hb, e1, e2]
   have hy0 : 0 < y := by
    refine Int.not_le.mp fun hy0 => ?_
    have := Int.mul_nonneg (Int.le_of_lt hg) (show 0 ≤ -y by omega)
    rw [Int.mul_neg, ← hy] at this
    omega
   refine ⟨⟨hy0, cop⟩, ?_⟩
   show x * b = a * y
   rw [hx, hy]; grind
theorem canon_unique {p q : Int × Int} (hp : Canon p) (hq : Canon q) (h : p.1 * q.2 = q.1 * p.2) : p = q := by
 obtain ⟨p1, p2⟩ := p
 obtain ⟨q1, q2⟩ := q
 obtain ⟨a1, a2⟩ := hp
 obtain ⟨b1, b2⟩ := hq
 simp only at *
 have d1 : p2 ∣ q2 := by
  have : p2 ∣ p1 * q2 := ⟨q1, by rw [h]; grind⟩
  exact dvd_left this a2
 have d2 : q2 ∣ p2 := by
  have : q2 ∣ q1 * p2 := ⟨p1, by rw [← h]; grind⟩
  exact dvd_left this b2
 have e : p2 = q2 := Int.dvd_antisymm (by omega) (by omega) d1 d2
 subst e
 have : p1 = q1 := Int.eq_of_mul_eq_mul_right (by omega) h
 rw [this]
theorem mk_uniq {a b : Int} {p : Int × Int} (h : b ≠ 0) (hp : Canon p) (hw : p.1 * b = a * p.2) : mk a b = p := by
 obtain ⟨c, w⟩ := mk_spec (a := a) h
 refine canon_unique c hp (Int.eq_of_mul_eq_mul_right h ?_)
 grind
theorem mk_canon {p : Int × Int} (h : Canon p) : mk p.1 p.2 = p := mk_uniq (by have := h.1; omega) h (by grind)
theorem mk_le {a b : Int} (h : b ≠ 0) : (mk a b).1.natAbs ≤ a.natAbs ∧ (mk a b).2.natAbs ≤ b.natAbs := by
 obtain ⟨⟨c1, c2⟩, w⟩ := mk_spec (a := a) h
 generalize mk a b = p at *
 obtain ⟨x, y⟩ := p
 simp only at *
 have d1 : y ∣ b := by
  have : y ∣ x * b := ⟨a, by rw [w]; grind⟩
  exact dvd_left this c2
 have d2 : x ∣ a := by
  have : x ∣ y * a := ⟨b, by rw [w]; grind⟩
  exact dvd_left this (by rw [Int.gcd_comm]; exact c2)
 refine ⟨?_, Nat.le_of_dvd (by omega) (Int.natAbs_dvd_natAbs.mpr d1)⟩
 by_cases ha : a = 0
 · subst ha
   have : x * b = 0 := by rw [w, Int.zero_mul]
   rcases Int.mul_eq_zero.mp this with z | z
   · rw [z]; simp
   · exact absurd z h
 · exact Nat.le_of_dvd (by omega) (Int.natAbs_dvd_natAbs.mpr d2)
theorem gcd_turn {x y : Int} (hx : 0 ≤ x) (hy : 0 < y) : Int.gcd y (x % y) = Int.gcd x y := by
 obtain ⟨m, rfl⟩ := Int.eq_ofNat_of_zero_le hx
 obtain ⟨n, rfl⟩ := Int.eq_ofNat_of_zero_le (Int.le_of_lt hy)
 show Nat.gcd n (((m : Int) % (n : Int)).natAbs) = Nat.gcd m n
 have e : ((m : Int) % (n : Int)).natAbs = m % n := by rw [← Int.natCast_emod, Int.natAbs_natCast]
 rw [e, Nat.gcd_comm m n, Nat.gcd_comm n (m % n), ← Nat.gcd_rec]
end Pw

namespace L2
open PySem PySem.Spec PyProof.Rows
theorem ifT {b : Bool} {A B : Prop} (e : b = true) (a : A) : if b = true then A else B := by rw [if_pos e]; exact a
theorem ifF {b : Bool} {A B : Prop} (e : b = false) (h : B) : if b = true then A else B := by rw [e]; exact iteF h
theorem if2 {b : Bool} {A B : Prop} (h1 : b = true → A) (h2 : b = false → B) : if b = true then A else B := by
 cases b with
 | true => exact iteT (h1 rfl)
 | false => exact iteF (h2 rfl)
theorem vne {i j : Int} (h : i ≠ j) : (!decide (V.int i = V.int j)) = true := by
 rw [decide_eq_false (fun z => h (V.int.inj z))]; rfl
theorem veq {i j : Int} (h : i = j) : (!decide (V.int i = V.int j)) = false := by
 rw [decide_eq_true (congrArg V.int h)]; rfl
theorem sz_of {k : Int} (n : Nat) {m : Nat} (h : k.natAbs < 2 ^ n) (l : n ≤ m := by decide) : Sz m k := Sz.mono h l

noncomputable def Wt (Pv : Nat → List V → St → Hp → Prop) (n : Nat) : Nat → Nat → List V → St → Hp → Prop := fun i m ys σ H => m = n - i ∧ i ≤ n ∧ Pv i ys σ H
theorem Wt.next {Pv : Nat → List V → St → Hp → Prop} {n i : Nat} {ys : List V} {σ : St} {H : Hp} (h : i < n) (p : Pv (i + 1) ys σ H) : ∃ m', m' < n - i ∧ Wt Pv n (i + 1) m' ys σ H := ⟨n - (i + 1), by omega, rfl, h, p⟩
section
variable {K : PySem.W.Frag} {a D : Addr} {xs : List V} {g : TG} {tt : TT} {te : TE} {σ0 : St} {H0 : Hp} {Q : VK}
theorem comp_tup (Pv : Nat → List V → St → Hp → Prop) (h0 : Pv 0 [] σ0 H0) (hl : ∀ i ys σ H, Pv i ys σ H → SqT K H a xs ∧ H D = some (.lst ys))
 (hs : ∀ i x ys σ H, xs[i]? = some x → i < xs.length → Pv i ys σ H → g x σ H fun σ3 H3 => tt σ3 H3 fun b H4 => if b = true then
  te σ3 H4 fun y H5 => H5 D = some (.lst ys) ∧ ys.length < sizeLine ∧ ∃ m', m' < xs.length - i ∧ Wt Pv xs.length (i + 1) m' (ys ++ [y]) σ3 (upd H5 D (.lst (ys ++ [y]))) else ∃ m', m' < xs.length - i ∧ Wt Pv xs.length (i + 1) m' ys σ3 H4)
 (hd : ∀ ys σ H, Pv xs.length ys σ H → Q (.ref D) H) :
 CompW (Itt K a) D g tt te Q σ0 H0 := by
 refine ⟨Wt Pv xs.length, ⟨xs.length, rfl, Nat.zero_le _, h0⟩, ?_⟩
 rintro i m ys σ' H' ⟨rfl, hi, p⟩
 obtain ⟨hq, hD⟩ := hl i ys σ' H' p
 refine ⟨hD, ?_⟩
 by_cases hlt : i < xs.length
 · refine .inr ⟨⟨xs, xs[i], hq, by simp [hlt]⟩, fun x H2 y => ?_⟩
   obtain ⟨e, y⟩ := y
   subst e
   exact hs i x ys σ' _ (y xs hq) hlt p
 · have e : i = xs.length := by omega
   subst e
   exact .inl ⟨⟨xs, hq, Nat.le_refl _⟩, hd ys σ' H' p⟩
theorem comp_lst (Pv : Nat → List V → St → Hp → Prop) (h0 : Pv 0 [] σ0 H0) (hl : ∀ i ys σ H, Pv i ys σ H → SqL K H a xs ∧ H D = some (.lst ys))
 (hs : ∀ i x ys σ H, xs[i]? = some x → i < xs.length → Pv i ys σ H → g x σ H fun σ3 H3 => tt σ3 H3 fun b H4 => if b = true then
  te σ3 H4 fun y H5 => H5 D = some (.lst ys) ∧ ys.length < sizeLine ∧ ∃ m', m' < xs.length - i ∧ Wt Pv xs.length (i + 1) m' (ys ++ [y]) σ3 (upd H5 D (.lst (ys ++ [y]))) else ∃ m', m' < xs.length - i ∧ Wt Pv xs.length (i + 1) m' ys σ3 H4)
 (hd : ∀ ys σ H, Pv xs.length ys σ H → Q (.ref D) H) :
 CompW (Itl K a) D g tt te Q σ0 H0 := by
 refine ⟨Wt Pv xs.length, ⟨xs.length, rfl, Nat.zero_le _, h0⟩, ?_⟩
 rintro i m ys σ' H' ⟨rfl, hi, p⟩
 obtain ⟨hq, hD⟩ := hl i ys σ' H' p
 refine ⟨hD, ?_⟩
 by_cases hlt : i < xs.length
 · refine .inr ⟨⟨xs, xs[i], hq, by simp [hlt]⟩, fun x H2 y => ?_⟩
   obtain ⟨e, y⟩ := y
   subst e
   exact hs i x ys σ' _ (y xs hq) hlt p
 · have e : i = xs.length := by omega
   subst e
   exact .inl ⟨⟨xs, hq, Nat.le_refl _⟩, hd ys σ' H' p⟩
end

section
variable {X : Cx} {K : PySem.W.Frag}
theorem call_isiK (e : X.K = K) : CallR X (.builtin "isinstance") (rIsi K) := e ▸ call_isi
end

theorem dens_ints (K : PySem.W.Frag) (H : Hp) : ∀ ns : List Int, Dens K H (ns.map Dt.int) (ns.map V.int)
 | [] => by simp only [List.map_nil, Dens]
 | n :: ns => by
   simp only [List.map_cons, Dens]
   exact ⟨_, _, rfl, by simp only [Den], dens_ints K H ns⟩
theorem dep_ints : ∀ ns : List Int, depDs (ns.map Dt.int) = 0
 | [] => rfl
 | n :: ns => by simp only [List.map_cons, depDs, depD, dep_ints ns]; rfl
theorem eqDs_ints : ∀ ns ms : List Int, eqDs (ns.map Dt.int) (ms.map Dt.int) = decide (ns = ms)
 | [], [] => rfl
 | [], _ :: _ => rfl
 | _ :: _, [] => rfl
 | n :: ns, m :: ms => by
   simp only [List.map_cons, eqDs, eqD]
   rw [eqDs_ints ns ms]
   by_cases h : n = m
   · subst h; simp
   · simp [h]
theorem dens2 (K : PySem.W.Frag) (H : Hp) (x y : Int) : Dens K H [Dt.int x, Dt.int y] [V.int x, V.int y] := dens_ints K H [x, y]
theorem dep2 (x y : Int) : depDs [Dt.int x, Dt.int y] ≤ 20 := by simp only [depDs, depD]; decide
theorem eqDs2 (x y z u : Int) : eqDs [Dt.int x, Dt.int y] [Dt.int z, Dt.int u] = decide ((x, y) = (z, u)) := by
 rw [show ([Dt.int x, Dt.int y] : List Dt) = [x, y].map Dt.int from rfl, show ([Dt.int z, Dt.int u] : List Dt) = [z, u].map Dt.int from rfl, eqDs_ints]
 simp

noncomputable def HandAt (H : Hp) (p : Addr) : Prop := ∃ a b : Int, H p = some (.lst [.int a, .int b]) ∧ 0 ≤ a ∧ 0 ≤ b ∧ b < 2147483587
theorem HandAt.new {H : Hp} {p q : Addr} {o : HO} (h : HandAt H p) (hq : H q = none) : HandAt (upd H q o) p := by
 obtain ⟨a, b, e, r⟩ := h
 exact ⟨a, b, by rw [upd_ne (ne_of_none e hq)]; exact e, r⟩
theorem HandAt.ne {H : Hp} {p q : Addr} (h : HandAt H p) (hq : H q = none) : q ≠ p := by
 obtain ⟨a, b, e, r⟩ := h
 exact (ne_of_none e hq).symm
noncomputable def Kp (p : Addr) (H H' : Hp) : Prop := ∀ b o, H b = some o → b ≠ p → H' b = some o
theorem Kp.trans {p : Addr} {H H1 H2 : Hp} (a : Kp p H H1) (b : Kp p H1 H2) : Kp p H H2 := fun c o h n => b c o (a c o h n) n
theorem Kp.new {p q : Addr} {H : Hp} {o : HO} (hq : H q = none) : Kp p H (upd H q o) := fun b u h _ => by rw [upd_ne (ne_of_none h hq)]; exact h
theorem Kp.set {p : Addr} {H : Hp} {o : HO} : Kp p H (upd H p o) := fun b u h n => by rw [upd_ne n]; exact h
theorem Kp.same {p : Addr} {H H1 : Hp} (h : H p = none) (k : Kp p H H1) : Same H H1 := fun b o e => k b o e (ne_of_none e h)
theorem Same.kp {p : Addr} {H H1 : Hp} (k : Same H H1) : Kp p H H1 := fun b o e _ => k b o e
theorem Same.new {q : Addr} {H : Hp} {o : HO} (hq : H q = none) : Same H (upd H q o) := fun b u h => by rw [upd_ne (ne_of_none h hq)]; exact h
noncomputable def AllInt (xs : List V) : Prop := ∀ (j : Nat) (x : V), xs[j]? = some x → ∃ i : Int, x = .int i

noncomputable def spCommon : Sp := fun vs H Q _ => ∃ x y : Int, vs = [.int x, .int y] ∧ 0 ≤ x ∧ 0 ≤ y ∧ Q (.int (Int.gcd x y : Int)) H
noncomputable def spFrac : Sp := fun vs H Q _ => ∃ x y : Int, vs = [.int x, .int y] ∧ 0 < y ∧ Sz 8000 x ∧ Sz 8000 y ∧ ∀ p, H p = none → Q (.ref p) (upd H p (.tup [.int (Pw.mk x y).1, .int (Pw.mk x y).2]))
noncomputable def spHand : Sp := fun vs H Q _ => ∃ c k : Int, vs = [.int c, .int k] ∧ 0 ≤ k ∧ k < 1000 ∧ ∀ p H', H p = none → HandAt H' p → Same H H' → Q (.ref p) H'
noncomputable def spDraw : Sp := fun vs H Q _ => ∃ (p : Addr) (lim : Int), vs = [.ref p, .int lim] ∧ 0 < lim ∧ lim < 2 ^ 60 ∧ HandAt H p ∧ ∀ (v : Int) (H' : Hp), 0 ≤ v → v < lim → HandAt H' p → Kp p H H' → Q (.int v) H'
noncomputable def spCells (K : PySem.W.Frag) : Sp := fun vs H Q _ => ∃ (a : Addr) (m : Int) (ns : List Int), vs = [.ref a, .int m] ∧ SqL K H a (ns.map V.int) ∧ ns.length ≤ 63 ∧
 ∀ (H' : Hp) (L : Addr) (xs ts : List V), Same H H' → H L = none → H' L = some (.lst ts) → ts.length = xs.length → TsOk H' xs ts → AllInt xs → xs.length ≤ 64 → Q (.ref L) H'
noncomputable def spNumber : Sp := fun vs H Q _ => ∃ p : Addr, vs = [.ref p] ∧ HandAt H p ∧ ∀ (n : Int) (H' : Hp), Sz 100 n → HandAt H' p → Kp p H H' → Q (.int n) H'
noncomputable def spLaw (K : PySem.W.Frag) : Sp := fun vs H Q _ => ∃ (a : Addr) (ns : List Int), vs = [.ref a] ∧ SqL K H a (ns.map V.int) ∧ ns.length ≤ 63 ∧ ∀ H', Q (.bl true) H'
end L2

namespace L2
open PySem PySem.Spec PyProof.Rows
section
variable {X : Cx}
theorem op_notB : OpR X (compareOp .IsNot) (fun x y H Q => ∃ a b, x = .bl a ∧ y = .bl b ∧ Q (.bl (!(a == b))) H) := by
 intro pins s σ H x y v u Q I rx ry h
 obtain ⟨a, b, rfl, rfl, q⟩ := h
 cases rx
 cases ry
 refine wpAny_isNot_plain rfl ⟨.bl (!(a == b)), H, I, ?_, q⟩
 cases a <;> cases b <;> rfl
end

noncomputable def tMid (t u : TS) : TS := fun D σ H => ∃ R : St → Hp → Prop, t { D with nx := R } σ H ∧ ∀ σ' H', R σ' H' → u D σ' H'
theorem pss_mid {X : Cx} {st : Stmt} {rest : List Stmt} {t u : TS} (h1 : PS X st t) (h2 : PSs X rest u) : PSs X (st :: rest) (tMid t u) := by
 intro pins s σ H D I h
 obtain ⟨R, h, hR⟩ := h
 refine wpAny_execs_cons (thn (h1 pins s σ H { D with nx := R } I h) fun f s1 q => ?_)
 cases f with
 | next =>
   obtain ⟨σ', H', I', q⟩ := q
   exact h2 pins s1 σ' H' D I' (hR σ' H' q)
 | ret v => exact q
 | brk => exact q
 | cont => exact q

noncomputable def tTupS (t : TA) : TE := fun σ H Q => t σ H fun xs H1 => xs.length ≤ sizeLine ∧ ∀ (p : Addr) (H' : Hp), Same H1 H' → H1 p = none → H' p = some (.tup xs) → Q (.ref p) H'
noncomputable def tLstS (t : TA) : TE := fun σ H Q => t σ H fun xs H1 => xs.length ≤ sizeLine ∧ ∀ (p : Addr) (H' : Hp), Same H1 H' → H1 p = none → H' p = some (.lst xs) → Q (.ref p) H'
section
variable {X : Cx} {es : List Expr} {t : TA} {pos : Pos}
theorem pe_tupS {x1} (h : PA X es t) : PE X (.Tuple es x1 pos) (tTupS t) := by
 intro pins s σ H Q I hq
 refine wpAny_Tuple_spliced (thn (h pos pins s σ H _ I hq) fun us s1 ⟨xs, H1, I1, r, z, q⟩ => ⟨by rw [← r.length]; exact z, ?_⟩)
 have hf : H1 s1.heap.objs.size = none := I1.hok.fresh (Nat.le_refl _)
 refine ⟨.ref s1.heap.objs.size, upd H1 s1.heap.objs.size (.tup xs), I1.laid (t' := s1.toks) (fun b u e => Heap.get?_push_of_some _ e) (Nat.le_refl _) ?_, rfl, q _ _ (Same.new hf) hf upd_same⟩
 exact ⟨z, us, r, ⟨_, Heap.get?_push_size _ rfl, rfl, _, rfl⟩⟩
theorem pe_lstS (h : PA X es t) : PE X (.List es pos) (tLstS t) := by
 intro pins s σ H Q I hq
 refine wpAny_List_spliced (thn (h pos pins s σ H _ I hq) fun us s1 ⟨xs, H1, I1, r, z, q⟩ => ⟨by rw [← r.length]; exact z, ?_⟩)
 have hf : H1 s1.heap.objs.size = none := I1.hok.fresh (Nat.le_refl _)
 refine ⟨.ref s1.heap.objs.size, upd H1 s1.heap.objs.size (.lst xs), I1.laid (t' := s1.toks) (fun b u e => Heap.get?_push_of_some _ e) (Nat.le_refl _) ?_, rfl, q _ _ (Same.new hf) hf upd_same⟩
 exact ⟨z, us, 0, r, Heap.get?_push_size _ rfl⟩
end
noncomputable def spFracS : Sp := fun vs H Q _ => ∃ x y : Int, vs = [.int x, .int y] ∧ 0 < y ∧ Sz 8000 x ∧ Sz 8000 y ∧ ∀ (p : Addr) (H' : Hp), Same H H' → H p = none → H' p = some (.tup [.int (Pw.mk x y).1, .int (Pw.mk x y).2]) → Q (.ref p) H'
theorem fracS {P : Program} {w : World} {K : PySem.W.Frag} {mg : Str → Option Value} {base : Heap} {CX : CXT} {k : Nat} {f : Addr} {fd : FuncData} {ps : List Str} (F : FnOk P w K mg base CX k f fd ps spFrac) : FnOk P w K mg base CX k f fd ps spFracS :=
 F.imp fun vs H Q E ⟨x, y, e, h1, h2, h3, h4⟩ => ⟨x, y, e, h1, h2, h3, fun p hp => h4 p _ (Same.new hp) hp upd_same⟩

noncomputable abbrev FrA (_ : PySem.W.Frag) (H : Hp) (p : Addr) (A : Int × Int) : Prop := H p = some (.tup [.int A.1, .int A.2])
theorem eqF {K : PySem.W.Frag} {H : Hp} {p q : Addr} {A B : Int × Int} {Q : VK} (h1 : FrA K H p A) (h2 : FrA K H q B) (k : Q (.bl (decide (A = B))) H) : rEqD K false (.ref p) (.ref q) H Q :=
 ⟨p, q, _, _, _, _, rfl, rfl, .inl ⟨SqT.of h1, SqT.of h2⟩, dens2 _ _ _ _, dens2 _ _ _ _, dep2 _ _, by rw [if_neg Bool.false_ne_true, eqDs2]; exact k⟩
end L2


namespace Srt
open PySem PySem.W PyProof.Rows
section
variable {n : Nat} (hn : 0 < n)
include hn
end
end Srt



namespace L2
open PySem PySem.Spec PyProof.Rows PySem.W
theorem closure_loop (env : Env) : ∀ (names : List (Str × NameKind)) (cs : List (Str × Addr)), (∀ y ∈ names, y.2 = .free → ∃ c, env.cells.lookup y.1 = some c) → (∀ p ∈ cs, env.cells.lookup p.1 = some p.2) →
 ∃ cl : List (Str × Addr), (forIn names cs fun x cs => (match x with | (name, kind) => if (kind == .free) = true then do let __do_lift ← cellOf env name; pure (ForInStep.yield ((name, __do_lift) :: cs)) else pure (ForInStep.yield cs) : Sem (ForInStep (List (Str × Addr))))) = pure cl ∧
   (∀ p ∈ cl, env.cells.lookup p.1 = some p.2) ∧ (∀ p ∈ cs, p ∈ cl) ∧ ∀ x, (x, NameKind.free) ∈ names → ∃ c, (x, c) ∈ cl
 | [], cs, _, hc => ⟨cs, by rw [List.forIn_nil], hc, fun _ h => h, fun x h => by simp at h⟩
 | (n, k) :: names, cs, h, hc => by
   have h' := fun y hy => h y (List.mem_cons_of_mem _ hy)
   rw [List.forIn_cons]
   by_cases hk : k = .free
   · subst hk
     obtain ⟨c, e⟩ := h (n, .free) List.mem_cons_self rfl
     obtain ⟨cl, e1, e2, e3, e4⟩ := closure_loop env names ((n, c) :: cs) h' fun p hp => by
      rcases List.mem_cons.mp hp with rfl | hp
      · exact e
      · exact hc p hp
     refine ⟨cl, ?_, e2, fun p hp => e3 p (List.mem_cons_of_mem _ hp), fun x hx => ?_⟩
     · have ec : cellOf env n = pure c := by unfold cellOf; rw [e]
       simp only [ec, beq_self_eq_true, if_true, pure_bind]
       exact e1
     · rcases List.mem_cons.mp hx with z | hx
       · cases z; exact ⟨c, e3 _ List.mem_cons_self⟩
       · exact e4 x hx
   · obtain ⟨cl, e1, e2, e3, e4⟩ := closure_loop env names cs h' hc
     refine ⟨cl, ?_, e2, e3, fun x hx => ?_⟩
     · have : (k == NameKind.free) = false := by simpa using hk
       simp only [this, Bool.false_eq_true, if_false, pure_bind]
       exact e1
     · rcases List.mem_cons.mp hx with z | hx
       · cases z; exact absurd rfl hk
       · exact e4 x hx
theorem lookup_some_of_mem {x : Str} {c : Addr} : ∀ {l : List (Str × Addr)}, (x, c) ∈ l → ∃ c', l.lookup x = some c'
 | [], h => by simp at h
 | (n, d) :: l, h => by
   rw [List.lookup_cons]
   cases e : x == n with
   | true => exact ⟨d, rfl⟩
   | false =>
     rcases List.mem_cons.mp h with z | h
     · cases z; simp at e
     · exact lookup_some_of_mem h
theorem closure_ok {scope : Scope} {env : Env} (h : ∀ y ∈ scope.names, y.2 = .free → ∃ c, env.cells.lookup y.1 = some c) :
 ∃ cl, closureFor scope env = pure cl ∧ (∀ x c, cl.lookup x = some c → env.cells.lookup x = some c) ∧ ∀ x, (x, NameKind.free) ∈ scope.names → ∃ c, cl.lookup x = some c := by
 obtain ⟨cl, e1, e2, _, e4⟩ := closure_loop env scope.names [] h (fun p hp => by simp at hp)
 refine ⟨cl, ?_, fun x c hx => e2 (x, c) (PySem.mem_of_lookup hx), fun x hx => ?_⟩
 · unfold closureFor
   refine Eq.trans (congrArg (fun t => t >>= fun cs => pure cs) ?_) (bind_pure _)
   exact e1
 · obtain ⟨c, hc⟩ := e4 x hx
   exact lookup_some_of_mem hc
section
variable {X : Cx}
theorem pe_compC {tg iter elt : Expr} {ifs : List Expr} {scope : Scope} {pos : Pos} (N' : List Str) (ks : List (Option Nat)) {wi : TI} {g : TG} {tt : TT} {te : TE}
 (hcalm : X.calm = true) (hi : PI X tg iter wi) (hfree : ∀ y ∈ scope.names, y.2 = .free → X.env.scope.names.lookup y.1 = some .cell)
 (hcell : ∀ y ∈ scope.names, y.2 ≠ .cell) (hkind : scope.kind = .function) (hnames : ∀ y ∈ scope.names, y.2 = .local → scope.names.lookup y.1 = some .local)
 (hcap : Cap X (relabel scope X.env) N' ks)
 (hg : ∀ cl C s H fp, PG (compX X N' scope cl C s H fp) tg g) (ht : ∀ cl C s H fp, PTs (compX X N' scope cl C s H fp) ifs tt) (he : ∀ cl C s H fp, PE (compX X N' scope cl C s H fp) elt te)
 (hs : ∀ x, foldedSetIterable iter X.env x = pure x := by intro _; rfl) : PE X (.ListComp elt [⟨tg, iter, ifs, 0⟩] scope pos) (tComp wi ks g tt te) := by
 intro pins s σ H Q I h
 obtain ⟨cl, e1, e2, e3⟩ := closure_ok (scope := scope) (env := X.env) fun y hy hf => I.ok.has y.1 (.inl (hfree y hy hf))
 refine pe_comp hcalm hi e1 e2 hcell hkind hnames (fun x hx => ?_) hcap (hg cl) (ht cl) (he cl) hs pins s σ H Q I h
 have key : ∀ k, (x, k) ∈ (relabel scope X.env).names → k = .cell ∨ k = .free → (x, NameKind.free) ∈ scope.names := fun k hm hk => by
  unfold relabel at hm
  obtain ⟨⟨n, k'⟩, hy, e⟩ := List.mem_map.mp hm
  dsimp only at e
  split at e
  · rename_i hc
    cases e
    have : k' = .free := by simp at hc; exact hc.1.1
    rw [← this]; exact hy
  · cases e
    rcases hk with rfl | rfl
    · exact absurd rfl (hcell _ hy)
    · exact hy
 rcases hx with hx | hx
 · exact e3 x (key _ (PySem.mem_of_lookup hx) (.inl rfl))
 · exact e3 x (key _ (PySem.mem_of_lookup hx) (.inr rfl))
end

theorem newS {H : Hp} {Q : VK} {o : HO} (h : ∀ (p : Addr) (H' : Hp), Same H H' → H p = none → H' p = some o → Q (.ref p) H') : ∀ p, H p = none → Q (.ref p) (upd H p o) := fun p hp => h p _ (Same.new hp) hp upd_same
noncomputable def KL (H H' : Hp) : Prop := ∀ b o, H b = some o → (∀ xs, o ≠ .lst xs) → H' b = some o
noncomputable def rCatS : R2 := fun x y H Q => ∃ l b xs zs, x = .ref l ∧ y = .ref b ∧ H l = some (.lst xs) ∧ H b = some (.lst zs) ∧ xs.length + zs.length ≤ sizeLine ∧ ∀ (p : Addr) (H' : Hp), Same H H' → H p = none → H' p = some (.lst (xs ++ zs)) → Q (.ref p) H'
section
variable {X : Cx}
theorem op_catS : OpR X (binaryOp .Add) rCatS := fun pins s σ H x y v u Q I rx ry ⟨l, b, xs, zs, e1, e2, h1, h2, h3, q⟩ => op_cat pins s σ H x y v u Q I rx ry ⟨l, b, xs, zs, e1, e2, h1, h2, h3, newS q⟩
end
end L2

namespace L2
open PySem PySem.Spec PyProof.Rows PySem.W
theorem HandAt.same {H H' : Hp} {p : Addr} (h : HandAt H p) (s : Same H H') : HandAt H' p := by
 obtain ⟨a, b, e, r⟩ := h
 exact ⟨a, b, s _ _ e, r⟩
theorem HandAt.set {H : Hp} {p q : Addr} {o : HO} (h : HandAt H p) (n : p ≠ q) : HandAt (upd H q o) p := by
 obtain ⟨a, b, e, r⟩ := h
 exact ⟨a, b, by rw [upd_ne n]; exact e, r⟩
end L2


namespace L2
open PySem PySem.Spec PyProof.Rows
section
variable {X : Cx}
theorem pa_consX {e : Expr} {es : List Expr} {te : TE} {t : TA} (hs : starEach (e :: es) X.env = (false, eval e X.env) :: starEach es X.env) (h1 : PE X e te) (h2 : PA X es t) : PA X (e :: es) (tCons te t) := pa_cons h1 h2 hs
theorem ps_setX {pos : Pos} {i : Nat} {x : Str} {e : Expr} {te : TE} {pos' : Pos} (hs : swapsWith e (some (.Name x pos')) pos.line X.env = pure false) (hf : X.fn x = true ∨ X.env.scope.names.lookup x = some .local) (hN : X.N.Nodup) (hi : X.N[i]? = some x) (hx : Loc X.env.scope x) (he : PE X e te) :
 PS X (.Assign [.Name x pos'] e pos) (tAsg te (gName i)) := ps_set hN hi hx he hs hf
end
end L2

namespace L2
open PySem PySem.Spec PyProof.Rows PySem.W
noncomputable def rNil (K : PySem.W.Frag) (neg : Bool) : R2 := fun x y H Q => ∃ a b xs, x = .ref a ∧ y = .ref b ∧ ((SqT K H a xs ∧ SqT K H b []) ∨ (SqL K H a xs ∧ SqL K H b [])) ∧ Q (.bl (if neg then !xs.isEmpty else xs.isEmpty)) H
section
variable {X : Cx} {pins : List (Addr × Obj)} {σ : St} {H : Hp} {s : Shared}
theorem rc_nilT {A : Around} {a b : Addr} {xs : List V} (I : Inv X pins σ H s) (hu : A.units < cLine) (ha : SqT X.K H a xs) (hb : SqT X.K H b []) :
 SeqAt.RcAt A s (.ref a) (.ref b) xs.isEmpty ∧ SeqAt.RcNeAt A s (.ref a) (.ref b) (!xs.isEmpty) := by
 obtain ⟨its, r1, p1, _⟩ := I.tuple ha
 obtain ⟨its2, r2, p2, _⟩ := I.tuple hb
 cases r2
 have l3 := r1.length
 have q := SeqAt.RcAt.tuples (A := A) (s := s) (e := fun _ => true) p1 p2 hu (fun j h1 h2 => absurd h2 (Nat.not_lt_zero j))
 have q2 := SeqAt.RcNeAt.tuples (A := A) (s := s) (e := fun _ => true) p1 p2 hu (fun j h1 h2 => absurd h2 (Nat.not_lt_zero j))
 have e : ((List.range (min its.toArray.size ([] : List Value).toArray.size)).all (fun _ => true) && its.toArray.size == ([] : List Value).toArray.size) = xs.isEmpty := by
  cases xs <;> cases its <;> simp at l3 ⊢
 rw [e] at q q2
 exact ⟨q, q2⟩
theorem rc_nilL {A : Around} {a b : Addr} {xs : List V} (I : Inv X pins σ H s) (hu : A.units < cLine) (ha : SqL X.K H a xs) (hb : SqL X.K H b []) :
 SeqAt.RcAt A s (.ref a) (.ref b) xs.isEmpty ∧ SeqAt.RcNeAt A s (.ref a) (.ref b) (!xs.isEmpty) := by
 obtain ⟨its, r1, p1, _⟩ := I.list ha
 obtain ⟨its2, r2, p2, _⟩ := I.list hb
 cases r2
 have l3 := r1.length
 cases xs with
 | nil =>
   cases r1
   exact ⟨SeqAt.RcAt.lists (A := A) (s := s) (e := fun _ => true) p1.isList p2.isList rfl hu (fun j h1 h2 => absurd h2 (Nat.not_lt_zero j)), SeqAt.RcNeAt.lists (A := A) (s := s) (e := fun _ => true) p1.isList p2.isList rfl hu (fun j h1 h2 => absurd h2 (Nat.not_lt_zero j))⟩
 | cons x xs =>
   have hsz : (its.toArray.size != ([] : List Value).toArray.size) = true := by
    cases its <;> simp at l3 ⊢
   exact ⟨SeqAt.RcAt.lists_lengths p1.isList p2.isList hsz hu, SeqAt.RcNeAt.lists_lengths p1.isList p2.isList hsz hu⟩
end
section
variable {X : Cx}
theorem op_neNil {k : Nat} (hr : Room k X.A) : OpR X (compareOp .NotEq) (rNil X.K true) := by
 intro pins s σ H x y v u Q I rx ry h
 obtain ⟨a, b, xs, rfl, rfl, hk, q⟩ := h
 cases rx
 cases ry
 have hu := hr.units
 rcases hk with ⟨ha, hb⟩ | ⟨ha, hb⟩
 · exact (rc_nilT (A := X.A) I (by omega) ha hb).2 _ _ _ _ ⟨.bl _, H, I, rfl, q⟩
 · exact (rc_nilL (A := X.A) I (by omega) ha hb).2 _ _ _ _ ⟨.bl _, H, I, rfl, q⟩
end
noncomputable def KTy (H H' : Hp) : Prop := ∀ b o, H b = some o → H' b = some o ∨ ∃ xs ys, o = .lst xs ∧ H' b = some (.lst ys)
theorem Same.kt {H H' : Hp} (s : Same H H') : KTy H H' := fun b o h => .inl (s b o h)
theorem KTy.kl {H H' : Hp} (k : KTy H H') : KL H H' := fun b o e n => by
 rcases k b o e with h | ⟨xs, ys, rfl, h⟩
 · exact h
 · exact absurd rfl (n xs)
theorem HandAt.kt {H H' : Hp} {p : Addr} (h : HandAt H p) (h' : HandAt H' p) (k : Kp p H H') : KTy H H' := fun b o e => by
 by_cases z : b = p
 · subst z
   obtain ⟨x, y, e1, _⟩ := h
   obtain ⟨x', y', e2, _⟩ := h'
   rw [e1] at e
   cases e
   exact .inr ⟨_, _, rfl, e2⟩
 · exact .inl (k b o e z)
theorem TyOf.kt {K : PySem.W.Frag} {H H' : Hp} (k : KTy H H') {v : V} {t : Value} (h : TyOf K H v t) : TyOf K H' v t := by
 cases h with
 | non => exact .non
 | bl x => exact .bl x
 | int i => exact .int i
 | str x => exact .str x
 | flt x => exact .flt x
 | lst e =>
   rcases k _ _ e with h | ⟨_, _, _, h⟩
   · exact .lst h
   · exact .lst h
 | frz e => exact .frz (k.kl _ _ e fun _ z => by cases z)
 | tup e => exact .tup (k.kl _ _ e fun _ z => by cases z)
 | dK e => exact .dK (k.kl _ _ e fun _ z => by cases z)
 | dT e => exact .dT (k.kl _ _ e fun _ z => by cases z)
 | ins e cl ha hn htk hm => exact .ins (k.kl _ _ e fun _ z => by cases z) cl ha hn htk hm
end L2


namespace L2
open PySem PySem.Spec PyProof.Rows

section
variable {κ : Type} [DecidableEq κ]
end


section
variable {P : Program} {w : World} {H : Hp} {h : Heap} {a : Addr}
theorem rd_of {u : HO} (ok : HOk P w H h) (e : Rd H a u) : ObjOk P w H h a u := e.ok ok
theorem dk_rd {kvs : List (Key × V)} (ok : HOk P w H h) (e : Rd H a (.dK kvs)) : kvs.length ≤ sizeLine ∧ (a == sysModules) = false ∧ ∃ vs, KV kvs vs ∧ h.DictOf (mixKind P w) a vs :=
 show ObjOk P w H h a (.dK kvs) from rd_of ok e
theorem dk_of {kvs : List (Key × V)} (ok : HOk P w H h) (e : H a = some (.dK kvs)) : kvs.length ≤ sizeLine ∧ (a == sysModules) = false ∧ ∃ vs, KV kvs vs ∧ h.DictOf (mixKind P w) a vs := dk_rd ok (.inl e)
end

section
variable {X : Cx} {pins : List (Addr × Obj)} {σ : St} {H : Hp} {s : Shared} {a : Addr} {y v : V} {u r : Value} {o : Option V} {A : Around} {E : Value → Shared → Prop}

theorem Inv.big (I : Inv X pins σ H s) : sysModules < s.heap.objs.size := by
 have h : mainGlobals < s.heap.objs.size := (I.mod.glob.keeps I.bk).lt
 exact Nat.lt_trans (by decide) h

theorem d_write {h' : Heap} {t' : Nat} {ob : HO} (I : Inv X pins σ H s) (mu : Mut (H a)) (hs : Heap.SameBut a s.heap h') (he : ∃ q, h'.get? a = some q) (new : ObjOk X.prog X.w (upd H a ob) h' a ob) :
 Inv X pins σ (upd H a ob) { s with heap := h', toks := t' } :=
 I.write (x := a) (e := a) mu (.inl rfl) (fun b q hb z => (hs.2 b hb).trans z) he new
end

section
variable {X : Cx} {pins : List (Addr × Obj)} {σ : St} {H : Hp} {s : Shared} {a : Addr} {kvs : List (Key × V)} {k : Key} {u : Value} {A : Around} {E : Value → Shared → Prop}
end


section
variable {X : Cx} {o i e value : Expr} {pos pos' tpos : Pos} {td ty tv : TE}
end


theorem dk_empty {P : Program} {w : World} {H : Hp} (h : Heap) (hb : sysModules < h.objs.size) : ObjOk P w H (h.push { cls := .type "dict", data := .dict #[] }) h.objs.size (.dK []) :=
 ⟨Nat.zero_le _, beq_eq_false_iff_ne.mpr (Ne.symm (Nat.ne_of_lt hb)), [], .nil, Heap.DictOf.new h⟩
section
variable {X : Cx} {pos : Pos}
end

noncomputable def tPairs : List (TE × TE) → St → Hp → (List (V × V) → Hp → Prop) → Prop
 | [], _, H, Q => Q [] H
 | (tk, tv) :: r, σ, H, Q => tk σ H fun x H1 => tv σ H1 fun y H2 => tPairs r σ H2 fun ps H3 => Q ((x, y) :: ps) H3
noncomputable abbrev VV : List (V × V) → List (Value × Value) → Prop := Paired fun p q => RelV p.1 q.1 ∧ RelV p.2 q.2
noncomputable def PPs (X : Cx) (pos : Pos) (keys : List (Option Expr)) (values : List Expr) (trs : List (TE × TE)) : Prop :=
 ∀ (pins : List (Addr × Obj)) (s : Shared) (σ : St) (H : Hp) (Q : List (V × V) → Hp → Prop), Inv X pins σ H s → tPairs trs σ H Q →
   wpAny (model X.prog X.w) X.A (evalPairs (pairTrees keys values X.env pos)) (fun vs s' => ∃ ps H', Inv X pins σ H' s' ∧ VV ps vs ∧ Q ps H') X.xe s
theorem pps_nil {X : Cx} {pos : Pos} : PPs X pos [] [] [] := fun pins s σ H Q I h => pairTrees_nil_walk ⟨[], H, I, .nil, h⟩
theorem pps_cons {X : Cx} {pos : Pos} {k v : Expr} {ks : List (Option Expr)} {vs : List Expr} {tk tv : TE} {trs : List (TE × TE)} (hk : PE X k tk) (hv : PE X v tv) (hr : PPs X pos ks vs trs) :
 PPs X pos (some k :: ks) (v :: vs) ((tk, tv) :: trs) := fun pins s σ H Q I h =>
 pairTrees_cons_walk (thn (hk pins s σ H _ I h) fun u s1 ⟨x, H1, I1, rx, q1⟩ => thn (hv pins s1 σ H1 _ I1 q1) fun w2 s2 ⟨y, H2, I2, ry, q2⟩ =>
  thn (hr pins s2 σ H2 _ I2 q2) fun ws s3 ⟨ps, H3, I3, rel, q3⟩ => ⟨(x, y) :: ps, H3, I3, .cons ⟨rx, ry⟩ rel, q3⟩)

end L2

namespace L2
open PySem PySem.Spec PyProof.Rows PySem.W
theorem ki_nt (K : PySem.W.Frag) : PySem.W.kitOne K (.type "NoneType") (.type "tuple") = some false := by rfl
theorem ki_bt (K : PySem.W.Frag) : PySem.W.kitOne K (.type "bool") (.type "tuple") = some false := by rfl
theorem ki_st (K : PySem.W.Frag) : PySem.W.kitOne K (.type "str") (.type "tuple") = some false := by rfl
theorem ki_lt (K : PySem.W.Frag) : PySem.W.kitOne K (.type "list") (.type "tuple") = some false := by rfl
theorem ki_dt (K : PySem.W.Frag) : PySem.W.kitOne K (.type "dict") (.type "tuple") = some false := by rfl
theorem ki_ni (K : PySem.W.Frag) : PySem.W.kitOne K (.type "NoneType") (.type "int") = some false := by rfl
theorem ki_si (K : PySem.W.Frag) : PySem.W.kitOne K (.type "str") (.type "int") = some false := by rfl
theorem ki_li (K : PySem.W.Frag) : PySem.W.kitOne K (.type "list") (.type "int") = some false := by rfl
theorem ki_ti (K : PySem.W.Frag) : PySem.W.kitOne K (.type "tuple") (.type "int") = some false := by rfl
section
variable {K : PySem.W.Frag} {H H' : Hp} {n m : Nat} {v : V}
end
end L2

namespace L2
open PySem PySem.Spec PyProof.Rows PySem.W
section
variable {X : Cx}
theorem ps_forX {tg iter : Expr} {body : List Stmt} {wi : TI} {g : TG} {tb : TS} {pos : Pos} (hs : ∀ x : Value, foldedSetIterable iter X.env x = pure x) (h1 : PassesOwn (model X.prog X.w) X.A X.env X.xe) (h2 : X.calm = true) (hi : PI X tg iter wi) (hg : PG X tg g) (hb : PSs X body tb) :
 PS X (.For tg iter body [] pos) (tFor wi g tb) := ps_for h1 h2 hi hg hb hs
end
end L2




namespace L2
open PySem PySem.Spec PyProof.Rows
noncomputable def Fnd (K : PySem.W.Frag) (mg : Str → Option Value) (nm : Str) (st : Stmt) (ps : List Str) : Prop := ∃ (f : Addr) (fd : FuncData), Fun K nm nm st f fd ∧ mg nm = some (.ref f) ∧ Binds K fd ps []
noncomputable def Def (P : Program) (w : World) (K : PySem.W.Frag) (mg : Str → Option Value) (base : Heap) (k : Nat) (nm : Str) (ps : List Str) (sp : Sp) : Prop :=
 ∃ (f : Addr) (fd : FuncData), PySem.W.keepIn K (.ref f) = true ∧ mg nm = some (.ref f) ∧ Binds K fd ps [] ∧ FnOk P w K mg base CX0 k f fd ps sp
theorem Fnd.def {P : Program} {w : World} {K : PySem.W.Frag} {mg : Str → Option Value} {base : Heap} {k : Nat} {nm : Str} {st : Stmt} {ps : List Str} {sp : Sp} (S : Fnd K mg nm st ps) (h : ∀ f fd, Fun K nm nm st f fd → FnOk P w K mg base CX0 k f fd ps sp) : Def P w K mg base k nm ps sp := by
 obtain ⟨f, fd, F, m, b⟩ := S
 exact ⟨f, fd, F.kp, m, b, h f fd F⟩
section
variable {X : Cx}
theorem pe_def {k : Nat} {nm : Str} {ps : List Str} {sp : Sp} {e : Expr} {es : List Expr} {t : TA} {p pos : Pos} (hg : Gl X nm) (he : starEach (e :: es) X.env = (false, eval e X.env) :: starEach es X.env) (hpl : (backTo pos (starEach es X.env)).any (·.1) = false) (hdb : (nm == ("__debug__" : Str)) = false)
 (D : Def X.prog X.w X.K X.mg X.base k nm ps sp) (hr : Room k X.A) (ha : PA X (e :: es) t) :
 PE X (.Call (.Name nm p) (e :: es) [] pos) (tCall sp [] E0 t) := by
 obtain ⟨f, fd, a, b, c, F⟩ := D
 exact pe_call F hr hg b a c .nil pass0 ha hdb he hpl
end
section
variable {K : PySem.W.Frag} {a b D : Addr} {xs zs : List V} {g : TG} {tt : TT} {te : TE} {σ0 : St} {H0 : Hp} {Q : VK}
end
structure Txt (mg : Str → Option Value) : Prop where
 abs : mg "abs" = none
 isi : mg "isinstance" = none
 tup : mg "tuple" = none
 int : mg "int" = none
 bool : mg "bool" = none
 lst : mg "list" = none
 enu : mg "enumerate" = none
 len : mg "len" = none
 range : mg "range" = none
 srt : mg "sorted" = none
 sum : mg "sum" = none
 zip : mg "zip" = none
 max : mg "max" = none
end L2


































open PySem PySem.Spec PyProof.Rows



open PySem PySem.Spec PyProof PyProof.Rows





open PySem PySem.Spec PyProof PyProof.Rows

open PySem PySem.Spec PyProof PyProof.Rows


open PySem PySem.Spec PyProof PyProof.Rows

open PySem PySem.Spec PyProof PyProof.Rows



open PySem PySem.Spec PyProof PyProof.Rows

open PySem PySem.Spec PyProof PyProof.Rows

open PySem PySem.Spec PyProof PyProof.Rows


open PySem PySem.Spec PyProof PyProof.Rows

open PySem PySem.Spec PyProof PyProof.Rows

open PySem PySem.Spec PyProof PyProof.Rows

open PySem PySem.Spec PyProof PyProof.Rows

open PySem PySem.Spec PyProof PyProof.Rows

open PySem PySem.Spec PyProof PyProof.Rows

open PySem PySem.Spec PyProof PyProof.Rows

open PySem PySem.Spec PyProof PyProof.Rows

open PySem PySem.Spec PyProof PyProof.Rows

open PySem PySem.Spec PyProof PyProof.Rows

open PySem PySem.Spec PyProof PyProof.Rows

open PySem PySem.Spec PyProof PyProof.Rows

open PySem PySem.Spec PyProof PyProof.Rows

open PySem PySem.Spec PyProof PyProof.Rows

open PySem PySem.Spec PyProof PyProof.Rows

open PySem PySem.Spec PyProof PyProof.Rows

open PySem PySem.Spec PyProof PyProof.Rows

open PySem PySem.Spec PyProof PyProof.Rows

open PySem PySem.Spec PyProof PyProof.Rows

open PySem PySem.Spec PyProof PyProof.Rows

open PySem PySem.Spec PyProof PyProof.Rows

open PySem PySem.Spec PyProof PyProof.Rows

open PySem PySem.Spec PyProof PyProof.Rows
namespace L2
noncomputable def FnAt (K : PySem.W.Frag) (n : Str) (st : Stmt) : Prop := ∃ f fd, PySem.W.nsIn K mainGlobals n = some (some (.ref f)) ∧ Fun K n n st f fd
theorem FnAt.of {K : PySem.W.Frag} {n : Str} {st : Stmt} {f : Addr} {oc : Value} {od an : Option Addr} {osl : Array (Option Value)} {kV doc pm cdv ct : Value} (a : PySem.W.nsIn K mainGlobals n = some (some (.ref f))) (l : K.lookup f = some ⟨oc, od, .func (PySem.W.fnOf n n (defArgs st) (defBody st) (defScope st) .none kV doc pm an cdv ct), osl⟩)
 (c : PySem.W.codeIn K cdv n = true) (k : PySem.W.keepIn K (.ref f) = true) : FnAt K n st := ⟨_, _, a, fun_mk l c k⟩
theorem FnAt.fnd {K : PySem.W.Frag} {h : Heap} {mg : Str → Option Value} {n : Str} {st : Stmt} (ps : List Str) (x : FnAt K n st) (XK : K.In h) (G : h.Ns mainGlobals mg)
 (b : ∀ (kV doc pm : Value) (an : Option Addr) (cdv ct : Value) (us : List Value), us.length = ps.length → bindArgs (PySem.W.fnOf n n (defArgs st) (defBody st) (defScope st) .none kV doc pm an cdv ct) ⟨us, []⟩ = pure (ps.zip us)) : Fnd K mg n st ps := by
 obtain ⟨f, fd, a, F⟩ := x
 exact ⟨f, fd, F, PySem.W.mg_of XK G a, F.binds b⟩
end L2

open PySem PySem.Spec PyProof PyProof.Rows

open PySem PySem.Spec PyProof PyProof.Rows

open PySem PySem.Spec PyProof PyProof.Rows

open PySem PySem.Spec PyProof PyProof.Rows

open PySem PySem.Spec PyProof PyProof.Rows

open PySem PySem.Spec PyProof PyProof.Rows

open PySem PySem.Spec PyProof PyProof.Rows



open PySem PySem.Spec PyProof PyProof.Rows









open PySem PySem.Spec PyProof PyProof.Rows

open PySem PySem.Spec PyProof PyProof.Rows
























namespace L2
open PySem PySem.Spec PyProof PyProof.Rows PySem.W
inductive Tg (K : PySem.W.Frag) (H : Hp) : V → Option Int → Prop where
 | int (i : Int) : Tg K H (.int i) (some i)
 | bl (b : Bool) : Tg K H (.bl b) none
 | oth {v : V} {t : Value} (ty : TyOf K H v t) (e : PySem.W.kitOne K t (.type "int") = some false) : Tg K H v none
noncomputable def spWholeT (K : PySem.W.Frag) : Sp := fun vs H Q _ => ∃ (v : V) (o : Option Int), vs = [v] ∧ Tg K H v o ∧ Q (.bl o.isSome) H
section
variable {K : PySem.W.Frag} {C : Addr} {pos : Pos} {G G' : Hp} {d tb p pd lp wa : Addr} {W W' : Wb} {Ws Ws' : List Wb} {W0 : Wb} {A : Int × Int}
end
end L2

















namespace Pw
open PySem PySem.NumText
end Pw


namespace L2
open PySem PySem.Spec PyProof PyProof.Rows PySem.W
end L2





namespace Pw
open PySem PySem.NumText
noncomputable abbrev ns (n : Int) : Str := Str.ofString (toString n)
noncomputable def dgt (m : Nat) : List Nat := (Nat.toDigits 10 m).map Char.toNat
theorem dgt_step {m : Nat} (h : ¬ m < 10) : dgt m = dgt (m / 10) ++ [48 + m % 10] := by
 have hm : m % 10 < 10 := Nat.mod_lt m (by decide)
 have t : Nat.toDigits 10 (m / 10) ++ Nat.toDigits 10 (m % 10) = Nat.toDigits 10 (10 * (m / 10) + m % 10) := Nat.toDigits_append_toDigits (by decide) (by omega) hm
 rw [Nat.div_add_mod] at t
 unfold dgt
 rw [← t, List.map_append, Nat.toDigits_of_lt_base hm]
 have key : ∀ d, d < 10 → (Nat.digitChar d).toNat = 48 + d := by decide
 show _ ++ [(Nat.digitChar (m % 10)).toNat] = _
 rw [key _ hm]
theorem dgt_one {m : Nat} (h : m < 10) : dgt m = [48 + m] := by
 unfold dgt
 rw [Nat.toDigits_of_lt_base h]
 have key : ∀ d, d < 10 → (Nat.digitChar d).toNat = 48 + d := by decide
 show [(Nat.digitChar m).toNat] = _
 rw [key _ h]
theorem dgt_ok (m : Nat) : AllDigits (dgt m) ∧ dgt m ≠ [] ∧ (m ≠ 0 → (dgt m).head? ≠ some 48) ∧ ∀ k, 1 ≤ k → m < 10 ^ k → (dgt m).length ≤ k := by
 induction m using Nat.strongRecOn with
 | _ m ih =>
   by_cases h : m < 10
   · rw [dgt_one h]
     refine ⟨fun c hc => ?_, by simp, fun h0 e => ?_, fun k hk _ => by simpa using hk⟩
     · rw [List.mem_singleton.mp hc]; omega
     · have := Option.some.inj e
       omega
   · obtain ⟨a, b, c, d⟩ := ih (m / 10) (by omega)
     have hm : m % 10 < 10 := Nat.mod_lt m (by decide)
     rw [dgt_step h]
     refine ⟨fun x hx => ?_, by simp, fun _ e => ?_, fun k hk hlt => ?_⟩
     · rcases List.mem_append.mp hx with hx | hx
       · exact a x hx
       · rw [List.mem_singleton.mp hx]; omega
     · refine c (by omega) ?_
       cases hd : dgt (m / 10) with
       | nil => exact absurd hd b
       | cons x xs => rw [hd] at e; exact e
     · rw [List.length_append, List.length_singleton]
       have k2 : 2 ≤ k := by
        rcases Nat.lt_or_ge k 2 with hk2 | hk2
        · have : k = 1 := by omega
          subst this
          omega
        · exact hk2
       have := d (k - 1) (by omega) (by
        have e : 10 ^ k = 10 ^ (k - 1) * 10 := by rw [← Nat.pow_succ]; congr 1; omega
        rw [e] at hlt
        exact Nat.div_lt_of_lt_mul (by rw [Nat.mul_comm]; exact hlt))
       omega
theorem ns_nat (m : Nat) : (ns ((m : Nat) : Int)).cps.toList = dgt m := PySem.W.KIN.signs_num m
theorem ns_neg (m : Nat) : (ns (Int.negSucc m)).cps.toList = 45 :: dgt (m + 1) := by
 unfold ns dgt
 rw [PyProof.Rows.signs_ofString]
 show ("-" ++ Nat.repr (m + 1)).toList.map Char.toNat = _
 rw [String.toList_append, List.map_append, Nat.toList_repr]
 rfl
theorem ns_mem {n : Int} {c : Nat} (h : c ∈ (ns n).cps.toList) : c = 45 ∨ (48 ≤ c ∧ c ≤ 57) := by
 cases n with
 | ofNat m =>
   have e := ns_nat m
   change (ns (Int.ofNat m)).cps.toList = _ at e
   rw [e] at h
   exact .inr ((dgt_ok m).1 c h)
 | negSucc m =>
   rw [ns_neg m] at h
   rcases List.mem_cons.mp h with h | h
   · exact .inl h
   · exact .inr ((dgt_ok (m + 1)).1 c h)
end Pw


namespace L2
open PySem PySem.Spec PyProof PyProof.Rows PySem.W
inductive Nm : V → Int → Prop where
 | int (i : Int) : Nm (.int i) i
 | bl (b : Bool) : Nm (.bl b) (b2i b)
theorem Nm.rel {x : V} {i : Int} {u : Value} (h : Nm x i) (r : RelV x u) : (∃ t, u = .int i t) ∨ ∃ b, u = .bool b ∧ i = b2i b := by
 cases h with
 | int i => exact .inl r
 | bl b => exact .inr ⟨b, r, rfl⟩
section
variable {X : Cx}
theorem op_mulN : OpR X (binaryOp .Mult) (fun x y H Q => ∃ a j, Nm x a ∧ y = .int j ∧ CMulB a j ∧ Q (.int (a * j)) H) := by
 intro pins s σ H x y v u Q I rx ry h
 obtain ⟨a, j, hx, rfl, hc, q⟩ := h
 obtain ⟨t', rfl⟩ := ry
 rcases hx.rel rx with ⟨t, rfl⟩ | ⟨b, rfl, rfl⟩
 · exact mul_int ⟨.int _, H, I.tok _, ⟨_, rfl⟩, q⟩ hc.ok
 · exact PySem.IntBool.mul_bool_int ⟨.int _, H, I.tok _, ⟨_, rfl⟩, q⟩
theorem op_subN : OpR X (binaryOp .Sub) (fun x y H Q => ∃ i b, x = .int i ∧ Nm y b ∧ Q (.int (i - b)) H) := by
 intro pins s σ H x y v u Q I rx ry h
 obtain ⟨i, b, rfl, hy, q⟩ := h
 obtain ⟨t, rfl⟩ := rx
 rcases hy.rel ry with ⟨t', rfl⟩ | ⟨c, rfl, rfl⟩
 · exact sub_int ⟨.int _, H, I.tok _, ⟨_, rfl⟩, q⟩
 · exact PySem.IntBool.sub_int_bool ⟨.int _, H, I.tok _, ⟨_, rfl⟩, q⟩
noncomputable def nmT : V → Str
 | .int i => toString i
 | .bl b => if b then "True" else "False"
 | _ => Str.empty
theorem call_strN : CallR X (.type "str") (fun xs H Q => ∃ x a, xs = [x] ∧ Nm x a ∧ a.natAbs.log2 < 1920 ∧ Q (.str (nmT x)) H) := by
 intro pins s σ H xs us Q I r h
 obtain ⟨x, a, rfl, hx, hz, q⟩ := h
 obtain ⟨u, rfl, ru⟩ := vals1 r
 cases hx with
 | int i => obtain ⟨t, rfl⟩ := ru; exact PySem.P.str_of_int hz ⟨.str _, H, I.tok _, ⟨_, rfl⟩, q⟩
 | bl b => cases (show u = Value.bool b from ru); exact PySem.P.str_of_bool ⟨.str _, H, I.tok _, ⟨_, rfl⟩, q⟩
end
noncomputable def nkIs (k : Int) : Value → Bool
 | .int i _ => k == i
 | .bool b => k == b2i b
 | _ => false
theorem nkIs_shape {k : Int} {v : Value} (h : nkIs k v = true) : (∃ t, v = .int k t) ∨ ∃ b, v = .bool b ∧ k = b2i b := by
 cases v <;> simp [nkIs] at h
 · exact .inr ⟨_, rfl, h⟩
 · subst h; exact .inl ⟨_, rfl⟩
section
variable {prog : Program} {w : World} {A : Around} {E : Value → Shared → Prop} {s : Shared}
theorem hash_bool {b : Bool} {Q : Int → Shared → Prop} (h : Q (hashInt (b2i b)) { s with toks := s.toks + 1 }) : wpAny (model prog w) A (pyHash (.bool b)) Q E s := by
 have hr := rawHash_range (b2i b)
 unfold pyHash
 have hv : [Value.bool b].any Value.onHeap = false := rfl
 refine wpAny_bind ?_
 rw [cRoomFor, if_neg (by rw [hv]; exact Bool.false_ne_true)]; refine wpAny_pure ?_
 refine wpAny_bind (wpAny_specialOf (PySem.typeIs_bool s b) F.slot_bool_hash.lookup ?_)
 show wpAny _ _ (if (some (Value.builtin "int.__hash__") == some Value.none) = true then _ else _) Q E s
 rw [if_neg (by rw [beq_builtin_none]; exact Bool.false_ne_true)]
 refine wpAny_bind (wpAny_specialOf (PySem.typeIs_bool s b) F.slot_bool_hash.lookup ?_)
 show wpAny _ _ (callSpecialIfBoundUnlessNone? (.bool b) "__hash__" _ >>= _) Q E s
 refine wpAny_bind (wpAny_callSpecialIfBoundUnlessNone?_slot (PySem.typeIs_bool s b) F.slot_bool_hash
  (wpAny_call_entry F.slot_bool_hash (PySem.typeIs_bool s b) entry_int_hash
   (show wpAny _ _ (do ret (← mkInt (rawHash (b2i b)))) _ _ s from wpAny_ret_mkInt ?_) (args_int_hash _)))
 show wpAny _ _ (if (decide (-(2 : Int) ^ 63 ≤ rawHash (b2i b)) && decide (rawHash (b2i b) < 2 ^ 63)) = true then _ else _) Q E _
 rw [if_pos (by rw [decide_eq_true hr.1, decide_eq_true hr.2]; rfl)]
 exact wpAny_pure h
end
theorem nk_dec (a b : Int) : decide (a = b) = (a == b) := by
 by_cases e : a = b
 · subst e; simp
 · rw [decide_eq_false e]; exact (beq_eq_false_iff_ne.mpr e).symm
noncomputable def numKind (prog : Program) (w : World) : PySem.KeyKind prog w Int where
 is := nkIs
 hash := hashInt
 inj := fun v a b ha hb => by
  rcases nkIs_shape ha with ⟨t, rfl⟩ | ⟨x, rfl, rfl⟩
  · rcases nkIs_shape hb with ⟨u, e⟩ | ⟨y, e, rfl⟩
    · injection e
    · exact nomatch e
  · rcases nkIs_shape hb with ⟨u, e⟩ | ⟨y, e, rfl⟩
    · exact nomatch e
    · injection e with e1; rw [e1]
 byValue := fun k v h => by
  rcases nkIs_shape h with ⟨t, rfl⟩ | ⟨x, rfl, rfl⟩ <;> rfl
 pyHash := fun hv h => by
  rcases nkIs_shape hv with ⟨t, rfl⟩ | ⟨x, rfl, rfl⟩
  · exact wpAny_pyHash_int h
  · exact hash_bool h
 eqBool := fun hu hv h => by
  rcases nkIs_shape hu with ⟨t, rfl⟩ | ⟨x, rfl, rfl⟩
  · rcases nkIs_shape hv with ⟨u, rfl⟩ | ⟨y, rfl, rfl⟩
    · rw [nk_dec] at h; exact wpAny_eqBool_int h
    · rw [nk_dec] at h; exact SeqAt.EqAt.int_bool _ t y _ _ _ _ h
  · rcases nkIs_shape hv with ⟨u, rfl⟩ | ⟨y, rfl, rfl⟩
    · rw [nk_dec] at h; exact SeqAt.EqAt.bool_int x _ u _ _ _ _ h
    · rw [show decide (b2i x = b2i y) = (x == y) from by cases x <;> cases y <;> rfl] at h; exact SeqAt.EqAt.bool_bool x y _ _ _ _ h
 «strs» := fun k x t v h => by
  rcases nkIs_shape h with ⟨u, e⟩ | ⟨y, e, _⟩ <;> exact nomatch e
end L2

namespace L2
open PySem PySem.Spec PyProof PyProof.Rows PySem.W
inductive Fl : V → PyData → Prop where
 | non : Fl .non .none
 | bl (b : Bool) : Fl (.bl b) (.bool b)
 | int (i : Int) (h : i.natAbs.log2 < 1920) : Fl (.int i) (.int i)
 | str (x : Str) (h : (reprText x).length ≤ 25000) : Fl (.str x) (.str x)
theorem Fl.d {v : V} {d : PyData} (h : Fl v d) : d.showable = true ∧ d.hasDict = false ∧ d.depth = 0 ∧ d.shown.length ≤ 25000 := by
 cases h with
 | non => exact ⟨rfl, rfl, rfl, by decide⟩
 | bl b => exact ⟨rfl, rfl, rfl, by cases b <;> decide⟩
 | int i h => exact ⟨decide_eq_true h, rfl, rfl, Nat.le_trans (int_text_len_1921 h) (by decide)⟩
 | str x h => exact ⟨rfl, rfl, rfl, h⟩
theorem Fl.rd {v : V} {u : Value} {d : PyData} {h : Heap} (f : Fl v d) (r : RelV v u) : Reads h u d [] := by
 cases f with
 | non => cases (show u = Value.none from r); exact .none
 | bl b => cases (show u = Value.bool b from r); exact .bool b
 | int i h => obtain ⟨t, rfl⟩ := r; exact .int _ _
 | str x h => obtain ⟨t, rfl⟩ := r; exact .str _ _
noncomputable abbrev Fls : List V → List PyData → Prop := Paired Fl
theorem Fls.d : ∀ {xs : List V} {ds : List PyData}, Fls xs ds → PyData.showableAll ds = true ∧ PyData.hasDictAll ds = false ∧ PyData.depthAll ds = 0 ∧ ((PyData.shownAll ds).map (·.length)).sum ≤ 25000 * ds.length ∧ (PyData.shownAll ds).length = ds.length ∧ xs.length = ds.length
 | _, _, .nil => ⟨by simp only [PyData.showableAll], by simp only [PyData.hasDictAll], by simp only [PyData.depthAll], by simp only [PyData.shownAll]; exact Nat.zero_le _, by simp only [PyData.shownAll]; rfl, rfl⟩
 | _, _, .cons f t => by
   obtain ⟨a1, a2, a3, a4⟩ := f.d
   obtain ⟨b1, b2, b3, b4, b5, b6⟩ := Fls.d t
   simp only [PyData.showableAll, PyData.hasDictAll, PyData.depthAll, PyData.shownAll, List.map_cons, List.sum_cons, List.length_cons]
   rw [a1, a2, a3, b1, b2, b3]
   exact ⟨rfl, rfl, rfl, by omega, by omega, by omega⟩
theorem Fls.rd {h : Heap} : ∀ {xs : List V} {us : List Value} {ds : List PyData}, Fls xs ds → Vals xs us → ReadsAll h us ds []
 | _, _, _, .nil, r => by cases r; exact .nil
 | _, _, _, .cons f t, r => by
   cases r with
   | cons r1 rt => exact .cons (f.rd r1) (Fls.rd t rt)
noncomputable def FlatD (a : Addr) (d : PyData) : HO := .ext fun h => ∃ (o : Obj) (es : Array DictEntry) (n : Nat) (kvs : List (PyData × PyData)) (ks vs : List V), h.get? a = some o ∧ o.cls = .type "dict" ∧ o.data = .dict es n ∧ d = .dict kvs ∧ kvs.length ≤ 15 ∧ a ≠ sysModules ∧
 Fls ks (kvs.map (·.1)) ∧ Vals ks (es.toList.map (·.key)) ∧ Fls vs (kvs.map (·.2)) ∧ Vals vs (es.toList.map (·.val))
theorem kv_d : ∀ {kvs : List (PyData × PyData)} {ks vs : List V}, Fls ks (kvs.map (·.1)) → Fls vs (kvs.map (·.2)) → PyData.showableKv kvs = true ∧ PyData.depthKv kvs = 0 ∧ ((PyData.shownKv kvs).map (·.length)).sum ≤ 50002 * kvs.length ∧ (PyData.shownKv kvs).length = kvs.length
 | [], _, _, _, _ => ⟨by simp only [PyData.showableKv], by simp only [PyData.depthKv], by simp only [PyData.shownKv]; exact Nat.zero_le _, by simp only [PyData.shownKv]; rfl⟩
 | (k, v) :: kvs, _, _, f, g => by
   rw [List.map_cons] at f g
   cases f with
   | cons f1 f2 =>
     cases g with
     | cons g1 g2 =>
       obtain ⟨a1, a2, a3, a4⟩ := f1.d
       obtain ⟨b1, b2, b3, b4⟩ := g1.d
       obtain ⟨c1, c2, c3, c4⟩ := kv_d f2 g2
       dsimp only at a1 a2 a3 a4 b1 b2 b3 b4
       have e2 : (k.shown ++ ": " ++ v.shown).length = k.shown.length + 2 + v.shown.length := by
        rw [strLen_append, strLen_append]; rfl
       simp only [PyData.showableKv, PyData.depthKv, PyData.shownKv, List.map_cons, List.sum_cons, List.length_cons]
       rw [a1, a3, b1, b3, c1, c2, e2]
       exact ⟨rfl, rfl, by omega, by omega⟩
inductive Rp (H : Hp) : V → PyData → Prop where
 | fl {v : V} {d : PyData} (f : Fl v d) : Rp H v d
 | tup {a : Addr} {xs : List V} {ds : List PyData} (e : H a = some (.tup xs)) (f : Fls xs ds) (l : ds.length ≤ 3) : Rp H (.ref a) (.tuple ds)
 | tt {a b : Addr} {x y : V} {dx dy : PyData} (e : H a = some (.tup [.ref b, y])) (e' : H b = some (.tup [x])) (fx : Fl x dx) (fy : Fl y dy) : Rp H (.ref a) (.tuple [.tuple [dx], dy])
 | lst {a : Addr} {xs : List V} {ds : List PyData} (e : H a = some (.lst xs)) (f : Fls xs ds) (l : ds.length ≤ 3) : Rp H (.ref a) (.list ds)
 | dct {a : Addr} {d : PyData} (e : H a = some (FlatD a d)) : Rp H (.ref a) d
theorem Rp.same {H H' : Hp} {v : V} {d : PyData} (r : Rp H v d) (s : Same H H') : Rp H' v d := by
 cases r with
 | fl f => exact .fl f
 | tup e f l => exact .tup (s _ _ e) f l
 | tt e e' fx fy => exact .tt (s _ _ e) (s _ _ e') fx fy
 | lst e f l => exact .lst (s _ _ e) f l
 | dct e => exact .dct (s _ _ e)
section
variable {X : Cx}
noncomputable def rReprT : List V → Hp → VK → Prop := fun xs H Q => ∃ (v : V) (d : PyData), xs = [v] ∧ Rp H v d ∧ Q (.str d.shown) H
theorem call_reprT {k : Nat} (hr : Room k X.A) : CallR X (.builtin "repr") rReprT := by
 intro pins s σ H xs us Q I r h
 obtain ⟨v, d, rfl, hv, q⟩ := h
 obtain ⟨u, rfl, ru⟩ := vals1 r
 have hu := hr.units
 cases hv with
 | fl f =>
   cases f with
   | non => cases (show u = Value.none from ru); exact PySem.P.repr_of_none ⟨.str _, H, I.tok _, ⟨_, rfl⟩, q⟩
   | bl b => cases (show u = Value.bool b from ru); exact PySem.P.repr_of_bool ⟨.str _, H, I.tok _, ⟨_, rfl⟩, q⟩
   | int i hi => obtain ⟨t, rfl⟩ := ru; exact PySem.P.repr_of_int hi ⟨.str _, H, I.tok _, ⟨_, rfl⟩, q⟩
   | str x hx => obtain ⟨t, rfl⟩ := ru; exact PySem.P.repr_of_str ⟨.str _, H, I.tok _, ⟨_, rfl⟩, q⟩ (Nat.le_trans hx (by rw [sizeLine_eq]; decide))
 | @tup a xs ds e f l =>
   cases (show u = Value.ref a from ru)
   obtain ⟨its, rr, ⟨o, ho, hc, m, hd⟩, _⟩ := I.tuple (SqT.of e)
   have rd : Reads s.heap (.ref a) (.tuple ds) _ := .tuple ho hc hd (by simpa using f.rd rr)
   obtain ⟨b1, b2, b3, b4, b5, b6⟩ := f.d
   refine repr_of_reads' rd (by simp only [PyData.showable]; exact b1) (fun z => by simp only [PyData.hasDict] at z; rw [b2] at z; cases z) hr.gd (by simp only [PyData.depth]; omega) (fun _ _ e => e) (fun h' u tk hk => ⟨.str _, H, I.kept (t' := tk) hk, ⟨_, rfl⟩, q⟩) ?_
   simp only [PyData.shown]
   refine Nat.le_trans (tupleText_len_le _) ?_
   rw [sizeLine_eq]; omega
 | @tt a b x y dx dy e e' fx fy =>
   cases (show u = Value.ref a from ru)
   obtain ⟨its, rr, ⟨o, ho, hc, m, hd⟩, _⟩ := I.tuple (SqT.of e)
   obtain ⟨u1, u2, rfl, r1, r2⟩ := vals2 rr
   cases (show u1 = Value.ref b from r1)
   obtain ⟨its', rr', ⟨o', ho', hc', m', hd'⟩, _⟩ := I.tuple (SqT.of e')
   obtain ⟨u3, rfl, r3⟩ := vals1 rr'
   have rd : Reads s.heap (.ref a) (.tuple [.tuple [dx], dy]) _ := .tuple ho hc hd (.cons (.tuple ho' hc' hd' (.cons (fx.rd r3) .nil)) (.cons (fy.rd r2) .nil))
   obtain ⟨a1, a2, a3, a4⟩ := fx.d
   obtain ⟨b1, b2, b3, b4⟩ := fy.d
   refine repr_of_reads' rd (by simp only [PyData.showable, PyData.showableAll]; rw [a1, b1]; rfl) (fun z => by simp only [PyData.hasDict, PyData.hasDictAll] at z; rw [a2, b2] at z; cases z) hr.gd (by simp only [PyData.depth, PyData.depthAll]; rw [a3, b3]; simp only [Nat.max_def]; repeat (first | split | omega)) (fun _ _ e => e) (fun h' u tk hk => ⟨.str _, H, I.kept (t' := tk) hk, ⟨_, rfl⟩, q⟩) ?_
   simp only [PyData.shown, PyData.shownAll]
   refine Nat.le_trans (tupleText_len_le _) ?_
   have t1 := tupleText_len_le [dx.shown]
   simp only [List.map_cons, List.map_nil, List.sum_cons, List.sum_nil, List.length_cons, List.length_nil] at t1 ⊢
   rw [sizeLine_eq]; omega
 | @lst a xs ds e f l =>
   cases (show u = Value.ref a from ru)
   obtain ⟨_, its, n, rr, ho⟩ := (show ObjOk X.prog X.w H s.heap a (.lst xs) from I.hok a _ e)
   have rd : Reads s.heap (.ref a) (.list ds) _ := .list ho rfl rfl (by simpa using f.rd rr)
   obtain ⟨b1, b2, b3, b4, b5, b6⟩ := f.d
   refine repr_of_reads' rd (by simp only [PyData.showable]; exact b1) (fun z => by simp only [PyData.hasDict] at z; rw [b2] at z; cases z) hr.gd (by simp only [PyData.depth]; omega) (fun _ _ e => e) (fun h' u tk hk => ⟨.str _, H, I.kept (t' := tk) hk, ⟨_, rfl⟩, q⟩) ?_
   simp only [PyData.shown]
   refine Nat.le_trans (listText_len_le _) ?_
   rw [sizeLine_eq]; omega
 | @dct a d e =>
   cases (show u = Value.ref a from ru)
   obtain ⟨⟨o, es, n, kvs, ks, vs, ho, hc, hd, rfl, hl, hs, fk, rk, fv, rv⟩, _⟩ := (show ObjOk X.prog X.w H s.heap a (FlatD a d) from I.hok a _ e)
   have rd : Reads s.heap (.ref a) (.dict kvs) (a :: [] ++ []) := .dict ho hc hd (fk.rd rk) (fv.rd rv)
   obtain ⟨b1, b2, b3, b4⟩ := kv_d fk fv
   refine repr_of_reads' rd (by simp only [PyData.showable]; exact b1) (fun _ => by simp [hs.symm]) hr.gd (by simp only [PyData.depth]; omega) (fun _ _ e => e) (fun h' u tk hk => ⟨.str _, H, I.kept (t' := tk) hk, ⟨_, rfl⟩, q⟩) ?_
   simp only [PyData.shown]
   refine Nat.le_trans (dictText_len_le _) ?_
   rw [sizeLine_eq]; omega
noncomputable def TyX (K : PySem.W.Frag) (H : Hp) (v : V) (t : Value) : Prop := TyOf K H v t ∨ ∃ a d, v = .ref a ∧ H a = some (FlatD a d) ∧ t = .type "dict"
theorem call_isiU : CallR X (.builtin "isinstance") (fun xs H Q => ∃ (v : V) (t : Value) (T : String) (b : Bool), xs = [v, .ty T] ∧ TyX X.K H v t ∧ PySem.W.kitOne X.K t (.type T) = some b ∧ Q (.bl b) H) := by
 intro pins s σ H xs us Q I r h
 obtain ⟨v, t, T, b, rfl, ty, e, q⟩ := h
 obtain ⟨u, w', rfl, ru, rw'⟩ := vals2 r
 cases rw'
 rcases ty with ty | ⟨a, d, rfl, ea, rfl⟩
 · exact isinst_ok I ru ty e fun tk => ⟨.bl b, H, I.tok tk, rfl, q⟩
 · cases (show u = Value.ref a from ru)
   obtain ⟨⟨o, es, n, kvs, ks, vs, ho, hc, _⟩, _⟩ := (show ObjOk X.prog X.w H s.heap a (FlatD a d) from I.hok a _ ea)
   exact PySem.W.kia_one PySem.W.kitx_dict I.kIn ⟨o, ho, hc⟩ e (fun z => nomatch z) fun tk => ⟨.bl b, H, I.tok tk, rfl, q⟩
end
end L2

namespace L2
open PySem PySem.Spec PyProof PyProof.Rows PySem.W
noncomputable def SmK (k : Int) : Prop := k.natAbs.log2 < 1920
noncomputable def SmV (u : Value) : Prop := ∃ (v : V) (d : PyData), RelV v u ∧ Fl v d
theorem stored_sm {kvs : List (Int × Value)} {k : Int} {v : Value} (h : ∀ q ∈ kvs, SmK q.1 ∧ SmV q.2) (hk : SmK k) (hv : SmV v) : (∀ q ∈ stored kvs k v, SmK q.1 ∧ SmV q.2) ∧ (stored kvs k v).length ≤ kvs.length + 1 := by
 unfold stored
 split
 · refine ⟨fun q hq => ?_, by rw [List.length_map]; omega⟩
   obtain ⟨r, hr, e⟩ := List.mem_map.mp hq
   subst e
   split
   · exact ⟨(h r hr).1, hv⟩
   · exact h r hr
 · refine ⟨fun q hq => ?_, by rw [List.length_append]; exact Nat.le_refl _⟩
   rcases List.mem_append.mp hq with hq | hq
   · exact h q hq
   · rw [List.mem_singleton.mp hq]; exact ⟨hk, hv⟩
theorem merged_sm : ∀ {rs kvs : List (Int × Value)}, (∀ q ∈ kvs, SmK q.1 ∧ SmV q.2) → (∀ q ∈ rs, SmK q.1 ∧ SmV q.2) → (∀ q ∈ merged kvs rs, SmK q.1 ∧ SmV q.2) ∧ (merged kvs rs).length ≤ kvs.length + rs.length
 | [], kvs, h, _ => ⟨h, Nat.le_refl _⟩
 | r :: rs, kvs, h, g => by
   have g0 := g r List.mem_cons_self
   obtain ⟨a, b⟩ := stored_sm h g0.1 g0.2
   obtain ⟨c, d⟩ := merged_sm (rs := rs) a fun q hq => g q (List.mem_cons_of_mem _ hq)
   refine ⟨c, ?_⟩
   show (merged (stored kvs r.1 r.2) rs).length ≤ kvs.length + (rs.length + 1)
   omega
theorem nk_fl {k : Int} {u : Value} (h : nkIs k u = true) (hk : SmK k) : SmV u := by
 rcases nkIs_shape h with ⟨t, rfl⟩ | ⟨b, rfl, rfl⟩
 · exact ⟨.int k, _, ⟨t, rfl⟩, .int k hk⟩
 · exact ⟨.bl b, _, rfl, .bl b⟩
theorem pairs_flat {P : Program} {w : World} : ∀ {es : List DictEntry} {kvs : List (Int × Value)}, Pairs (numKind P w) es kvs → (∀ q ∈ kvs, SmK q.1 ∧ SmV q.2) →
 ∃ (ds : List (PyData × PyData)) (ks vs : List V), ds.length = kvs.length ∧ Fls ks (ds.map (·.1)) ∧ Vals ks (es.map (·.key)) ∧ Fls vs (ds.map (·.2)) ∧ Vals vs (es.map (·.val))
 | _, _, .nil, _ => ⟨[], [], [], rfl, .nil, .nil, .nil, .nil⟩
 | _, _, .cons (e := e) (kv := kv) h1 h2 t, g => by
   obtain ⟨ds, ks, vs, l, a, b, c, d⟩ := pairs_flat t fun q hq => g q (List.mem_cons_of_mem _ hq)
   have g0 := g kv List.mem_cons_self
   obtain ⟨x, dx, rx, fx⟩ := nk_fl h1 g0.1
   obtain ⟨y, dy, ry, fy⟩ := g0.2
   refine ⟨(dx, dy) :: ds, x :: ks, y :: vs, by rw [List.length_cons, List.length_cons, l], .cons fx a, .cons rx b, .cons fy c, .cons ?_ d⟩
   show RelV y e.val
   rw [h2]; exact ry
noncomputable def DsOk (ps : List (V × V)) : Prop := ∀ p ∈ ps, (∃ a, Nm p.1 a ∧ SmK a) ∧ ∃ d, Fl p.2 d
theorem carries_num {P : Program} {w : World} : ∀ {ps : List (V × V)} {ws : List (Value × Value)}, VV ps ws → DsOk ps → ∃ rs, Carries (numKind P w) ws rs ∧ (∀ q ∈ rs, SmK q.1 ∧ SmV q.2) ∧ rs.length = ps.length
 | _, _, .nil, _ => ⟨[], True.intro, fun _ h => (nomatch h), rfl⟩
 | _, _, .cons (a := p) (b := q) h t, g => by
   obtain ⟨rs, c, d, l⟩ := carries_num (P := P) (w := w) t fun p hp => g p (List.mem_cons_of_mem _ hp)
   obtain ⟨⟨a, na, sa⟩, dd, fd⟩ := g p List.mem_cons_self
   obtain ⟨q1, q2⟩ := q
   refine ⟨(a, q2) :: rs, ⟨?_, rfl, c⟩, fun z hz => ?_, by rw [List.length_cons, List.length_cons, l]⟩
   · rcases na.rel h.1 with ⟨tk, e⟩ | ⟨b, e, e'⟩
     · have e : q1 = _ := e
       subst e
       show (a == a) = true
       exact beq_self_eq_true _
     · have e : q1 = _ := e
       subst e; subst e'
       show (b2i b == b2i b) = true
       exact beq_self_eq_true _
   · rcases List.mem_cons.mp hz with rfl | hz
     · exact ⟨sa, _, dd, h.2, fd⟩
     · exact d z hz
noncomputable def tDispF (trs : List (TE × TE)) : TE := fun σ H Q => ∀ p, H p = none → tPairs trs σ (upd H p (.dK [])) fun ps H2 => H2 p = some (.dK []) ∧ ps.length ≤ 15 ∧ DsOk ps ∧ ∀ d, Q (.ref p) (upd H2 p (FlatD p d))
theorem flat_ok {P : Program} {w : World} {H : Hp} {h : Heap} {p : Addr} {kvs : List (Int × Value)} (dd : h.DictOf (numKind P w) p kvs) (g : ∀ q ∈ kvs, SmK q.1 ∧ SmV q.2) (l : kvs.length ≤ 15) (hs : p ≠ sysModules) : ∃ d, ObjOk P w H h p (FlatD p d) := by
 obtain ⟨o, es, ep, ho, ⟨hc, _⟩, hd, _, pr, _⟩ := dd
 obtain ⟨ds, ks, vs, ld, a, b, c, d⟩ := pairs_flat pr g
 refine ⟨.dict ds, ⟨o, es, ep, ds, ks, vs, ho, hc, hd, rfl, by omega, hs, a, b, c, d⟩, ⟨o, ho⟩, ?_⟩
 rintro h1 h2 ⟨o', es', n', kvs', ks', vs', ho', r⟩ k
 exact ⟨o', es', n', kvs', ks', vs', k _ ho', r⟩
theorem pe_dispF {X : Cx} {pos : Pos} {keys : List (Option Expr)} {values : List Expr} {trs : List (TE × TE)} (h : PPs X pos keys values trs) (hall : keys.all (·.isSome) = true) (hl : keys.length = values.length) (h0 : keys ≠ [])
 (h15 : keys.length ≤ 15) : PE X (.Dict keys values pos) (tDispF trs) := by
 intro pins s σ H Q I q
 have hn := I.hok.fresh (Nat.le_refl s.heap.objs.size)
 have I1 := I.laid (a := s.heap.objs.size) (o := .dK []) (h' := s.heap.push { cls := .type "dict", data := .dict #[] }) (t' := s.toks) (fun _ _ q => Heap.get?_push_of_some _ q) (Nat.le_refl _) (dk_empty s.heap I.big)
 refine wpAny_Dict_walk (knd := numKind X.prog X.w) hall hl h0 h15 (thn (h pins _ σ _ _ I1 (q _ hn)) fun ws s2 ⟨ps, H2, I2, rel, e, lk, ok, q2⟩ => ?_)
 obtain ⟨rs, c, sm, lr⟩ := carries_num (P := X.prog) (w := X.w) rel ok
 obtain ⟨z, hd, vs0, r0, dd⟩ := dk_of I2.hok e
 cases r0
 have dn : s2.heap.DictOf (numKind X.prog X.w) s.heap.objs.size [] := by
  obtain ⟨o, es, ep, a1, a2, a3, a4, a5, a6⟩ := dd
  have ee : es.toList = [] := by
   cases hh : es.toList with
   | nil => rfl
   | cons x y => rw [hh] at a5; cases a5
  refine ⟨o, es, ep, a1, a2, a3, fun x hx => ?_, by rw [ee]; exact .nil, List.nodup_nil⟩
  have := Array.mem_toList_iff.mpr hx
  rw [ee] at this; cases this
 refine ⟨rs, c, dn, fun h' dd' hs => ?_⟩
 obtain ⟨g1, g2⟩ := merged_sm (rs := rs) (kvs := []) (fun _ hh => (nomatch hh)) sm
 obtain ⟨d, od⟩ := flat_ok (H := upd H2 s.heap.objs.size (FlatD s.heap.objs.size .none)) dd' g1 (by rw [List.length_nil] at g2; omega) (beq_eq_false_iff_ne.mp hd)
 have he : ∃ q, h'.get? s.heap.objs.size = some q := let ⟨q, _, _, hq, _⟩ := dd'; ⟨q, hq⟩
 exact ⟨.ref s.heap.objs.size, _, d_write I2 (by rw [e]; exact True.intro) hs he od, rfl, q2 d⟩
noncomputable def tDNewF : TE := fun _ H Q => ∀ p, H p = none → ∀ d, Q (.ref p) (upd H p (FlatD p d))
theorem pe_dnewF {X : Cx} {pos : Pos} : PE X (.Dict [] [] pos) tDNewF := fun pins s σ H Q I h => by
 obtain ⟨d, od⟩ := flat_ok (P := X.prog) (w := X.w) (H := H) (Heap.DictOf.new (knd := numKind X.prog X.w) s.heap) (fun _ hh => (nomatch hh)) (by decide) (Ne.symm (Nat.ne_of_lt I.big))
 exact wpAny_Dict_empty ⟨.ref s.heap.objs.size, _, I.laid (a := s.heap.objs.size) (o := FlatD s.heap.objs.size d) (t' := s.toks) (fun _ _ q => Heap.get?_push_of_some _ q) (Nat.le_refl _) od, rfl, h _ (I.hok.fresh (Nat.le_refl _)) d⟩
end L2

namespace L2
open PySem PySem.Spec PyProof PyProof.Rows PySem.W
inductive Mb (K : PySem.W.Frag) (H : Hp) (n : Nat) : V → Option Int → Prop where
 | int (i : Int) (s : Sz n i) : Mb K H n (.int i) (some i)
 | bl (b : Bool) : Mb K H n (.bl b) none
 | oth {v : V} {t : Value} (ty : TyOf K H v t) (e : PySem.W.kitOne K t (.type "int") = some false) : Mb K H n v none
theorem Mb.tg {K : PySem.W.Frag} {H : Hp} {n : Nat} {v : V} {o : Option Int} (h : Mb K H n v o) : Tg K H v o := by
 cases h with
 | int i s => exact .int i
 | bl b => exact .bl b
 | oth ty e => exact .oth ty e
theorem Mb.kt {K : PySem.W.Frag} {H H' : Hp} {n : Nat} {v : V} {o : Option Int} (h : Mb K H n v o) (k : KTy H H') : Mb K H' n v o := by
 cases h with
 | int i s => exact .int i s
 | bl b => exact .bl b
 | oth ty e => exact .oth (ty.kt k) e
theorem Mb.mono {K : PySem.W.Frag} {H : Hp} {n m : Nat} {v : V} {o : Option Int} (h : Mb K H n v o) (l : n ≤ m) : Mb K H m v o := by
 cases h with
 | int i s => exact .int i (s.mono l)
 | bl b => exact .bl b
 | oth ty e => exact .oth ty e
theorem TyX.kp {K : PySem.W.Frag} {H H' : Hp} {h : Addr} {v : V} {t : Value} (ty : TyX K H v t) (hh : HandAt H h) (hh' : HandAt H' h) (k : Kp h H H') : TyX K H' v t := by
 rcases ty with ty | ⟨a, d, rfl, e, rfl⟩
 · exact .inl (ty.kt (hh.kt hh' k))
 · refine .inr ⟨a, d, rfl, k _ _ e ?_, rfl⟩
   rintro rfl
   obtain ⟨_, _, e', _⟩ := hh
   rw [e'] at e; cases e
theorem TyX.same {K : PySem.W.Frag} {H H' : Hp} {v : V} {t : Value} (ty : TyX K H v t) (k : Same H H') : TyX K H' v t := by
 rcases ty with ty | ⟨a, d, rfl, e, rfl⟩
 · exact .inl (ty.kt k.kt)
 · exact .inr ⟨a, d, rfl, k _ _ e, rfl⟩
noncomputable def o2 : Option Int → Option Int → Option (Int × Int)
 | some x, some y => some (x, y)
 | _, _ => none
inductive Tp (K : PySem.W.Frag) (H : Hp) (n : Nat) : V → Option (Int × Int) → Prop where
 | no {v : V} {t : Value} (ty : TyX K H v t) (e : PySem.W.kitOne K t (.type "tuple") = some false) : Tp K H n v none
 | len {a : Addr} {xs : List V} (e : H a = some (.tup xs)) (l : xs.length ≠ 2) : Tp K H n (.ref a) none
 | two {a : Addr} {x y : V} {ox oy : Option Int} (e : H a = some (.tup [x, y])) (hx : Mb K H n x ox) (hy : Mb K H n y oy) : Tp K H n (.ref a) (o2 ox oy)
theorem tup_kp {H H' : Hp} {h a : Addr} {xs : List V} (hh : HandAt H h) (k : Kp h H H') (e : H a = some (.tup xs)) : H' a = some (.tup xs) := by
 refine k _ _ e ?_
 rintro rfl
 obtain ⟨_, _, e', _⟩ := hh
 rw [e'] at e; cases e
theorem Tp.kp {K : PySem.W.Frag} {H H' : Hp} {n : Nat} {h : Addr} {v : V} {o : Option (Int × Int)} (t : Tp K H n v o) (hh : HandAt H h) (hh' : HandAt H' h) (k : Kp h H H') : Tp K H' n v o := by
 cases t with
 | no ty e => exact .no (ty.kp hh hh' k) e
 | len e l => exact .len (tup_kp hh k e) l
 | two e hx hy => exact .two (tup_kp hh k e) (hx.kt (hh.kt hh' k)) (hy.kt (hh.kt hh' k))
theorem Tp.same {K : PySem.W.Frag} {H H' : Hp} {n : Nat} {v : V} {o : Option (Int × Int)} (t : Tp K H n v o) (k : Same H H') : Tp K H' n v o := by
 cases t with
 | no ty e => exact .no (ty.same k) e
 | len e l => exact .len (k _ _ e) l
 | two e hx hy => exact .two (k _ _ e) (hx.kt k.kt) (hy.kt k.kt)
theorem Tp.mono {K : PySem.W.Frag} {H : Hp} {n m : Nat} {v : V} {o : Option (Int × Int)} (t : Tp K H n v o) (l : n ≤ m) : Tp K H m v o := by
 cases t with
 | no ty e => exact .no ty e
 | len e q => exact .len e q
 | two e hx hy => exact .two e (hx.mono l) (hy.mono l)
theorem Rp.kp {H H' : Hp} {h : Addr} {v : V} {d : PyData} (r : Rp H v d) (hh : HandAt H h) (ne : v ≠ .ref h) (k : Kp h H H') : Rp H' v d := by
 cases r with
 | fl f => exact .fl f
 | tup e f l => exact .tup (tup_kp hh k e) f l
 | tt e e' fx fy => exact .tt (tup_kp hh k e) (tup_kp hh k e') fx fy
 | lst e f l => exact .lst (k _ _ e fun z => ne (by rw [z])) f l
 | dct e => exact .dct (k _ _ e fun z => ne (by rw [z]))
noncomputable def isFr : Option (Int × Int) → Bool
 | none => false
 | some A => decide (1 ≤ A.2 ∧ Int.gcd A.1 A.2 = 1)
noncomputable def spPairA (K : PySem.W.Frag) : Sp := fun vs H Q _ => ∃ (v : V) (o : Option (Int × Int)), vs = [v] ∧ Tp K H 1000 v o ∧ Q (.bl o.isSome) H
noncomputable def spIsFrA (K : PySem.W.Frag) : Sp := fun vs H Q _ => ∃ (v : V) (o : Option (Int × Int)), vs = [v] ∧ Tp K H 1000 v o ∧ Q (.bl (isFr o)) H
noncomputable def spLIsA (K : PySem.W.Frag) : Sp := fun vs H Q _ => ∃ (v : V) (o : Option (Int × Int)), vs = [v] ∧ Tp K H 1000 v o ∧ ∀ H', Same H H' → Q (.bl (isFr o)) H'
noncomputable def Thg (K : PySem.W.Frag) (H : Hp) (h : Addr) (n : Nat) (v : V) : Prop := ∃ o d, Tp K H n v o ∧ Rp H v d ∧ v ≠ .ref h
theorem Thg.kp {K : PySem.W.Frag} {H H' : Hp} {n : Nat} {h : Addr} {v : V} (t : Thg K H h n v) (hh : HandAt H h) (hh' : HandAt H' h) (k : Kp h H H') : Thg K H' h n v := by
 obtain ⟨o, d, a, b, c⟩ := t
 exact ⟨o, d, a.kp hh hh' k, b.kp hh c k, c⟩
theorem Thg.same {K : PySem.W.Frag} {H H' : Hp} {n : Nat} {h : Addr} {v : V} (t : Thg K H h n v) (k : Same H H') : Thg K H' h n v := by
 obtain ⟨o, d, a, b, c⟩ := t
 exact ⟨o, d, a.same k, b.same k, c⟩
theorem Thg.mono {K : PySem.W.Frag} {H : Hp} {n m : Nat} {h : Addr} {v : V} (t : Thg K H h n v) (l : n ≤ m) : Thg K H h m v := by
 obtain ⟨o, d, a, b, c⟩ := t
 exact ⟨o, d, a.mono l, b, c⟩
noncomputable def NP (H : Hp) (n : Nat) (p : Addr) : Prop := ∃ (x y : V) (a b : Int), H p = some (.tup [x, y]) ∧ Nm x a ∧ Nm y b ∧ Sz n a ∧ Sz n b
noncomputable def spBadA (K : PySem.W.Frag) : Sp := fun vs H Q _ => ∃ (h p : Addr) (n : Nat), vs = [.ref h, .ref p] ∧ HandAt H h ∧ NP H n p ∧ 4 ≤ n ∧ n ≤ 500 ∧ ∀ (v : V) (H' : Hp), HandAt H' h → Kp h H H' → Thg K H' h (n + 100) v → Q v H'
theorem Nm.fl {x : V} {a : Int} {n : Nat} (h : Nm x a) (s : Sz n a) (l : n ≤ 1000) : ∃ d, Fl x d := by
 cases h with
 | int i => exact ⟨_, .int _ (Nat.lt_of_lt_of_le ((s.mono l).log2 (by decide)) (by decide))⟩
 | bl b => exact ⟨_, .bl b⟩
theorem Nm.mb {K : PySem.W.Frag} {H : Hp} {x : V} {a : Int} {n : Nat} (h : Nm x a) (s : Sz n a) : ∃ o, Mb K H n x o := by
 cases h with
 | int i => exact ⟨_, .int _ s⟩
 | bl b => exact ⟨_, .bl b⟩
theorem th_two {K : PySem.W.Frag} {H : Hp} {h p : Addr} {n : Nat} {x y : V} {dx dy : PyData} (e : H p = some (.tup [x, y])) (hx : ∃ o, Mb K H n x o) (hy : ∃ o, Mb K H n y o) (fx : Fl x dx) (fy : Fl y dy) (ne : p ≠ h) : Thg K H h n (.ref p) := by
 obtain ⟨ox, hx⟩ := hx
 obtain ⟨oy, hy⟩ := hy
 exact ⟨_, _, .two e hx hy, .tup e (.cons fx (.cons fy .nil)) (by show 2 ≤ 3; decide), fun z => ne (V.ref.inj z)⟩
theorem th_nn {K : PySem.W.Frag} {H : Hp} {h p : Addr} {n : Nat} {x y : V} {a b : Int} (e : H p = some (.tup [x, y])) (hx : Nm x a) (hy : Nm y b) (sa : Sz n a) (sb : Sz n b) (l : n ≤ 1000) (ne : p ≠ h) : Thg K H h n (.ref p) := by
 obtain ⟨dx, fx⟩ := hx.fl sa l
 obtain ⟨dy, fy⟩ := hy.fl sb l
 exact th_two e (hx.mb sa) (hy.mb sb) fx fy ne
theorem th_tup {K : PySem.W.Frag} {H : Hp} {h p : Addr} {n : Nat} {xs : List V} {ds : List PyData} (e : H p = some (.tup xs)) (f : Fls xs ds) (l : xs.length ≠ 2) (l3 : xs.length ≤ 3) (ne : p ≠ h) : Thg K H h n (.ref p) := by
 exact ⟨_, _, .len e l, .tup e f (by have := f.d.2.2.2.2.2; omega), fun z => ne (V.ref.inj z)⟩
end L2

namespace L2
open PySem PySem.Spec PyProof PyProof.Rows PySem.W
noncomputable def AllT (K : PySem.W.Frag) (H : Hp) (h : Addr) (n : Nat) (us : List V) : Prop := ∀ u ∈ us, Thg K H h n u
section
variable {K : PySem.W.Frag} {H H' : Hp} {h q : Addr} {n : Nat} {us : List V} {v : V}
theorem AllT.nil : AllT K H h n [] := fun _ z => by cases z
theorem AllT.same (A : AllT K H h n us) (s : Same H H') : AllT K H' h n us := fun u z => (A u z).same s
theorem AllT.add (A : AllT K H h n us) (t : Thg K H h n v) : AllT K H h n (us ++ [v]) := fun u z => by
 rcases List.mem_append.mp z with z | z
 · exact A u z
 · rw [List.mem_singleton.mp z]; exact t
theorem Thg.new (t : Thg K H h n v) (w : H q = none) : v ≠ .ref q := by
 obtain ⟨o, d, _, r, _⟩ := t
 rintro rfl
 cases r with
 | fl f => cases f
 | tup e _ _ => rw [w] at e; cases e
 | tt e _ _ _ => rw [w] at e; cases e
 | lst e _ _ => rw [w] at e; cases e
 | dct e => rw [w] at e; cases e
theorem Thg.upd {zs ws : List V} (t : Thg K H h n v) (e : H q = some (.lst zs)) (ne : v ≠ .ref q) : Thg K (upd H q (.lst ws)) h n v := by
 have kt : KTy H (L2.upd H q (.lst ws)) := fun b o eb => by
  by_cases hb : b = q
  · subst hb; rw [e] at eb; cases eb; exact .inr ⟨_, _, rfl, upd_same⟩
  · rw [upd_ne hb]; exact .inl eb
 have kk : ∀ b o, b ≠ q → H b = some o → L2.upd H q (.lst ws) b = some o := fun b o nb eb => by rw [upd_ne nb]; exact eb
 have kup : ∀ b xs, H b = some (.tup xs) → L2.upd H q (.lst ws) b = some (.tup xs) := fun b xs eb => kk _ _ (fun z => by subst z; rw [e] at eb; cases eb) eb
 obtain ⟨o, d, tp, r, nh⟩ := t
 refine ⟨o, d, ?_, ?_, nh⟩
 · cases tp with
   | no ty e' =>
     refine .no ?_ e'
     rcases ty with ty | ⟨a, d, rfl, ea, rfl⟩
     · exact .inl (ty.kt kt)
     · exact .inr ⟨a, d, rfl, kk _ _ (fun z => by subst z; rw [e] at ea; cases ea) ea, rfl⟩
   | len e' l => exact .len (kup _ _ e') l
   | two e' hx hy => exact .two (kup _ _ e') (hx.kt kt) (hy.kt kt)
 · cases r with
   | fl f => exact .fl f
   | tup e' f l => exact .tup (kup _ _ e') f l
   | tt e' e'' fx fy => exact .tt (kup _ _ e') (kup _ _ e'') fx fy
   | lst e' f l => exact .lst (kk _ _ (fun z => ne (by rw [z])) e') f l
   | dct e' => exact .dct (kk _ _ (fun z => ne (by rw [z])) e')
theorem th_flat {x : V} {d : PyData} {t : Value} (f : Fl x d) (ty : TyOf K H x t) (e : PySem.W.kitOne K t (.type "tuple") = some false) (nr : ∀ a, x ≠ .ref a) : Thg K H h n x := ⟨_, _, .no (.inl ty) e, .fl f, nr h⟩
theorem th_dct {d : PyData} (e : H q = some (FlatD q d)) (ek : PySem.W.kitOne K (.type "dict") (.type "tuple") = some false) (ne : q ≠ h) : Thg K H h n (.ref q) := ⟨_, _, .no (.inr ⟨q, d, rfl, e, rfl⟩) ek, .dct e, fun z => ne (V.ref.inj z)⟩
theorem th_lst {xs : List V} {ds : List PyData} (e : H q = some (.lst xs)) (f : Fls xs ds) (l : xs.length ≤ 3) (ek : PySem.W.kitOne K (.type "list") (.type "tuple") = some false) (ne : q ≠ h) : Thg K H h n (.ref q) := ⟨_, _, .no (.inl (.lst e)) ek, .lst e f (by have := f.d.2.2.2.2.2; omega), fun z => ne (V.ref.inj z)⟩
theorem th_tt {p : Addr} {x y : V} {dx dy : PyData} (e : H q = some (.tup [.ref p, y])) (e' : H p = some (.tup [x])) (fx : Fl x dx) (fy : Fl y dy) (hy : ∃ o, Mb K H n y o) (ek : PySem.W.kitOne K (.type "tuple") (.type "int") = some false) (ne : q ≠ h) : Thg K H h n (.ref q) := by
 obtain ⟨oy, hy⟩ := hy
 exact ⟨_, _, .two e (.oth (.tup e') ek) hy, .tt e e' fx fy, fun z => ne (V.ref.inj z)⟩
theorem atI_mem {xs : List V} {i : Int} (h0 : 0 ≤ i) (h1 : i < xs.length) : ∃ v, atI xs i = some v ∧ v ∈ xs := by
 obtain ⟨j, rfl⟩ := Int.eq_ofNat_of_zero_le h0
 have hj : j < xs.length := by omega
 refine ⟨xs[j], atI_nat (by rw [List.getElem?_eq_getElem hj]), List.getElem_mem hj⟩
end
theorem atI_at {H : Hp} {p : Addr} {xs : List V} {i : Int} (e : H p = some (.lst xs)) (h0 : 0 ≤ i) (h1 : i < xs.length) : ∃ v, atI xs i = some v ∧ v ∈ xs := atI_mem h0 h1
theorem nmT_len {x : V} {a : Int} {n : Nat} (h : Nm x a) (s : Sz n a) (l : n ≤ 1000) : (reprText (nmT x)).length ≤ 25000 := by
 cases h with
 | int i =>
   have e := StrLaws.reprText_len (toString a : Str) fun c hc => by
    have := Pw.ns_mem (n := a) (show c ∈ (Pw.ns a).cps.toList from hc)
    omega
   have e2 : (toString a : Str).length ≤ 1921 := int_text_len_1921 (Nat.lt_of_lt_of_le ((s.mono l).log2 (by decide)) (by decide))
   show (reprText (toString a : Str)).length ≤ 25000
   omega
 | bl b => cases b <;> decide +kernel
end L2

set_option pp.maxSteps 800
namespace Lw
open PySem L2 PyProof.Rows
noncomputable def top (i : Nat) : Stmt := PySem.Challenge.pw_pagewalks_k01_what_is_a_fraction.main.body.getD i (.Pass ⟨0, 0, 0, 0⟩)
noncomputable abbrev sWhole : Stmt := top 1
noncomputable abbrev sCommon : Stmt := top 2
noncomputable abbrev sPair : Stmt := top 3
noncomputable abbrev sIsF : Stmt := top 4
noncomputable abbrev sHand : Stmt := top 6
noncomputable abbrev sDraw : Stmt := top 7
noncomputable abbrev sCells : Stmt := top 8
noncomputable abbrev sFrac : Stmt := top 10
noncomputable abbrev s_law_is : Stmt := top 13
noncomputable abbrev s_law_number : Stmt := top 14
noncomputable abbrev s_law_bad : Stmt := top 15
noncomputable abbrev sLaw : Stmt := top 16
section
variable {P : Program} {w : World} {K : PySem.W.Frag} {mg : Str → Option Value} {base : Heap}
theorem scCommon : FnScope ["one", "other", "rest"] ["one", "other"] (defScope sCommon) := ⟨rfl, rfl, rfl, by decide +kernel, rfl, by decide +kernel, by decide +kernel⟩
theorem ok_common {f : Addr} {fd : FuncData} (F : Fun K "common" "common" sCommon f fd) : FnOk P w K mg base CX0 1 f fd ["one", "other"] spCommon := by
 refine F.ok scCommon (fun vs H Q E h => ?_) (fun cdv A outer s H vs Q E hr h => ?_)
 · obtain ⟨x, y, rfl, _⟩ := h
   rfl
 · obtain ⟨x, y, rfl, hx, hy, k⟩ := h
   refine ⟨_, pss_cons (ps_while PassesOwn.never (pt_cmpR op_ne (pv 1) pe_int (nomark _))
    (pss_cons (ps_set (i := 2) scCommon.nd rfl (Or.inl rfl) (pe_op op_mod (pv 0) (pv 1)))
    (pss_cons (ps_set (i := 0) scCommon.nd rfl (Or.inl rfl) (pv 1))
    (pss_one (ps_set (i := 1) scCommon.nd rfl (Or.inl rfl) (pv 2))))))
    (pss_one (ps_ret (pv 0))), ?_⟩
   refine while_by (fun σ H' => ∃ (a b : Int) (r : Option V), σ = [some (.int a), some (.int b), r] ∧ 0 ≤ a ∧ 0 ≤ b ∧ Int.gcd a b = Int.gcd x y ∧ H' = H)
    (fun σ _ => match σ with | [_, some (.int b), _] => b.toNat | _ => 0) ⟨x, y, none, rfl, hx, hy, rfl, rfl⟩ ?_ ?_
   · rintro σ H' ⟨a, b, r, rfl, ha, hb, hg, rfl⟩
     refine ⟨_, rfl, rfl, _, rfl, ?_⟩
     by_cases h0 : b = 0
     · refine ifF (veq h0) ?_
       subst h0
       refine ⟨_, rfl, ?_⟩
       have e : (a : Int) = (Int.gcd x y : Int) := by rw [← hg, Int.gcd_zero_right]; omega
       show Q (.int a) _
       rw [e]; exact k
     · refine ifT (vne h0) ?_
       have hb0 : 0 < b := by omega
       refine ⟨_, rfl, _, rfl, _, _, rfl, rfl, hb0, ?_⟩
       refine ⟨_, rfl, ?_⟩
       refine ⟨_, rfl, ?_⟩
       refine ⟨⟨b, a % b, _, rfl, hb, Int.emod_nonneg _ (by omega), ?_, rfl⟩, ?_⟩
       · rw [Pw.gcd_turn ha hb0, hg]
       · show (a % b).toNat < b.toNat
         have h1 := Int.emod_nonneg a (show b ≠ 0 by omega)
         have h2 := Int.emod_lt_of_pos a hb0
         omega
   · rintro σ H' q q' hq ⟨v, e, hs, kk, ek, z⟩
     exact ⟨v, e, hs, kk, ek, hq _ _ z⟩
theorem abs_nn (x : Int) : 0 ≤ (if x < 0 then -x else x) := by split <;> omega
theorem abs_gcd (x y : Int) : Int.gcd (if x < 0 then -x else x) (if y < 0 then -y else y) = Int.gcd x y := by
 split <;> split <;> simp [Int.neg_gcd, Int.gcd_neg]
theorem gcd_sz {n : Nat} {x y : Int} (h : Sz n y) (hy : y ≠ 0) : Sz n (Int.gcd x y : Int) := by
 show (Int.gcd x y : Int).natAbs < 2 ^ n
 have : Int.gcd x y ≤ y.natAbs := Nat.le_of_dvd (by omega) (Int.gcd_dvd_natAbs_right ..)
 have h' : y.natAbs < 2 ^ n := h
 omega
theorem scFrac : FnScope ["above", "below", "one", "other"] ["above", "below"] (defScope sFrac) := ⟨rfl, rfl, rfl, by decide +kernel, rfl, by decide +kernel, by decide +kernel⟩
theorem ok_frac {f : Addr} {fd : FuncData} (F : Fun K "_law_frac" "_law_frac" sFrac f fd) (zabs : mg "abs" = none) : FnOk P w K mg base CX0 1 f fd ["above", "below"] spFrac := by
 refine F.ok scFrac (fun vs H Q E h => ?_) (fun cdv A outer s H vs Q E hr h => ?_)
 · obtain ⟨x, y, rfl, _⟩ := h
   rfl
 · obtain ⟨x, y, rfl, hy, sx, sy, k⟩ := h
   refine ⟨_, pss_cons (ps_set (i := 2) scFrac.nd rfl (Or.inl rfl) (pe_callB call_abs (by rfl) zabs boot_abs (pa_cons (pv 0) pa_nil)))
    (pss_cons (ps_set (i := 3) scFrac.nd rfl (Or.inl rfl) (pv 1))
    (pss_cons (ps_while PassesOwn.never (pt_cmpR op_gt (pv 3) pe_int (nomark _))
     (pss_one (ps_par (i := 2) (j := 3) rfl scFrac.nd rfl rfl (by decide) rfl rfl (pa_cons (pv 3) (pa_cons (pe_op op_mod (pv 2) (pv 3)) pa_nil)) (by rfl))))
    (pss_one (ps_ret (pe_tup (pa_cons (pe_op op_fdivB (pv 0) (pv 2)) (pa_cons (pe_op op_fdivB (pv 1) (pv 2)) pa_nil))))))), ?_⟩
   refine ⟨_, rfl, x, rfl, ?_⟩
   refine ⟨_, rfl, ?_⟩
   have hyn : y ≠ 0 := by omega
   refine while_by (fun σ H' => ∃ (a b : Int), σ = [some (.int x), some (.int y), some (.int a), some (.int b)] ∧ 0 ≤ a ∧ 0 ≤ b ∧ Int.gcd a b = Int.gcd x y ∧ H' = H)
    (fun σ _ => match σ with | [_, _, _, some (.int b)] => b.toNat | _ => 0) ⟨_, y, rfl, abs_nn x, by omega, ?_, rfl⟩ ?_ ?_
   · have := abs_gcd x y
     rw [if_neg (show ¬ y < 0 by omega)] at this
     exact this
   · rintro σ H' ⟨a, b, rfl, ha, hb, hg, rfl⟩
     refine ⟨_, rfl, _, _, rfl, rfl, _, rfl, ?_⟩
     refine if2 (fun h => ?_) (fun h => ?_)
     · have hb0 : 0 < b := of_decide_eq_true h
       refine ⟨_, rfl, _, rfl, _, rfl, _, _, rfl, rfl, hb0, _, _, rfl, ?_⟩
       refine ⟨⟨b, a % b, rfl, hb, Int.emod_nonneg _ (by omega), ?_, rfl⟩, ?_⟩
       · rw [Pw.gcd_turn ha hb0, hg]
       · show (a % b).toNat < b.toNat
         have h1 := Int.emod_nonneg a (show b ≠ 0 by omega)
         have h2 := Int.emod_lt_of_pos a hb0
         omega
     · have h : ¬ 0 < b := of_decide_eq_false h
       have h0 : b = 0 := by omega
       subst h0
       have e : (a : Int) = (Int.gcd x y : Int) := by rw [← hg, Int.gcd_zero_right]; omega
       subst e
       have hgp := Pw.gpos (a := x) hyn
       have sg := (gcd_sz (x := x) sy hyn).mono (show 8000 ≤ 9000 by decide)
       refine ⟨_, rfl, _, rfl, _, _, rfl, rfl, ⟨by omega, sg⟩, _, rfl, _, rfl, _, _, rfl, rfl, ⟨by omega, sg⟩, (by show 2 ≤ sizeLine; decide), fun p hp => ?_⟩
       have := k p hp
       unfold Pw.mk at this
       rw [if_neg (show ¬ y < 0 by omega)] at this
       exact this
   · rintro σ H' q q' hq ⟨v, e, i, j, e1, e2, kk, ek, z⟩
     exact ⟨v, e, i, j, e1, e2, kk, ek, hq _ _ z⟩
theorem scHand : FnScope ["cell", "k", "digits"] ["cell", "k"] (defScope sHand) := ⟨rfl, rfl, rfl, by decide +kernel, rfl, by decide +kernel, by decide +kernel⟩
theorem ok_hand {f : Addr} {fd : FuncData} (F : Fun K "_law_hand" "_law_hand" sHand f fd) : FnOk P w K mg base CX0 1 f fd ["cell", "k"] spHand := by
 refine F.ok scHand (fun vs H Q E h => ?_) (fun cdv A outer s H vs Q E hr h => ?_)
 · obtain ⟨x, y, rfl, _⟩ := h
   rfl
 · obtain ⟨c, kk, rfl, h0, h1, k⟩ := h
   refine ⟨_, pss_cons (ps_set (i := 2) scHand.nd rfl (Or.inl rfl) pe_int)
    (pss_cons (ps_if (pt_cmpR op_ge (pv 0) (pe_op op_pow pe_int pe_int) (nomark _)) (pss_one (ps_set (i := 2) scHand.nd rfl (Or.inl rfl) (pv 0))) pss_nil)
    (pss_one (ps_ret (pe_lst (pa_cons (pv 2) (pa_cons (pe_op op_mod (pe_op op_mul (pe_op op_add (pe_op op_add (pe_op op_mod (pv 0) pe_int) (pe_op op_mul pe_int (pv 1))) pe_int) pe_int) pe_int) pa_nil)))))), ?_⟩
   refine ⟨_, rfl, _, _, rfl, rfl, ⟨by decide, by decide, by decide⟩, _, _, rfl, rfl, _, rfl, ?_⟩
   refine if2 (fun h => ?_) (fun h => ?_)
   · have h : (10 : Int) ^ (18 : Int).toNat ≤ c := of_decide_eq_true h
     have h2 : (0 : Int) ≤ c := by
      have : (10 : Int) ^ (18 : Int).toNat = 1000000000000000000 := by decide
      omega
     refine ⟨_, rfl, ?_⟩
     refine ⟨_, rfl, _, rfl, _, _, rfl, rfl, (by show (0 : Int) < 2147483587; decide), _, rfl, _, _, rfl, rfl, .inl ⟨by decide, by decide⟩, _, _, rfl, rfl, _, _, rfl, rfl, _, _, rfl, rfl, .inr ⟨by decide, by decide⟩, _, _, rfl, rfl, (by show (0 : Int) < 2147483587; decide),
      (by show 2 ≤ sizeLine; decide), fun p hp => ?_⟩
     exact k p _ hp ⟨_, _, upd_same, h2, Int.emod_nonneg _ (by decide), Int.emod_lt_of_pos _ (by decide)⟩ (Same.new hp)
   · refine ⟨_, rfl, _, rfl, _, _, rfl, rfl, (by show (0 : Int) < 2147483587; decide), _, rfl, _, _, rfl, rfl, .inl ⟨by decide, by decide⟩, _, _, rfl, rfl, _, _, rfl, rfl, _, _, rfl, rfl, .inr ⟨by decide, by decide⟩, _, _, rfl, rfl, (by show (0 : Int) < 2147483587; decide),
      (by show 2 ≤ sizeLine; decide), fun p hp => ?_⟩
     exact k p _ hp ⟨_, _, upd_same, by decide, Int.emod_nonneg _ (by decide), Int.emod_lt_of_pos _ (by decide)⟩ (Same.new hp)
theorem scDraw : FnScope ["hand", "limit", "got"] ["hand", "limit"] (defScope sDraw) := ⟨rfl, rfl, rfl, by decide +kernel, rfl, by decide +kernel, by decide +kernel⟩
theorem ok_draw {f : Addr} {fd : FuncData} (F : Fun K "_law_draw" "_law_draw" sDraw f fd) : FnOk P w K mg base CX0 1 f fd ["hand", "limit"] spDraw := by
 refine F.ok scDraw (fun vs H Q E h => ?_) (fun cdv A outer s H vs Q E hr h => ?_)
 · obtain ⟨x, y, rfl, _⟩ := h
   rfl
 · obtain ⟨p, lim, rfl, h0, h1, ⟨a, b, e, ha, hb, hb2⟩, k⟩ := h
   refine ⟨_, pss_cons (ps_if (pt_cmpR op_gt (pe_ix ix_list (pv 0) pe_int (fun _ _ => rfl)) pe_int (nomark _))
    (pss_cons (ps_set (i := 2) scDraw.nd rfl (Or.inl rfl) (pe_op op_mod (pe_ix ix_list (pv 0) pe_int (fun _ _ => rfl)) (pv 1)))
    (pss_cons (ps_asg (pe_op op_fdivB (pe_ix ix_list (pv 0) pe_int (fun _ _ => rfl)) (pv 1)) (pg_sub (pv 0) pe_int set_list))
    (pss_one (ps_ret (pv 2))))) pss_nil)
    (pss_cons (ps_asg (pe_op op_mod (pe_op op_add (pe_op op_add (pe_op op_mul (pe_ix ix_list (pv 0) pe_int (fun _ _ => rfl)) (pe_ix ix_list (pv 0) pe_int (fun _ _ => rfl))) (pe_op op_mul pe_int (pe_ix ix_list (pv 0) pe_int (fun _ _ => rfl)))) pe_int) pe_int) (pg_sub (pv 0) pe_int set_list))
    (pss_one (ps_ret (pe_op op_mod (pe_op op_fdiv (pe_ix ix_list (pv 0) pe_int (fun _ _ => rfl)) pe_int) (pv 1))))), ?_⟩
   refine ⟨_, rfl, p, _, _, _, rfl, rfl, SqL.of e, rfl, _, _, rfl, rfl, _, rfl, ?_⟩
   refine if2 (fun h => ?_) (fun h => ?_)
   · have h : 0 < a := of_decide_eq_true h
     refine ⟨_, rfl, p, _, _, _, rfl, rfl, SqL.of e, rfl, _, rfl, _, _, rfl, rfl, h0, ?_⟩
     have sl : Sz 9000 lim := sz_of 60 (by omega)
     refine ⟨_, rfl, p, _, _, _, rfl, rfl, SqL.of e, rfl, _, rfl, _, _, rfl, rfl, ⟨by omega, sl⟩, _, rfl, p, _, _, 0, rfl, rfl, e, rfl, ?_⟩
     refine ⟨_, rfl, ?_⟩
     refine k _ _ (Int.emod_nonneg _ (by omega)) (Int.emod_lt_of_pos _ h0) ⟨_, b, upd_same, ?_, hb, hb2⟩ Kp.set
     rw [Int.fdiv_eq_ediv_of_nonneg _ (by omega)]
     exact Int.ediv_nonneg (by omega) (by omega)
   · refine ⟨_, rfl, p, _, _, _, rfl, rfl, SqL.of e, rfl, _, rfl, p, _, _, _, rfl, rfl, SqL.of e, rfl, _, _, rfl, rfl, .inl ⟨by omega, by omega⟩, _, rfl, p, _, _, _, rfl, rfl, SqL.of e, rfl, _, _, rfl, rfl, .inl ⟨by decide, by decide⟩,
      _, _, rfl, rfl, _, _, rfl, rfl, _, _, rfl, rfl, (by show (0 : Int) < 2147483587; decide), _, rfl, p, _, _, 1, rfl, rfl, e, rfl, ?_⟩
     refine ⟨_, rfl, p, _, _, _, rfl, rfl, SqL.of upd_same, rfl, _, _, rfl, rfl, ⟨by decide, by decide⟩, _, rfl, _, _, rfl, rfl, h0, ?_⟩
     exact k _ _ (Int.emod_nonneg _ (by omega)) (Int.emod_lt_of_pos _ h0) ⟨a, _, upd_same, ha, Int.emod_nonneg _ (by decide), Int.emod_lt_of_pos _ (by decide)⟩ Kp.set
theorem scCells : FnScope ["script", "many"] ["script", "many"] (defScope sCells) := ⟨rfl, rfl, rfl, by decide +kernel, rfl, by decide +kernel, by decide +kernel⟩
theorem mem_int {xs : List V} (h : ∀ x ∈ xs, ∃ i : Int, x = .int i) : AllInt xs := fun j x e => h x (List.mem_of_getElem? e)
theorem ok_cells {f : Addr} {fd : FuncData} (F : Fun K "_law_cells" "_law_cells" sCells f fd) (zl : mg "list" = none) (ze : mg "enumerate" = none) (zi : mg "int" = none) : FnOk P w K mg base CX0 1 f fd ["script", "many"] (spCells K) := by
 refine F.ok scCells (fun vs H Q E h => ?_) (fun cdv A outer s H vs Q E hr h => ?_)
 · obtain ⟨x, y, ns, rfl, _⟩ := h
   rfl
 · obtain ⟨a, m, ns, rfl, hS, hlen, k⟩ := h
   refine ⟨_, pss_one (ps_ret (pe_lenum rfl rfl zl rfl ze (pa_cons (pe_op op_cat (pe_slice sl_list (pv 0) po_none (po_some (pv 1)))
    (pe_op op_rep (pe_lst (pa_cons pe_int pa_nil)) (pe_callTy call_int1 (by rfl) zi boot_int (pa_cons (pe_cmpR (op_eqD hr) (pv 0) (pe_lst pa_nil) (nomark _)) pa_nil)))) pa_nil))), ?_⟩
   refine ⟨_, rfl, _, rfl, _, rfl, a, _, rfl, hS, fun p1 hp1 => ?_⟩
   refine ⟨(by show 1 ≤ sizeLine; decide), fun p2 hp2 => ?_⟩
   have s1 : Same H (upd H p1 (.lst (cutV (ns.map V.int) none (some m)))) := Same.new hp1
   have s2 : Same (upd H p1 (.lst (cutV (ns.map V.int) none (some m)))) (upd (upd H p1 (.lst (cutV (ns.map V.int) none (some m)))) p2 (.lst [V.int 0])) := Same.new hp2
   refine ⟨_, rfl, (by show 0 ≤ sizeLine; decide), fun p3 hp3 => ?_⟩
   have s3 : Same (upd (upd H p1 (.lst (cutV (ns.map V.int) none (some m)))) p2 (.lst [V.int 0])) (upd (upd (upd H p1 (.lst (cutV (ns.map V.int) none (some m)))) p2 (.lst [V.int 0])) p3 (.lst [])) := Same.new hp3
   have sA := (s1.trans s2).trans s3
   refine ⟨a, p3, _, _, ns.map Dt.int, [], rfl, rfl, .inr ⟨sA.seq hS, SqL.of upd_same⟩, dens_ints _ _ ns, (by simp only [Dens]), (by rw [dep_ints]; decide), .inr ⟨_, rfl, ?_⟩⟩
   have hp2s : (upd (upd (upd H p1 (.lst (cutV (ns.map V.int) none (some m)))) p2 (.lst [V.int 0])) p3 (.lst [])) p2 = some (.lst [V.int 0]) := s3 _ _ upd_same
   generalize hkk : (if (if false = true then !eqDs (ns.map Dt.int) [] else eqDs (ns.map Dt.int) []) = true then (1 : Int) else 0) = kk
   have hk01 : kk = 0 ∨ kk = 1 := by rw [← hkk]; split <;> simp
   refine ⟨p2, kk, [V.int 0], rfl, rfl, hp2s, by omega, by omega, ?_, fun p4 hp4 => ?_⟩
   · have : (sizeLine : Nat) = 16777216 := sizeLine_eq
     rw [this]
     simp only [List.length_cons, List.length_nil]
     omega
   have s4 := Same.new (o := HO.lst (List.replicate kk.toNat [V.int 0]).flatten) hp4
   have hcut := cutV_length (ns.map V.int) none (some m)
   have hrl : (List.replicate kk.toNat [V.int 0]).flatten.length ≤ 1 := by rw [len_rep]; simp only [List.length_cons, List.length_nil]; omega
   rw [List.length_map] at hcut
   refine ⟨p1, p4, _, _, rfl, rfl, (s2.trans (s3.trans s4)) _ _ upd_same, upd_same, ?_, fun p5 hp5 => ?_⟩
   · have : (sizeLine : Nat) = 16777216 := sizeLine_eq
     omega
   have s5 := Same.new (o := HO.lst (cutV (ns.map V.int) none (some m) ++ (List.replicate kk.toNat [V.int 0]).flatten)) hp5
   refine ⟨p5, _, rfl, SqL.of upd_same, fun H' L ts sH hL hLl hts hT => ?_⟩
   refine k H' L _ ts (fun b o e => sH b o (s5 b o (s4 b o (sA b o e)))) ?_ hLl hts hT (mem_int fun x hx => ?_) (by rw [List.length_append]; omega)
   · exact (sA.trans (s4.trans s5)).free hL
   · rcases List.mem_append.mp hx with hx | hx
     · unfold cutV at hx
       obtain ⟨n, _, e⟩ := List.mem_map.mp (List.mem_of_mem_drop (List.mem_of_mem_take hx))
       exact ⟨n, e.symm⟩
     · obtain ⟨l, h1, h2⟩ := List.mem_flatten.mp hx
       rw [List.eq_of_mem_replicate h1] at h2
       exact ⟨0, by simpa using h2⟩
theorem scWhole : FnScope ["thing"] ["thing"] (defScope sWhole) := ⟨rfl, rfl, rfl, by decide +kernel, rfl, by decide +kernel, by decide +kernel⟩
set_option maxHeartbeats 0 in
theorem d_is_whole (S : Fnd K mg "is_whole" sWhole ["thing"]) (T : Txt mg)  : Def P w K mg base 1 "is_whole" ["thing"] (spWholeT K) := S.def fun f fd F => by
 have nd := scWhole.nd
 refine F.ok scWhole (fun vs H Q E h => ?_) (fun cdv A' outer s H vs Q E hr h => ?_)
 · obtain ⟨_, _, rfl, _⟩ := h
   rfl
 · obtain ⟨v, o, rfl, h, k⟩ := h
   refine ⟨_, (@pss_one _ _ _ (@ps_ret _ _ _ _ (pe_and (pe_callB call_isi (by rfl) T.isi boot_isinstance (@pa_consX _ _ _ _ _ (by rfl) (pv 0) (@pa_consX _ _ _ _ _ (by rfl) (pe_bltn (v := .ty "int") (by rfl) T.int boot_int rfl) pa_nil))) (pe_one (pe_not (pe_callB call_isi (by rfl) T.isi boot_isinstance (@pa_consX _ _ _ _ _ (by rfl) (pv 0) (@pa_consX _ _ _ _ _ (by rfl) (pe_bltn (v := .ty "bool") (by rfl) T.bool boot_bool rfl) pa_nil)))))))), ?_⟩
   cases h with
   | int i => exact ⟨_, rfl, _, _, _, true, rfl, .int i, isi_ii _, _, rfl, ifT rfl ⟨_, rfl, _, _, _, false, rfl, .int i, isi_ib _, _, rfl, k⟩⟩
   | bl b => exact ⟨_, rfl, _, _, _, true, rfl, .bl b, isi_bi _, _, rfl, ifT rfl ⟨_, rfl, _, _, _, true, rfl, .bl b, isi_bb _, _, rfl, k⟩⟩
   | oth ty e => exact ⟨_, rfl, _, _, _, false, rfl, ty, e, _, rfl, ifF rfl k⟩
theorem scPair : FnScope ["thing"] ["thing"] (defScope sPair) := ⟨rfl, rfl, rfl, by decide +kernel, rfl, by decide +kernel, by decide +kernel⟩
set_option maxHeartbeats 0 in
theorem d_is_pair_of_wholes (S : Fnd K mg "is_pair_of_wholes" sPair ["thing"]) (T : Txt mg) (Wh : Def P w K mg base 1 "is_whole" ["thing"] (spWholeT K)) : Def P w K mg base 2 "is_pair_of_wholes" ["thing"] (spPairA K) := S.def fun f fd F => by
 have nd := scPair.nd
 refine F.ok scPair (fun vs H Q E h => ?_) (fun cdv A' outer s H vs Q E hr h => ?_)
 · obtain ⟨_, _, rfl, _⟩ := h
   rfl
 · obtain ⟨v, o, rfl, ht, k⟩ := h
   refine ⟨_, (@pss_one _ _ _ (@ps_ret _ _ _ _ (pe_and (pe_callB call_isiU (by rfl) T.isi boot_isinstance (@pa_consX _ _ _ _ _ (by rfl) (pv 0) (@pa_consX _ _ _ _ _ (by rfl) (pe_bltn (v := .ty "tuple") (by rfl) T.tup boot_tuple rfl) pa_nil))) (pe_and (pe_cmpR op_eq (pe_callB call_len_seq (by rfl) T.len PySem.boot_len (@pa_consX _ _ _ _ _ (by rfl) (pv 0) pa_nil)) pe_int (nomark _)) (pe_and (pe_def (by rfl) (by rfl) (by rfl) (by decide) Wh (hr.mono (by decide)) (@pa_consX _ _ _ _ _ (by rfl) (pe_ix ix_tup (pv 0) pe_int (fun _ _ => rfl)) pa_nil)) (pe_one (pe_def (by rfl) (by rfl) (by rfl) (by decide) Wh (hr.mono (by decide)) (@pa_consX _ _ _ _ _ (by rfl) (pe_ix ix_tup (pv 0) pe_int (fun _ _ => rfl)) pa_nil)))))))), ?_⟩
   cases ht with
   | no ty e => exact ⟨_, rfl, _, _, _, false, rfl, ty, e, _, rfl, ifF rfl k⟩
   | @len q xs e l =>
     refine ⟨_, rfl, _, _, _, true, rfl, .inl (.tup e), isi_tt _, _, rfl, ifT rfl ?_⟩
     refine ⟨_, rfl, q, _, rfl, .inr (SqT.of e), rfl, _, rfl, ifF (decide_eq_false fun z => ?_) ?_⟩
     · have := V.int.inj z
       omega
     · exact k
   | @two q x y ox oy hq hx hy =>
     refine ⟨_, rfl, _, _, _, true, rfl, .inl (.tup hq), isi_tt _, _, rfl, ifT rfl ?_⟩
     refine ⟨_, rfl, q, _, rfl, .inr (SqT.of hq), rfl, _, rfl, ifT rfl ?_⟩
     refine ⟨_, rfl, q, _, _, _, rfl, rfl, SqT.of hq, rfl, _, _, rfl, hx.tg, _, rfl, ?_⟩
     cases ox with
     | none => exact ifF rfl k
     | some i =>
       refine ifT rfl ⟨_, rfl, q, _, _, _, rfl, rfl, SqT.of hq, rfl, _, _, rfl, hy.tg, ?_⟩
       cases oy with
       | none => exact k
       | some j => exact k
end
end Lw

set_option pp.maxSteps 800
namespace Lw
open PySem L2 PyProof.Rows
section
variable {P : Program} {w : World} {K : PySem.W.Frag} {mg : Str → Option Value} {base : Heap}
theorem scIsF : FnScope ["thing"] ["thing"] (defScope sIsF) := ⟨rfl, rfl, rfl, by decide +kernel, rfl, by decide +kernel, by decide +kernel⟩
set_option maxHeartbeats 0 in
theorem d_is_fraction (S : Fnd K mg "is_fraction" sIsF ["thing"]) (T : Txt mg) (Pa : Def P w K mg base 2 "is_pair_of_wholes" ["thing"] (spPairA K)) (Co : Def P w K mg base 1 "common" ["one", "other"] spCommon) : Def P w K mg base 3 "is_fraction" ["thing"] (spIsFrA K) := S.def fun f fd F => by
 have nd := scIsF.nd
 refine F.ok scIsF (fun vs H Q E h => ?_) (fun cdv A' outer s H vs Q E hr h => ?_)
 · obtain ⟨_, _, rfl, _⟩ := h
   rfl
 · obtain ⟨v, o, rfl, ht, k⟩ := h
   refine ⟨_, (@pss_one _ _ _ (@ps_ret _ _ _ _ (pe_and (pe_def (by rfl) (by rfl) (by rfl) (by decide) Pa (hr.mono (by decide)) (@pa_consX _ _ _ _ _ (by rfl) (pv 0) pa_nil)) (pe_and (pe_cmpR op_ge (pe_ix ix_tup (pv 0) pe_int (fun _ _ => rfl)) pe_int (nomark _)) (pe_one (pe_cmpR op_eq (pe_def (by rfl) (by rfl) (by rfl) (by decide) Co (hr.mono (by decide)) (@pa_consX _ _ _ _ _ (by rfl) (pe_callB call_abs (by rfl) T.abs boot_abs (@pa_consX _ _ _ _ _ (by rfl) (pe_ix ix_tup (pv 0) pe_int (fun _ _ => rfl)) pa_nil)) (@pa_consX _ _ _ _ _ (by rfl) (pe_ix ix_tup (pv 0) pe_int (fun _ _ => rfl)) pa_nil))) pe_int (nomark _))))))), ?_⟩
   refine ⟨_, rfl, _, o, rfl, ht, _, rfl, ?_⟩
   cases ht with
   | no ty e => exact ifF rfl k
   | len e l => exact ifF rfl k
   | @two p x y ox oy hA hx hy =>
     cases ox with
     | none => exact ifF rfl k
     | some i =>
     cases oy with
     | none => exact ifF rfl k
     | some j =>
     cases hx
     cases hy
     refine ifT rfl ?_
     have hA := SqT.of (K := K) hA
     refine ⟨_, rfl, p, _, _, _, rfl, rfl, hA, rfl, _, _, rfl, rfl, _, rfl, ?_⟩
     have k : Q (.bl (decide (1 ≤ j ∧ Int.gcd i j = 1))) H := k
     by_cases h1 : 1 ≤ j
     case neg =>
      rw [decide_eq_false h1]
      rw [decide_eq_false (fun z => h1 z.1)] at k
      exact ifF rfl k
     rw [decide_eq_true h1]
     refine ifT rfl ?_
     refine ⟨_, rfl, p, _, _, _, rfl, rfl, hA, rfl, _, rfl, _, rfl, p, _, _, _, rfl, rfl, hA, rfl, _, _, rfl, by split <;> omega, by omega, rfl, ?_⟩
     have e : Int.gcd (if i < 0 then -i else i) j = Int.gcd i j := by
      split
      · rw [Int.neg_gcd]
      · rfl
     rw [e]
     have e2 : decide (V.int ((Int.gcd i j : Nat) : Int) = V.int 1) = decide (1 ≤ j ∧ Int.gcd i j = 1) := by
      rw [decide_eq_decide]
      constructor
      · intro z
        have := V.int.inj z
        exact ⟨h1, by omega⟩
      · rintro ⟨_, z⟩
        rw [z]; rfl
     rw [e2]
     exact k
end
end Lw

set_option pp.maxSteps 800
namespace Lw
open PySem L2 PyProof.Rows
section
variable {P : Program} {w : World} {K : PySem.W.Frag} {mg : Str → Option Value} {base : Heap}
theorem sc_law_is : FnScope ["thing"] ["thing"] (defScope s_law_is) := ⟨rfl, rfl, rfl, by decide +kernel, rfl, by decide +kernel, by decide +kernel⟩
set_option maxHeartbeats 0 in
theorem d_law_is (S : Fnd K mg "_law_is" s_law_is ["thing"]) (T : Txt mg) (Fr : Def P w K mg base 1 "_law_frac" ["above", "below"] spFracS) : Def P w K mg base 2 "_law_is" ["thing"] (spLIsA K) := S.def fun f fd F => by
 have nd := sc_law_is.nd
 refine F.ok sc_law_is (fun vs H Q E h => ?_) (fun cdv A' outer s H vs Q E hr h => ?_)
 · obtain ⟨_, _, rfl, _⟩ := h
   rfl
 · obtain ⟨v, o, rfl, ht, k⟩ := h
   refine ⟨_, (@pss_cons _ _ _ _ _ (@ps_if _ _ _ _ _ _ _ _ (PW.pt (pw_or (pt_not (pt_val (pe_callB call_isiU (by rfl) T.isi boot_isinstance (@pa_consX _ _ _ _ _ (by rfl) (pv 0) (@pa_consX _ _ _ _ _ (by rfl) (pe_bltn (v := .ty "tuple") (by rfl) T.tup boot_tuple rfl) pa_nil))))) (pw_or1 (pt_cmpR op_ne (pe_callB call_len_seq (by rfl) T.len PySem.boot_len (@pa_consX _ _ _ _ _ (by rfl) (pv 0) pa_nil)) pe_int (nomark _)))))
    (@pss_one _ _ _ (@ps_ret _ _ _ _ pe_bl))
    pss_nil)
    (@pss_cons _ _ _ _ _ (@ps_if _ _ _ _ _ _ _ _ (PW.pt (pw_or (pt_cmpR (op_neNil hr) (pe_compC ["one"] [none] rfl (pi_tup (pv 0)) (by show ∀ y : Str × NameKind, y ∈ _ → y.2 = NameKind.free → (defScope s_law_is).names.lookup y.1 = some .cell; decide +kernel) (by decide) rfl (by decide +kernel) trivial
     (fun cl C s H fp => (pg_name (i := 0) (show (["one"] : List Str).Nodup by decide +kernel) rfl (Or.inl rfl) (.inr rfl)))
     (fun cl C s H fp => (pts_one (PW.pt (pw_or (pt_not (pt_val (pe_callB (call_isiK (K := K) rfl) (by rfl) T.isi boot_isinstance (@pa_consX _ _ _ _ _ (by rfl) (pv 0) (@pa_consX _ _ _ _ _ (by rfl) (pe_bltn (v := .ty "int") (by rfl) T.int boot_int rfl) pa_nil))))) (pw_or1 (pt_val (pe_callB (call_isiK (K := K) rfl) (by rfl) T.isi boot_isinstance (@pa_consX _ _ _ _ _ (by rfl) (pv 0) (@pa_consX _ _ _ _ _ (by rfl) (pe_bltn (v := .ty "bool") (by rfl) T.bool boot_bool rfl) pa_nil)))))))))
     (fun cl C s H fp => (pv 0))) (@pe_lstS _ _ _ _ pa_nil) (nomark _)) (pw_or1 (pt_cmpR op_lt (pe_ix ix_tup (pv 0) pe_int (fun _ _ => rfl)) pe_int (nomark _)))))
     (@pss_one _ _ _ (@ps_ret _ _ _ _ pe_bl))
     pss_nil)
    (@pss_one _ _ _ (@ps_ret _ _ _ _ (pe_cmpR (op_eqD hr) (pe_def (by rfl) (by rfl) (by rfl) (by decide) Fr (hr.mono (by decide)) (@pa_consX _ _ _ _ _ (by rfl) (pe_ix ix_tup (pv 0) pe_int (fun _ _ => rfl)) (@pa_consX _ _ _ _ _ (by rfl) (pe_ix ix_tup (pv 0) pe_int (fun _ _ => rfl)) pa_nil))) (pv 0) (nomark _)))))), ?_⟩
   cases ht with
   | no ty e => exact ⟨_, rfl, _, _, _, false, rfl, ty, e, _, rfl, ifT rfl (k _ (Same.refl _))⟩
   | @len q xs e l =>
     refine ⟨_, rfl, _, _, _, true, rfl, .inl (.tup e), isi_tt _, _, rfl, ifF rfl ?_⟩
     refine ⟨_, rfl, q, _, rfl, .inr (SqT.of e), rfl, _, rfl, ifT (by rw [decide_eq_false fun z => by have := V.int.inj z; omega]; rfl) (k _ (Same.refl _))⟩
   | @two a x y ox oy hT hx hy =>
     refine ⟨_, rfl, _, _, _, true, rfl, .inl (.tup hT), isi_tt _, _, rfl, ifF rfl ?_⟩
     refine ⟨_, rfl, a, _, rfl, .inr (SqT.of hT), rfl, _, rfl, ifF rfl ?_⟩
     refine ⟨_, rfl, a, rfl, ⟨_, SqT.of hT⟩, fun D hD => ?_⟩
     let odd : V → Option Int → List V := fun v o => if o.isSome then [] else [v]
     refine comp_tup (K := K) (a := a) (D := D) (xs := [x, y]) (fun i ys σ H' => Same H H' ∧ H' D = some (.lst ys) ∧ ys = (if 1 ≤ i then odd x ox else []) ++ (if 2 ≤ i then odd y oy else []) ∧ ∃ v, σ = [v]) ?_ ?_ ?_ ?_
     · exact ⟨Same.new hD, upd_same, rfl, none, rfl⟩
     · rintro i ys σ H' ⟨s1, e1, _⟩
       exact ⟨SqT.of (s1 _ _ hT), e1⟩
     · rintro i u ys σ H' hi hlt ⟨s1, e1, ey, v, rfl⟩
       have hu : ∃ ou, Mb K H' 1000 u ou ∧ (if 1 ≤ i + 1 then odd x ox else []) ++ (if 2 ≤ i + 1 then odd y oy else []) = ys ++ odd u ou ∧ ys.length < sizeLine := by
        match i, hi, ey with
        | 0, hi, ey =>
          have e : x = u := by simpa using hi
          subst e; subst ey
          exact ⟨ox, hx.kt s1.kt, by simp, by rw [sizeLine_eq]; simp⟩
        | 1, hi, ey =>
          have e : y = u := by simpa using hi
          subst e; subst ey
          refine ⟨oy, hy.kt s1.kt, by simp, ?_⟩
          rw [sizeLine_eq]
          cases ox <;> simp [odd]
        | _ + 2, hi, ey => simp at hi
       obtain ⟨ou, mu, en, hz⟩ := hu
       have su : ∀ zs, Same H (upd H' D (.lst zs)) := fun zs b o e => by rw [upd_ne (ne_of_none e hD)]; exact s1 b o e
       cases mu with
       | int z hz' =>
         refine ⟨_, rfl, _, _, _, true, rfl, .int z, isi_ii _, _, rfl, ifF rfl ?_⟩
         refine ⟨_, rfl, _, _, _, false, rfl, .int z, isi_ib _, _, rfl, ifF rfl ?_⟩
         exact Wt.next hlt ⟨s1, e1, by rw [en]; simp [odd], _, rfl⟩
       | bl b =>
         refine ⟨_, rfl, _, _, _, true, rfl, .bl b, isi_bi _, _, rfl, ifF rfl ?_⟩
         refine ⟨_, rfl, _, _, _, true, rfl, .bl b, isi_bb _, _, rfl, ifT rfl ?_⟩
         exact ⟨_, rfl, e1, hz, Wt.next hlt ⟨su _, upd_same, en.symm, _, rfl⟩⟩
       | oth ty e =>
         refine ⟨_, rfl, _, _, _, false, rfl, ty, e, _, rfl, ifT rfl ?_⟩
         exact ⟨_, rfl, e1, hz, Wt.next hlt ⟨su _, upd_same, en.symm, _, rfl⟩⟩
     · rintro ys σ H' ⟨s1, e1, ey, _⟩
       have ey : ys = odd x ox ++ odd y oy := by simpa using ey
       refine ⟨(by show 0 ≤ sizeLine; decide), fun l H2 s2 _ hl2 => ?_⟩
       have s12 := s1.trans s2
       refine ⟨D, l, ys, rfl, rfl, .inr ⟨SqL.of (s2 _ _ e1), SqL.of hl2⟩, _, rfl, ?_⟩
       cases ox with
       | none => subst ey; exact ifT rfl (k _ s12)
       | some i =>
       cases oy with
       | none => subst ey; exact ifT rfl (k _ s12)
       | some j =>
       subst ey
       cases hx with | int _ zx => ?_
       cases hy with | int _ zy => ?_
       have hT2 := s12 _ _ hT
       have k : ∀ H', Same H H' → Q (.bl (decide (1 ≤ j ∧ Int.gcd i j = 1))) H' := k
       refine ifF rfl ?_
       refine ⟨_, rfl, a, _, _, _, rfl, rfl, SqT.of hT2, rfl, _, _, rfl, rfl, _, rfl, ?_⟩
       by_cases h1 : j < 1
       · rw [decide_eq_true h1]
         have := k _ s12
         rw [decide_eq_false (fun z => absurd z.1 (by omega))] at this
         exact ifT rfl this
       rw [decide_eq_false h1]
       refine ifF rfl ?_
       refine ⟨_, rfl, a, _, _, _, rfl, rfl, SqT.of hT2, rfl, _, rfl, a, _, _, _, rfl, rfl, SqT.of hT2, rfl, i, j, rfl, by omega, zx.mono (by decide), zy.mono (by decide), fun r H3 s4 _ hr' => ?_⟩
       refine ⟨_, rfl, eqF (A := Pw.mk i j) (B := (i, j)) hr' (s4 _ _ hT2) ?_⟩
       have e : decide (Pw.mk i j = (i, j)) = decide (1 ≤ j ∧ Int.gcd i j = 1) := by
        rw [decide_eq_decide]
        constructor
        · intro z
          have := (Pw.mk_spec (a := i) (b := j) (by omega)).1
          rw [z] at this
          exact ⟨by omega, this.2⟩
        · rintro ⟨_, g⟩
          exact Pw.mk_canon (p := (i, j)) ⟨by show 0 < j; omega, g⟩
       rw [e]
       exact k _ (s12.trans s4)
end
end Lw

set_option pp.maxSteps 800
namespace Lw
open PySem L2 PyProof.Rows
section
variable {P : Program} {w : World} {K : PySem.W.Frag} {mg : Str → Option Value} {base : Heap}
theorem sc_law_bad : FnScope ["hand", "one", "above", "below", "many", "some"] ["hand", "one"] (defScope s_law_bad) := ⟨rfl, rfl, rfl, by decide +kernel, rfl, by decide +kernel, by decide +kernel⟩
set_option maxHeartbeats 0 in
theorem d_law_bad (S : Fnd K mg "_law_bad" s_law_bad ["hand", "one"]) (T : Txt mg) (zstr : mg "str" = none) (Dw : Def P w K mg base 1 "_law_draw" ["hand", "limit"] spDraw) : Def P w K mg base 2 "_law_bad" ["hand", "one"] (spBadA K) := S.def fun f fd F => by
 have nd := sc_law_bad.nd
 refine F.ok sc_law_bad (fun vs H Q E h => ?_) (fun cdv A' outer s H vs Q E hr h => ?_)
 · obtain ⟨_, _, _, rfl, _⟩ := h
   rfl
 · obtain ⟨h, p, n, rfl, hh, ⟨x, y, a, b, hp, hx, hy, sa, sb⟩, n4, n5, k⟩ := h
   refine ⟨_, (@pss_cons _ _ _ _ _ (ps_asg (pv 1) (pg_tup rfl (pgs_cons (pg_name (i := 2) nd rfl (Or.inl rfl)) (pgs_cons (pg_name (i := 3) nd rfl (Or.inl rfl)) pgs_nil))))
    (@pss_cons _ _ _ _ _ (@ps_setX _ _ 4 _ _ _ _ (by rfl) (Or.inl rfl) nd rfl (Or.inl rfl) (pe_op op_add pe_int (pe_def (by rfl) (by rfl) (by rfl) (by decide) Dw (hr.mono (by decide)) (@pa_consX _ _ _ _ _ (by rfl) (pv 0) (@pa_consX _ _ _ _ _ (by rfl) (pe_ix ix_list (@pe_lstS _ _ _ _ (@pa_consX _ _ _ _ _ (by rfl) pe_int (@pa_consX _ _ _ _ _ (by rfl) pe_int (@pa_consX _ _ _ _ _ (by rfl) (pe_op op_pow pe_int pe_int) pa_nil)))) (pe_def (by rfl) (by rfl) (by rfl) (by decide) Dw (hr.mono (by decide)) (@pa_consX _ _ _ _ _ (by rfl) (pv 0) (@pa_consX _ _ _ _ _ (by rfl) pe_int pa_nil))) (fun _ _ => rfl)) pa_nil)))))
    (@pss_cons _ _ _ _ _ (@ps_setX _ _ 5 _ _ _ _ (by rfl) (Or.inl rfl) nd rfl (Or.inl rfl) (@pe_lstS _ _ _ _ (@pa_consX _ _ _ _ _ (by rfl) (@pe_tupS _ _ _ _ _ (@pa_consX _ _ _ _ _ (by rfl) (pe_op op_mulN (pv 2) (pv 4)) (@pa_consX _ _ _ _ _ (by rfl) (pe_op op_mulN (pv 3) (pv 4)) pa_nil))) (@pa_consX _ _ _ _ _ (by rfl) (@pe_tupS _ _ _ _ _ (@pa_consX _ _ _ _ _ (by rfl) (pe_op op_subN pe_int (pv 2)) (@pa_consX _ _ _ _ _ (by rfl) (pe_op op_subN pe_int (pv 3)) pa_nil))) (@pa_consX _ _ _ _ _ (by rfl) (@pe_tupS _ _ _ _ _ (@pa_consX _ _ _ _ _ (by rfl) (pv 2) (@pa_consX _ _ _ _ _ (by rfl) (pe_op op_subN pe_int (pv 3)) pa_nil))) (@pa_consX _ _ _ _ _ (by rfl) (@pe_tupS _ _ _ _ _ (@pa_consX _ _ _ _ _ (by rfl) (pv 2) (@pa_consX _ _ _ _ _ (by rfl) pe_int pa_nil))) (@pa_consX _ _ _ _ _ (by rfl) (@pe_tupS _ _ _ _ _ (@pa_consX _ _ _ _ _ (by rfl) pe_int (@pa_consX _ _ _ _ _ (by rfl) (pv 3) pa_nil))) pa_nil)))))))
    (@pss_cons _ _ _ _ _ (@ps_setX _ _ 5 _ _ _ _ (by rfl) (Or.inl rfl) nd rfl (Or.inl rfl) (pe_op op_catS (pv 5) (@pe_lstS _ _ _ _ (@pa_consX _ _ _ _ _ (by rfl) (@pe_tupS _ _ _ _ _ (@pa_consX _ _ _ _ _ (by rfl) (pv 3) (@pa_consX _ _ _ _ _ (by rfl) (pv 2) pa_nil))) (@pa_consX _ _ _ _ _ (by rfl) (@pe_tupS _ _ _ _ _ (@pa_consX _ _ _ _ _ (by rfl) pe_bl (@pa_consX _ _ _ _ _ (by rfl) (pv 3) pa_nil))) (@pa_consX _ _ _ _ _ (by rfl) (@pe_tupS _ _ _ _ _ (@pa_consX _ _ _ _ _ (by rfl) (pv 2) (@pa_consX _ _ _ _ _ (by rfl) pe_bl pa_nil))) (@pa_consX _ _ _ _ _ (by rfl) (@pe_tupS _ _ _ _ _ (@pa_consX _ _ _ _ _ (by rfl) pe_bl (@pa_consX _ _ _ _ _ (by rfl) pe_int pa_nil))) (@pa_consX _ _ _ _ _ (by rfl) (@pe_tupS _ _ _ _ _ (@pa_consX _ _ _ _ _ (by rfl) (pv 2) (@pa_consX _ _ _ _ _ (by rfl) pe_non pa_nil))) (@pa_consX _ _ _ _ _ (by rfl) (@pe_tupS _ _ _ _ _ (@pa_consX _ _ _ _ _ (by rfl) (pe_callTy call_strN (by rfl) zstr boot_str (@pa_consX _ _ _ _ _ (by rfl) (pv 2) pa_nil)) (@pa_consX _ _ _ _ _ (by rfl) (pv 3) pa_nil))) pa_nil)))))))))
    (@pss_cons _ _ _ _ _ (ps_expr (pe_bm PySem.F.plainAttrs_list PySem.F.slot_list_append PySem.F.type_list_append mt_append (pv 5) (@pa_consX _ _ _ _ _ (by rfl) (@pe_lstS _ _ _ _ (@pa_consX _ _ _ _ _ (by rfl) (pv 2) (@pa_consX _ _ _ _ _ (by rfl) (pv 3) pa_nil))) pa_nil)))
    (@pss_cons _ _ _ _ _ (@ps_setX _ _ 5 _ _ _ _ (by rfl) (Or.inl rfl) nd rfl (Or.inl rfl) (pe_op op_catS (pv 5) (@pe_lstS _ _ _ _ (@pa_consX _ _ _ _ _ (by rfl) (@pe_tupS _ _ _ _ _ (@pa_consX _ _ _ _ _ (by rfl) (pv 2) pa_nil)) (@pa_consX _ _ _ _ _ (by rfl) (@pe_tupS _ _ _ _ _ (@pa_consX _ _ _ _ _ (by rfl) (pv 2) (@pa_consX _ _ _ _ _ (by rfl) (pv 3) (@pa_consX _ _ _ _ _ (by rfl) pe_int pa_nil)))) (@pa_consX _ _ _ _ _ (by rfl) (@pe_tupS _ _ _ _ _ (@pa_consX _ _ _ _ _ (by rfl) (@pe_tupS _ _ _ _ _ (@pa_consX _ _ _ _ _ (by rfl) (pv 2) pa_nil)) (@pa_consX _ _ _ _ _ (by rfl) (pv 3) pa_nil))) (@pa_consX _ _ _ _ _ (by rfl) (pv 2) (@pa_consX _ _ _ _ _ (by rfl) pe_non (@pa_consX _ _ _ _ _ (by rfl) pe_str (@pa_consX _ _ _ _ _ (by rfl) (@pe_tupS _ _ _ _ _ pa_nil) (@pa_consX _ _ _ _ _ (by rfl) pe_dnewF (@pa_consX _ _ _ _ _ (by rfl) (@pe_tupS _ _ _ _ _ (@pa_consX _ _ _ _ _ (by rfl) pe_int (@pa_consX _ _ _ _ _ (by rfl) pe_int pa_nil))) (@pa_consX _ _ _ _ _ (by rfl) (@pe_tupS _ _ _ _ _ (@pa_consX _ _ _ _ _ (by rfl) pe_int (@pa_consX _ _ _ _ _ (by rfl) pe_int pa_nil))) pa_nil)))))))))))))
    (@pss_cons _ _ _ _ _ (@ps_setX _ _ 5 _ _ _ _ (by rfl) (Or.inl rfl) nd rfl (Or.inl rfl) (pe_op op_catS (pv 5) (@pe_lstS _ _ _ _ (@pa_consX _ _ _ _ _ (by rfl) (@pe_tupS _ _ _ _ _ (@pa_consX _ _ _ _ _ (by rfl) (pv 2) (@pa_consX _ _ _ _ _ (by rfl) (pe_op op_add (pe_op op_mulN (pv 3) (pe_op op_pow pe_int pe_int)) pe_int) pa_nil))) (@pa_consX _ _ _ _ _ (by rfl) (pe_dispF (pps_cons pe_int (pv 2) (pps_cons pe_int (pv 3) pps_nil)) rfl rfl (by simp) (by decide)) (@pa_consX _ _ _ _ _ (by rfl) (pe_dispF (pps_cons (pv 2) pe_int (pps_cons (pv 3) pe_int pps_nil)) rfl rfl (by simp) (by decide)) pa_nil))))))
    (@pss_one _ _ _ (@ps_ret _ _ _ _ (pe_ix ix_list (pv 5) (pe_def (by rfl) (by rfl) (by rfl) (by decide) Dw (hr.mono (by decide)) (@pa_consX _ _ _ _ _ (by rfl) (pv 0) (@pa_consX _ _ _ _ _ (by rfl) pe_int pa_nil))) (fun _ _ => rfl))))))))))), ?_⟩
   refine ⟨_, rfl, p, _, rfl, SqT.of hp, rfl, _, _, rfl, _, _, rfl, rfl, ?_⟩
   refine ⟨_, rfl, _, _, rfl, rfl, ⟨by decide, by decide, by decide⟩, (by show 3 ≤ sizeLine; decide), fun l1 G1 s1 m1 e1 => ?_⟩
   refine ⟨_, rfl, h, 3, rfl, by decide, by decide, hh.same s1, fun v1 G2 a1 b1 hh2 k2 => ?_⟩
   have ne1 : l1 ≠ h := hh.ne m1
   obtain ⟨lim, el, lim0, lim1⟩ : ∃ lim : Int, atI [V.int 5, V.int 30, V.int ((10 : Int) ^ (6 : Int).toNat)] v1 = some (.int lim) ∧ 0 < lim ∧ lim ≤ 1000000 := by
    have c : v1 = 0 ∨ v1 = 1 ∨ v1 = 2 := by omega
    rcases c with rfl | rfl | rfl
    · exact ⟨5, rfl, by decide, by decide⟩
    · exact ⟨30, rfl, by decide, by decide⟩
    · exact ⟨_, rfl, by decide, by decide⟩
   refine ⟨l1, _, _, _, rfl, rfl, SqL.of (k2 _ _ e1 ne1), el, h, lim, rfl, lim0, by omega, hh2, fun v2 J0 a2 b2 hj k3 => ?_⟩
   refine ⟨_, _, rfl, rfl, ?_⟩
   have k03 : Kp h H J0 := (s1.kp.trans k2).trans k3
   have zm : Sz 21 (2 + v2) := by
    show (2 + v2).natAbs < 2 ^ 21
    omega
   have zam : Sz (n + 100) (a * (2 + v2)) := (sa.mul zm).mono (by omega)
   have zbm : Sz (n + 100) (b * (2 + v2)) := (sb.mul zm).mono (by omega)
   have zbg : Sz 67 ((10 : Int) ^ (20 : Int).toNat) := by unfold Sz; decide +kernel
   have zb2 : Sz (n + 100) (b * (10 : Int) ^ (20 : Int).toNat + 1) := ((sb.mul zbg).add (Sz.mono (show Sz 1 1 by unfold Sz; decide) (by omega))).mono (by omega)
   have sa1 : Sz (n + 100) a := sa.mono (by omega)
   have sb1 : Sz (n + 100) b := sb.mono (by omega)
   have z0 : Sz (n + 100) 0 := Sz.mono (show Sz 1 0 by unfold Sz; decide) (by omega)
   have z1 : Sz (n + 100) 1 := Sz.mono (show Sz 1 1 by unfold Sz; decide) (by omega)
   have zna : Sz (n + 100) (0 - a) := (Sz.sub (Sz.mono (show Sz 1 0 by unfold Sz; decide) (by omega)) sa).mono (by omega)
   have znb : Sz (n + 100) (0 - b) := (Sz.sub (Sz.mono (show Sz 1 0 by unfold Sz; decide) (by omega)) sb).mono (by omega)
   have l6 : n + 100 ≤ 1000 := by omega
   have hsx := nmT_len hx sa1 l6
   obtain ⟨dx, fx⟩ := hx.fl sa1 l6
   obtain ⟨dy, fy⟩ := hy.fl sb1 l6
   have thx : ∀ {J : Hp}, Thg K J h (n + 100) x := by
    intro J
    cases hx with
    | int i => exact th_flat fx (.int _) (isi_it _) (fun _ z => nomatch z)
    | bl b => exact th_flat fx (.bl _) (ki_bt _) (fun _ z => nomatch z)
   have ds1 : DsOk [(V.int 0, x), (V.int 1, y)] := fun q hq => by
    simp only [List.mem_cons, List.not_mem_nil, or_false] at hq
    rcases hq with rfl | rfl
    · exact ⟨⟨_, .int 0, by unfold SmK; decide⟩, _, fx⟩
    · exact ⟨⟨_, .int 1, by unfold SmK; decide⟩, _, fy⟩
   have ds2 : DsOk [(x, V.int 0), (y, V.int 1)] := fun q hq => by
    simp only [List.mem_cons, List.not_mem_nil, or_false] at hq
    rcases hq with rfl | rfl
    · exact ⟨⟨a, hx, Nat.lt_of_lt_of_le ((sa1.mono l6).log2 (by decide)) (by decide)⟩, _, .int 0 (by decide)⟩
    · exact ⟨⟨b, hy, Nat.lt_of_lt_of_le ((sb1.mono l6).log2 (by decide)) (by decide)⟩, _, .int 1 (by decide)⟩
   have A0 : AllT K J0 h (n + 100) [] := AllT.nil
   have S0 : Same J0 J0 := Same.refl _
   refine ⟨_, rfl, _, rfl, a, 2 + v2, hx, rfl, ⟨sa.mono (by omega), zm.mono (by decide)⟩, _, rfl, _, rfl, b, 2 + v2, hy, rfl, ⟨sb.mono (by omega), zm.mono (by decide)⟩, (by show 2 ≤ sizeLine; decide), fun t1 J1 u1 w1 f1 => ?_⟩
   have S1 := S0.trans u1
   have n1 : t1 ≠ h := (hj.same S0).ne w1
   have A1 := (A0.same u1).add (th_nn f1 (.int _) (.int _) zam zbm l6 n1)
   refine ⟨_, rfl, 0, a, rfl, hx, _, rfl, 0, b, rfl, hy, (by show 2 ≤ sizeLine; decide), fun t2 J2 u2 w2 f2 => ?_⟩
   have S2 := S1.trans u2
   have n2 : t2 ≠ h := (hj.same S1).ne w2
   have A2 := (A1.same u2).add (th_nn f2 (.int _) (.int _) zna znb l6 n2)
   refine ⟨_, rfl, _, rfl, 0, b, rfl, hy, (by show 2 ≤ sizeLine; decide), fun t3 J3 u3 w3 f3 => ?_⟩
   have S3 := S2.trans u3
   have n3 : t3 ≠ h := (hj.same S2).ne w3
   have A3 := (A2.same u3).add (th_nn f3 hx (.int _) sa1 znb l6 n3)
   refine ⟨_, rfl, (by show 2 ≤ sizeLine; decide), fun t4 J4 u4 w4 f4 => ?_⟩
   have S4 := S3.trans u4
   have n4 : t4 ≠ h := (hj.same S3).ne w4
   have A4 := (A3.same u4).add (th_nn f4 hx (.int _) sa1 z0 l6 n4)
   refine ⟨_, rfl, (by show 2 ≤ sizeLine; decide), fun t5 J5 u5 w5 f5 => ?_⟩
   have S5 := S4.trans u5
   have n5 : t5 ≠ h := (hj.same S4).ne w5
   have A5 := (A4.same u5).add (th_nn f5 (.int _) hy z0 sb1 l6 n5)
   refine ⟨(by show 5 ≤ sizeLine; decide), fun t6 J6 u6 w6 f6 => ?_⟩
   have S6 := S5.trans u6
   have n6 : t6 ≠ h := (hj.same S5).ne w6
   have A6 := A5.same u6
   have eL6 := f6
   refine ⟨_, rfl, ?_⟩
   refine ⟨_, rfl, _, rfl, (by show 2 ≤ sizeLine; decide), fun t7 J7 u7 w7 f7 => ?_⟩
   have S7 := S6.trans u7
   have n7 : t7 ≠ h := (hj.same S6).ne w7
   have A7 := (A6.same u7).add (th_nn f7 hy hx sb1 sa1 l6 n7)
   refine ⟨_, rfl, (by show 2 ≤ sizeLine; decide), fun t8 J8 u8 w8 f8 => ?_⟩
   have S8 := S7.trans u8
   have n8 : t8 ≠ h := (hj.same S7).ne w8
   have A8 := (A7.same u8).add (th_nn f8 (.bl true) hy (Sz.mono (show Sz 1 (b2i true) by unfold Sz; decide) (by omega)) sb1 l6 n8)
   refine ⟨_, rfl, (by show 2 ≤ sizeLine; decide), fun t9 J9 u9 w9 f9 => ?_⟩
   have S9 := S8.trans u9
   have n9 : t9 ≠ h := (hj.same S8).ne w9
   have A9 := (A8.same u9).add (th_nn f9 hx (.bl true) sa1 (Sz.mono (show Sz 1 (b2i true) by unfold Sz; decide) (by omega)) l6 n9)
   refine ⟨(by show 2 ≤ sizeLine; decide), fun t10 J10 u10 w10 f10 => ?_⟩
   have S10 := S9.trans u10
   have n10 : t10 ≠ h := (hj.same S9).ne w10
   have A10 := (A9.same u10).add (th_nn f10 (.bl false) (.int _) (Sz.mono (show Sz 1 (b2i false) by unfold Sz; decide) (by omega)) z1 l6 n10)
   refine ⟨_, rfl, (by show 2 ≤ sizeLine; decide), fun t11 J11 u11 w11 f11 => ?_⟩
   have S11 := S10.trans u11
   have n11 : t11 ≠ h := (hj.same S10).ne w11
   have A11 := (A10.same u11).add (th_two f11 (hx.mb sa1) ⟨_, .oth .non (ki_ni _)⟩ fx .non n11)
   refine ⟨_, rfl, x, a, rfl, hx, Nat.lt_of_lt_of_le ((sa1.mono l6).log2 (by decide)) (by decide), _, rfl, (by show 2 ≤ sizeLine; decide), fun t12 J12 u12 w12 f12 => ?_⟩
   have S12 := S11.trans u12
   have n12 : t12 ≠ h := (hj.same S11).ne w12
   have A12 := (A11.same u12).add (th_two f12 ⟨_, .oth (.str _) (ki_si _)⟩ (hy.mb sb1) (.str _ hsx) fy n12)
   refine ⟨(by show 6 ≤ sizeLine; decide), fun t13 J13 u13 w13 f13 => ?_⟩
   have S13 := S12.trans u13
   have n13 : t13 ≠ h := (hj.same S12).ne w13
   have A13 := A12.same u13
   refine ⟨t6, t13, _, _, rfl, rfl, (u7.trans ( u8.trans ( u9.trans ( u10.trans ( u11.trans ( u12.trans (u13))))))) _ _ f6, f13, (by show 11 ≤ sizeLine; decide), fun t14 J14 u14 w14 f14 => ?_⟩
   have S14 := S13.trans u14
   have n14 : t14 ≠ h := (hj.same S13).ne w14
   have B14 := A13
   have A14 := A13.same u14
   refine ⟨_, rfl, .inl ⟨rfl, _, SqL.of f14⟩, ?_⟩
   refine ⟨_, rfl, _, rfl, (by show 2 ≤ sizeLine; decide), fun t15 J15 u15 w15 f15 => ?_⟩
   have S15 := S14.trans u15
   have n15 : t15 ≠ h := (hj.same S14).ne w15
   have A15 := A14.same u15
   refine ⟨t14, _, _, rfl, rfl, u15 _ _ f14, (by show 11 < sizeLine; decide), ?_⟩
   have nL : t14 ≠ t15 := ne_of_none f14 w15
   have A16 : AllT K (upd J15 t14 (.lst (([V.ref t1, V.ref t2, V.ref t3, V.ref t4, V.ref t5] ++ [V.ref t7, V.ref t8, V.ref t9, V.ref t10, V.ref t11, V.ref t12]) ++ [V.ref t15]))) h (n + 100) _ := AllT.add (fun u hu => (A15 u hu).upd (u15 _ _ f14) ((B14 u hu).new w14)) (th_lst (by rw [upd_ne (Ne.symm nL)]; exact f15) (.cons fx (.cons fy .nil)) (by show 2 ≤ 3; decide) (ki_lt _) n15)
   have hk := hj.same S15
   have kk : Kp h H J15 := k03.trans S15.kp
   have hL0 : H t14 = none := by
    cases hq : H t14 with
    | none => rfl
    | some o => have := (k03.trans S13.kp) _ _ hq n14; rw [w14] at this; cases this
   have kk2 : Kp h H (upd J15 t14 (.lst (([V.ref t1, V.ref t2, V.ref t3, V.ref t4, V.ref t5] ++ [V.ref t7, V.ref t8, V.ref t9, V.ref t10, V.ref t11, V.ref t12]) ++ [V.ref t15]))) := fun b o eb nb => by rw [upd_ne (ne_of_none eb hL0)]; exact kk b o eb nb
   have hk2 : HandAt (upd J15 t14 (.lst (([V.ref t1, V.ref t2, V.ref t3, V.ref t4, V.ref t5] ++ [V.ref t7, V.ref t8, V.ref t9, V.ref t10, V.ref t11, V.ref t12]) ++ [V.ref t15]))) h := hk.set (Ne.symm n14)
   have f16 : (upd J15 t14 (.lst (([V.ref t1, V.ref t2, V.ref t3, V.ref t4, V.ref t5] ++ [V.ref t7, V.ref t8, V.ref t9, V.ref t10, V.ref t11, V.ref t12]) ++ [V.ref t15]))) t14 = some (.lst (([V.ref t1, V.ref t2, V.ref t3, V.ref t4, V.ref t5] ++ [V.ref t7, V.ref t8, V.ref t9, V.ref t10, V.ref t11, V.ref t12]) ++ [V.ref t15])) := upd_same
   generalize (upd J15 t14 (.lst (([V.ref t1, V.ref t2, V.ref t3, V.ref t4, V.ref t5] ++ [V.ref t7, V.ref t8, V.ref t9, V.ref t10, V.ref t11, V.ref t12]) ++ [V.ref t15]))) = J16 at *
   have S16 : Same J16 J16 := Same.refl _
   refine ⟨_, rfl, ?_⟩
   refine ⟨_, rfl, (by show 1 ≤ sizeLine; decide), fun t17 J17 u17 w17 f17 => ?_⟩
   have S17 := S16.trans u17
   have n17 : t17 ≠ h := (hk2.same S16).ne w17
   have A17 := (A16.same u17).add (th_tup f17 (.cons fx .nil) (by show 1 ≠ 2; decide) (by show 1 ≤ 3; decide) n17)
   refine ⟨_, rfl, _, rfl, (by show 3 ≤ sizeLine; decide), fun t18 J18 u18 w18 f18 => ?_⟩
   have S18 := S17.trans u18
   have n18 : t18 ≠ h := (hk2.same S17).ne w18
   have A18 := (A17.same u18).add (th_tup f18 (.cons fx (.cons fy (.cons (.int 1 (by decide)) .nil))) (by show 3 ≠ 2; decide) (by show 3 ≤ 3; decide) n18)
   refine ⟨_, rfl, (by show 1 ≤ sizeLine; decide), fun t19 J19 u19 w19 f19 => ?_⟩
   have S19 := S18.trans u19
   have n19 : t19 ≠ h := (hk2.same S18).ne w19
   have A19 := A18.same u19
   refine ⟨_, rfl, (by show 2 ≤ sizeLine; decide), fun t20 J20 u20 w20 f20 => ?_⟩
   have S20 := S19.trans u20
   have n20 : t20 ≠ h := (hk2.same S19).ne w20
   have A20 := (A19.same u20).add (th_tt f20 (u20 _ _ f19) fx fy (hy.mb sb1) (ki_ti _) n20)
   have Ae := ((A20.add thx).add (th_flat .non .non (ki_nt _) (fun _ z => nomatch z))).add (th_flat (x := .str "1/2") (.str _ (by decide +kernel)) (.str _) (ki_st _) (fun _ z => nomatch z))
   have A20 := Ae
   refine ⟨_, rfl, (by show 0 ≤ sizeLine; decide), fun t21 J21 u21 w21 f21 => ?_⟩
   have S21 := S20.trans u21
   have n21 : t21 ≠ h := (hk2.same S20).ne w21
   have A21 := (A20.same u21).add (th_tup f21 .nil (by show 0 ≠ 2; decide) (by show 0 ≤ 3; decide) n21)
   intro t22 w22 d22
   have u22 : Same J21 (upd J21 t22 (FlatD t22 d22)) := Same.new w22
   have f22 : upd J21 t22 (FlatD t22 d22) t22 = some (FlatD t22 d22) := upd_same
   generalize upd J21 t22 (FlatD t22 d22) = J22 at *
   have S22 := S21.trans u22
   have n22 : t22 ≠ h := (hk2.same S21).ne w22
   have A22 := (A21.same u22).add (th_dct f22 (ki_dt _) n22)
   refine ⟨(by show 2 ≤ sizeLine; decide), fun t23 J23 u23 w23 f23 => ?_⟩
   have S23 := S22.trans u23
   have n23 : t23 ≠ h := (hk2.same S22).ne w23
   have A23 := (A22.same u23).add (th_nn f23 (.int _) (.int _) z0 z1 l6 n23)
   refine ⟨(by show 2 ≤ sizeLine; decide), fun t24 J24 u24 w24 f24 => ?_⟩
   have S24 := S23.trans u24
   have n24 : t24 ≠ h := (hk2.same S23).ne w24
   have A24 := (A23.same u24).add (th_nn f24 (.int _) (.int _) z0 z0 l6 n24)
   refine ⟨(by show 10 ≤ sizeLine; decide), fun t25 J25 u25 w25 f25 => ?_⟩
   have S25 := S24.trans u25
   have n25 : t25 ≠ h := (hk2.same S24).ne w25
   have A25 := A24.same u25
   refine ⟨t14, t25, _, _, rfl, rfl, (u17.trans ( u18.trans ( u19.trans ( u20.trans ( u21.trans ( u22.trans ( u23.trans ( u24.trans (u25))))))))) _ _ f16, f25, (by show 22 ≤ sizeLine; decide), fun t26 J26 u26 w26 f26 => ?_⟩
   have S26 := S25.trans u26
   have n26 : t26 ≠ h := (hk2.same S25).ne w26
   have B26 := A25
   have A26 := A25.same u26
   refine ⟨_, rfl, ?_⟩
   refine ⟨_, rfl, _, rfl, _, _, rfl, rfl, ⟨by decide, by decide, by decide⟩, b, _, hy, rfl, ⟨sb.mono (by omega), zbg.mono (by decide)⟩, _, _, rfl, rfl, (by show 2 ≤ sizeLine; decide), fun t27 J27 u27 w27 f27 => ?_⟩
   have S27 := S26.trans u27
   have n27 : t27 ≠ h := (hk2.same S26).ne w27
   have A27 := (A26.same u27).add (th_nn f27 hx (.int _) sa1 zb2 l6 n27)
   intro t28 w28
   refine ⟨_, rfl, _, rfl, upd_same, by show 2 ≤ 15; decide, ds1, fun d28 => ?_⟩
   rw [upd_upd]
   have u28 : Same J27 (upd J27 t28 (FlatD t28 d28)) := Same.new w28
   have f28 : upd J27 t28 (FlatD t28 d28) t28 = some (FlatD t28 d28) := upd_same
   generalize upd J27 t28 (FlatD t28 d28) = J28 at *
   have S28 := S27.trans u28
   have n28 : t28 ≠ h := (hk2.same S27).ne w28
   have A28 := (A27.same u28).add (th_dct f28 (ki_dt _) n28)
   intro t29 w29
   refine ⟨_, rfl, _, rfl, upd_same, by show 2 ≤ 15; decide, ds2, fun d29 => ?_⟩
   rw [upd_upd]
   have u29 : Same J28 (upd J28 t29 (FlatD t29 d29)) := Same.new w29
   have f29 : upd J28 t29 (FlatD t29 d29) t29 = some (FlatD t29 d29) := upd_same
   generalize upd J28 t29 (FlatD t29 d29) = J29 at *
   have S29 := S28.trans u29
   have n29 : t29 ≠ h := (hk2.same S28).ne w29
   have A29 := (A28.same u29).add (th_dct f29 (ki_dt _) n29)
   refine ⟨(by show 3 ≤ sizeLine; decide), fun t30 J30 u30 w30 f30 => ?_⟩
   have S30 := S29.trans u30
   have n30 : t30 ≠ h := (hk2.same S29).ne w30
   have A30 := A29.same u30
   refine ⟨t26, t30, _, _, rfl, rfl, (u27.trans ( u28.trans ( u29.trans (u30)))) _ _ f26, f30, (by show 25 ≤ sizeLine; decide), fun t31 J31 u31 w31 f31 => ?_⟩
   have S31 := S30.trans u31
   have n31 : t31 ≠ h := (hk2.same S30).ne w31
   have B31 := A30
   have A31 := A30.same u31
   refine ⟨_, rfl, _, rfl, h, 25, rfl, by decide, by decide, hk2.same S31, fun v9 G9 a9 b9 hh9 k9 => ?_⟩
   have f9 := k9 _ _ f31 n31
   obtain ⟨u9, e9, m9⟩ := atI_at f9 a9 (by show v9 < 25; exact b9)
   refine ⟨t31, _, _, _, rfl, rfl, SqL.of f9, e9, ?_⟩
   exact k _ _ hh9 ((kk2.trans S31.kp).trans k9) ((A31 u9 (by simpa using m9)).kp (hk2.same S31) hh9 k9)
end
end Lw

set_option pp.maxSteps 800
namespace Lw
open PySem L2 PyProof.Rows
section
variable {P : Program} {w : World} {K : PySem.W.Frag} {mg : Str → Option Value} {base : Heap}
theorem scNumber : FnScope ["hand", "some"] ["hand"] (defScope s_law_number) := ⟨rfl, rfl, rfl, by decide +kernel, rfl, by decide +kernel, by decide +kernel⟩
theorem ok_number {f fD : Addr} {fd fdD : FuncData} (F : Fun K "_law_number" "_law_number" s_law_number f fd) (FD : Fun K "_law_draw" "_law_draw" sDraw fD fdD) (mD : mg "_law_draw" = some (.ref fD)) (bD : Binds K fdD ["hand", "limit"] []) :
 FnOk P w K mg base CX0 2 f fd ["hand"] spNumber := by
 have GD : FnOk P w K mg base CX0 1 fD fdD ["hand", "limit"] spDraw := ok_draw FD
 refine F.ok scNumber (fun vs H Q E h => ?_) (fun cdv A outer s H vs Q E hr h => ?_)
 · obtain ⟨x, rfl, _⟩ := h
   rfl
 · obtain ⟨p, rfl, hh, k⟩ := h
   refine ⟨_, @pss_cons _ _ _ _ _ (@ps_setX _ _ 1 _ _ _ _ (by rfl) (Or.inl rfl) scNumber.nd rfl (Or.inl rfl) (pe_lst (@pa_consX _ _ _ _ _ (by rfl) (pe_op op_sub (pe_call GD hr rfl mD FD.kp bD .nil pass0 (@pa_consX _ _ _ _ _ (by rfl) (pv 0) (@pa_consX _ _ _ _ _ (by rfl) pe_int pa_nil))) pe_int)
    (@pa_consX _ _ _ _ _ (by rfl) (pe_op op_sub (pe_call GD hr rfl mD FD.kp bD .nil pass0 (@pa_consX _ _ _ _ _ (by rfl) (pv 0) (@pa_consX _ _ _ _ _ (by rfl) pe_int pa_nil))) pe_int)
    (@pa_consX _ _ _ _ _ (by rfl) (pe_call GD hr rfl mD FD.kp bD .nil pass0 (@pa_consX _ _ _ _ _ (by rfl) (pv 0) (@pa_consX _ _ _ _ _ (by rfl) (pe_op op_pow pe_int pe_int) pa_nil))) pa_nil)))))
    (@pss_cons _ _ _ _ _ (ps_expr (pe_bm PySem.F.plainAttrs_list PySem.F.slot_list_append PySem.F.type_list_append mt_append (pv 1) (@pa_consX _ _ _ _ _ (by rfl) (pe_op op_pow (pe_call GD hr rfl mD FD.kp bD .nil pass0 (@pa_consX _ _ _ _ _ (by rfl) (pv 0) (@pa_consX _ _ _ _ _ (by rfl) (pe_op op_pow pe_int pe_int) pa_nil))) pe_int) pa_nil)))
    (@pss_one _ _ _ (@ps_ret _ _ _ _ (pe_op op_mul (pe_ix ix_list (pv 1) (pe_call GD hr rfl mD FD.kp bD .nil pass0 (@pa_consX _ _ _ _ _ (by rfl) (pv 0) (@pa_consX _ _ _ _ _ (by rfl) pe_int pa_nil))) (fun _ _ => rfl))
     (pe_ix ix_list (pe_lst (@pa_consX _ _ _ _ _ (by rfl) pe_int (@pa_consX _ _ _ _ _ (by rfl) (pe_un un_neg pe_int) pa_nil))) (pe_call GD hr rfl mD FD.kp bD .nil pass0 (@pa_consX _ _ _ _ _ (by rfl) (pv 0) (@pa_consX _ _ _ _ _ (by rfl) pe_int pa_nil))) (fun _ _ => rfl)))))), ?_⟩
   refine ⟨_, rfl, p, 7, rfl, by decide, by decide, hh, fun v1 H1 a1 b1 h1 k1 => ?_⟩
   refine ⟨_, _, rfl, rfl, _, rfl, p, 200, rfl, by decide, by decide, h1, fun v2 H2 a2 b2 h2 k2 => ?_⟩
   refine ⟨_, _, rfl, rfl, _, rfl, _, _, rfl, rfl, ⟨by decide, by decide, by decide⟩, p, _, rfl, by decide, by decide, h2, fun v3 H3 a3 b3 h3 k3 => ?_⟩
   have b3' : v3 < 1000000000000 := b3
   refine ⟨(by show 3 ≤ sizeLine; decide), fun q hq => ?_⟩
   have hqp := h3.ne hq
   refine ⟨_, rfl, .inl ⟨rfl, _, SqL.of upd_same⟩, ?_⟩
   refine ⟨_, rfl, _, _, rfl, rfl, ⟨by decide, by decide, by decide⟩, p, _, rfl, by decide, by decide, h3.new hq, fun v4 H4 a4 b4 h4 k4 => ?_⟩
   have b4' : v4 < 1000000000 := b4
   have hq4 := k4 q _ upd_same hqp
   refine ⟨_, _, rfl, rfl, ⟨by decide, by decide, by omega⟩, q, _, _, rfl, rfl, hq4, (by show 3 < sizeLine; decide), ?_⟩
   have h5 : HandAt (upd H4 q (.lst ([V.int (v1 - 3), V.int (v2 - 100), V.int v3] ++ [V.int (v4 ^ (3 : Int).toNat)]))) p := by
    obtain ⟨x, y, e, r⟩ := h4
    exact ⟨x, y, by rw [upd_ne (Ne.symm hqp)]; exact e, r⟩
   refine ⟨_, rfl, _, rfl, p, 4, rfl, by decide, by decide, h5, fun v5 H5 a5 b5 h5' k5 => ?_⟩
   have hq5 := k5 q _ upd_same hqp
   obtain ⟨z, hz1, hz2⟩ : ∃ z : Int, atI ([V.int (v1 - 3), V.int (v2 - 100), V.int v3] ++ [V.int (v4 ^ (3 : Int).toNat)]) v5 = some (V.int z) ∧ z.natAbs < 2 ^ 90 := by
    have h4p : (v4 ^ (3 : Int).toNat).natAbs < 2 ^ 90 := by
     show (v4 ^ 3).natAbs < 2 ^ 90
     rw [Int.natAbs_pow]
     exact Nat.lt_of_lt_of_le (Nat.pow_lt_pow_left (show v4.natAbs < 2 ^ 30 by omega) (by decide)) (by decide)
    have c : v5 = 0 ∨ v5 = 1 ∨ v5 = 2 ∨ v5 = 3 := by omega
    rcases c with rfl | rfl | rfl | rfl
    · exact ⟨_, rfl, by omega⟩
    · exact ⟨_, rfl, by omega⟩
    · exact ⟨_, rfl, by omega⟩
    · exact ⟨_, rfl, h4p⟩
   refine ⟨q, _, _, _, rfl, rfl, SqL.of hq5, hz1, ?_⟩
   refine ⟨_, rfl, (by show 2 ≤ sizeLine; decide), fun r hr' => ?_⟩
   refine ⟨_, rfl, p, 2, rfl, by decide, by decide, h5'.new hr', fun v6 H6 a6 b6 h6 k6 => ?_⟩
   have hr6 := k6 r _ upd_same (h5'.ne hr')
   obtain ⟨y, hy1, hy2⟩ : ∃ y : Int, atI [V.int 1, V.int (-1)] v6 = some (V.int y) ∧ (y = 1 ∨ y = -1) := by
    have c : v6 = 0 ∨ v6 = 1 := by omega
    rcases c with rfl | rfl
    · exact ⟨1, rfl, .inl rfl⟩
    · exact ⟨-1, rfl, .inr rfl⟩
   refine ⟨r, _, _, _, rfl, rfl, SqL.of hr6, hy1, _, _, rfl, rfl, .inr ⟨by omega, by omega⟩, ?_⟩
   refine k _ _ ?_ h6 fun b o e n => ?_
   · rcases hy2 with rfl | rfl
     · rw [Int.mul_one]; exact sz_of 90 hz2
     · exact sz_of 90 (by rw [Int.mul_neg, Int.mul_one, Int.natAbs_neg]; exact hz2)
   · have e3 := (k1.trans (k2.trans k3)) b o e n
     have e4 := k4 b o (Kp.new hq b o e3 n) n
     exact k6 b o (Kp.new hr' b o (k5 b o (by rw [upd_ne (ne_of_none e3 hq)]; exact e4) n) n) n
theorem d_number (S : Fnd K mg "_law_number" s_law_number ["hand"]) (D : Fnd K mg "_law_draw" sDraw ["hand", "limit"]) : Def P w K mg base 2 "_law_number" ["hand"] spNumber := by
 obtain ⟨fD, fdD, FD, mD, bD⟩ := D
 exact S.def fun f fd F => ok_number F FD mD bD
theorem d_frac (S : Fnd K mg "_law_frac" sFrac ["above", "below"]) (T : Txt mg) : Def P w K mg base 1 "_law_frac" ["above", "below"] spFracS := S.def fun f fd F => fracS (ok_frac F T.abs)
theorem d_draw (S : Fnd K mg "_law_draw" sDraw ["hand", "limit"]) : Def P w K mg base 1 "_law_draw" ["hand", "limit"] spDraw := S.def fun f fd F => ok_draw F
theorem d_hand (S : Fnd K mg "_law_hand" sHand ["cell", "k"]) : Def P w K mg base 1 "_law_hand" ["cell", "k"] spHand := S.def fun f fd F => ok_hand F
theorem d_cells (S : Fnd K mg "_law_cells" sCells ["script", "many"]) (T : Txt mg) : Def P w K mg base 1 "_law_cells" ["script", "many"] (spCells K) := S.def fun f fd F => ok_cells F T.lst T.enu T.int
theorem d_common (S : Fnd K mg "common" sCommon ["one", "other"]) : Def P w K mg base 1 "common" ["one", "other"] spCommon := S.def fun f fd F => ok_common F
end
end Lw

set_option pp.maxSteps 800
namespace Lw
open PySem L2 PyProof.Rows
section
variable {P : Program} {w : World} {K : PySem.W.Frag} {mg : Str → Option Value} {base : Heap}
theorem scLaw : FnScope ["script", "deep", "k", "cell", "hand", "one", "bad", "again", "thing", "kept", "told"] ["script"] (defScope sLaw) := ⟨rfl, rfl, rfl, by decide +kernel, rfl, by decide +kernel, by decide +kernel⟩
set_option maxHeartbeats 0 in
theorem ok_law {f : Addr} {fd : FuncData} (F : Fun K "law" "law" sLaw f fd) (T : Txt mg) (zrepr : mg "repr" = none) (Is : Def P w K mg base 3 "is_fraction" ["thing"] (spIsFrA K)) (Li : Def P w K mg base 2 "_law_is" ["thing"] (spLIsA K)) (Ce : Def P w K mg base 1 "_law_cells" ["script", "many"] (spCells K)) (Hd : Def P w K mg base 1 "_law_hand" ["cell", "k"] spHand) (Fr : Def P w K mg base 1 "_law_frac" ["above", "below"] spFracS) (Nu : Def P w K mg base 2 "_law_number" ["hand"] spNumber) (Bd : Def P w K mg base 2 "_law_bad" ["hand", "one"] (spBadA K)) : FnOk P w K mg base CX0 5 f fd ["script"] (spLaw K) := by
 have nd := scLaw.nd
 refine F.ok scLaw (fun vs H Q E h => ?_) (fun cdv A' outer s H vs Q E hr h => ?_)
 · obtain ⟨_, _, rfl, _⟩ := h
   rfl
 · obtain ⟨a, ns, rfl, hS, hlen, k⟩ := h
   refine ⟨_, (@pss_cons _ _ _ _ _ (@ps_setX _ _ 1 _ _ _ _ (by rfl) (Or.inl rfl) nd rfl (Or.inl rfl) (@pe_lstS _ _ _ _ (@pa_consX _ _ _ _ _ (by rfl) (@pe_tupS _ _ _ _ _ pa_nil) (@pa_consX _ _ _ _ _ (by rfl) (@pe_lstS _ _ _ _ pa_nil) pa_nil))))
    (@pss_cons _ _ _ _ _ (@ps_forX _ _ _ _ _ _ _ _ (fun _ => rfl) PassesOwn.never rfl (pi_range1 rfl T.range (@pa_consX _ _ _ _ _ (by rfl) pe_int pa_nil)) (pg_name (i := 2) nd rfl (Or.inl rfl))
     (@pss_one _ _ _ (@ps_setX _ _ 1 _ _ _ _ (by rfl) (Or.inl rfl) nd rfl (Or.inl rfl) (@pe_lstS _ _ _ _ (@pa_consX _ _ _ _ _ (by rfl) (@pe_tupS _ _ _ _ _ (@pa_consX _ _ _ _ _ (by rfl) (pe_ix ix_list (pv 1) pe_int (fun _ _ => rfl)) pa_nil)) (@pa_consX _ _ _ _ _ (by rfl) (@pe_lstS _ _ _ _ (@pa_consX _ _ _ _ _ (by rfl) (pe_ix ix_list (pv 1) pe_int (fun _ _ => rfl)) pa_nil)) pa_nil))))))
    (@pss_cons _ _ _ _ _ (@ps_if _ _ _ _ _ _ _ _ (pt_cmpR (op_neNil hr) (pe_compC ["thing"] [none] rfl (@pi_list _ _ _ _ (pe_op op_catS (pv 1) (@pe_lstS _ _ _ _ (@pa_consX _ _ _ _ _ (by rfl) (@pe_tupS _ _ _ _ _ (@pa_consX _ _ _ _ _ (by rfl) (pe_ix ix_list (pv 1) pe_int (fun _ _ => rfl)) (@pa_consX _ _ _ _ _ (by rfl) pe_int pa_nil))) (@pa_consX _ _ _ _ _ (by rfl) (@pe_tupS _ _ _ _ _ (@pa_consX _ _ _ _ _ (by rfl) pe_int (@pa_consX _ _ _ _ _ (by rfl) (pe_ix ix_list (pv 1) pe_int (fun _ _ => rfl)) pa_nil))) pa_nil))))) (by show ∀ y : Str × NameKind, y ∈ _ → y.2 = NameKind.free → (defScope sLaw).names.lookup y.1 = some .cell; decide +kernel) (by decide) rfl (by decide +kernel) trivial
     (fun cl C s H fp => (pg_name (i := 0) (show (["thing"] : List Str).Nodup by decide +kernel) rfl (Or.inl rfl) (.inr rfl)))
     (fun cl C s H fp => (pts_one (pt_cmpR op_notB (pe_def (by rfl) (by rfl) (by rfl) (by decide) Is (hr.mono (by decide)) (@pa_consX _ _ _ _ _ (by rfl) (pv 0) pa_nil)) pe_bl (nomark _))))
     (fun cl C s H fp => (pv 0))) (@pe_lstS _ _ _ _ pa_nil) (nomark _))
     (@pss_one _ _ _ (@ps_ret _ _ _ _ pe_bl))
     pss_nil)
    (@pss_cons _ _ _ _ _ (@ps_forX _ _ _ _ _ _ _ _ (fun _ => rfl) PassesOwn.never rfl (@pi_list _ _ _ _ (pe_def (by rfl) (by rfl) (by rfl) (by decide) Ce (hr.mono (by decide)) (@pa_consX _ _ _ _ _ (by rfl) (pv 0) (@pa_consX _ _ _ _ _ (by rfl) pe_int pa_nil)))) (pg_tup rfl (pgs_cons (pg_name (i := 2) nd rfl (Or.inl rfl)) (pgs_cons (pg_name (i := 3) nd rfl (Or.inl rfl)) pgs_nil)))
     (@pss_cons _ _ _ _ _ (@ps_setX _ _ 4 _ _ _ _ (by rfl) (Or.inl rfl) nd rfl (Or.inl rfl) (pe_def (by rfl) (by rfl) (by rfl) (by decide) Hd (hr.mono (by decide)) (@pa_consX _ _ _ _ _ (by rfl) (pv 3) (@pa_consX _ _ _ _ _ (by rfl) (pv 2) pa_nil))))
    (@pss_cons _ _ _ _ _ (@ps_setX _ _ 5 _ _ _ _ (by rfl) (Or.inl rfl) nd rfl (Or.inl rfl) (pe_def (by rfl) (by rfl) (by rfl) (by decide) Fr (hr.mono (by decide)) (@pa_consX _ _ _ _ _ (by rfl) (pe_def (by rfl) (by rfl) (by rfl) (by decide) Nu (hr.mono (by decide)) (@pa_consX _ _ _ _ _ (by rfl) (pv 4) pa_nil)) (@pa_consX _ _ _ _ _ (by rfl) (pe_op op_add pe_int (pe_callB call_abs (by rfl) T.abs boot_abs (@pa_consX _ _ _ _ _ (by rfl) (pe_def (by rfl) (by rfl) (by rfl) (by decide) Nu (hr.mono (by decide)) (@pa_consX _ _ _ _ _ (by rfl) (pv 4) pa_nil)) pa_nil))) pa_nil))))
    (@pss_cons _ _ _ _ _ (@ps_setX _ _ 6 _ _ _ _ (by rfl) (Or.inl rfl) nd rfl (Or.inl rfl) (pe_def (by rfl) (by rfl) (by rfl) (by decide) Bd (hr.mono (by decide)) (@pa_consX _ _ _ _ _ (by rfl) (pv 4) (@pa_consX _ _ _ _ _ (by rfl) (pv 5) pa_nil))))
    (@pss_cons _ _ _ _ _ (@ps_setX _ _ 7 _ _ _ _ (by rfl) (Or.inl rfl) nd rfl (Or.inl rfl) (pv 5))
    (@pss_mid _ _ _ _ _ (@ps_if _ _ _ _ _ _ _ _ (PW.pt (pw_and (pt_val (pe_callB call_isiU (by rfl) T.isi boot_isinstance (@pa_consX _ _ _ _ _ (by rfl) (pv 6) (@pa_consX _ _ _ _ _ (by rfl) (pe_bltn (v := .ty "tuple") (by rfl) T.tup boot_tuple rfl) pa_nil)))) (pw_and (pt_cmpR op_eq (pe_callB call_len_seq (by rfl) T.len PySem.boot_len (@pa_consX _ _ _ _ _ (by rfl) (pv 6) pa_nil)) pe_int (nomark _)) (pw_and (pt_val (pe_callB call_isi (by rfl) T.isi boot_isinstance (@pa_consX _ _ _ _ _ (by rfl) (pe_ix ix_tup (pv 6) pe_int (fun _ _ => rfl)) (@pa_consX _ _ _ _ _ (by rfl) (pe_bltn (v := .ty "int") (by rfl) T.int boot_int rfl) pa_nil)))) (pw_and1 (pt_val (pe_callB call_isi (by rfl) T.isi boot_isinstance (@pa_consX _ _ _ _ _ (by rfl) (pe_ix ix_tup (pv 6) pe_int (fun _ _ => rfl)) (@pa_consX _ _ _ _ _ (by rfl) (pe_bltn (v := .ty "int") (by rfl) T.int boot_int rfl) pa_nil)))))))))
     (@pss_one _ _ _ (@ps_setX _ _ 7 _ _ _ _ (by rfl) (Or.inl rfl) nd rfl (Or.inl rfl) (pv 6)))
     pss_nil)
    (@pss_one _ _ _ (@ps_forX _ _ _ _ _ _ _ _ (fun _ => rfl) PassesOwn.never rfl (@pi_list _ _ _ _ (@pe_lstS _ _ _ _ (@pa_consX _ _ _ _ _ (by rfl) (pv 5) (@pa_consX _ _ _ _ _ (by rfl) (pv 6) (@pa_consX _ _ _ _ _ (by rfl) (pe_def (by rfl) (by rfl) (by rfl) (by decide) Bd (hr.mono (by decide)) (@pa_consX _ _ _ _ _ (by rfl) (pv 4) (@pa_consX _ _ _ _ _ (by rfl) (pv 7) pa_nil))) (@pa_consX _ _ _ _ _ (by rfl) (pe_def (by rfl) (by rfl) (by rfl) (by decide) Bd (hr.mono (by decide)) (@pa_consX _ _ _ _ _ (by rfl) (pv 4) (@pa_consX _ _ _ _ _ (by rfl) (pv 5) pa_nil))) pa_nil)))))) (pg_name (i := 8) nd rfl (Or.inl rfl))
     (@pss_cons _ _ _ _ _ (@ps_setX _ _ 9 _ _ _ _ (by rfl) (Or.inl rfl) nd rfl (Or.inl rfl) (pe_callB (call_reprT hr) (by rfl) zrepr boot_repr (@pa_consX _ _ _ _ _ (by rfl) (pv 8) pa_nil)))
    (@pss_cons _ _ _ _ _ (@ps_setX _ _ 10 _ _ _ _ (by rfl) (Or.inl rfl) nd rfl (Or.inl rfl) (pe_def (by rfl) (by rfl) (by rfl) (by decide) Is (hr.mono (by decide)) (@pa_consX _ _ _ _ _ (by rfl) (pv 8) pa_nil)))
    (@pss_one _ _ _ (@ps_if _ _ _ _ _ _ _ _ (PW.pt (pw_or (pt_not (pt_val (pe_callB call_isi (by rfl) T.isi boot_isinstance (@pa_consX _ _ _ _ _ (by rfl) (pv 10) (@pa_consX _ _ _ _ _ (by rfl) (pe_bltn (v := .ty "bool") (by rfl) T.bool boot_bool rfl) pa_nil))))) (pw_or (pt_cmpR op_ne (pv 10) (pe_def (by rfl) (by rfl) (by rfl) (by decide) Li (hr.mono (by decide)) (@pa_consX _ _ _ _ _ (by rfl) (pv 8) pa_nil)) (nomark _)) (pw_or1 (pt_cmpR op_ne (pe_callB (call_reprT hr) (by rfl) zrepr boot_repr (@pa_consX _ _ _ _ _ (by rfl) (pv 8) pa_nil)) (pv 9) (nomark _))))))
     (@pss_one _ _ _ (@ps_ret _ _ _ _ pe_bl))
     pss_nil))))))))))))
    (@pss_one _ _ _ (@ps_ret _ _ _ _ pe_bl)))))), ?_⟩
   refine ⟨(by show 0 ≤ sizeLine; decide), fun x0 G1 s1 m1 e1 => ⟨(by show 0 ≤ sizeLine; decide), fun y0 G2 s2 m2 e2 => ⟨(by show 2 ≤ sizeLine; decide), fun dp0 G3 s3 m3 e3 => ⟨2000, rfl, by decide, by decide, ?_⟩⟩⟩⟩
   refine for_range (lo := 0) (n := (2000 : Int).toNat) (fun i σ G => ∃ (dp x y : Addr) (xs ys : List V) (v2 : Option V), Same H G ∧ G dp = some (.lst [.ref x, .ref y]) ∧ G x = some (.tup xs) ∧ xs.length ≠ 2 ∧ G y = some (.lst ys) ∧ σ = [some (.ref a), some (.ref dp), v2, none, none, none, none, none, none, none, none]) ⟨dp0, x0, y0, _, _, none, s1.trans (s2.trans s3), e3, s3 _ _ (s2 _ _ e1), by show 0 ≠ 2; decide, s3 _ _ e2, rfl⟩ ?_ ?_
   · rintro i σ G hi ⟨dp, x, y, xs, ys, v2, sG, e, ex, lx, ey, rfl⟩
     refine ⟨_, rfl, dp, _, _, _, rfl, rfl, SqL.of e, rfl, (by show 1 ≤ sizeLine; decide), fun t1 J1 u1 w1 f1 => ⟨_, rfl, dp, _, _, _, rfl, rfl, SqL.of (u1 _ _ e), rfl, (by show 1 ≤ sizeLine; decide), fun t2 J2 u2 w2 f2 => ⟨(by show 2 ≤ sizeLine; decide), fun t3 J3 u3 w3 f3 => ?_⟩⟩⟩
     exact ⟨t3, t1, t2, _, _, _, sG.trans (u1.trans (u2.trans u3)), f3, u3 _ _ (u2 _ _ f1), by show 1 ≠ 2; decide, u3 _ _ f2, rfl⟩
   rintro σ G ⟨dp, x, y, xs, ys, v2, sG, e, ex, lx, ey, rfl⟩
   refine ⟨_, rfl, _, rfl, dp, _, _, _, rfl, rfl, SqL.of e, rfl, (by show 2 ≤ sizeLine; decide), fun t1 J1 u1 w1 f1 => ⟨_, rfl, dp, _, _, _, rfl, rfl, SqL.of (u1 _ _ e), rfl, (by show 2 ≤ sizeLine; decide), fun t2 J2 u2 w2 f2 => ⟨(by show 2 ≤ sizeLine; decide), fun t3 J3 u3 w3 f3 => ?_⟩⟩⟩
   have u13 := u1.trans (u2.trans u3)
   refine ⟨dp, t3, _, _, rfl, rfl, u13 _ _ e, f3, (by show 4 ≤ sizeLine; decide), fun L J u w f => ⟨L, rfl, ⟨_, SqL.of f⟩, fun D hD => ?_⟩⟩
   have uJ := u13.trans u
   have tp : ∀ v ∈ ([.ref x, .ref y] ++ [.ref t1, .ref t2] : List V), Tp K J 1000 v none := by
    intro v hv
    simp only [List.cons_append, List.nil_append, List.mem_cons, List.not_mem_nil, or_false] at hv
    rcases hv with rfl | rfl | rfl | rfl
    · exact .len (uJ _ _ ex) lx
    · exact .no (.inl (.lst (uJ _ _ ey))) (ki_lt _)
    · exact .two (ox := none) (oy := some 1) (u _ _ (u3 _ _ (u2 _ _ f1))) (.oth (.tup (uJ _ _ ex)) (ki_ti _)) (.int 1 (by unfold Sz; decide +kernel))
    · exact .two (ox := some 1) (oy := none) (u _ _ (u3 _ _ f2)) (.int 1 (by unfold Sz; decide +kernel)) (.oth (.lst (uJ _ _ ey)) (ki_li _))
   refine comp_lst (K := K) (a := L) (D := D) (xs := [.ref x, .ref y] ++ [.ref t1, .ref t2]) (fun i zs σ H' => Same J H' ∧ H' D = some (.lst zs) ∧ zs = [] ∧ ∃ v, σ = [v]) ?_ ?_ ?_ ?_
   · exact ⟨Same.new hD, upd_same, rfl, none, rfl⟩
   · rintro i zs σ H' ⟨s1, e1, _⟩
     exact ⟨SqL.of (s1 _ _ f), e1⟩
   · rintro i z zs σ H' hi hlt ⟨s1, e1, rfl, v, rfl⟩
     refine ⟨_, rfl, z, none, rfl, (tp z (List.mem_of_getElem? hi)).same s1, _, _, rfl, rfl, _, rfl, ifF rfl ?_⟩
     exact Wt.next hlt ⟨s1, e1, rfl, _, rfl⟩
   rintro zs σ H' ⟨s1, e1, rfl, _⟩
   refine ⟨(by show 0 ≤ sizeLine; decide), fun l H2 s2 _ hl2 => ?_⟩
   refine ⟨D, l, [], rfl, rfl, .inr ⟨SqL.of (s2 _ _ e1), SqL.of hl2⟩, _, rfl, ifF rfl ?_⟩
   have sH := sG.trans (uJ.trans (s1.trans s2))
   clear tp s1 e1 s2 hl2 f u uJ u13 f3 u3 f2 u2 f1 u1 e ex ey sG
   refine ⟨_, rfl, a, 40, ns, rfl, (hS.imp (fun r => r.imp (sH _ _) fun ⟨o, e⟩ => ⟨o, sH _ _ e⟩) id), hlen, fun H1 L xs ts s1 hL hLl hts hT hAI hxl => ⟨L, rfl, ⟨_, SqL.of hLl⟩, ?_⟩⟩
   refine for_list (K := K) (a := L) (xs := ts) (fun i σ G => Same H1 G ∧ ∃ v2 v3 v4 v5 v6 v7 v8 v9 v10 : Option V, σ = [some (.ref a), some (.ref dp), v2, v3, v4, v5, v6, v7, v8, v9, v10])
    ⟨Same.refl _, v2, none, none, none, none, none, none, none, none, rfl⟩ (fun i σ G _ ⟨k2, _⟩ => SqL.of (k2 _ _ hLl)) ?_ ?_
   · rintro i t σ G0 hi ⟨s2, v2, v3, v4, v5, v6, v7, v8, v9, v10, rfl⟩
     have hil : i < ts.length := (List.getElem?_eq_some_iff.mp hi).1
     obtain ⟨c0, T', hc, rfl, hTT⟩ := hT i t hi
     obtain ⟨c, rfl⟩ := hAI i c0 hc
     refine ⟨T', _, rfl, SqT.of (s2 _ _ hTT), rfl, _, _, rfl, _, _, rfl, rfl, ?_⟩
     refine ⟨_, rfl, _, rfl, c, i, rfl, by omega, by omega, fun h Ga hp hh s3 => ?_⟩
     refine ⟨_, rfl, h, rfl, hh, fun n1 Gb z1 hh1 k1 => ⟨_, rfl, h, rfl, hh1, fun n2 Gc z2 hh2 k2 => ⟨_, rfl, _, _, rfl, rfl, n1, _, rfl, by split <;> omega, z1.mono (by decide), ?_, fun p Gd s4 m4 e4 => ?_⟩⟩⟩
     · have := z2
       unfold Sz at this ⊢
       have : (2 : Nat) ^ 100 < 2 ^ 8000 - 1 := by decide +kernel
       split <;> omega
     have b0 : (1 + if n2 < 0 then -n2 else n2) ≠ 0 := by split <;> omega
     have hh3 := hh2.same s4
     have hsz : Sz 110 (Pw.mk n1 (1 + if n2 < 0 then -n2 else n2)).1 ∧ Sz 110 (Pw.mk n1 (1 + if n2 < 0 then -n2 else n2)).2 := by
      have hl := Pw.mk_le (a := n1) b0
      have q1 : n1.natAbs < 2 ^ 100 := z1
      have q2 : n2.natAbs < 2 ^ 100 := z2
      have q3 : (2 : Nat) ^ 100 + 1 < 2 ^ 110 := by decide +kernel
      unfold Sz
      refine ⟨by omega, ?_⟩
      have : (1 + if n2 < 0 then -n2 else n2).natAbs ≤ n2.natAbs + 1 := by split <;> omega
      omega
     have np : NP Gd 110 p := ⟨_, _, _, _, e4, .int _, .int _, hsz.1, hsz.2⟩
     have th0 : Thg K Gd h 400 (.ref p) := th_nn e4 (.int _) (.int _) (hsz.1.mono (by decide)) (hsz.2.mono (by decide)) (by decide) (hh2.ne m4)
     generalize Pw.mk n1 (1 + if n2 < 0 then -n2 else n2) = A0 at *
     refine ⟨_, rfl, _, rfl, h, p, 110, rfl, hh3, np, by decide, by decide, fun v1 Ge hh4 k4 th1 => ?_⟩
     have NPk : ∀ {m : Nat} {q : Addr} {J J' : Hp}, NP J m q → HandAt J h → Kp h J J' → NP J' m q := fun ⟨x, y, a, b, e, r⟩ hj kj => ⟨x, y, a, b, tup_kp hj kj e, r⟩
     have np4 := NPk np hh3 k4
     refine ⟨_, rfl, ?_⟩
     refine ⟨fun σ G' => ∃ q, G' = Ge ∧ NP Ge 210 q ∧ σ = [some (.ref a), some (.ref dp), some (.int i), some (.int c), some (.ref h), some (.ref p), some v1, some (.ref q), v8, v9, v10], ?_, ?_⟩
     · have els : ∃ q, Ge = Ge ∧ NP Ge 210 q ∧ ([some (.ref a), some (.ref dp), some (.int i), some (.int c), some (.ref h), some (.ref p), some v1, some (.ref p), v8, v9, v10] : L2.St) = [some (.ref a), some (.ref dp), some (.int i), some (.int c), some (.ref h), some (.ref p), some v1, some (.ref q), v8, v9, v10] := by
        obtain ⟨x, y, a, b, e, n1, n2, z1, z2⟩ := np4
        exact ⟨p, rfl, ⟨x, y, a, b, e, n1, n2, z1.mono (by decide), z2.mono (by decide)⟩, rfl⟩
       obtain ⟨o, d, tp, _, _⟩ := id th1
       cases tp with
       | no ty e => exact ⟨_, rfl, _, _, _, false, rfl, ty, e, _, rfl, ifF rfl els⟩
       | @len q xs e l =>
         refine ⟨_, rfl, _, _, _, true, rfl, .inl (.tup e), isi_tt _, _, rfl, ifT rfl ?_⟩
         exact ⟨_, rfl, q, _, rfl, .inr (SqT.of e), rfl, _, rfl, ifF (decide_eq_false fun z => by have := V.int.inj z; omega) els⟩
       | @two q x y ox oy e hx hy =>
         refine ⟨_, rfl, _, _, _, true, rfl, .inl (.tup e), isi_tt _, _, rfl, ifT rfl ?_⟩
         refine ⟨_, rfl, q, _, rfl, .inr (SqT.of e), rfl, _, rfl, ifT rfl ?_⟩
         have hn : ∀ {u : V} {ou : Option Int}, Mb K Ge (110 + 100) u ou → (∃ t, TyOf K Ge u t ∧ PySem.W.kitOne K t (.type "int") = some false) ∨ ∃ t m, TyOf K Ge u t ∧ PySem.W.kitOne K t (.type "int") = some true ∧ Nm u m ∧ Sz 210 m := by
          intro u ou mu
          cases mu with
          | int i s => exact .inr ⟨_, i, .int i, isi_ii _, .int i, s⟩
          | bl b => exact .inr ⟨_, _, .bl b, isi_bi _, .bl b, Sz.mono (show Sz 1 (b2i b) by unfold Sz; cases b <;> decide) (by decide)⟩
          | oth ty e => exact .inl ⟨_, ty, e⟩
         rcases hn hx with ⟨t, ty, ef⟩ | ⟨t, ma, ty, et, nx, sx⟩
         · exact ⟨_, rfl, q, _, _, _, rfl, rfl, SqT.of e, rfl, _, _, _, false, rfl, ty, ef, _, rfl, ifF rfl els⟩
         refine ⟨_, rfl, q, _, _, _, rfl, rfl, SqT.of e, rfl, _, _, _, true, rfl, ty, et, _, rfl, ifT rfl ?_⟩
         rcases hn hy with ⟨t', ty', ef⟩ | ⟨t', mb, ty', et', ny, sy⟩
         · exact ⟨_, rfl, q, _, _, _, rfl, rfl, SqT.of e, rfl, _, _, _, false, rfl, ty', ef, _, rfl, ifF rfl els⟩
         refine ⟨_, rfl, q, _, _, _, rfl, rfl, SqT.of e, rfl, _, _, _, true, rfl, ty', et', _, rfl, ifT rfl ?_⟩
         exact ⟨_, rfl, q, rfl, ⟨x, y, ma, mb, e, nx, ny, sx, sy⟩, rfl⟩
     rintro σ G' ⟨q, rfl, npq, rfl⟩
     refine ⟨_, rfl, _, rfl, _, rfl, _, rfl, h, q, 210, rfl, hh4, npq, by decide, by decide, fun v11 Gf hh5 k5 th2 => ?_⟩
     refine ⟨_, rfl, _, rfl, h, p, 110, rfl, hh5, NPk np4 hh4 k5, by decide, by decide, fun v12 Gg hh6 k6 th3 => ⟨(by show 4 ≤ sizeLine; decide), fun L2 Gh s7 m7 e7 => ⟨L2, rfl, ⟨_, SqL.of e7⟩, ?_⟩⟩⟩
     have all : ∀ u ∈ ([.ref p, v1, v11, v12] : List V), Thg K Gh h 400 u := by
      intro u hu
      simp only [List.mem_cons, List.not_mem_nil, or_false] at hu
      rcases hu with rfl | rfl | rfl | rfl
      · exact (((th0.kp hh3 hh4 k4).kp hh4 hh5 k5).kp hh5 hh6 k6).same s7
      · exact (((th1.mono (by decide)).kp hh4 hh5 k5).kp hh5 hh6 k6).same s7
      · exact ((th2.mono (by decide)).kp hh5 hh6 k6).same s7
      · exact (th3.mono (by decide)).same s7
     have sEnd : Same H1 Gh := by
      have kE : Kp h Ga Gh := (k1.trans (k2.trans (s4.kp.trans (k4.trans (k5.trans (k6.trans s7.kp))))))
      have kE2 : Kp h G0 Gh := s3.kp.trans kE
      exact s2.trans (Kp.same hp kE2)
     refine for_list (K := K) (a := L2) (xs := [.ref p, v1, v11, v12]) (fun j σ G' => Same Gh G' ∧ ∃ v8 v9 v10 : Option V, σ = [some (.ref a), some (.ref dp), some (.int i), some (.int c), some (.ref h), some (.ref p), some v1, some (.ref q), v8, v9, v10])
      ⟨Same.refl _, v8, v9, v10, rfl⟩ (fun j σ G' _ ⟨k2, _⟩ => SqL.of (k2 _ _ e7)) ?_ ?_
     · rintro j u σ G' hj ⟨sG, v8, v9, v10, rfl⟩
       obtain ⟨o, d, tp, rp, _⟩ := all u (List.mem_of_getElem? hj)
       have tp := (tp.mono (show 400 ≤ 1000 by decide)).same sG
       have rp := rp.same sG
       refine ⟨_, rfl, u, d, rfl, rp, ?_⟩
       refine ⟨_, rfl, u, o, rfl, tp, ?_⟩
       refine ⟨_, rfl, _, _, _, true, rfl, .bl _, isi_bb _, _, rfl, ifF rfl ?_⟩
       refine ⟨_, rfl, _, rfl, u, o, rfl, tp, fun G2 sg => ⟨rfl, _, rfl, ifF (by simp) ?_⟩⟩
       refine ⟨_, rfl, u, d, rfl, rp.same sg, _, rfl, rfl, _, rfl, ifF (by simp) ?_⟩
       exact ⟨sG.trans sg, _, _, _, rfl⟩
     · rintro σ G' ⟨sG, w8, w9, w10, rfl⟩
       exact ⟨sEnd.trans sG, _, _, _, _, _, _, _, _, _, rfl⟩
   · rintro σ G ⟨_, _⟩
     exact k _
end
end Lw

namespace Lw
open PySem L2 PyProof.Rows
set_option maxHeartbeats 0 in
theorem all_mk {l : PySem.W.OpenLaw} {w : World} {K : PySem.W.Frag} {h : Heap} {mg : Str → Option Value} {fa f16  : Addr} (XK : K.In h) (G : h.Ns mainGlobals mg) (hfa : mg "law" = some (.ref fa))
 {od an : Option Addr} {sl : Array (Option Value)} {oc kV dc pm cd ct : Value}
 (A1 : FnAt K "is_whole" sWhole)
 (A2 : FnAt K "common" sCommon)
 (A3 : FnAt K "is_pair_of_wholes" sPair)
 (A4 : FnAt K "is_fraction" sIsF)
 (A6 : FnAt K "_law_hand" sHand)
 (A7 : FnAt K "_law_draw" sDraw)
 (A8 : FnAt K "_law_cells" sCells)
 (A10 : FnAt K "_law_frac" sFrac)
 (A13 : FnAt K "_law_is" s_law_is)
 (A14 : FnAt K "_law_number" s_law_number)
 (A15 : FnAt K "_law_bad" s_law_bad)
 (aL : PySem.W.nsIn K mainGlobals "law" = some (some (.ref f16))) (lL : K.lookup f16 = some ⟨oc, od, .func (PySem.W.fnOf "law" "law" (defArgs sLaw) (defBody sLaw) (defScope sLaw) .none kV dc pm an cd ct), sl⟩) (cL : PySem.W.codeIn K cd "law" = true) (kL : PySem.W.keepIn K (.ref f16) = true)
 (zabs : PySem.W.nsIn K mainGlobals "abs" = some none)
 (zisi : PySem.W.nsIn K mainGlobals "isinstance" = some none)
 (ztup : PySem.W.nsIn K mainGlobals "tuple" = some none)
 (zint : PySem.W.nsIn K mainGlobals "int" = some none)
 (zbool : PySem.W.nsIn K mainGlobals "bool" = some none)
 (zlst : PySem.W.nsIn K mainGlobals "list" = some none)
 (zenu : PySem.W.nsIn K mainGlobals "enumerate" = some none)
 (zlen : PySem.W.nsIn K mainGlobals "len" = some none)
 (zrange : PySem.W.nsIn K mainGlobals "range" = some none)
 (zsrt : PySem.W.nsIn K mainGlobals "sorted" = some none)
 (zsum : PySem.W.nsIn K mainGlobals "sum" = some none)
 (zzip : PySem.W.nsIn K mainGlobals "zip" = some none)
 (zmax : PySem.W.nsIn K mainGlobals "max" = some none)
 (zstr : PySem.W.nsIn K mainGlobals "str" = some none)
 (zrepr : PySem.W.nsIn K mainGlobals "repr" = some none)
 : ∃ fd : FuncData, (∀ (s : Shared) (v : Value), BindsTo s fd ⟨[v], []⟩ [("script", v)]) ∧ ∀ base : Heap, K.In base → base.Ns mainGlobals mg → FnOk l.prog w K mg base CX0 5 fa fd ["script"] (spLaw K) := by
 have e := hfa.symm.trans (PySem.W.mg_of XK G aL)
 cases e
 have F16 := fun_mk (st := sLaw) lL cL kL
 have nWhole := A1.fnd ["thing"] XK G fun _ _ _ _ _ _ us hl => match us, hl with | [_], _ => rfl
 have nCommon := A2.fnd ["one", "other"] XK G fun _ _ _ _ _ _ us hl => match us, hl with | [_, _], _ => rfl
 have nPair := A3.fnd ["thing"] XK G fun _ _ _ _ _ _ us hl => match us, hl with | [_], _ => rfl
 have nIsF := A4.fnd ["thing"] XK G fun _ _ _ _ _ _ us hl => match us, hl with | [_], _ => rfl
 have nHand := A6.fnd ["cell", "k"] XK G fun _ _ _ _ _ _ us hl => match us, hl with | [_, _], _ => rfl
 have nDraw := A7.fnd ["hand", "limit"] XK G fun _ _ _ _ _ _ us hl => match us, hl with | [_, _], _ => rfl
 have nCells := A8.fnd ["script", "many"] XK G fun _ _ _ _ _ _ us hl => match us, hl with | [_, _], _ => rfl
 have nFrac := A10.fnd ["above", "below"] XK G fun _ _ _ _ _ _ us hl => match us, hl with | [_, _], _ => rfl
 have n_law_is := A13.fnd ["thing"] XK G fun _ _ _ _ _ _ us hl => match us, hl with | [_], _ => rfl
 have n_law_number := A14.fnd ["hand"] XK G fun _ _ _ _ _ _ us hl => match us, hl with | [_], _ => rfl
 have n_law_bad := A15.fnd ["hand", "one"] XK G fun _ _ _ _ _ _ us hl => match us, hl with | [_, _], _ => rfl
 have T : Txt mg := ⟨PySem.W.mg_none_of XK G zabs, PySem.W.mg_none_of XK G zisi, PySem.W.mg_none_of XK G ztup, PySem.W.mg_none_of XK G zint, PySem.W.mg_none_of XK G zbool, PySem.W.mg_none_of XK G zlst, PySem.W.mg_none_of XK G zenu, PySem.W.mg_none_of XK G zlen, PySem.W.mg_none_of XK G zrange, PySem.W.mg_none_of XK G zsrt, PySem.W.mg_none_of XK G zsum, PySem.W.mg_none_of XK G zzip, PySem.W.mg_none_of XK G zmax⟩
 have zstr := PySem.W.mg_none_of XK G zstr
 have zrepr := PySem.W.mg_none_of XK G zrepr
 refine ⟨PySem.W.fnOf "law" "law" (defArgs sLaw) (defBody sLaw) (defScope sLaw) .none kV dc pm an cd ct, fun s v => .of_eq rfl, fun base _ _ => ?_⟩
 · skip
   have dF : Def l.prog w K mg base 1 "_law_frac" ["above", "below"] spFracS := d_frac nFrac T
   have dDr : Def l.prog w K mg base 1 "_law_draw" ["hand", "limit"] spDraw := d_draw nDraw
   have dWh : Def l.prog w K mg base 1 "is_whole" ["thing"] (spWholeT K) := d_is_whole nWhole T
   have dPa := d_is_pair_of_wholes nPair T dWh
   have dIs := d_is_fraction nIsF T dPa (d_common nCommon)
   have dLi := d_law_is n_law_is T dF
   have dBd := d_law_bad n_law_bad T zstr dDr
   exact ok_law F16 T zrepr dIs dLi (d_cells nCells T) (d_hand nHand) dF (d_number n_law_number nDraw) dBd

theorem walk {l : PySem.W.OpenLaw} {q : Program} {loose : List Str} {XP : (Str → Option Value) → Heap → Prop} {YP : World → Heap → Prop} {d : DefRec} {K : Params → PySem.W.Frag} (hn : l.most = some 63) (hdf : d.params.defaults = [])
 (hY : ∀ (w : World) (h : Heap), YP w h → (K w.params).In h)
 (F : ∀ (w : World) (mg : Str → Option Value) (fa : Addr) (h : Heap), (K w.params).In h → h.Ns mainGlobals mg → mg d.name = some (.ref fa) →
  ∃ fd : FuncData, (∀ (s : Shared) (u : Value), BindsTo s fd ⟨[u], []⟩ [("script", u)]) ∧ ∀ base : Heap, (K w.params).In base → base.Ns mainGlobals mg → FnOk l.prog w (K w.params) mg base CX0 5 fa fd ["script"] (spLaw (K w.params))) :
 PySem.W.WalkO q loose XP YP l.row.toRowW d [] (fun f vs => PySem.call f vs) :=
 L2.walk_of (n := 63) (k := 5) (x := "script") (CX := fun _ => CX0) (sp := fun w => spLaw (K w.params)) hn (by decide) hdf ⟨rfl, by decide, by decide, rfl⟩ hY F (fun _ _ a ns hl _ hS => ⟨a, ns, rfl, hS, hl, fun _ => rfl⟩) fun _ _ _ _ _ z => z
end Lw

def PySem.W.Fast.tw11467404498164107592 : Unit := ()
open PySem PySem.W PyProof.Rows
set_option maxRecDepth 100000 in
set_option maxHeartbeats 0 in
theorem PySem.Challenge.cw_pagewalks_k01_what_is_a_fraction_holds : PySem.Challenge.rw_pagewalks_k01_what_is_a_fraction.Holds := by
 w_on; o_law; (set_option synthInstance.maxSize 1 in k_head); (case hw => w_witness2)
 k_fill
 refine Lw.walk (l := PySem.Challenge.rw_pagewalks_k01_what_is_a_fraction) rfl rfl (fun w h Y => PySem.W.kIn_of Y) ?F
 case F =>
  intro w mg fa h KX G hmg
  refine' Lw.all_mk KX G hmg ?A1 ?A2 ?A3 ?A4 ?A6 ?A7 ?A8 ?A10 ?A13 ?A14 ?A15 ?aL ?lL ?cL ?kL ?zabs ?zisi ?ztup ?zint ?zbool ?zlst ?zenu ?zlen ?zrange ?zsrt ?zsum ?zzip ?zmax ?zstr ?zrepr
  (case A1 => refine' L2.FnAt.of ?a ?l ?c ?k; (case a => k_is); (case l => k_is); (case c => k_is); (case k => k_is))
  (case A2 => refine' L2.FnAt.of ?a ?l ?c ?k; (case a => k_is); (case l => k_is); (case c => k_is); (case k => k_is))
  (case A3 => refine' L2.FnAt.of ?a ?l ?c ?k; (case a => k_is); (case l => k_is); (case c => k_is); (case k => k_is))
  (case A4 => refine' L2.FnAt.of ?a ?l ?c ?k; (case a => k_is); (case l => k_is); (case c => k_is); (case k => k_is))
  (case A6 => refine' L2.FnAt.of ?a ?l ?c ?k; (case a => k_is); (case l => k_is); (case c => k_is); (case k => k_is))
  (case A7 => refine' L2.FnAt.of ?a ?l ?c ?k; (case a => k_is); (case l => k_is); (case c => k_is); (case k => k_is))
  (case A8 => refine' L2.FnAt.of ?a ?l ?c ?k; (case a => k_is); (case l => k_is); (case c => k_is); (case k => k_is))
  (case A10 => refine' L2.FnAt.of ?a ?l ?c ?k; (case a => k_is); (case l => k_is); (case c => k_is); (case k => k_is))
  (case A13 => refine' L2.FnAt.of ?a ?l ?c ?k; (case a => k_is); (case l => k_is); (case c => k_is); (case k => k_is))
  (case A14 => refine' L2.FnAt.of ?a ?l ?c ?k; (case a => k_is); (case l => k_is); (case c => k_is); (case k => k_is))
  (case A15 => refine' L2.FnAt.of ?a ?l ?c ?k; (case a => k_is); (case l => k_is); (case c => k_is); (case k => k_is))
  (case aL => k_is)
  (case lL => k_is)
  (case cL => k_is)
  (case kL => k_is)
  (case zabs => k_is)
  (case zisi => k_is)
  (case ztup => k_is)
  (case zint => k_is)
  (case zbool => k_is)
  (case zlst => k_is)
  (case zenu => k_is)
  (case zlen => k_is)
  (case zrange => k_is)
  (case zsrt => k_is)
  (case zsum => k_is)
  (case zzip => k_is)
  (case zmax => k_is)
  (case zstr => k_is)
  (case zrepr => k_is)

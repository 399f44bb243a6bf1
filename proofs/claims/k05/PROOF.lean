import PyProof.Rows.All
import Wide.All
import OpenK.AllK
import Wide.FinOn
import Lean
import PyProof.EqAt
import PyProof.EqKinds
import PyProof.TupleCall
import PyProof.NeKinds
import PyProof.EnumMake
import PyProof.Draws
import PyProof.ListNew
import PyProof.Rows.IntBool
import KE.LcSums
import PyProof.ListMulRoad
import PyProof.WalksT
import PyProof.ZipIter
import PyProof.Rows.ZipGen
import PyProof.SumWalk
import PyProof.Rows.CallKwBuiltin
import PyProof.AutoListH
import PyProof.WalkInts
import KE.KRevIter
import PyProof.ListStr
import PyProof.ListRange
import KE.KSortTup
import KE.KLam
import KE.KNestM
import KE.KFind
import KE.KTryDeep
import KE.KIsAll
import PyProof.ExcArgsOwn
import PyProof.Rows.SetFrom
import PyProof.StrWalks
import PyProof.CollectIter
import PyProof.FactsAll.set
import PyProof.StrCalls2
import PyProof.StrLawsIn
import PyProof.SliceStr2
import PyProof.StrOps2
import PyProof.StrBlockH
import PyProof.Rows.StrItems
import PyProof.Rows.StrSplitAre
import PyProof.StrLawsTight
import KE.KIntText
import KE.IntTextText
import PyProof.CompFree
import PyProof.Rows.StrSplitJoin
import PyProof.Rows.FStr
import PyProof.FactsAll.bool_1
import PyProof.ReprLen
import PyProof.FactsAll.NoneType_1
import PyProof.FitsInt
import PySem.Challenge.RW_pagewalks_k05_what_is_a_web
set_option maxHeartbeats 1000000
set_option Elab.async false
set_option bootstrap.genMatcherCode false
set_option genSizeOfSpec false
set_option genSizeOf false
set_option linter.all false
set_option maxRecDepth 100000
namespace L2
open PySem PySem.Spec PyProof.Rows

noncomputable abbrev Key := Sum Int Str
noncomputable def keyIs : Key → Value → Bool
 | .inl k, v => Value.isInt k v
 | .inr x, v => Value.isStrOf x v
noncomputable def keyH (w : World) : Key → Int
 | .inl k => hashInt k
 | .inr x => hashStr w x
theorem keyIs_shape : ∀ {k : Key} {v : Value}, keyIs k v = true → (∃ i t, k = Sum.inl i ∧ v = Value.int i t) ∨ (∃ x t, k = Sum.inr x ∧ v = Value.str x t)
 | .inl i, v, h => by
   obtain ⟨t, e⟩ := Value.isInt_shape (k := i) (v := v) h
   exact .inl ⟨i, t, rfl, e⟩
 | .inr x, v, h => by
   obtain ⟨t, e⟩ := Value.isStrOf_shape (x := x) (v := v) h
   exact .inr ⟨x, t, rfl, e⟩
theorem key_ll (a b : Int) : decide ((Sum.inl a : Key) = Sum.inl b) = (a == b) := by
 by_cases e : a = b
 · subst e; simp
 · have h : ¬ (Sum.inl a : Key) = Sum.inl b := fun q => e (Sum.inl.inj q)
   rw [decide_eq_false h]
   exact (beq_eq_false_iff_ne.mpr e).symm
theorem key_rr (a b : Str) : decide ((Sum.inr a : Key) = Sum.inr b) = decide (a = b) := by
 by_cases e : a = b
 · subst e; simp
 · have h : ¬ (Sum.inr a : Key) = Sum.inr b := fun q => e (Sum.inr.inj q)
   rw [decide_eq_false h, decide_eq_false e]
theorem key_lr (a : Int) (b : Str) : decide ((Sum.inl a : Key) = Sum.inr b) = false := decide_eq_false (fun q => nomatch q)
theorem key_rl (a : Str) (b : Int) : decide ((Sum.inr a : Key) = Sum.inl b) = false := decide_eq_false (fun q => nomatch q)

noncomputable def mixKind (prog : Program) (w : World) : PySem.KeyKind prog w Key where
 is := keyIs
 hash := keyH w
 inj := fun v a b ha hb => by
  rcases keyIs_shape ha with ⟨i, t, rfl, rfl⟩ | ⟨x, t, rfl, rfl⟩
  · rcases keyIs_shape hb with ⟨j, u, rfl, e⟩ | ⟨y, u, rfl, e⟩
    · injection e with e1 _; rw [e1]
    · exact nomatch e
  · rcases keyIs_shape hb with ⟨j, u, rfl, e⟩ | ⟨y, u, rfl, e⟩
    · exact nomatch e
    · injection e with e1 _; rw [e1]
 byValue := fun k v h => by
  rcases keyIs_shape h with ⟨i, t, rfl, rfl⟩ | ⟨x, t, rfl, rfl⟩ <;> rfl
 pyHash := fun hv h => by
  rcases keyIs_shape hv with ⟨i, t, rfl, rfl⟩ | ⟨x, t, rfl, rfl⟩
  · exact wpAny_pyHash_int h
  · exact wpAny_pyHash_str h
 eqBool := fun hu hv h => by
  rcases keyIs_shape hu with ⟨i, t, rfl, rfl⟩ | ⟨x, t, rfl, rfl⟩
  · rcases keyIs_shape hv with ⟨j, u, rfl, rfl⟩ | ⟨y, u, rfl, rfl⟩
    · rw [key_ll] at h; exact wpAny_eqBool_int h
    · rw [key_lr] at h; exact SeqAt.EqAt.int_str i t y u _ _ _ _ h
  · rcases keyIs_shape hv with ⟨j, u, rfl, rfl⟩ | ⟨y, u, rfl, rfl⟩
    · rw [key_rl] at h; exact SeqAt.EqAt.str_int x t j u _ _ _ _ h
    · rw [key_rr] at h; exact wpAny_eqBool_str h
 «strs» := fun k x t v h => by
  rcases keyIs_shape h with ⟨i, u, rfl, e⟩ | ⟨y, u, rfl, e⟩
  · exact nomatch e
  · injection e with e1 _
    subst e1
    cases v <;> rfl

end L2

namespace L2
open PySem PySem.Spec PyProof.Rows

inductive V where
 | non | bl (b : Bool) | int (i : Int) | str (x : Str) | byt (b : Array UInt8) | flt (b : UInt64) | ref (a : Addr) | ty (n : String)
 deriving DecidableEq

noncomputable def RelV : V → Value → Prop
 | .non, u => u = Value.none
 | .bl b, u => u = Value.bool b
 | .int i, u => ∃ t, u = Value.int i t
 | .str x, u => ∃ t, u = Value.str x t
 | .byt b, u => ∃ t, u = Value.bytes b t
 | .flt b, u => ∃ t, u = Value.float b t
 | .ref a, u => u = Value.ref a
 | .ty n, u => u = Value.type n

noncomputable abbrev Vals : List V → List Value → Prop := Paired RelV
theorem Vals.length {xs : List V} {us : List Value} (r : Vals xs us) : xs.length = us.length := Paired.length r
theorem Vals.get : ∀ {xs : List V} {us : List Value} {i : Nat} {x : V}, Vals xs us → xs[i]? = some x → ∃ u, us[i]? = some u ∧ RelV x u
 | _, _, _, _, .nil, e => by simp at e
 | _, _, 0, _, .cons r _, e => by simp at e; subst e; exact ⟨_, rfl, r⟩
 | _, _, i + 1, x, .cons _ t, e => by
   obtain ⟨u, h1, h2⟩ := Vals.get (i := i) (x := x) t (by simpa using e)
   exact ⟨u, by simpa using h1, h2⟩
theorem Vals.set {x : V} {u : Value} (r : RelV x u) : ∀ {xs : List V} {us : List Value} (i : Nat), Vals xs us → Vals (xs.set i x) (us.set i u)
 | _, _, _, .nil => .nil
 | _, _, 0, .cons _ t => .cons r t
 | _, _, i + 1, .cons q t => .cons q (Vals.set r i t)
theorem Vals.append : ∀ {xs ys : List V} {us ws : List Value}, Vals xs us → Vals ys ws → Vals (xs ++ ys) (us ++ ws)
 | _, _, _, _, .nil, s => s
 | _, _, _, _, .cons r t, s => .cons r (Vals.append t s)
theorem Vals.take : ∀ {xs : List V} {us : List Value} (n : Nat), Vals xs us → Vals (xs.take n) (us.take n)
 | _, _, 0, _ => .nil
 | _, _, _ + 1, .nil => .nil
 | _, _, n + 1, .cons r t => .cons r (Vals.take n t)
theorem Vals.drop : ∀ {xs : List V} {us : List Value} (n : Nat), Vals xs us → Vals (xs.drop n) (us.drop n)
 | _, _, 0, r => r
 | _, _, _ + 1, .nil => .nil
 | _, _, n + 1, .cons _ t => Vals.drop n t
noncomputable def RelO : Option V → Option Value → Prop
 | some v, some u => RelV v u
 | none, none => True
 | _, _ => False
noncomputable def KV {κ : Type} : List (κ × V) → List (κ × Value) → Prop := Paired fun (p : κ × V) (q : κ × Value) => p.1 = q.1 ∧ RelV p.2 q.2

noncomputable def kV : Key → V
 | .inl i => .int i
 | .inr x => .str x

inductive HO where
 | lst (xs : List V)
 | tup (xs : List V)
 | dK (kvs : List (Key × V)) | dT (kvs : List (List Key × V))
 | set (S : Int → Bool) (n : Nat)
 | ins (C dx : Addr) (fs : List (Str × V))
 | own (x : Addr)
 | xd (fs : List (Str × V))
 | met (f x : Addr)
 | rng (lo hi : Int)
 | frz (o : Obj) (u : HO)
 | tbl (ps : Array Value)
 | ext (φ : Heap → Prop)

noncomputable abbrev Hp := Addr → Option HO
noncomputable def upd (H : Hp) (a : Addr) (o : HO) : Hp := fun b => if b = a then some o else H b
theorem upd_same {H : Hp} {a : Addr} {o : HO} : upd H a o a = some o := by unfold upd; rw [if_pos rfl]
theorem upd_ne {H : Hp} {a b : Addr} {o : HO} (h : b ≠ a) : upd H a o b = H b := by unfold upd; rw [if_neg h]
theorem upd_upd {H : Hp} {a : Addr} {o u : HO} : upd (upd H a o) a u = upd H a u := by
 funext b; unfold upd; split <;> rfl
theorem ne_of_none {H : Hp} {a b : Addr} {o : HO} (h : H a = some o) (h' : H b = none) : a ≠ b := by
 intro e; subst e; rw [h] at h'; cases h'

noncomputable def IsTupN (h : Heap) (a : Addr) (items : Array Value) : Prop := ∃ o, h.get? a = some o ∧ (o.cls, o.dict) = (Value.type "tuple", (none : Option Addr)) ∧ ∃ n, o.data = .seq items n
theorem IsTupN.tup {h : Heap} {a : Addr} {items : Array Value} (p : IsTupN h a items) : PyProof.Rows.IsTup h a items := by
 obtain ⟨o, e, c, n, d⟩ := p
 exact ⟨o, e, congrArg Prod.fst c, n, d⟩
theorem IsTupN.new (h : Heap) (items : Array Value) : IsTupN (h.push { cls := .type "tuple", data := .seq items }) h.objs.size items := ⟨_, Heap.get?_push_size _ rfl, rfl, _, rfl⟩

section
variable (P : Program) (w : World)
noncomputable def ObjOk (H : Hp) (h : Heap) (a : Addr) : HO → Prop
 | .lst xs => xs.length ≤ sizeLine ∧ ∃ (its : List Value) (n : Nat), Vals xs its ∧ h.get? a = some { cls := .type "list", data := .seq its.toArray n }
 | .tup xs => xs.length ≤ sizeLine ∧ ∃ its : List Value, Vals xs its ∧ IsTupN h a its.toArray
 | .dK kvs => kvs.length ≤ sizeLine ∧ (a == sysModules) = false ∧ ∃ vs, KV kvs vs ∧ h.DictOf (mixKind P w) a vs
 | .dT kvs => kvs.length ≤ sizeLine ∧ (a == sysModules) = false ∧ ∃ xs : List (List Key × Addr × Value),
  Paired (fun (p : List Key × V) (q : List Key × Addr × Value) => p.1 = q.1 ∧ H q.2.1 = some (.tup (p.1.map kV)) ∧ RelV p.2 q.2.2) kvs xs ∧
  ∃ o es ep, h.get? a = some o ∧ o.ExactDict ∧ o.data = .dict es ep ∧ es.toList = xs.map (entryOfKey (tupleKind (mixKind P w))) ∧ (xs.map (·.1)).Nodup
 | .set S n => h.SetOf (intKind P w) a S n
 | .ins C dx fs => H dx = some (.own a) ∧ fs.length ≤ 1000 ∧ dx ≠ a ∧ h.get? a = some (PySem.W.instObj C dx) ∧
  ∃ mA, h.Ns1 dx mA ∧ (∀ f, RelO (fs.lookup f) (mA f)) ∧ PySem.Within mA (fs.map (·.1))
 | .own _ => ∃ o, h.get? a = some o
 | .xd fs => ∃ mA, h.Ns1 a mA ∧ ∀ f, RelO (fs.lookup f) (mA f)
 | .rng lo hi => ∃ t u v, h.get? a = some { cls := .type "range", data := .fields #[.int lo t, .int hi u, .int 1 v] }
 | .frz o u => h.get? a = some o ∧ ObjOk H h a u
 | .tbl ps => h.get? a = some { cls := .none, data := .fields ps }
 | .met f x => h.get? a = some (PySem.W.methodObj (.ref f) (.ref x))
 | .ext φ => φ h ∧ (∃ o, h.get? a = some o) ∧ ∀ h1 h2 : Heap, φ h1 → (∀ o, h1.get? a = some o → h2.get? a = some o) → φ h2
noncomputable def HOk (H : Hp) (h : Heap) : Prop := ∀ a o, H a = some o → ObjOk P w H h a o
end

section
variable {P : Program} {w : World} {H H' : Hp} {h h' : Heap} {a : Addr} {o : HO}
theorem ObjOk.lt (x : ObjOk P w H h a o) : a < h.objs.size := by
 cases o with
 | lst xs => obtain ⟨_, _, _, _, e⟩ := x; exact Heap.lt_size e
 | tup xs => obtain ⟨_, _, _, p⟩ := x; exact p.tup.lt
 | dK kvs => obtain ⟨_, _, _, _, o, _, _, e, _⟩ := x; exact Heap.lt_size e
 | dT kvs => obtain ⟨_, _, _, _, o, _, _, e, _⟩ := x; exact Heap.lt_size e
 | set S n => obtain ⟨o, _, _, _, e, _⟩ := x; exact Heap.lt_size e
 | ins C dx fs => obtain ⟨_, _, _, e, _⟩ := x; exact Heap.lt_size e
 | own y => obtain ⟨_, e⟩ := x; exact Heap.lt_size e
 | xd fs => obtain ⟨_, ⟨_, _, _, e, _⟩, _⟩ := x; exact Heap.lt_size e
 | rng lo hi => obtain ⟨_, _, _, e⟩ := x; exact Heap.lt_size e
 | frz ob u => obtain ⟨e, _⟩ := x; exact Heap.lt_size e
 | tbl ps => exact Heap.lt_size (show h.get? a = some _ from x)
 | met f y => exact Heap.lt_size (show h.get? a = some _ from x)
 | ext φ => obtain ⟨_, ⟨_, e⟩, _⟩ := x; exact Heap.lt_size e
theorem Paired.mapP {α β : Type} {F G : α → β → Prop} : ∀ {l₁ : List α} {l₂ : List β}, Paired F l₁ l₂ → (∀ a b, F a b → G a b) → Paired G l₁ l₂
 | _, _, .nil, _ => .nil
 | _, _, .cons r t, f => .cons (f _ _ r) (Paired.mapP t f)
theorem ObjOk.stay (x : ObjOk P w H h a o) (k : ∀ b u, (b = a ∨ H b = some (.own a)) → h.get? b = some u → h'.get? b = some u)
 (ho : ∀ b, H b = some (.own a) → H' b = some (.own a)) (ht : ∀ b xs, H b = some (.tup xs) → H' b = some (.tup xs)) : ObjOk P w H' h' a o := by
 induction o with
 | lst xs => obtain ⟨z, its, n, r, e⟩ := x; exact ⟨z, its, n, r, k _ _ (.inl rfl) e⟩
 | tup xs => obtain ⟨z, its, r, ob, e, c⟩ := x; exact ⟨z, its, r, ob, k _ _ (.inl rfl) e, c⟩
 | dK kvs => obtain ⟨z, y, vs, r, ob, es, ep, e, c⟩ := x; exact ⟨z, y, vs, r, ob, es, ep, k _ _ (.inl rfl) e, c⟩
 | dT kvs =>
   obtain ⟨z, y, xs, r, ob, es, ep, e, c⟩ := x
   exact ⟨z, y, xs, Paired.mapP r fun p q z => ⟨z.1, ht _ _ z.2.1, z.2.2⟩, ob, es, ep, k _ _ (.inl rfl) e, c⟩
 | set S n => obtain ⟨ob, es, ep, t, e, c⟩ := x; exact ⟨ob, es, ep, t, k _ _ (.inl rfl) e, c⟩
 | ins C dx fs =>
   obtain ⟨d, z, ne, e, mA, ⟨od, es, ep, e2, c⟩, r⟩ := x
   exact ⟨ho _ d, z, ne, k _ _ (.inl rfl) e, mA, ⟨od, es, ep, k _ _ (.inr d) e2, c⟩, r⟩
 | own y => obtain ⟨ob, e⟩ := x; exact ⟨ob, k _ _ (.inl rfl) e⟩
 | xd fs => obtain ⟨mA, ⟨od, es, ep, e, c⟩, r⟩ := x; exact ⟨mA, ⟨od, es, ep, k _ _ (.inl rfl) e, c⟩, r⟩
 | rng lo hi => obtain ⟨t, u, v, e⟩ := x; exact ⟨t, u, v, k _ _ (.inl rfl) e⟩
 | frz ob u ih => obtain ⟨e, q⟩ := x; exact ⟨k _ _ (.inl rfl) e, ih q⟩
 | tbl ps =>
   have e : h.get? a = some { cls := .none, data := .fields ps } := x
   show h'.get? a = some { cls := .none, data := .fields ps }
   exact k a _ (.inl rfl) e
 | met f y =>
   have e : h.get? a = some (PySem.W.methodObj (.ref f) (.ref y)) := x
   show h'.get? a = some (PySem.W.methodObj (.ref f) (.ref y))
   exact k a _ (.inl rfl) e
 | ext φ => obtain ⟨p, ⟨o, e⟩, st⟩ := x; exact ⟨st _ _ p fun o q => k _ _ (.inl rfl) q, ⟨o, k _ _ (.inl rfl) e⟩, st⟩
theorem HOk.lt (x : HOk P w H h) (e : H a = some o) : a < h.objs.size := (x a o e).lt
theorem HOk.fresh (x : HOk P w H h) (e : h.objs.size ≤ a) : H a = none := by
 cases q : H a with
 | none => rfl
 | some u => exact absurd (Nat.lt_of_lt_of_le (x.lt q) e) (Nat.lt_irrefl _)
theorem HOk.kept (x : HOk P w H h) (k : ∀ b u, h.get? b = some u → h'.get? b = some u) : HOk P w H h' := fun a o e =>
 (x a o e).stay (fun b u _ q => k b u q) (fun _ q => q) fun _ _ q => q
theorem HOk.laid (x : HOk P w H h) (k : ∀ b u, h.get? b = some u → h'.get? b = some u) (hp : h.objs.size ≤ a) (new : ObjOk P w (upd H a o) h' a o) : HOk P w (upd H a o) h' := fun b u e => by
 have hn := x.fresh hp
 by_cases hb : b = a
 · subst hb; rw [upd_same] at e; cases e; exact new
 · rw [upd_ne hb] at e
   exact (x b u e).stay (fun c v _ q => k c v q) (fun c q => by rw [upd_ne (ne_of_none q hn)]; exact q) fun c xs q => by rw [upd_ne (ne_of_none q hn)]; exact q
end

noncomputable def Rd (H : Hp) (a : Addr) (u : HO) : Prop := H a = some u ∨ ∃ o, H a = some (.frz o u)
theorem Rd.ok {P : Program} {w : World} {H : Hp} {h : Heap} {a : Addr} {u : HO} (r : Rd H a u) (x : HOk P w H h) : ObjOk P w H h a u := by
 rcases r with r | ⟨o, r⟩
 · exact x a u r
 · obtain ⟨_, q⟩ := x a _ r
   exact q
noncomputable def Mut : Option HO → Prop
 | some (.lst _) => True
 | some (.dK _) => True
 | some (.dT _) => True
 | some (.set _ _) => True
 | some (.ins _ _ _) => True
 | some (.ext _) => True
 | _ => False
section
variable {P : Program} {w : World} {H : Hp} {h h' : Heap} {x e : Addr} {o' : HO}
theorem HOk.write (ok : HOk P w H h) (mu : Mut (H x)) (he : e = x ∨ H e = some (.own x)) (k : ∀ b u, b ≠ e → h.get? b = some u → h'.get? b = some u) (heo : ∃ u, h'.get? e = some u)
 (new : ObjOk P w (upd H x o') h' x o') : HOk P w (upd H x o') h' := fun b u q => by
 have nown : ∀ c y, H c = some (.own y) → c ≠ x := fun c y r z => by subst z; rw [r] at mu; exact mu
 have ntup : ∀ c xs, H c = some (.tup xs) → c ≠ x := fun c xs r z => by subst z; rw [r] at mu; exact mu
 by_cases hb : b = x
 · subst hb; rw [upd_same] at q; cases q; exact new
 · rw [upd_ne hb] at q
   by_cases hbe : b = e
   · have q' : H b = some (.own x) := by
      rcases he with z | z
      · exact absurd (hbe.trans z) hb
      · rw [hbe]; exact z
     rw [q] at q'; cases q'
     obtain ⟨v, hv⟩ := heo
     exact ⟨v, by rw [hbe]; exact hv⟩
   · refine (ok b u q).stay (fun c v hc r => k c v ?_ r) (fun c r => by rw [upd_ne (nown c b r)]; exact r) fun c xs r => by rw [upd_ne (ntup c xs r)]; exact r
     rcases hc with rfl | hc
     · exact hbe
     · rintro rfl
       rcases he with z | z
       · exact nown c b hc z
       · rw [hc] at z; cases z; exact hb rfl
end

structure Un (fs ex : List Addr) (H H' : Hp) (h h' : Heap) : Prop where
 keep : ∀ b o, h.get? b = some o → H b = none → b ∉ fs → b ∉ ex → h'.get? b = some o
 slot : ∀ b o, h.get? b = some o → H b = none → b ∈ fs → b ∉ ex → ∃ sl, h'.get? b = some { o with slots := sl }
 free : ∀ b o, h.get? b = some o → H b = none → b ∉ ex → H' b = none
 there : ∀ b o, h.get? b = some o → b ∉ ex → ∃ o', h'.get? b = some o'
 tups : ∀ b xs, H b = some (.tup xs) → H' b = some (.tup xs)
 frzs : ∀ b o u, H b = some (.frz o u) → H' b = some (.frz o u)
 tbls : ∀ b ps, H b = some (.tbl ps) → ∃ more, H' b = some (.tbl (ps ++ more))
section
variable {fs fs' ex ex' : List Addr} {H H1 H2 : Hp} {h h1 h2 h' : Heap} {a x e : Addr} {o : HO}
theorem Un.any (u : Un fs ex H H1 h h1) {b : Addr} {ob : Obj} (q : h.get? b = some ob) (n : H b = none) (hx : b ∉ ex) : ∃ sl, h1.get? b = some { ob with slots := sl } := by
 by_cases hb : b ∈ fs
 · exact u.slot b ob q n hb hx
 · exact ⟨ob.slots, u.keep b ob q n hb hx⟩
theorem Un.kept (k : ∀ b u, h.get? b = some u → h'.get? b = some u) : Un fs ex H H h h' :=
 ⟨fun b ob q _ _ _ => k b ob q, fun b ob q _ _ _ => ⟨ob.slots, k b ob q⟩, fun _ _ _ n _ => n, fun b ob q _ => ⟨ob, k b ob q⟩, fun _ _ q => q, fun _ _ _ q => q, fun _ ps q => ⟨#[], by rw [q]; simp⟩⟩
theorem Un.refl : Un fs ex H H h h := Un.kept fun _ _ q => q
theorem Un.laid (k : ∀ b u, h.get? b = some u → h'.get? b = some u) (hp : h.objs.size ≤ a) (hn : H a = none) : Un fs ex H (upd H a o) h h' where
 keep := fun b u q _ _ _ => k b u q
 slot := fun b u q _ _ _ => ⟨u.slots, k b u q⟩
 free := fun b u q n _ => by rw [upd_ne (Nat.ne_of_lt (Nat.lt_of_lt_of_le (Heap.lt_size q) hp))]; exact n
 there := fun b u q _ => ⟨u, k b u q⟩
 tups := fun b xs q => by rw [upd_ne (ne_of_none q hn)]; exact q
 frzs := fun b u xs q => by rw [upd_ne (ne_of_none q hn)]; exact q
 tbls := fun b ps q => ⟨#[], by rw [upd_ne (ne_of_none q hn), q]; simp⟩
theorem Un.write (mu : Mut (H x)) (he : e = x ∨ H e = some (.own x)) (k : ∀ b u, b ≠ e → h.get? b = some u → h'.get? b = some u) (heo : ∃ u, h'.get? e = some u) : Un fs ex H (upd H x o) h h' := by
 have hx : ∀ b, H b = none → b ≠ x := fun b n z => by subst z; rw [n] at mu; exact mu
 have hb : ∀ b, H b = none → b ≠ e := fun b n z => by
  subst z
  rcases he with r | r
  · exact hx b n r
  · rw [n] at r; cases r
 have hm : ∀ b u, H b = some u → ¬ Mut (some u) → b ≠ x := fun b u q nm z => by subst z; rw [q] at mu; exact nm mu
 refine ⟨fun b u q n _ _ => k b u (hb b n) q, fun b u q n _ _ => ⟨u.slots, k b u (hb b n) q⟩, fun b u q n _ => by rw [upd_ne (hx b n)]; exact n, fun b u q _ => ?_,
  fun b xs q => by rw [upd_ne (hm b _ q fun z => z)]; exact q, fun b u xs q => by rw [upd_ne (hm b _ q fun z => z)]; exact q, fun b ps q => ⟨#[], by rw [upd_ne (hm b _ q fun z => z), q]; simp⟩⟩
 by_cases hbe : b = e
 · subst hbe; exact heo
 · exact ⟨u, k b u hbe q⟩
end

noncomputable def trk (h : Heap) (H : Hp) : List Addr := (List.range h.objs.size).filter fun a => (H a).isSome
noncomputable def hidT (h : Heap) (H : Hp) : Heap := PySem.W.hideAll h (trk h H)
theorem hidT_size (h : Heap) (H : Hp) : (hidT h H).objs.size = h.objs.size := PySem.W.hideAll_size _ _
theorem hidT_get {h : Heap} {H : Hp} {b : Addr} {o : Obj} (e : h.get? b = some o) (n : H b = none) : (hidT h H).get? b = some o :=
 PySem.W.hideAll_get _ e fun hm => by
  have q : (H b).isSome = true := (List.mem_filter.mp hm).2
  rw [n] at q; simp at q
theorem of_hidT {h : Heap} {H : Hp} {b : Addr} {o : Obj} (e : (hidT h H).get? b = some o) : h.get? b = some o ∧ H b = none := by
 have e' : h.get? b = some o := PySem.W.of_hideAll (trk h H) e
 refine ⟨e', ?_⟩
 cases q : H b with
 | none => rfl
 | some x =>
   have hm : b ∈ trk h H := List.mem_filter.mpr ⟨List.mem_range.mpr (Heap.lt_size e'), by simp [q]⟩
   have z : (hidT h H).get? b = none := PySem.W.hideAll_none (trk h H) hm
   rw [z] at e; cases e

noncomputable def allNews (g h : Heap) (L : Addr) : List (Addr × Obj) := (List.range h.objs.size).filterMap fun a => if a = L ∨ (g.get? a).isSome = true then none else (h.get? a).map fun o => (a, o)
theorem mem_allNews {g h : Heap} {L a : Addr} {o : Obj} (h1 : a ≠ L) (h2 : g.get? a = none) (h3 : h.get? a = some o) : (a, o) ∈ allNews g h L :=
 List.mem_filterMap.mpr ⟨a, List.mem_range.mpr (Heap.lt_size h3), by simp [h1, h2, h3]⟩
theorem of_mem_allNews {g h : Heap} {L : Addr} {p : Addr × Obj} (hp : p ∈ allNews g h L) : p.1 ≠ L ∧ g.get? p.1 = none ∧ h.get? p.1 = some p.2 := by
 obtain ⟨b, _, e⟩ := List.mem_filterMap.mp hp
 split at e
 · cases e
 · rename_i hn
   cases q : h.get? b with
   | none => rw [q] at e; simp at e
   | some u =>
     rw [q] at e
     simp only [Option.map_some, Option.some.injEq] at e
     subst e
     refine ⟨fun z => hn (.inl z), ?_, q⟩
     show g.get? b = none
     cases r : g.get? b with
     | none => rfl
     | some v => exact (hn (.inr (by simp [r]))).elim
theorem news_all {g h : Heap} {L : Addr} : News g L h (allNews g h L) := fun p hp => let ⟨a, b, c⟩ := of_mem_allNews hp; ⟨c, a, b⟩
end L2

namespace L2
open PySem PySem.Spec PyProof.Rows

structure Mod (K : PySem.W.Frag) (mg : Str → Option Value) (base : Heap) : Prop where
 kin : K.In base
 glob : base.Ns mainGlobals mg
 blt : ∃ mb, base.Ns builtinsNs mb ∧ ∀ x : Str, x ≠ "__name__" → mb x = bootBuiltins x
 nolimit : base.NoLimit

set_option genInjectivity false in
set_option genInjectivity false in
structure Cx where
 prog : Program
 w : World
 K : PySem.W.Frag
 mg : Str → Option Value
 base : Heap
 A : Around
 N : List Str
 s₀ : Shared
 H₀ : Hp
 env : Env
 outer : List Env
 stack : List Env
 ex : List Addr
 fn : Str → Bool
 calm : Bool
 pn : List (Addr × Obj)
 xe : Value → Shared → Prop
noncomputable def frs (l : List Env) : List Addr := l.filterMap (·.frame)
noncomputable abbrev Cx.fs (X : Cx) : List Addr := frs X.outer

noncomputable def Vis (sc : Scope) (x : Str) : Prop := sc.names.lookup x = some .local ∨ sc.names.lookup x = some .cell ∨ sc.names.lookup x = some .free
noncomputable def Loc (sc : Scope) (x : Str) : Prop := sc.names.lookup x = some .local ∨ sc.names.lookup x = some .cell
noncomputable def Look (env : Env) (h : Heap) (m : Str → Option Value) (x : Str) (u : Value) : Prop :=
 (env.kindOf x = some .local ∧ m x = some u) ∨ ((env.kindOf x = some .cell ∨ env.kindOf x = some .free) ∧ ∃ c, env.cells.lookup x = some c ∧ h.IsCell c (some u))

set_option genInjectivity false in
structure Cx.Ok (X : Cx) : Prop where
 mod : Mod X.K X.mg X.base
 kind : X.env.scope.kind = .function
 glob : X.env.globals = mainGlobals
 blt : X.env.builtins = builtinsNs
 above : X.s₀.heap.objs.size ≤ X.env.locals
 inj : ∀ x y c, X.env.cells.lookup x = some c → X.env.cells.lookup y = some c → x = y
 has : ∀ x, (X.env.kindOf x = some .cell ∨ X.env.kindOf x = some .free) → ∃ c, X.env.cells.lookup x = some c
 cab : ∀ x c, X.fn x = true → X.env.cells.lookup x = some c → X.s₀.heap.objs.size ≤ c
 hd : X.calm = true → X.A.handled = none
 frames : X.A.frames = some X.stack
 stk : X.stack = X.outer ∨ (X.stack = X.env :: X.outer ∧ X.env.frame = some X.env.locals)
 exf : ∀ b ∈ X.ex, b ≠ X.env.locals ∧ ∀ x c, X.env.cells.lookup x = some c → c ≠ b
 bs : ∀ b o, X.base.get? b = some o → X.s₀.heap.get? b = some o ∧ X.H₀ b = none
 bsz : X.base.objs.size ≤ X.s₀.heap.objs.size
 noex : ∀ b o, X.base.get? b = some o → b ∉ X.ex
 exfs : ∀ b ∈ X.ex, b ∉ X.fs
 funs : X.s₀.heap.FunFrames X.base X.outer
 frf : ∀ b ∈ X.fs, X.H₀ b = none

set_option genInjectivity false in
structure Inv (X : Cx) (pins : List (Addr × Obj)) (σ : List (Option V)) (H : Hp) (s : Shared) : Prop where
 ok : X.Ok
 os : s.os = X.s₀.os
 bare : AllBare s.gens
 base : Un X.fs X.ex X.H₀ H X.s₀.heap s.heap
 loc : ∃ m, s.heap.Ns X.env.locals m ∧ ∀ (i : Nat) (x : Str) (v : V), X.N[i]? = some x → σ[i]? = some (some v) → Vis X.env.scope x → ∃ u, RelV v u ∧ Look X.env s.heap m x u
 cell : ∀ x c, X.env.cells.lookup x = some c → ∃ v, s.heap.IsCell c v
 free : H X.env.locals = none
 freeC : ∀ x c, X.env.cells.lookup x = some c → H c = none
 pin : ∀ p ∈ X.pn ++ pins, s.heap.get? p.1 = some p.2 ∧ H p.1 = none ∧ p.1 ≠ X.env.locals ∧ p.1 ∉ X.fs ∧ ∀ v, p.2.data ≠ .cell v
 hok : HOk X.prog X.w H s.heap
 len : σ.length = X.N.length

section
variable {X : Cx} {pins : List (Addr × Obj)} {σ : List (Option V)} {H H' : Hp} {s : Shared} {h' : Heap}

theorem Cx.Ok.nofr (ok : X.Ok) {b : Addr} {o : Obj} (e : X.base.get? b = some o) : b ∉ X.fs := fun hb => by
 have := (ok.funs.mem hb).1
 rw [e] at this; cases this
theorem Inv.bs (I : Inv X pins σ H s) : ∀ b o, X.base.get? b = some o → s.heap.get? b = some o ∧ H b = none := fun b o e =>
 ⟨I.base.keep b o (I.ok.bs b o e).1 (I.ok.bs b o e).2 (I.ok.nofr e) (I.ok.noex b o e), I.base.free b o (I.ok.bs b o e).1 (I.ok.bs b o e).2 (I.ok.noex b o e)⟩
theorem Inv.bk (I : Inv X pins σ H s) : ∀ b o, X.base.get? b = some o → s.heap.get? b = some o := fun b o e => (I.bs b o e).1
theorem Inv.mod (I : Inv X pins σ H s) : Mod X.K X.mg X.base := I.ok.mod
theorem Inv.kIn (I : Inv X pins σ H s) : X.K.In s.heap := I.ok.mod.kin.keeps I.bk
theorem Inv.lt (I : Inv X pins σ H s) : X.env.locals < s.heap.objs.size := let ⟨_, hn, _⟩ := I.loc; hn.lt
theorem Inv.sz (I : Inv X pins σ H s) : X.s₀.heap.objs.size ≤ s.heap.objs.size := Nat.le_trans I.ok.above (Nat.le_of_lt I.lt)
theorem Inv.nofs (I : Inv X pins σ H s) {a : Addr} (h : s.heap.objs.size ≤ a) : a ∉ X.fs := fun hb => by
 obtain ⟨_, o, ho, _⟩ := I.ok.funs.mem hb
 exact absurd (Nat.lt_of_lt_of_le (Heap.lt_size ho) (Nat.le_trans I.sz h)) (Nat.lt_irrefl _)
theorem Inv.cne (I : Inv X pins σ H s) : ∀ x c, X.env.cells.lookup x = some c → c ≠ X.env.locals := fun x c e z => by
 obtain ⟨v, o, ho, hd⟩ := I.cell x c e
 obtain ⟨m, ⟨o', es, ep, ho', hd', _⟩, _⟩ := I.loc
 rw [z, ho'] at ho; cases ho; rw [hd'] at hd; cases hd
theorem Inv.funs (I : Inv X pins σ H s) : s.heap.FunFrames X.base X.outer := by
 have all : ∀ (l : List Env), (∀ b ∈ frs l, b ∈ X.fs) → X.s₀.heap.FunFrames X.base l → s.heap.FunFrames X.base l := by
  intro l
  induction l with
  | nil => intro _ _; trivial
  | cons env r ih =>
    intro hs hl
    obtain ⟨hk, ⟨L, o, hf, hn, ho, hd⟩, hr⟩ := hl
    have hL : L ∈ X.fs := hs L (by unfold frs; rw [List.filterMap_cons, hf]; exact List.mem_cons_self)
    obtain ⟨sl, e⟩ := I.base.slot L o ho (I.ok.frf L hL) hL fun z => I.ok.exfs L z hL
    exact ⟨hk, ⟨L, _, hf, hn, e, hd⟩, ih (fun b hb => hs b (by unfold frs; rw [List.filterMap_cons, hf]; exact List.mem_cons_of_mem _ hb)) hr⟩
 exact all X.outer (fun _ hb => hb) I.ok.funs

theorem Inv.stack (I : Inv X pins σ H s) : s.heap.FunFrames X.base X.stack := by
 rcases I.ok.stk with e | ⟨e, hf⟩
 · rw [e]; exact I.funs
 · rw [e]
   obtain ⟨m, hn, _⟩ := I.loc
   refine .cons (by rw [I.ok.kind]; decide) hf hn ?_ I.funs
   exact Heap.get?_none_of_le (Nat.le_trans I.ok.bsz I.ok.above)
theorem Inv.stkSub (I : Inv X pins σ H s) : ∀ b ∈ frs X.stack, b ∈ X.env.locals :: X.fs := fun b hb => by
 rcases I.ok.stk with e | ⟨e, hf⟩
 · rw [e] at hb; exact List.mem_cons_of_mem _ hb
 · rw [e] at hb
   unfold frs at hb
   rw [List.filterMap_cons, hf] at hb
   exact hb
theorem Inv.stkFree (I : Inv X pins σ H s) : ∀ b ∈ frs X.stack, H b = none := fun b hb => by
 rcases List.mem_cons.mp (I.stkSub b hb) with e | hb
 · rw [e]; exact I.free
 · obtain ⟨_, o, ho, _⟩ := I.ok.funs.mem hb
   exact I.base.free b o ho (I.ok.frf b hb) fun z => I.ok.exfs b z hb

theorem Inv.step {g' : Array GenState} {t' : Nat} {d' : Drawn} {ch : List Addr} (I : Inv X pins σ H s)
 (hch : ∀ b ∈ ch, (b ∈ X.ex ∨ X.s₀.heap.objs.size ≤ b) ∧ b ≠ X.env.locals ∧ (∀ x c, X.env.cells.lookup x = some c → c ≠ b) ∧ ∀ p ∈ X.pn ++ pins, p.1 ≠ b)
 (keep : ∀ b o, b ≠ X.env.locals → b ∉ X.fs → b ∉ ch → s.heap.get? b = some o → H b = none → h'.get? b = some o)
 (slot : ∀ b o, b ≠ X.env.locals → b ∈ X.fs → b ∉ ch → s.heap.get? b = some o → H b = none → ∃ sl, h'.get? b = some { o with slots := sl }) (free : ∀ b o, b ∉ ch → s.heap.get? b = some o → H b = none → H' b = none)
 (there : ∀ b o, b ∉ ch → s.heap.get? b = some o → ∃ o', h'.get? b = some o')
 (tups : ∀ b xs, H b = some (.tup xs) → H' b = some (.tup xs)) (frzs : ∀ b o u, H b = some (.frz o u) → H' b = some (.frz o u)) (tbls : ∀ b ps, H b = some (.tbl ps) → ∃ more, H' b = some (.tbl (ps ++ more)))
 (ns : ∀ m, s.heap.Ns X.env.locals m → h'.Ns X.env.locals m) (hok : HOk X.prog X.w H' h') (hg : AllBare g') :
 Inv X pins σ H' { s with heap := h', gens := g', drawn := d', toks := t' } := by
 have neL : ∀ b o, X.s₀.heap.get? b = some o → b ≠ X.env.locals := fun b o e => Nat.ne_of_lt (Nat.lt_of_lt_of_le (Heap.lt_size e) I.ok.above)
 have neC : ∀ b o, X.s₀.heap.get? b = some o → b ∉ X.ex → b ∉ ch := fun b o e hx hb => by
  rcases (hch b hb).1 with z | z
  · exact hx z
  · exact absurd (Nat.lt_of_lt_of_le (Heap.lt_size e) z) (Nat.lt_irrefl _)
 have cellK : ∀ x c, X.env.cells.lookup x = some c → ∀ v, s.heap.IsCell c v → h'.IsCell c v := fun x c e v ⟨o, ho, hd⟩ => by
  have nch : c ∉ ch := fun z => (hch c z).2.2.1 x c e rfl
  by_cases hc : c ∈ X.fs
  · obtain ⟨sl, q⟩ := slot c o (I.cne x c e) hc nch ho (I.freeC x c e)
    exact ⟨_, q, hd⟩
  · exact ⟨o, keep c o (I.cne x c e) hc nch ho (I.freeC x c e), hd⟩
 refine ⟨I.ok, I.os, hg, ⟨fun b o e n hb hx => ?_, fun b o e n hb hx => ?_, fun b o e n hx => ?_, fun b o e hx => ?_, fun b xs e => tups b xs (I.base.tups b xs e), fun b o xs e => frzs b o xs (I.base.frzs b o xs e), fun b ps e => ?_⟩, ?_, fun x c e => ?_, ?_, fun x c e => ?_, fun p hp => ?_, hok, I.len⟩
 · exact keep b o (neL b o e) hb (neC b o e hx) (I.base.keep b o e n hb hx) (I.base.free b o e n hx)
 · obtain ⟨sl, e1⟩ := I.base.slot b o e n hb hx
   obtain ⟨sl', e2⟩ := slot b _ (neL b o e) hb (neC b o e hx) e1 (I.base.free b o e n hx)
   exact ⟨sl', e2⟩
 · obtain ⟨o', e1⟩ := I.base.there b o e hx
   exact free b o' (neC b o e hx) e1 (I.base.free b o e n hx)
 · obtain ⟨o', e1⟩ := I.base.there b o e hx
   exact there b o' (neC b o e hx) e1
 · obtain ⟨m1, e1⟩ := I.base.tbls b ps e
   obtain ⟨m2, e2⟩ := tbls b _ e1
   exact ⟨m1 ++ m2, by rw [e2, Array.append_assoc]⟩
 · obtain ⟨m, hn, hl⟩ := I.loc
   refine ⟨m, ns m hn, fun i x v e1 e2 e3 => ?_⟩
   obtain ⟨u, r, l⟩ := hl i x v e1 e2 e3
   refine ⟨u, r, ?_⟩
   rcases l with l | ⟨k, c, e, z⟩
   · exact .inl l
   · exact .inr ⟨k, c, e, cellK x c e _ z⟩
 · obtain ⟨v, z⟩ := I.cell x c e
   exact ⟨v, cellK x c e v z⟩
 · obtain ⟨m, ⟨o, _, _, ho, _⟩, _⟩ := I.loc
   exact free _ o (fun z => (hch _ z).2.1 rfl) ho I.free
 · obtain ⟨v, o, ho, hd⟩ := I.cell x c e
   exact free c o (fun z => (hch c z).2.2.1 x c e rfl) ho (I.freeC x c e)
 · obtain ⟨e, n, ne, nf, d⟩ := I.pin p hp
   have nch : p.1 ∉ ch := fun z => (hch p.1 z).2.2.2 p hp rfl
   exact ⟨keep p.1 p.2 ne nf nch e n, free p.1 p.2 nch e n, ne, nf, d⟩
theorem Inv.un {t' : Nat} (I : Inv X pins σ H s) (u : Un X.fs [] H H' s.heap h') (hok : HOk X.prog X.w H' h') : Inv X pins σ H' { s with heap := h', toks := t' } := by
 obtain ⟨m, ⟨o, es, ep, ho, r⟩, _⟩ := id I.loc
 obtain ⟨sl, hL⟩ := u.any ho I.free (by simp)
 exact I.step (g' := s.gens) (d' := s.drawn) (ch := []) (fun _ z => nomatch z) (fun b o _ hb _ e n => u.keep b o e n hb (by simp)) (fun b o _ hb _ e n => u.slot b o e n hb (by simp)) (fun b o _ e n => u.free b o e n (by simp)) (fun b o _ e => u.there b o e (by simp)) u.tups u.frzs u.tbls (fun m' hm => by
  obtain ⟨o', es', ep', ho', r'⟩ := hm
  rw [ho] at ho'; cases ho'
  exact ⟨_, es', ep', hL, r'⟩) hok I.bare
theorem Inv.call {g' : Array GenState} {t' : Nat} {d' : Drawn} {ch : List Addr} (I : Inv X pins σ H s) (u : Un (frs X.stack) ch H H' s.heap h') (hok : HOk X.prog X.w H' h') (hg : AllBare g')
 (hch : ∀ b ∈ ch, (b ∈ X.ex ∨ X.s₀.heap.objs.size ≤ b) ∧ b ≠ X.env.locals ∧ (∀ x c, X.env.cells.lookup x = some c → c ≠ b) ∧ ∀ p ∈ X.pn ++ pins, p.1 ≠ b) :
 Inv X pins σ H' { s with heap := h', gens := g', drawn := d', toks := t' } := by
 obtain ⟨m, ⟨o, es, ep, ho, r⟩, _⟩ := id I.loc
 obtain ⟨sl, hL⟩ := u.any ho I.free fun z => (hch _ z).2.1 rfl
 exact I.step (ch := ch) hch (fun b o hL hb hc e n => u.keep b o e n (fun z => (List.mem_cons.mp (I.stkSub b z)).elim hL hb) hc) (fun b o _ _ hc e n => u.any e n hc) (fun b o hc e n => u.free b o e n hc) (fun b o hc e => u.there b o e hc) u.tups u.frzs u.tbls (fun m' hm => by
  obtain ⟨o', es', ep', ho', r'⟩ := hm
  rw [ho] at ho'; cases ho'
  exact ⟨_, es', ep', hL, r'⟩) hok hg
theorem Inv.turned {t' : Nat} {it : Addr} (I : Inv X pins σ H s) (k : ∀ b o, b ≠ it → s.heap.get? b = some o → h'.get? b = some o) (hn : H it = none) (hL : it ≠ X.env.locals)
 (h1 : it ∈ X.ex ∨ X.s₀.heap.objs.size ≤ it) (h2 : ∀ x c, X.env.cells.lookup x = some c → c ≠ it) (h3 : ∀ p ∈ X.pn ++ pins, p.1 ≠ it) : Inv X pins σ H { s with heap := h', toks := t' } := by
 have nit : ∀ b u, H b = some u → b ≠ it := fun b u e z => by rw [z, hn] at e; cases e
 refine I.step (g' := s.gens) (d' := s.drawn) (ch := [it]) (fun b hb => ?_) (fun b o _ _ hc e _ => k b o (fun z => hc (by simp [z])) e) (fun b o _ _ hc e _ => ⟨o.slots, k b o (fun z => hc (by simp [z])) e⟩) (fun _ _ _ _ n => n)
  (fun b o hc e => ⟨o, k b o (fun z => hc (by simp [z])) e⟩) (fun _ _ e => e) (fun _ _ _ e => e) (fun b ps e => ⟨#[], by rw [e]; simp⟩) (fun m hm => ?_) (fun b u e => ?_) I.bare
 · have e : b = it := by simpa using hb
   subst e
   exact ⟨h1, hL, h2, h3⟩
 · obtain ⟨o, es, ep, ho, r⟩ := hm
   exact ⟨o, es, ep, k _ o (Ne.symm hL) ho, r⟩
 · refine (I.hok b u e).stay (fun c v hc q => k c v ?_ q) (fun _ q => q) fun _ _ q => q
   rcases hc with z | z
   · rw [z]; exact nit b u e
   · exact nit c _ z
theorem Inv.tok (I : Inv X pins σ H s) (t : Nat) : Inv X pins σ H { s with toks := t } := I.un (h' := s.heap) (t' := t) Un.refl I.hok
theorem Inv.kept {t' : Nat} (I : Inv X pins σ H s) (k : ∀ b u, s.heap.get? b = some u → h'.get? b = some u) : Inv X pins σ H { s with heap := h', toks := t' } := I.un (Un.kept k) (I.hok.kept k)
theorem Inv.laid {a : Addr} {o : HO} {t' : Nat} (I : Inv X pins σ H s) (k : ∀ b u, s.heap.get? b = some u → h'.get? b = some u) (hp : s.heap.objs.size ≤ a) (new : ObjOk X.prog X.w (upd H a o) h' a o) :
 Inv X pins σ (upd H a o) { s with heap := h', toks := t' } := I.un (Un.laid k hp (I.hok.fresh hp)) (I.hok.laid k hp new)
theorem Inv.write {x e : Addr} {o : HO} {t' : Nat} (I : Inv X pins σ H s) (mu : Mut (H x)) (he : e = x ∨ H e = some (.own x)) (k : ∀ b u, b ≠ e → s.heap.get? b = some u → h'.get? b = some u) (heo : ∃ u, h'.get? e = some u)
 (new : ObjOk X.prog X.w (upd H x o) h' x o) : Inv X pins σ (upd H x o) { s with heap := h', toks := t' } := I.un (Un.write mu he k heo) (I.hok.write mu he k heo new)
theorem Inv.pins_of {pins' : List (Addr × Obj)} (I : Inv X pins σ H s) (h : ∀ p ∈ pins', s.heap.get? p.1 = some p.2 ∧ H p.1 = none ∧ p.1 ≠ X.env.locals ∧ p.1 ∉ X.fs ∧ ∀ v, p.2.data ≠ .cell v) : Inv X pins' σ H s :=
 ⟨I.ok, I.os, I.bare, I.base, I.loc, I.cell, I.free, I.freeC, fun p hp => (List.mem_append.mp hp).elim (fun z => I.pin p (List.mem_append_left _ z)) (h p), I.hok, I.len⟩

theorem nodup_ix {N : List Str} (hN : N.Nodup) {i j : Nat} {x : Str} (a : N[i]? = some x) (b : N[j]? = some x) : i = j := by
 obtain ⟨h1, e1⟩ := List.getElem?_eq_some_iff.mp a
 obtain ⟨h2, e2⟩ := List.getElem?_eq_some_iff.mp b
 exact (List.getElem_inj hN).mp (e1.trans e2.symm)

theorem store_ok2 {M : Model} {A : Around} {E : Value → Shared → Prop} {i : Nat} {x : Str} {v : V} {u : Value} {Q : Unit → Shared → Prop} (I : Inv X pins σ H s) (hN : X.N.Nodup) (hi : X.N[i]? = some x) (hx : Loc X.env.scope x) (r : RelV v u)
 (h : ∀ s', Inv X pins (σ.set i (some v)) H s' → (∃ a, Heap.SameBut a s.heap s'.heap ∧ (a = X.env.locals ∨ X.env.cells.lookup x = some a)) → Q () s') (hf : X.fn x = true ∨ X.env.scope.names.lookup x = some .local := by first | exact .inl rfl | exact .inr rfl | assumption) : wpAny M A (storeName X.env x u) Q E s := by
 obtain ⟨m, hn, hl⟩ := id I.loc
 have hcls : (X.env.scope.kind == .class || (X.env.scope.kind == .module && X.env.locals != X.env.globals)) = false := by rw [I.ok.kind]; rfl
 have hiσ : i < σ.length := by rw [I.len]; exact (List.getElem?_eq_some_iff.mp hi).1
 have cne := I.cne
 have tracked : ∀ {a : Addr} {h' : Heap}, (∃ o, s.heap.get? a = some o ∧ H a = none) → Heap.SameBut a s.heap h' → HOk X.prog X.w H h' := fun {a h'} ha hs b ob e => by
  obtain ⟨_, _, hfree⟩ := ha
  refine (I.hok b ob e).stay (fun c w' hc q => (hs.2 c ?_).trans q) (fun _ q => q) fun _ _ q => q
  rintro rfl
  rcases hc with rfl | hc
  · rw [hfree] at e; cases e
  · rw [hfree] at hc; cases hc
 rcases hx with hk | hk
 · refine wpAny_storeName_local hk hn (fun h' hn' hs => ?_) hcls
   obtain ⟨oL, _, _, hoL, _⟩ := id hn
   refine h _ ⟨I.ok, I.os, I.bare, ⟨fun b o e n hb hx => ?_, fun b o e n hb hx => ?_, I.base.free, fun b o e hx => ?_, I.base.tups, I.base.frzs, I.base.tbls⟩, ⟨_, hn', fun j y v' e1 e2 e3 => ?_⟩, fun y c e => ?_, I.free, I.freeC, fun p hp => ?_, tracked ⟨oL, hoL, I.free⟩ hs, by simpa using I.len⟩ ⟨_, hs, .inl rfl⟩
   · exact (hs.2 b (Nat.ne_of_lt (Nat.lt_of_lt_of_le (Heap.lt_size e) I.ok.above))).trans (I.base.keep b o e n hb hx)
   · obtain ⟨sl, e1⟩ := I.base.slot b o e n hb hx
     exact ⟨sl, (hs.2 b (Nat.ne_of_lt (Nat.lt_of_lt_of_le (Heap.lt_size e) I.ok.above))).trans e1⟩
   · obtain ⟨o', e1⟩ := I.base.there b o e hx
     exact ⟨o', (hs.2 b (Nat.ne_of_lt (Nat.lt_of_lt_of_le (Heap.lt_size e) I.ok.above))).trans e1⟩
   · by_cases hj : j = i
     · subst hj
       rw [hi] at e1; cases e1
       rw [List.getElem?_set_self hiσ] at e2
       cases e2
       exact ⟨u, r, .inl ⟨hk, by simp⟩⟩
     · rw [List.getElem?_set_ne (Ne.symm hj)] at e2
       obtain ⟨u', r', q⟩ := hl j y v' e1 e2 e3
       refine ⟨u', r', ?_⟩
       rcases q with ⟨k, e⟩ | ⟨k, c, e, z⟩
       · refine .inl ⟨k, ?_⟩
         have : y ≠ x := fun e => hj (nodup_ix hN e1 (e ▸ hi))
         simp [this, e]
       · exact .inr ⟨k, c, e, z.sameBut hs (cne y c e)⟩
   · obtain ⟨w', z⟩ := I.cell y c e
     exact ⟨w', z.sameBut hs (cne y c e)⟩
   · obtain ⟨e, n, ne, nf, d⟩ := I.pin p hp
     exact ⟨(hs.2 p.1 ne).trans e, n, ne, nf, d⟩
 · have hfn : X.fn x = true := by
    rcases hf with z | z
    · exact z
    · rw [z] at hk; cases hk
   obtain ⟨c, hc⟩ := I.ok.has x (.inl hk)
   obtain ⟨w', z⟩ := I.cell x c hc
   refine wpAny_storeName_cell I.ok.kind hk hc z (fun h' hc' hs => ?_)
   obtain ⟨oc, hoc, hocd⟩ := id z
   refine h { s with heap := h' } ⟨I.ok, I.os, I.bare, ⟨fun b o e n hb hx => ?_, fun b o e n hb hx => ?_, I.base.free, fun b o e hx => ?_, I.base.tups, I.base.frzs, I.base.tbls⟩, ⟨m, hn.sameBut hs (Ne.symm (cne x c hc)), fun j y v' e1 e2 e3 => ?_⟩, fun y c' e => ?_, I.free, I.freeC, fun p hp => ?_, tracked ⟨oc, hoc, I.freeC x c hc⟩ hs, by simpa using I.len⟩ ⟨c, hs, .inr hc⟩
   · exact (hs.2 b (Nat.ne_of_lt (Nat.lt_of_lt_of_le (Heap.lt_size e) (I.ok.cab x c hfn hc)))).trans (I.base.keep b o e n hb hx)
   · obtain ⟨sl, e1⟩ := I.base.slot b o e n hb hx
     exact ⟨sl, (hs.2 b (Nat.ne_of_lt (Nat.lt_of_lt_of_le (Heap.lt_size e) (I.ok.cab x c hfn hc)))).trans e1⟩
   · obtain ⟨o', e1⟩ := I.base.there b o e hx
     exact ⟨o', (hs.2 b (Nat.ne_of_lt (Nat.lt_of_lt_of_le (Heap.lt_size e) (I.ok.cab x c hfn hc)))).trans e1⟩
   · by_cases hj : j = i
     · subst hj
       rw [hi] at e1; cases e1
       rw [List.getElem?_set_self hiσ] at e2
       cases e2
       exact ⟨u, r, .inr ⟨.inl hk, c, hc, hc'⟩⟩
     · rw [List.getElem?_set_ne (Ne.symm hj)] at e2
       obtain ⟨u', r', q⟩ := hl j y v' e1 e2 e3
       refine ⟨u', r', ?_⟩
       rcases q with q | ⟨k, c', e, z'⟩
       · exact .inl q
       · refine .inr ⟨k, c', e, z'.sameBut hs ?_⟩
         rintro rfl
         exact hj (nodup_ix hN e1 (I.ok.inj _ _ _ e hc ▸ hi))
   · by_cases hcc : c' = c
     · subst hcc; exact ⟨_, hc'⟩
     · obtain ⟨w2, z2⟩ := I.cell y c' e
       exact ⟨w2, z2.sameBut hs hcc⟩
   · obtain ⟨e, n, ne, nf, d⟩ := I.pin p hp
     refine ⟨(hs.2 p.1 ?_).trans e, n, ne, nf, d⟩
     intro q
     rw [q, hoc] at e
     have q' : oc = p.2 := Option.some.inj e
     exact d w' (by rw [← q']; exact hocd)
theorem store_ok {M : Model} {A : Around} {E : Value → Shared → Prop} {i : Nat} {x : Str} {v : V} {u : Value} {Q : Unit → Shared → Prop} (I : Inv X pins σ H s) (hN : X.N.Nodup) (hi : X.N[i]? = some x) (hx : Loc X.env.scope x) (r : RelV v u)
 (h : ∀ s', Inv X pins (σ.set i (some v)) H s' → Q () s') (hf : X.fn x = true ∨ X.env.scope.names.lookup x = some .local := by first | exact .inl rfl | exact .inr rfl | assumption) : wpAny M A (storeName X.env x u) Q E s :=
 store_ok2 I hN hi hx r (fun s' I' _ => h s' I') hf
theorem Inv.call' {s' : Shared} {ch : List Addr} (I : Inv X pins σ H s) (ho : s'.os = s.os) (u : Un (frs X.stack) ch H H' s.heap s'.heap) (hok : HOk X.prog X.w H' s'.heap) (hg : AllBare s'.gens)
 (hch : ∀ b ∈ ch, (b ∈ X.ex ∨ X.s₀.heap.objs.size ≤ b) ∧ b ≠ X.env.locals ∧ (∀ x c, X.env.cells.lookup x = some c → c ≠ b) ∧ ∀ p ∈ X.pn ++ pins, p.1 ≠ b) : Inv X pins σ H' s' := by
 obtain ⟨h', g', d', t', o'⟩ := s'
 have e : o' = s.os := ho
 subst e
 exact I.call (g' := g') (t' := t') (d' := d') u hok hg hch
end

noncomputable abbrev XK := Value → Option Addr → Hp → Prop
noncomputable abbrev St := List (Option V)
noncomputable abbrev VK := V → Hp → Prop
noncomputable abbrev TE := St → Hp → VK → Prop
noncomputable abbrev TT := St → Hp → (Bool → Hp → Prop) → Prop
noncomputable abbrev TA := St → Hp → (List V → Hp → Prop) → Prop
set_option genInjectivity false in
structure Ends where
 nx : St → Hp → Prop
 rt : VK
 bk : St → Hp → Prop := fun _ _ => False
 ct : St → Hp → Prop := fun _ _ => False
noncomputable abbrev TS := Ends → St → Hp → Prop

noncomputable def EP (X : Cx) (pins : List (Addr × Obj)) (σ : St) (Q : VK) (u : Value) (s' : Shared) : Prop := ∃ v H', Inv X pins σ H' s' ∧ RelV v u ∧ Q v H'
noncomputable def TP (X : Cx) (pins : List (Addr × Obj)) (σ : St) (Q : Bool → Hp → Prop) (b : Bool) (s' : Shared) : Prop := ∃ H', Inv X pins σ H' s' ∧ Q b H'
noncomputable def AP (X : Cx) (pins : List (Addr × Obj)) (σ : St) (Q : List V → Hp → Prop) (us : List Value) (s' : Shared) : Prop := ∃ vs H', Inv X pins σ H' s' ∧ Vals vs us ∧ Q vs H'
noncomputable def SP (X : Cx) (pins : List (Addr × Obj)) (D : Ends) (f : Flow) (s' : Shared) : Prop :=
 match f with
 | .next => ∃ σ' H', Inv X pins σ' H' s' ∧ D.nx σ' H'
 | .brk => ∃ σ' H', Inv X pins σ' H' s' ∧ D.bk σ' H'
 | .cont => ∃ σ' H', Inv X pins σ' H' s' ∧ D.ct σ' H'
 | .ret u => ∃ v σ' H', Inv X pins σ' H' s' ∧ RelV v u ∧ D.rt v H'

noncomputable def PE (X : Cx) (e : Expr) (t : TE) : Prop :=
 ∀ (pins : List (Addr × Obj)) (s : Shared) (σ : St) (H : Hp) (Q : VK), Inv X pins σ H s → t σ H Q → wpAny (model X.prog X.w) X.A (eval e X.env) (EP X pins σ Q) X.xe s
noncomputable def PT (X : Cx) (e : Expr) (t : TT) : Prop :=
 ∀ (pins : List (Addr × Obj)) (s : Shared) (σ : St) (H : Hp) (Q : Bool → Hp → Prop), Inv X pins σ H s → t σ H Q → wpAny (model X.prog X.w) X.A (isTrue e X.env (eval e X.env)) (TP X pins σ Q) X.xe s
noncomputable def PW (X : Cx) (e : Expr) (t : TT) : Prop :=
 ∀ (whole : Sem Value) (pins : List (Addr × Obj)) (s : Shared) (σ : St) (H : Hp) (Q : Bool → Hp → Prop), Inv X pins σ H s → t σ H Q → wpAny (model X.prog X.w) X.A (isTrue e X.env whole) (TP X pins σ Q) X.xe s
theorem PW.pt {X : Cx} {e : Expr} {t : TT} (h : PW X e t) : PT X e t := h _
noncomputable def PA (X : Cx) (es : List Expr) (t : TA) : Prop :=
 ∀ (pos : Pos) (pins : List (Addr × Obj)) (s : Shared) (σ : St) (H : Hp) (Q : List V → Hp → Prop), Inv X pins σ H s → t σ H Q → wpAny (model X.prog X.w) X.A (spliced (backTo pos (starEach es X.env))) (AP X pins σ Q) X.xe s
noncomputable def PS (X : Cx) (st : Stmt) (t : TS) : Prop :=
 ∀ (pins : List (Addr × Obj)) (s : Shared) (σ : St) (H : Hp) (D : Ends), Inv X pins σ H s → t D σ H → wpAny (model X.prog X.w) X.A (exec st X.env) (SP X pins D) X.xe s
noncomputable def PSs (X : Cx) (st : List Stmt) (t : TS) : Prop :=
 ∀ (pins : List (Addr × Obj)) (s : Shared) (σ : St) (H : Hp) (D : Ends), Inv X pins σ H s → t D σ H → wpAny (model X.prog X.w) X.A (execs st X.env) (SP X pins D) X.xe s
theorem thn {α : Type} {t : Sem α} {Q Q' : α → Shared → Prop} {M : Model} {A : Around} {E : Value → Shared → Prop} {s : Shared} (h : wpAny M A t Q E s) (hQ : ∀ a s, Q a s → Q' a s) : wpAny M A t Q' E s := wpAny_mono h hQ fun _ _ x => x
end L2

namespace L2
open PySem PySem.Spec PyProof.Rows
section
variable {X : Cx}

noncomputable def tVar (i : Nat) : TE := fun σ H Q => ∃ v, σ[i]? = some (some v) ∧ Q v H
noncomputable def tC (v : V) : TE := fun _ H Q => Q v H
theorem pe_var {i : Nat} {x : Str} {pos : Pos} (hN : X.N[i]? = some x) (hv : Vis X.env.scope x) (hd : (x == ("__debug__" : Str)) = false := by decide) (hcd : (x == ("__classdict__" : Str)) = false := by decide) : PE X (.Name x pos) (tVar i) := by
 intro pins s σ H Q I h
 obtain ⟨v, e, h⟩ := h
 obtain ⟨m, hn, hl⟩ := I.loc
 obtain ⟨u, r, l⟩ := hl i x v hN e hv
 have fin : EP X pins σ Q u s := ⟨v, H, I, r, h⟩
 rcases l with ⟨hk, hm⟩ | ⟨hk, c, hc, hcell⟩
 · exact wpAny_Name (wpAny_loadName_local I.ok.kind hk hn hm fin) hd
 · rcases hk with hk | hk
   · exact wpAny_Name (wpAny_loadName_cell I.ok.kind hk hc hcell fin) hd
   · exact wpAny_Name (wpAny_loadName_free I.ok.kind hk hc hcell fin hcd) hd
theorem pe_int {i j pos} : PE X (.Constant (.int i) j pos) (tC (.int i)) := fun _ _ _ H _ I h => wpAny_Constant_int ⟨.int i, H, I.tok _, ⟨_, rfl⟩, h⟩
theorem pe_bl {b j pos} : PE X (.Constant (.bool b) j pos) (tC (.bl b)) := fun _ _ _ H _ I h => Constant_bool ⟨.bl b, H, I, rfl, h⟩
theorem pe_non {j pos} : PE X (.Constant .none j pos) (tC .non) := fun _ _ _ H _ I h => Constant_none ⟨.non, H, I, rfl, h⟩
theorem pe_str {x j pos} : PE X (.Constant (.str x) j pos) (tC (.str x)) := fun _ _ _ H _ I h => Calls.Constant_str ⟨.str x, H, I.tok _, ⟨_, rfl⟩, h⟩

noncomputable def Gl (X : Cx) (x : Str) : Prop := X.env.kindOf x = some .globalImplicit
theorem ld_glob {E : Value → Shared → Prop} {pins : List (Addr × Obj)} {s : Shared} {σ : St} {H : Hp} {x : Str} {u : Value} {pos : Pos} {Q : Value → Shared → Prop} (I : Inv X pins σ H s) (hg : Gl X x) (hm : X.mg x = some u) (h : Q u s)
 (hd : (x == ("__debug__" : Str)) = false := by decide) : wpAny (model X.prog X.w) X.A (eval (.Name x pos) X.env) Q E s :=
 Calls.Name_function_global I.ok.kind hg (Calls.loadGlobal_global (by rw [I.ok.glob]; exact I.mod.glob.keeps I.bk) hm h) hd
theorem ld_blt {E : Value → Shared → Prop} {pins : List (Addr × Obj)} {s : Shared} {σ : St} {H : Hp} {x : Str} {u : Value} {pos : Pos} {Q : Value → Shared → Prop} (I : Inv X pins σ H s) (hg : Gl X x) (hm : X.mg x = none) (hv : bootBuiltins x = some u) (h : Q u s)
 (hn : x ≠ "__name__" := by decide) (hd : (x == ("__debug__" : Str)) = false := by decide) : wpAny (model X.prog X.w) X.A (eval (.Name x pos) X.env) Q E s := by
 obtain ⟨mb, h1, h2⟩ := I.mod.blt
 exact Calls.Name_function_global I.ok.kind hg (Calls.loadGlobal_builtin (by rw [I.ok.glob]; exact I.mod.glob.keeps I.bk) hm (by rw [I.ok.blt]; exact h1.keeps I.bk) ((h2 x hn).trans hv) h) hd
theorem pe_glob {x : Str} {v : V} {u : Value} {pos : Pos} (hg : Gl X x) (hm : X.mg x = some u) (r : RelV v u) (hd : (x == ("__debug__" : Str)) = false := by decide) : PE X (.Name x pos) (tC v) :=
 fun _ _ _ H _ I h => ld_glob I hg hm ⟨v, H, I, r, h⟩ hd
theorem pe_bltn {x : Str} {v : V} {u : Value} {pos : Pos} (hg : Gl X x) (hm : X.mg x = none) (hv : bootBuiltins x = some u) (r : RelV v u) (hn : x ≠ "__name__" := by decide) (hd : (x == ("__debug__" : Str)) = false := by decide) : PE X (.Name x pos) (tC v) :=
 fun _ _ _ H _ I h => ld_blt I hg hm hv ⟨v, H, I, r, h⟩ hn hd

variable {a b : Expr} {ta tb : TE} {pos : Pos}
noncomputable def tB (t : TE) : TT := fun σ H Q => t σ H fun x H1 => ∃ c, x = .bl c ∧ Q c H1
theorem pt_val {e : Expr} {t : TE} (h : PE X e t) (he : ∀ whole, isTrue e X.env whole = (do let v ← whole; standAt e.pos; holding [v] (truthy v)) := by intro _; rfl) : PT X e (tB t) := by
 intro pins s σ H Q I hw
 refine isTrue_plain (thn (h pins s σ H _ I hw) fun v s1 ⟨x, H1, I1, r1, q1⟩ => ?_) (he _)
 obtain ⟨d, rfl, q⟩ := q1
 cases r1
 exact wpAny_truthy_bool ⟨H1, I1, q⟩

variable {tA tB' : TT} {rest : List Expr}
noncomputable def tAnd (t u : TT) : TT := fun σ H Q => t σ H fun c H1 => if c = true then u σ H1 Q else Q false H1
noncomputable def tOr (t u : TT) : TT := fun σ H Q => t σ H fun c H1 => if c = true then Q true H1 else u σ H1 Q
noncomputable def tNot (t : TT) : TT := fun σ H Q => t σ H fun c H1 => Q (!c) H1
theorem pw_and1 (ha : PT X a tA) : PW X (.BoolOp .And [a] pos) tA := by
 intro wh pins s σ H Q I h
 refine isTrue_and (thn (ha pins s σ H Q I h) fun c s1 e => ?_)
 cases c with
 | true => exact isTrue_and_nil e
 | false => exact e
theorem pw_or1 (ha : PT X a tA) : PW X (.BoolOp .Or [a] pos) tA := by
 intro wh pins s σ H Q I h
 refine isTrue_or (thn (ha pins s σ H Q I h) fun c s1 e => ?_)
 cases c with
 | false => exact isTrue_or_nil e
 | true => exact e
theorem pw_and (ha : PT X a tA) (hb : PW X (.BoolOp .And (b :: rest) pos) tB') : PW X (.BoolOp .And (a :: b :: rest) pos) (tAnd tA tB') := by
 intro wh pins s σ H Q I h
 refine isTrue_and (thn (ha pins s σ H _ I h) fun c s1 ⟨H1, I1, q1⟩ => ?_)
 cases c with
 | true => exact hb wh pins s1 σ H1 Q I1 q1
 | false => exact ⟨H1, I1, q1⟩
theorem pw_or (ha : PT X a tA) (hb : PW X (.BoolOp .Or (b :: rest) pos) tB') : PW X (.BoolOp .Or (a :: b :: rest) pos) (tOr tA tB') := by
 intro wh pins s σ H Q I h
 refine isTrue_or (thn (ha pins s σ H _ I h) fun c s1 ⟨H1, I1, q1⟩ => ?_)
 cases c with
 | true => exact ⟨H1, I1, q1⟩
 | false => exact hb wh pins s1 σ H1 Q I1 q1
theorem pt_not (ha : PT X a tA) : PT X (.UnaryOp .Not a pos) (tNot tA) := by
 intro pins s σ H Q I h
 exact isTrue_not (ha pins s σ H (fun c H1 => Q (!c) H1) I h)
noncomputable def tAndV (ta tb : TE) : TE := fun σ H Q => ta σ H fun x H1 => ∃ c, x = .bl c ∧ if c = true then tb σ H1 Q else Q (.bl false) H1
noncomputable def tNotV (ta : TE) : TE := fun σ H Q => ta σ H fun x H1 => ∃ c, x = .bl c ∧ Q (.bl (!c)) H1
theorem pe_one {op} {t : TE} (h : PE X a t) : PE X (.BoolOp op [a] pos) t := fun pins s σ H Q I hw => BoolOp_one (h pins s σ H Q I hw)
theorem pe_and (ha : PE X a ta) (hb : PE X (.BoolOp .And (b :: rest) pos) tb) : PE X (.BoolOp .And (a :: b :: rest) pos) (tAndV ta tb) := by
 intro pins s σ H Q I h
 refine BoolOp_and (thn (ha pins s σ H _ I h) fun v s1 ⟨x, H1, I1, r1, q1⟩ => ?_)
 obtain ⟨c, rfl, q1⟩ := q1
 cases r1
 refine wpAny_truthy_bool ?_
 cases c with
 | true => exact hb pins s1 σ H1 Q I1 q1
 | false => exact ⟨.bl false, H1, I1, rfl, q1⟩
theorem pe_not (ha : PE X a ta) : PE X (.UnaryOp .Not a pos) (tNotV ta) := by
 intro pins s σ H Q I h
 refine UnaryOp_ (thn (ha pins s σ H _ I h) fun v s1 ⟨x, H1, I1, r1, q1⟩ => ?_)
 obtain ⟨c, rfl, q1⟩ := q1
 cases r1
 exact not_of (wpAny_truthy_bool ⟨.bl (!c), H1, I1, rfl, q1⟩)
end
end L2

namespace L2
open PySem PySem.Spec PyProof.Rows

noncomputable def SqL (K : PySem.W.Frag) (H : Hp) (a : Addr) (xs : List V) : Prop :=
 Rd H a (.lst xs) ∨
  ∃ (o : Obj) (its : Array Value) (n : Nat), K.lookup a = some o ∧ o.cls = .type "list" ∧ o.dict = none ∧ o.data = .seq its n ∧ its.size ≤ sizeLine ∧ Vals xs its.toList
noncomputable def SqT (K : PySem.W.Frag) (H : Hp) (a : Addr) (xs : List V) : Prop :=
 Rd H a (.tup xs) ∨
  ∃ (o : Obj) (its : Array Value) (n : Nat), K.lookup a = some o ∧ o.cls = .type "tuple" ∧ o.data = .seq its n ∧ its.size ≤ sizeLine ∧ Vals xs its.toList
noncomputable def absV : Value → Option V
 | .none => some .non
 | .bool b => some (.bl b)
 | .int i _ => some (.int i)
 | .str x _ => some (.str x)
 | .bytes b _ => some (.byt b)
 | .float b _ => some (.flt b)
 | .ref a => some (.ref a)
 | .type n => some (.ty n)
 | _ => none
theorem RelV.abs {x : V} {u : Value} (r : RelV x u) : absV u = some x := by
 cases x with
 | non => cases r; rfl
 | bl _ => cases r; rfl
 | int _ => obtain ⟨t, rfl⟩ := r; rfl
 | str _ => obtain ⟨t, rfl⟩ := r; rfl
 | byt _ => obtain ⟨t, rfl⟩ := r; rfl
 | flt _ => obtain ⟨t, rfl⟩ := r; rfl
 | ref _ => cases r; rfl
 | ty _ => cases r; rfl
theorem RelV.inj {x y : V} {u : Value} (r : RelV x u) (q : RelV y u) : x = y := Option.some.inj (r.abs.symm.trans q.abs)
theorem Vals.inj : ∀ {xs ys : List V} {us : List Value}, Vals xs us → Vals ys us → xs = ys
 | _, _, _, .nil, .nil => rfl
 | _, _, _, .cons r t, .cons r' t' => by rw [r.inj r', Vals.inj t t']
section
variable {X : Cx} {pins : List (Addr × Obj)} {σ : St} {H : Hp} {s : Shared} {a : Addr} {xs ys : List V}
theorem SqL.of {K : PySem.W.Frag} (h : H a = some (.lst xs)) : SqL K H a xs := .inl (.inl h)
theorem SqT.of {K : PySem.W.Frag} (h : H a = some (.tup xs)) : SqT K H a xs := .inl (.inl h)
theorem Inv.list (I : Inv X pins σ H s) (h : SqL X.K H a xs) : ∃ its : List Value, Vals xs its ∧ PlainL s.heap a its.toArray ∧ xs.length ≤ sizeLine := by
 rcases h with h | ⟨o, its, n, hk, hc, hd, hs, hz, r⟩
 · obtain ⟨z, its, n, r, e⟩ := h.ok I.hok
   exact ⟨its, r, ⟨_, n, e, rfl, rfl, rfl⟩, z⟩
 · refine ⟨its.toList, r, ⟨o, n, I.kIn a o hk, hc, hd, by simpa using hs⟩, ?_⟩
   have e := r.length
   simp only [Array.length_toList] at e
   omega
theorem Inv.tuple (I : Inv X pins σ H s) (h : SqT X.K H a xs) : ∃ its : List Value, Vals xs its ∧ IsTup s.heap a its.toArray ∧ xs.length ≤ sizeLine := by
 rcases h with h | ⟨o, its, n, hk, hc, hs, hz, r⟩
 · obtain ⟨z, its, r, p⟩ := h.ok I.hok
   exact ⟨its, r, p.tup, z⟩
 · refine ⟨its.toList, r, ⟨o, I.kIn a o hk, hc, n, by simpa using hs⟩, ?_⟩
   have e := r.length
   simp only [Array.length_toList] at e
   omega
theorem Inv.list_inj (I : Inv X pins σ H s) (h : SqL X.K H a xs) (h' : SqL X.K H a ys) : xs = ys := by
 obtain ⟨its, r, ⟨o, n, e, _, _, d⟩, _⟩ := I.list h
 obtain ⟨its', r', ⟨o', n', e', _, _, d'⟩, _⟩ := I.list h'
 rw [e] at e'; cases e'
 rw [d] at d'
 injection d' with d1 _
 have : its = its' := by simpa using congrArg Array.toList d1
 subst this
 exact r.inj r'
theorem Inv.tuple_inj (I : Inv X pins σ H s) (h : SqT X.K H a xs) (h' : SqT X.K H a ys) : xs = ys := by
 obtain ⟨its, r, ⟨o, e, _, n, d⟩, _⟩ := I.tuple h
 obtain ⟨its', r', ⟨o', e', _, n', d'⟩, _⟩ := I.tuple h'
 rw [e] at e'; cases e'
 rw [d] at d'
 injection d' with d1 _
 have : its = its' := by simpa using congrArg Array.toList d1
 subst this
 exact r.inj r'
end

noncomputable abbrev Cx.wish (X : Cx) (E : Value → Shared → Prop) : Cx := { X with xe := E }
noncomputable abbrev Cx.nox (X : Cx) : Cx := X.wish fun _ _ => False
theorem Cx.Ok.wish {X : Cx} (ok : X.Ok) (E : Value → Shared → Prop) : (X.wish E).Ok :=
 ⟨ok.mod, ok.kind, ok.glob, ok.blt, ok.above, ok.inj, ok.has, ok.cab, ok.hd, ok.frames, ok.stk, ok.exf, ok.bs, ok.bsz, ok.noex, ok.exfs, ok.funs, ok.frf⟩
theorem Cx.Ok.unwish {X : Cx} {E : Value → Shared → Prop} (ok : (X.wish E).Ok) : X.Ok :=
 ⟨ok.mod, ok.kind, ok.glob, ok.blt, ok.above, ok.inj, ok.has, ok.cab, ok.hd, ok.frames, ok.stk, ok.exf, ok.bs, ok.bsz, ok.noex, ok.exfs, ok.funs, ok.frf⟩
section
variable {X : Cx} {pins : List (Addr × Obj)} {σ : St} {H : Hp} {s : Shared} {E : Value → Shared → Prop}
theorem Inv.wish (I : Inv X pins σ H s) (E : Value → Shared → Prop) : Inv (X.wish E) pins σ H s := ⟨I.ok.wish E, I.os, I.bare, I.base, I.loc, I.cell, I.free, I.freeC, I.pin, I.hok, I.len⟩
theorem Inv.unwish (I : Inv (X.wish E) pins σ H s) : Inv X pins σ H s := ⟨I.ok.unwish, I.os, I.bare, I.base, I.loc, I.cell, I.free, I.freeC, I.pin, I.hok, I.len⟩
theorem SP.unwish {D : Ends} {f : Flow} {s' : Shared} (h : SP (X.wish E) pins D f s') : SP X pins D f s' := by
 cases f with
 | next => obtain ⟨σ', H', I, q⟩ := h; exact ⟨σ', H', I.unwish, q⟩
 | brk => obtain ⟨σ', H', I, q⟩ := h; exact ⟨σ', H', I.unwish, q⟩
 | cont => obtain ⟨σ', H', I, q⟩ := h; exact ⟨σ', H', I.unwish, q⟩
 | ret u => obtain ⟨v, σ', H', I, r, q⟩ := h; exact ⟨v, σ', H', I.unwish, r, q⟩
theorem PSs.nox {st : List Stmt} {t : TS} (h : PSs X.nox st t) : PSs X st t := fun pins s σ H D I hw =>
 wpAny_mono (h pins s σ H D (I.wish _) hw) (fun _ _ q => q.unwish) fun _ _ z => False.elim z
end

section
variable {X : Cx} {st : Stmt} {rest : List Stmt} {t u : TS} {e : Expr} {te : TE} {pos : Pos}
noncomputable def tNext : TS := fun D σ H => D.nx σ H
noncomputable def tSeq (t u : TS) : TS := fun D σ H => t { D with nx := u D } σ H
theorem pss_nil : PSs X [] tNext := fun _ _ σ H _ I h => wpAny_execs_nil ⟨σ, H, I, h⟩
theorem pss_cons (h1 : PS X st t) (h2 : PSs X rest u) : PSs X (st :: rest) (tSeq t u) := by
 intro pins s σ H D I h
 refine wpAny_execs_cons (thn (h1 pins s σ H { D with nx := u D } I h) fun f s1 q => ?_)
 cases f with
 | next =>
   obtain ⟨σ', H', I', q⟩ := q
   exact h2 pins s1 σ' H' D I' q
 | ret v => exact q
 | brk => exact q
 | cont => exact q
theorem pss_one (h1 : PS X st t) : PSs X [st] t := by
 intro pins s σ H D I h
 refine wpAny_execs_cons (thn (h1 pins s σ H D I h) fun f s1 q => ?_)
 cases f with
 | next => exact wpAny_execs_nil q
 | ret v => exact q
 | brk => exact q
 | cont => exact q
theorem Inv.quiet {pins : List (Addr × Obj)} {σ : St} {H : Hp} {s : Shared} (I : Inv X pins σ H s) : interactive X.env = false := by simp [interactive, I.ok.kind]
noncomputable def tDrop (te : TE) : TS := fun D σ H => te σ H fun _ H1 => D.nx σ H1
theorem ps_expr (he : PE X e te) (hs : swapsWith e none pos.line X.env = pure false := by rfl) : PS X (.Expr e pos) (tDrop te) := by
 intro pins s σ H D I h
 exact wpAny_Expr_any (thn (he pins s σ H _ I h) fun v s1 ⟨x, H1, I1, r1, q1⟩ => ⟨σ, H1, I1, q1⟩) I.quiet hs
noncomputable def tRet (te : TE) : TS := fun D σ H => te σ H D.rt
theorem ps_ret (he : PE X e te) : PS X (.Return (some e) pos) (tRet te) := by
 intro pins s σ H D I h
 exact wpAny_Return_some (thn (he pins s σ H _ I h) fun v s1 ⟨x, H1, I1, r1, q1⟩ => ⟨x, σ, H1, I1, r1, q1⟩)
noncomputable def tIfS (c : TT) (t u : TS) : TS := fun D σ H => c σ H fun b H1 => if b = true then t D σ H1 else u D σ H1
theorem ps_if {c : Expr} {a b : List Stmt} {tc : TT} (hc : PT X c tc) (ha : PSs X a t) (hb : PSs X b u) : PS X (.If c a b pos) (tIfS tc t u) := by
 intro pins s σ H D I h
 refine wpAny_If (thn (hc pins s σ H _ I h) fun d s1 ⟨H1, I1, q1⟩ => ?_)
 cases d with
 | true => exact ha pins s1 σ H1 D I1 q1
 | false => exact hb pins s1 σ H1 D I1 q1
end

noncomputable abbrev TG := V → St → Hp → (St → Hp → Prop) → Prop
noncomputable abbrev TGs := List V → St → Hp → (St → Hp → Prop) → Prop
noncomputable def PG (X : Cx) (target : Expr) (t : TG) : Prop :=
 ∀ (pins : List (Addr × Obj)) (s : Shared) (σ : St) (H : Hp) (v : V) (u : Value) (Q : St → Hp → Prop), Inv X pins σ H s → RelV v u → t v σ H Q →
   wpAny (model X.prog X.w) X.A (assign target X.env u) (fun _ s' => ∃ σ' H', Inv X pins σ' H' s' ∧ Q σ' H') X.xe s
noncomputable def PGs (X : Cx) (ts : List Expr) (t : TGs) : Prop :=
 ∀ (pins : List (Addr × Obj)) (s : Shared) (σ : St) (H : Hp) (vs : List V) (us : List Value) (Q : St → Hp → Prop), Inv X pins σ H s → Vals vs us → t vs σ H Q →
   wpAny (model X.prog X.w) X.A (assignInOrder ((assignEach ts X.env).map (·.2)) us) (fun _ s' => ∃ σ' H', Inv X pins σ' H' s' ∧ Q σ' H') X.xe s
noncomputable abbrev TSet := V → V → V → Hp → (Hp → Prop) → Prop
noncomputable def PSet (X : Cx) (t : TSet) : Prop :=
 ∀ (pins : List (Addr × Obj)) (s : Shared) (σ : St) (H : Hp) (o i v : V) (ov iv u : Value) (Q : Hp → Prop), Inv X pins σ H s → RelV o ov → RelV i iv → RelV v u → t o i v H Q →
   wpAny (model X.prog X.w) X.A (setItem ov iv u) (fun _ s' => ∃ H', Inv X pins σ H' s' ∧ Q H') X.xe s
section
variable {X : Cx} {pos : Pos}
noncomputable def gName (i : Nat) : TG := fun v σ H Q => Q (σ.set i (some v)) H
theorem pg_name {i : Nat} {x : Str} (hN : X.N.Nodup) (hi : X.N[i]? = some x) (hx : Loc X.env.scope x) (hf : X.fn x = true ∨ X.env.scope.names.lookup x = some .local := by first | exact .inl rfl | exact .inr rfl | assumption) : PG X (.Name x pos) (gName i) := by
 intro pins s σ H v u Q I r h
 exact wpAny_assign_Name (store_ok I hN hi hx r (fun s' I' => ⟨_, H, I', h⟩) hf)
noncomputable def gNil : TGs := fun vs σ H Q => vs = [] ∧ Q σ H
noncomputable def gCons (t : TG) (u : TGs) : TGs := fun vs σ H Q => ∃ v r, vs = v :: r ∧ t v σ H fun σ' H' => u r σ' H' Q
theorem pgs_nil : PGs X [] gNil := by
 intro pins s σ H vs us Q I r h
 obtain ⟨e, h⟩ := h
 subst e
 cases r
 exact assignInOrder_nil ⟨σ, H, I, h⟩
theorem pgs_cons {e : Expr} {es : List Expr} {t : TG} {u : TGs} (h1 : PG X e t) (h2 : PGs X es u)
 (hs : (assignEach (e :: es) X.env).map (·.2) = assign e X.env :: (assignEach es X.env).map (·.2) := by rfl) : PGs X (e :: es) (gCons t u) := by
 intro pins s σ H vs us Q I r h
 obtain ⟨v, vr, e1, h⟩ := h
 subst e1
 cases r with
 | cons r rr =>
   rw [hs]
   refine assignInOrder_cons (thn (h1 pins s σ H _ _ _ I r h) fun _ s1 ⟨σ1, H1, I1, q1⟩ => ?_)
   exact h2 pins s1 σ1 H1 _ _ Q I1 rr q1
noncomputable def gTup (K : PySem.W.Frag) (n : Nat) (t : TGs) : TG := fun v σ H Q => ∃ a xs, v = .ref a ∧ SqT K H a xs ∧ xs.length = n ∧ t xs σ H Q
theorem pg_tup {es : List Expr} {k : Nat} {t : TGs} {n : Nat} (hc : X.calm = true) (h : PGs X es t)
 (hn : (assignEach es X.env).length = n := by rfl) (hst : (assignEach es X.env).findIdx? (·.1) = none := by rfl) : PG X (.Tuple es k pos) (gTup X.K n t) := by
 intro pins s σ H v u Q I r hw
 obtain ⟨a, xs, e1, hq, hl, hw⟩ := hw
 subst e1
 cases r
 obtain ⟨its, rv, ht, hz⟩ := I.tuple hq
 refine assign_Tuple_tuple (I.ok.hd hc) ht (by simp [hn, ← hl, rv.length]) hst fun h' hx => ?_
 have I1 : Inv X pins σ H { s with heap := h' } := I.kept (t' := s.toks) fun b o e => hx b o (Nat.ne_of_lt (Heap.lt_size e)) e
 exact h pins _ σ H xs _ Q I1 (by simpa using rv) hw
noncomputable def gSub (to ti : TE) (t : TSet) : TG := fun v σ H Q => to σ H fun o H1 => ti σ H1 fun i H2 => t o i v H2 fun H3 => Q σ H3
theorem pg_sub {o i : Expr} {to ti : TE} {t : TSet} (ho : PE X o to) (hi : PE X i ti) (hs : PSet X t)
 (ha : ∀ v, assign (.Subscript o i pos) X.env v = (do
  let ov ← holding [v] (eval o X.env)
  let iv ← holding [v, ov] (eval i X.env)
  standAt pos
  holding [v, ov, iv] (setItem ov iv v)
  release [v, ov, iv] []) := by intro _; rfl) : PG X (.Subscript o i pos) (gSub to ti t) := by
 intro pins s σ H v u Q I r h
 rw [ha]
 refine wpAny_bind (wpAny_holding (thn (ho pins s σ H _ I h) fun ov s1 ⟨x, H1, I1, r1, q1⟩ => ?_))
 refine wpAny_bind (wpAny_holding (thn (hi pins s1 σ H1 _ I1 q1) fun iv s2 ⟨y, H2, I2, r2, q2⟩ => ?_))
 refine wpAny_bind (wpAny_standAt (wpAny_bind (wpAny_holding (thn (hs pins s2 σ H2 x y v ov iv u _ I2 r1 r2 r q2) fun _ s3 ⟨H3, I3, q3⟩ => ?_))))
 exact wpAny_release ⟨σ, H3, I3, q3⟩
noncomputable def tAsg (te : TE) (g : TG) : TS := fun D σ H => te σ H fun x H1 => g x σ H1 D.nx
theorem ps_asg {tg e : Expr} {te : TE} {g : TG} (he : PE X e te) (hg : PG X tg g) (hs : swapsWithSole [tg] e pos.line X.env = pure false := by rfl) (hw : swappedStores [tg] e X.env = pure none := by rfl)
 (h1 : (assignEach [tg] X.env).map (·.2) = [assign tg X.env] := by rfl) : PS X (.Assign [tg] e pos) (tAsg te g) := by
 intro pins s σ H D I h
 refine wpAny_Assign_stores (thn (he pins s σ H _ I h) fun v s1 ⟨x, H1, I1, r1, q1⟩ => ?_) hs hw
 rw [h1]
 exact thn (hg pins s1 σ H1 x v _ I1 r1 q1) fun _ s2 q => q
theorem ps_set {i : Nat} {x : Str} {e : Expr} {te : TE} {pos' : Pos} (hN : X.N.Nodup) (hi : X.N[i]? = some x) (hx : Loc X.env.scope x) (he : PE X e te) (hs : swapsWith e (some (.Name x pos')) pos.line X.env = pure false := by rfl) (hf : X.fn x = true ∨ X.env.scope.names.lookup x = some .local := by first | exact .inl rfl | exact .inr rfl | assumption) :
 PS X (.Assign [.Name x pos'] e pos) (tAsg te (gName i)) := by
 intro pins s σ H D I h
 refine wpAny_Assign_Name (thn (he pins s σ H _ I h) fun v s1 ⟨y, H1, I1, r1, q1⟩ => ?_) hs
 exact store_ok I1 hN hi hx r1 (fun s2 I2 => ⟨_, H1, I2, q1⟩) hf
end

section
variable {X : Cx} {pos : Pos}
end

set_option genInjectivity false in
structure It where
 go : Nat → Hp → Prop
 yld : Nat → Hp → V → Hp → Prop
 stop : Nat → Hp → Prop
noncomputable def FpOk (X : Cx) (pins : List (Addr × Obj)) (H : Hp) (b : Addr) : Prop :=
 H b = none ∧ b ≠ X.env.locals ∧ b ∉ X.fs ∧ (b ∈ X.ex ∨ X.s₀.heap.objs.size ≤ b) ∧ (∀ x c, X.env.cells.lookup x = some c → c ≠ b) ∧ ∀ p ∈ X.pn ++ pins, p.1 ≠ b
theorem Inv.fpOk {X : Cx} {pins : List (Addr × Obj)} {σ : St} {H H' : Hp} {s : Shared} {b : Addr} (I : Inv X pins σ H s) (hb : s.heap.objs.size ≤ b) (hn : H' b = none) : FpOk X pins H' b := by
 refine ⟨hn, Nat.ne_of_gt (Nat.lt_of_lt_of_le I.lt hb), I.nofs hb, .inr (Nat.le_trans I.sz hb), fun x c e z => ?_, fun p hp z => ?_⟩
 · obtain ⟨v, q⟩ := I.cell x c e
   exact absurd (Nat.lt_of_lt_of_le q.lt (by rw [z]; exact hb)) (Nat.lt_irrefl _)
 · exact absurd (Nat.lt_of_lt_of_le (Heap.lt_size (I.pin p hp).1) (by rw [z]; exact hb)) (Nat.lt_irrefl _)
structure Turn (P : Program) (w : World) (K : PySem.W.Frag) (tg : Expr) (J : It) (fp : List Addr) (it : Addr) (tn : Nat → Heap → Prop) : Prop where
 mem : it ∈ fp
 obj : ∀ i h, tn i h → ∀ b ∈ fp, ∃ o, h.get? b = some o ∧ ∀ v, o.data ≠ .cell v
 keep : ∀ i h h', tn i h → (∀ b ∈ fp, ∀ o, h.get? b = some o → h'.get? b = some o) → tn i h'
 item : ∀ (X : Cx), X.prog = P → X.w = w → X.K = K → X.calm = true → ∀ (i : Nat) (pins : List (Addr × Obj)) (s : Shared) (σ : St) (H : Hp) (E : Value → Shared → Prop), Inv X pins σ H s → (∀ b ∈ fp, FpOk X pins H b) → tn i s.heap → J.go i H →
  wpAny (model P w) X.A (pyNext (.ref it)) (fun r s1 => ∃ u, r = some u ∧
   wpAny (model P w) X.A (letOwnedTupleGo tg (.ref it) u) (fun _ s2 => ∃ x H', Inv X pins σ H' s2 ∧ RelV x u ∧ J.yld i H x H' ∧ tn (i + 1) s2.heap ∧ ∀ b ∈ fp, H' b = none) E s1) E s
 done : ∀ (X : Cx), X.prog = P → X.w = w → X.K = K → X.calm = true → ∀ (i : Nat) (pins : List (Addr × Obj)) (s : Shared) (σ : St) (H : Hp) (E : Value → Shared → Prop), Inv X pins σ H s → (∀ b ∈ fp, FpOk X pins H b) → tn i s.heap → J.stop i H →
  wpAny (model P w) X.A (pyNext (.ref it)) (fun r s1 => r = none ∧ Inv X pins σ H s1) E s
 self : ∀ (A : Around) (i : Nat) (s : Shared) (Q : Value → Shared → Prop) (E : Value → Shared → Prop), tn i s.heap → Q (.ref it) s → wpAny (model P w) A (pyIter (.ref it)) Q E s
noncomputable abbrev TI := St → Hp → (It → Hp → Prop) → Prop
noncomputable def PIE (X : Cx) (pins : List (Addr × Obj)) (σ : St) (tg : Expr) (R : It → Hp → Prop) (itv : Value) (s2 : Shared) : Prop :=
 ∃ (it : Addr) (fp : List Addr) (tn : Nat → Heap → Prop) (J : It) (H' : Hp), itv = .ref it ∧ Inv X pins σ H' s2 ∧ Turn X.prog X.w X.K tg J fp it tn ∧ tn 0 s2.heap ∧ (∀ b ∈ fp, FpOk X pins H' b) ∧ R J H'
noncomputable def PI (X : Cx) (tg iter : Expr) (wi : TI) : Prop :=
 ∀ (pins : List (Addr × Obj)) (s : Shared) (σ : St) (H : Hp) (R : It → Hp → Prop), Inv X pins σ H s → wi σ H R →
   wpAny (model X.prog X.w) X.A (eval iter X.env) (fun v s1 => wpAny (model X.prog X.w) X.A (pyIter v) (PIE X pins σ tg R) X.xe s1) X.xe s

theorem go_of {M : Model} {A : Around} {E : Value → Shared → Prop} {s : Shared} {tg : Expr} {it : Addr} {u : Value} {o : Obj} {n : String} {vs : Array Value} {Q : Unit → Shared → Prop} (ho : s.heap.get? it = some o) (hc : o.cls = .type n) (hd : o.data = .fields vs)
 (hn : ["enumerate", "zip", "dict_itemiterator", "dict_reverseitemiterator", "odict_iterator", "itertools.zip_longest", "itertools.pairwise"].contains n = false) (hQ : Q () s) : wpAny M A (letOwnedTupleGo tg (.ref it) u) Q E s := by
 unfold letOwnedTupleGo
 cases tg <;> first
  | exact wpAny_pure hQ
  | (cases u <;> first
   | exact wpAny_pure hQ
   | (refine wpAny_bind (wpAny_load ho ?_)
      rw [hc, hd]
      show wpAny M A (if (["enumerate", "zip", "dict_itemiterator", "dict_reverseitemiterator", "odict_iterator", "itertools.zip_longest", "itertools.pairwise"].contains n && vs[0]? == some (rawInt _)) = true then _ else _) Q E s
      rw [if_neg (by intro h; rw [hn, Bool.false_and] at h; cases h)]
      exact wpAny_pure hQ))

noncomputable def Itl (K : PySem.W.Frag) (a : Addr) : It :=
 ⟨fun i H => ∃ xs x, SqL K H a xs ∧ xs[i]? = some x, fun i H x H' => H' = H ∧ ∀ xs, SqL K H a xs → xs[i]? = some x, fun i H => ∃ xs, SqL K H a xs ∧ xs.length ≤ i⟩
noncomputable def Itt (K : PySem.W.Frag) (a : Addr) : It :=
 ⟨fun i H => ∃ xs x, SqT K H a xs ∧ xs[i]? = some x, fun i H x H' => H' = H ∧ ∀ xs, SqT K H a xs → xs[i]? = some x, fun i H => ∃ xs, SqT K H a xs ∧ xs.length ≤ i⟩
noncomputable def Itr (lo : Int) (n : Nat) : It := ⟨fun i _ => i < n, fun i H x H' => H' = H ∧ x = .int (lo + i), fun i _ => n ≤ i⟩
theorem turn_list {P : Program} {w : World} {K : PySem.W.Frag} {tg : Expr} (a it : Addr) : Turn P w K tg (Itl K a) [it] it (fun i h => h.IsListIter it a i) where
 mem := by simp
 obj := fun i h st b hb => by
  have e : b = it := by simpa using hb
  subst e
  obtain ⟨o, e, c, d⟩ := st
  exact ⟨o, e, fun v z => by rw [d] at z; cases z⟩
 keep := fun i h h' st k => st.at fun o e => k it (by simp) o e
 item := by
  intro X hP hw hK hc i pins s σ H E I hf st hg
  subst hP hw hK
  obtain ⟨xs, x, hq, hx⟩ := hg
  obtain ⟨its, rv, p, hz⟩ := I.list hq
  obtain ⟨u, hu, ru⟩ := rv.get hx
  obtain ⟨f0, f1, f2, f3, f4, f5⟩ := hf it (by simp)
  refine wpAny_pyNext_list_item st p.isList (x := u) (by simpa using hu) fun h' st' sb => ?_
  have I1 : Inv X pins σ H { s with heap := h' } := I.turned (t' := s.toks) (fun b o hb e => (sb.2 b hb).trans e) f0 f1 f3 f4 f5
  obtain ⟨o, e, c, d⟩ := id st'
  exact ⟨u, rfl, go_of (s := { s with heap := h' }) e c d (by decide) ⟨x, H, I1, ru, ⟨rfl, fun ys hy => by rw [I.list_inj hy hq]; exact hx⟩, st', fun b hb => (hf b hb).1⟩⟩
 done := by
  intro X hP hw hK hc i pins s σ H E I hf st hg
  subst hP hw hK
  obtain ⟨xs, hq, hx⟩ := hg
  obtain ⟨its, rv, p, hz⟩ := I.list hq
  obtain ⟨f0, f1, f2, f3, f4, f5⟩ := hf it (by simp)
  have hl := rv.length
  exact wpAny_pyNext_list_end (I.ok.hd hc) st p.isList (by simp; omega) fun h' eb => ⟨rfl, I.turned (t' := s.toks) (fun b o hb e => eb b o hb e) f0 f1 f3 f4 f5⟩
 self := fun _ _ _ _ _ st h => wpAny_pyIter_listiter st h
theorem turn_tuple {P : Program} {w : World} {K : PySem.W.Frag} {tg : Expr} (a it : Addr) : Turn P w K tg (Itt K a) [it] it (fun i h => h.IsTupleIter it a i) where
 mem := by simp
 obj := fun i h st b hb => by
  have e : b = it := by simpa using hb
  subst e
  obtain ⟨o, e, c, d⟩ := st
  exact ⟨o, e, fun v z => by rw [d] at z; cases z⟩
 keep := fun i h h' st k => st.at fun o e => k it (by simp) o e
 item := by
  intro X hP hw hK hc i pins s σ H E I hf st hg
  subst hP hw hK
  obtain ⟨xs, x, hq, hx⟩ := hg
  obtain ⟨its, rv, p, hz⟩ := I.tuple hq
  obtain ⟨u, hu, ru⟩ := rv.get hx
  obtain ⟨f0, f1, f2, f3, f4, f5⟩ := hf it (by simp)
  refine wpAny_pyNext_tuple_item st (show s.heap.IsTuple a its.toArray from p) (x := u) (by simpa using hu) fun h' st' sb => ?_
  have I1 : Inv X pins σ H { s with heap := h' } := I.turned (t' := s.toks) (fun b o hb e => (sb.2 b hb).trans e) f0 f1 f3 f4 f5
  obtain ⟨o, e, c, d⟩ := id st'
  exact ⟨u, rfl, go_of (s := { s with heap := h' }) e c d (by decide) ⟨x, H, I1, ru, ⟨rfl, fun ys hy => by rw [I.tuple_inj hy hq]; exact hx⟩, st', fun b hb => (hf b hb).1⟩⟩
 done := by
  intro X hP hw hK hc i pins s σ H E I hf st hg
  subst hP hw hK
  obtain ⟨xs, hq, hx⟩ := hg
  obtain ⟨its, rv, p, hz⟩ := I.tuple hq
  obtain ⟨f0, f1, f2, f3, f4, f5⟩ := hf it (by simp)
  have hl := rv.length
  exact wpAny_pyNext_tuple_end (I.ok.hd hc) st (show s.heap.IsTuple a its.toArray from p) (by simp; omega) fun h' eb => ⟨rfl, I.turned (t' := s.toks) (fun b o hb e => eb b o hb e) f0 f1 f3 f4 f5⟩
 self := fun _ _ _ _ _ st h => wpAny_pyIter_tupleiter st h
theorem turn_range {P : Program} {w : World} {K : PySem.W.Frag} {tg : Expr} (it : Addr) (lo : Int) (n : Nat) : Turn P w K tg (Itr lo n) [it] it (fun i h => IsRangeIter h it (lo + (i : Nat) * 1) ((n : Int) - (i : Nat)) 1) where
 mem := by simp
 obj := fun i h st b hb => by
  have e : b = it := by simpa using hb
  subst e
  exact ⟨_, st, fun v z => by
   have z' : Data.fields _ = Data.cell v := z
   cases z'⟩
 keep := fun i h h' st k => k it (by simp) _ st
 item := by
  intro X hP hw hK hc i pins s σ H E I hf st hg
  subst hP hw hK
  obtain ⟨f0, f1, f2, f3, f4, f5⟩ := hf it (by simp)
  have W := Walks.range (prog := X.prog) (w := X.w) (I.ok.hd hc) it lo 1 n
  refine W.item i s _ _ hg st fun v h' tk hv st' kk => ?_
  obtain ⟨t, rfl⟩ := hv
  have I1 : Inv X pins σ H { s with heap := h', toks := tk } := I.turned (fun b o hb e => kk b o (by simpa using hb) e) f0 f1 f3 f4 f5
  refine ⟨_, rfl, go_of (s := { s with heap := h', toks := tk }) (n := "range_iterator") st' rfl rfl (by decide) ⟨.int (lo + i), H, I1, ⟨t, ?_⟩, ⟨rfl, rfl⟩, st', fun b hb => (hf b hb).1⟩⟩
  rw [Int.mul_one]
 done := by
  intro X hP hw hK hc i pins s σ H E I hf st hg
  subst hP hw hK
  obtain ⟨f0, f1, f2, f3, f4, f5⟩ := hf it (by simp)
  exact wpAny_pyNext_range_end (I.ok.hd hc) st (by have : n ≤ i := hg; omega) fun h' eb => ⟨rfl, I.turned (t' := s.toks) (fun b o hb e => eb b o hb e) f0 f1 f3 f4 f5⟩
 self := fun _ _ _ _ _ st h => wpAny_pyIter_rangeiter st h
end L2

namespace L2
open PySem PySem.Spec PyProof.Rows
section
variable {X : Cx} {tg : Expr}
noncomputable def iList (K : PySem.W.Frag) (tl : TE) : TI := fun σ H R => tl σ H fun x H1 => ∃ a, x = .ref a ∧ (∃ xs, SqL K H1 a xs) ∧ R (Itl K a) H1
noncomputable def iTup (K : PySem.W.Frag) (tl : TE) : TI := fun σ H R => tl σ H fun x H1 => ∃ a, x = .ref a ∧ (∃ xs, SqT K H1 a xs) ∧ R (Itt K a) H1
theorem pi_list {l : Expr} {tl : TE} (hl : PE X l tl) : PI X tg l (iList X.K tl) := by
 intro pins s σ H R I h
 refine thn (hl pins s σ H _ I h) fun v s1 ⟨x, H1, I1, r1, q1⟩ => ?_
 obtain ⟨a, e, ⟨xs, hq⟩, q⟩ := q1
 subst e
 cases r1
 obtain ⟨its, rv, p, hz⟩ := I1.list hq
 refine wpAny_pyIter_list p.isList ?_
 refine ⟨s1.heap.objs.size, [s1.heap.objs.size], _, _, H1, rfl, I1.kept (t' := s1.toks) fun b o e => Heap.get?_push_of_some _ e, turn_list a _, ⟨_, Heap.get?_push_size _ rfl, rfl, rfl⟩, fun b hb => ?_, q⟩
 have e : b = s1.heap.objs.size := by simpa using hb
 subst e
 exact I1.fpOk (Nat.le_refl _) (I1.hok.fresh (Nat.le_refl _))
theorem pi_tup {l : Expr} {tl : TE} (hl : PE X l tl) : PI X tg l (iTup X.K tl) := by
 intro pins s σ H R I h
 refine thn (hl pins s σ H _ I h) fun v s1 ⟨x, H1, I1, r1, q1⟩ => ?_
 obtain ⟨a, e, ⟨xs, hq⟩, q⟩ := q1
 subst e
 cases r1
 obtain ⟨its, rv, p, hz⟩ := I1.tuple hq
 refine wpAny_pyIter_tuple (show s1.heap.IsTuple a its.toArray from p) ?_
 refine ⟨s1.heap.objs.size, [s1.heap.objs.size], _, _, H1, rfl, I1.kept (t' := s1.toks) fun b o e => Heap.get?_push_of_some _ e, turn_tuple a _, ⟨_, Heap.get?_push_size _ rfl, rfl, rfl⟩, fun b hb => ?_, q⟩
 have e : b = s1.heap.objs.size := by simpa using hb
 subst e
 exact I1.fpOk (Nat.le_refl _) (I1.hok.fresh (Nat.le_refl _))
theorem range_it {pins : List (Addr × Obj)} {σ : St} {H : Hp} {s : Shared} {R : It → Hp → Prop} {E : Value → Shared → Prop} {lo hi : Int} {t u v : Tok} {tk : Nat} (I : Inv X pins σ H s) (h1 : -(2 ^ 62) ≤ lo) (h2 : lo < 2 ^ 62) (h3 : -(2 ^ 62) ≤ hi) (h4 : hi < 2 ^ 62)
 (q : R (Itr lo (hi - lo).toNat) H) : wpAny (model X.prog X.w) X.A (pyIter (.ref s.heap.objs.size)) (PIE X pins σ tg R) E { s with heap := s.heap.push { cls := .type "range", data := .fields #[.int lo t, .int hi u, .int 1 v] }, toks := tk } := by
 refine wpAny_pyIter_range (IsRange.new ..) (small_one h1 h2 h3 h4) ?_
 have I1 : Inv X pins σ H { s with heap := s.heap.push { cls := .type "range", data := .fields #[.int lo t, .int hi u, .int 1 v] }, toks := tk } := I.kept fun b o e => Heap.get?_push_of_some _ e
 refine ⟨(s.heap.push { cls := .type "range", data := .fields #[.int lo t, .int hi u, .int 1 v] }).objs.size, [(s.heap.push { cls := .type "range", data := .fields #[.int lo t, .int hi u, .int 1 v] }).objs.size], _, _, H, rfl,
  I1.kept (t' := tk) fun b o e => Heap.get?_push_of_some _ e, turn_range _ lo (hi - lo).toNat, ?_, fun b hb => ?_, q⟩
 · have e1 : lo + ((0 : Nat) : Int) * 1 = lo := by simp
   have e2 : (((hi - lo).toNat : Nat) : Int) - ((0 : Nat) : Int) = Builtin.Range.rangeSize lo hi 1 := by rw [rangeSize_one]; split <;> omega
   show IsRangeIter _ _ (lo + ((0 : Nat) : Int) * 1) ((((hi - lo).toNat : Nat) : Int) - ((0 : Nat) : Int)) 1
   rw [e1, e2]
   exact Heap.get?_push_size _ rfl
 · have e : b = (s.heap.push { cls := .type "range", data := .fields #[.int lo t, .int hi u, .int 1 v] }).objs.size := by simpa using hb
   subst e
   exact I1.fpOk (Nat.le_refl _) (I1.hok.fresh (Nat.le_refl _))
noncomputable def iRng1 (ta : TA) : TI := fun σ H R => ta σ H fun vs H1 => ∃ j : Int, vs = [.int j] ∧ -(2 ^ 62) ≤ j ∧ j < 2 ^ 62 ∧ R (Itr 0 j.toNat) H1
theorem pi_range1 {a : Expr} {ta : TA} {p pos : Pos} (hg : Gl X "range") (hm : X.mg "range" = none) (ha : PA X [a] ta) (hs : starEach [a] X.env = [(false, eval a X.env)] := by rfl) : PI X tg (.Call (.Name "range" p) [a] [] pos) (iRng1 ta) := by
 intro pins s σ H R I h
 refine Call_ (ld_blt I hg hm boot_range (PyProof.Rows.callWith_type1 (thn (ha pos pins s σ H _ I h) fun us s1 ⟨vs, H1, I1, r1, q1⟩ => ?_) hs rfl))
 obtain ⟨j, e, q1, q2, q⟩ := q1
 subst e
 cases r1 with
 | cons r rr =>
   cases rr
   obtain ⟨t, rfl⟩ := r
   exact call_range_1 (range_it I1 (by omega) (by omega) q1 q2 (by simpa using q))
noncomputable def tFor (wi : TI) (g : TG) (tb : TS) : TS := fun D σ H => wi σ H fun J H1 => ∃ W : Nat → Nat → St → Hp → Prop, (∃ m, W 0 m σ H1) ∧ ∀ i m σ H, W i m σ H →
 (J.stop i H ∧ D.nx σ H) ∨ (J.go i H ∧ ∃ N : St → Hp → Prop, (∀ σ' H', N σ' H' → ∃ m', m' < m ∧ W (i + 1) m' σ' H') ∧ ∀ x H', J.yld i H x H' → g x σ H' fun σ2 H2 => tb { D with nx := N, ct := N, bk := D.nx } σ2 H2)
noncomputable def pinsAt (fp : List Addr) (h : Heap) : List (Addr × Obj) := fp.filterMap fun b => (h.get? b).map fun o => (b, o)
theorem mem_pinsAt {fp : List Addr} {h : Heap} {b : Addr} {o : Obj} (hb : b ∈ fp) (e : h.get? b = some o) : (b, o) ∈ pinsAt fp h := List.mem_filterMap.mpr ⟨b, hb, by rw [e]; rfl⟩
theorem of_pinsAt {fp : List Addr} {h : Heap} {p : Addr × Obj} (hp : p ∈ pinsAt fp h) : p.1 ∈ fp ∧ h.get? p.1 = some p.2 := by
 obtain ⟨b, hb, e⟩ := List.mem_filterMap.mp hp
 cases q : h.get? b with
 | none => rw [q] at e; cases e
 | some o =>
   rw [q] at e
   have e' : (b, o) = p := Option.some.inj e
   subst e'
   exact ⟨hb, q⟩
theorem Inv.pinned {pins : List (Addr × Obj)} {σ : St} {H : Hp} {s : Shared} {fp : List Addr} (I : Inv X pins σ H s) (hf : ∀ b ∈ fp, FpOk X pins H b) (ho : ∀ b ∈ fp, ∃ o, s.heap.get? b = some o ∧ ∀ v, o.data ≠ .cell v) : Inv X (pins ++ pinsAt fp s.heap) σ H s :=
 I.pins_of fun p hp => (List.mem_append.mp hp).elim (fun z => I.pin p (List.mem_append_right _ z)) fun z => by
  obtain ⟨hb, e⟩ := of_pinsAt z
  obtain ⟨f0, f1, f2, _⟩ := hf p.1 hb
  obtain ⟨o, e', d⟩ := ho p.1 hb
  rw [e] at e'; cases e'
  exact ⟨e, f0, f1, f2, d⟩
theorem Inv.unpinned {pins pl : List (Addr × Obj)} {σ : St} {H : Hp} {s : Shared} (I : Inv X (pins ++ pl) σ H s) : Inv X pins σ H s := I.pins_of fun p hp => I.pin p (List.mem_append_right _ (List.mem_append_left _ hp))
theorem ps_for {iter : Expr} {body : List Stmt} {wi : TI} {g : TG} {tb : TS} {pos : Pos} (hp : PassesOwn (model X.prog X.w) X.A X.env X.xe) (hc : X.calm = true) (hi : PI X tg iter wi) (hg : PG X tg g) (hb : PSs X body tb)
 (hs : ∀ x, foldedSetIterable iter X.env x = pure x := by intro _; rfl) : PS X (.For tg iter body [] pos) (tFor wi g tb) := by
 intro pins s σ H D I h
 refine wpAny_For (thn (hi pins s σ H _ I h) fun v s1 h1 => thn h1 fun itv s2 h2 => ?_) hs
 obtain ⟨it, fp, tn, J, H2, e, I2, T, st2, f2, W, ⟨m0, w0⟩, turn⟩ := h2
 subst e
 -- what stays true of the iterator's objects through the loop
 have stat : ∀ {H' : Hp}, (∀ b ∈ fp, H' b = none) → ∀ b ∈ fp, FpOk X pins H' b := fun hn b hb => ⟨hn b hb, (f2 b hb).2⟩
 refine codeAny_forLoop_any (fun n s' => ∃ i σ' H', Inv X pins σ' H' s' ∧ tn i s'.heap ∧ (∀ b ∈ fp, H' b = none) ∧ W i n σ' H') ?_ m0 ⟨0, σ, H2, I2, st2, fun b hb => (f2 b hb).1, w0⟩
 rintro n s3 ⟨i, σ3, H3, I3, st3, fr3, w3⟩
 rcases turn i n σ3 H3 w3 with ⟨stop, qn⟩ | ⟨go, N, hN, step⟩
 · refine wpAny_passesOwn hp (thn (T.done X rfl rfl rfl hc i pins s3 σ3 H3 X.xe I3 (stat fr3) st3 stop) fun r s4 ⟨hr, I4⟩ => ?_)
   subst hr
   exact wpAny_execs_nil ⟨σ3, H3, I4, qn⟩
 · refine wpAny_passesOwn hp (thn (T.item X rfl rfl rfl hc i pins s3 σ3 H3 X.xe I3 (stat fr3) st3 go) fun r s4 ⟨u, hr, h4⟩ => ?_)
   subst hr
   refine wpAny_passesOwn hp (thn h4 fun _ s5 ⟨x, H5, I5, r5, y5, st5, fr5⟩ => ?_)
   have I5' := I5.pinned (stat fr5) (T.obj _ _ st5)
   refine wpAny_passesOwn hp (thn (hg _ s5 σ3 H5 x u _ I5' r5 (step x H5 y5)) fun _ s6 ⟨σ6, H6, I6, q6⟩ => ?_)
   refine wpAny_passesOwn hp (thn (hb _ s6 σ6 H6 _ I6 q6) fun f s7 q7 => ?_)
   have again : ∀ {σ7 : St} {H7 : Hp}, Inv X (pins ++ pinsAt fp s5.heap) σ7 H7 s7 → N σ7 H7 → ∃ m, m < n ∧ ∃ i σ' H', Inv X pins σ' H' s7 ∧ tn i s7.heap ∧ (∀ b ∈ fp, H' b = none) ∧ W i m σ' H' := fun {σ7 H7} I7 n7 => by
    obtain ⟨m', hm, w7⟩ := hN σ7 H7 n7
    refine ⟨m', hm, i + 1, σ7, H7, I7.unpinned, T.keep _ _ _ st5 fun b hb o e => (I7.pin (b, o) (List.mem_append_right _ (List.mem_append_right _ (mem_pinsAt hb e)))).1, fun b hb => ?_, w7⟩
    obtain ⟨o, e, d⟩ := T.obj _ _ st5 b hb
    exact (I7.pin (b, o) (List.mem_append_right _ (List.mem_append_right _ (mem_pinsAt hb e)))).2.1
   cases f with
   | next => obtain ⟨σ7, H7, I7, n7⟩ := q7; exact again I7 n7
   | cont => obtain ⟨σ7, H7, I7, n7⟩ := q7; exact again I7 n7
   | brk => obtain ⟨σ7, H7, I7, q7⟩ := q7; exact ⟨σ7, H7, I7.unpinned, q7⟩
   | ret v => obtain ⟨x7, σ7, H7, I7, r7, q7⟩ := q7; exact ⟨x7, σ7, H7, I7.unpinned, r7, q7⟩
end

theorem for_list {K : PySem.W.Frag} {a : Addr} {xs : List V} {g : TG} {tb : TS} {D : Ends} {σ : St} {H : Hp} (Pv : Nat → St → Hp → Prop) (h0 : Pv 0 σ H) (hl : ∀ i σ H, i ≤ xs.length → Pv i σ H → SqL K H a xs)
 (hs : ∀ i x σ H, xs[i]? = some x → Pv i σ H → g x σ H fun σ2 H2 => tb { D with nx := Pv (i + 1), ct := Pv (i + 1), bk := D.nx } σ2 H2) (hd : ∀ σ H, Pv xs.length σ H → D.nx σ H) :
 ∃ W : Nat → Nat → St → Hp → Prop, (∃ m, W 0 m σ H) ∧ ∀ i m σ H, W i m σ H →
   ((Itl K a).stop i H ∧ D.nx σ H) ∨ ((Itl K a).go i H ∧ ∃ N : St → Hp → Prop, (∀ σ' H', N σ' H' → ∃ m', m' < m ∧ W (i + 1) m' σ' H') ∧ ∀ x H', (Itl K a).yld i H x H' → g x σ H' fun σ2 H2 => tb { D with nx := N, ct := N, bk := D.nx } σ2 H2) := by
 refine ⟨fun i m σ H => m = xs.length - i ∧ i ≤ xs.length ∧ Pv i σ H, ⟨xs.length, by simp, Nat.zero_le _, h0⟩, ?_⟩
 rintro i m σ H ⟨rfl, hi, p⟩
 have q := hl i σ H hi p
 by_cases hlt : i < xs.length
 · refine .inr ⟨⟨xs, xs[i], q, by simp [hlt]⟩, Pv (i + 1), fun σ' H' p' => ⟨xs.length - (i + 1), by omega, rfl, hlt, p'⟩, fun x H' y => ?_⟩
   obtain ⟨e, y⟩ := y
   subst e
   exact hs i x σ _ (y xs q) p
 · have e : i = xs.length := by omega
   subst e
   exact .inl ⟨⟨xs, q, Nat.le_refl _⟩, hd σ H p⟩
theorem for_tup {K : PySem.W.Frag} {a : Addr} {xs : List V} {g : TG} {tb : TS} {D : Ends} {σ : St} {H : Hp} (Pv : Nat → St → Hp → Prop) (h0 : Pv 0 σ H) (hl : ∀ i σ H, i ≤ xs.length → Pv i σ H → SqT K H a xs)
 (hs : ∀ i x σ H, xs[i]? = some x → Pv i σ H → g x σ H fun σ2 H2 => tb { D with nx := Pv (i + 1), ct := Pv (i + 1), bk := D.nx } σ2 H2) (hd : ∀ σ H, Pv xs.length σ H → D.nx σ H) :
 ∃ W : Nat → Nat → St → Hp → Prop, (∃ m, W 0 m σ H) ∧ ∀ i m σ H, W i m σ H →
   ((Itt K a).stop i H ∧ D.nx σ H) ∨ ((Itt K a).go i H ∧ ∃ N : St → Hp → Prop, (∀ σ' H', N σ' H' → ∃ m', m' < m ∧ W (i + 1) m' σ' H') ∧ ∀ x H', (Itt K a).yld i H x H' → g x σ H' fun σ2 H2 => tb { D with nx := N, ct := N, bk := D.nx } σ2 H2) := by
 refine ⟨fun i m σ H => m = xs.length - i ∧ i ≤ xs.length ∧ Pv i σ H, ⟨xs.length, by simp, Nat.zero_le _, h0⟩, ?_⟩
 rintro i m σ H ⟨rfl, hi, p⟩
 have q := hl i σ H hi p
 by_cases hlt : i < xs.length
 · refine .inr ⟨⟨xs, xs[i], q, by simp [hlt]⟩, Pv (i + 1), fun σ' H' p' => ⟨xs.length - (i + 1), by omega, rfl, hlt, p'⟩, fun x H' y => ?_⟩
   obtain ⟨e, y⟩ := y
   subst e
   exact hs i x σ _ (y xs q) p
 · have e : i = xs.length := by omega
   subst e
   exact .inl ⟨⟨xs, q, Nat.le_refl _⟩, hd σ H p⟩
theorem for_range {lo : Int} {n : Nat} {g : TG} {tb : TS} {D : Ends} {σ : St} {H : Hp} (Pv : Nat → St → Hp → Prop) (h0 : Pv 0 σ H)
 (hs : ∀ i σ H, i < n → Pv i σ H → g (.int (lo + i)) σ H fun σ2 H2 => tb { D with nx := Pv (i + 1), ct := Pv (i + 1), bk := D.nx } σ2 H2) (hd : ∀ σ H, Pv n σ H → D.nx σ H) :
 ∃ W : Nat → Nat → St → Hp → Prop, (∃ m, W 0 m σ H) ∧ ∀ i m σ H, W i m σ H →
   ((Itr lo n).stop i H ∧ D.nx σ H) ∨ ((Itr lo n).go i H ∧ ∃ N : St → Hp → Prop, (∀ σ' H', N σ' H' → ∃ m', m' < m ∧ W (i + 1) m' σ' H') ∧ ∀ x H', (Itr lo n).yld i H x H' → g x σ H' fun σ2 H2 => tb { D with nx := N, ct := N, bk := D.nx } σ2 H2) := by
 refine ⟨fun i m σ H => m = n - i ∧ i ≤ n ∧ Pv i σ H, ⟨n, by simp, Nat.zero_le _, h0⟩, ?_⟩
 rintro i m σ H ⟨rfl, hi, p⟩
 by_cases hlt : i < n
 · refine .inr ⟨hlt, Pv (i + 1), fun σ' H' p' => ⟨n - (i + 1), by omega, rfl, hlt, p'⟩, fun x H' y => ?_⟩
   obtain ⟨e, y⟩ := y
   subst e y
   exact hs i σ _ hlt p
 · have e : i = n := by omega
   subst e
   exact .inl ⟨Nat.le_refl _, hd σ H p⟩
end L2

namespace L2
open PySem PySem.Spec PyProof.Rows

noncomputable abbrev R2 := V → V → Hp → VK → Prop
noncomputable def OpR (X : Cx) (f : Value → Value → Sem Value) (r : R2) : Prop :=
 ∀ (pins : List (Addr × Obj)) (s : Shared) (σ : St) (H : Hp) (x y : V) (v u : Value) (Q : VK), Inv X pins σ H s → RelV x v → RelV y u → r x y H Q →
   wpAny (model X.prog X.w) X.A (f v u) (EP X pins σ Q) X.xe s
noncomputable def UnR (X : Cx) (f : Value → Sem Value) (r : V → Hp → VK → Prop) : Prop :=
 ∀ (pins : List (Addr × Obj)) (s : Shared) (σ : St) (H : Hp) (x : V) (v : Value) (Q : VK), Inv X pins σ H s → RelV x v → r x H Q →
   wpAny (model X.prog X.w) X.A (f v) (EP X pins σ Q) X.xe s
noncomputable def CallR (X : Cx) (f : Value) (r : List V → Hp → VK → Prop) : Prop :=
 ∀ (pins : List (Addr × Obj)) (s : Shared) (σ : St) (H : Hp) (xs : List V) (us : List Value) (Q : VK), Inv X pins σ H s → Vals xs us → r xs H Q →
   wpAny (model X.prog X.w) X.A (call f us) (EP X pins σ Q) X.xe s
noncomputable def tOp (r : R2) (ta tb : TE) : TE := fun σ H Q => ta σ H fun x H1 => tb σ H1 fun y H2 => r x y H2 Q
noncomputable def tUn (r : V → Hp → VK → Prop) (ta : TE) : TE := fun σ H Q => ta σ H fun x H1 => r x H1 Q
noncomputable def rI (C : Int → Int → Prop) (g : Int → Int → V) : R2 := fun x y H Q => ∃ i j, x = .int i ∧ y = .int j ∧ C i j ∧ Q (g i j) H
noncomputable def rI0 (g : Int → Int → V) : R2 := fun x y H Q => ∃ i j, x = .int i ∧ y = .int j ∧ Q (g i j) H
noncomputable def rU (g : Int → V) : V → Hp → VK → Prop := fun x H Q => ∃ i, x = .int i ∧ Q (g i) H

section
variable {X : Cx} {a b c : Expr} {ta tb tc : TE} {pos : Pos}

theorem binT (ha : PE X a ta) (hb : PE X b tb) {pins : List (Addr × Obj)} {s : Shared} {σ : St} {H : Hp} {R : V → V → Hp → Prop} (I : Inv X pins σ H s)
 (h : ta σ H fun x H1 => tb σ H1 fun y H2 => R x y H2) {Q : Value → Shared → Prop} {f : Value → Value → Sem Value}
 (hf : ∀ v u s2 x y H2, Inv X pins σ H2 s2 → RelV x v → RelV y u → R x y H2 → wpAny (model X.prog X.w) X.A (f v u) Q X.xe s2) :
 wpAny (model X.prog X.w) X.A (eval a X.env) (fun v s₁ => wpAny (model X.prog X.w) X.A (eval b X.env) (fun u s₂ => wpAny (model X.prog X.w) X.A (f v u) Q X.xe s₂) X.xe s₁) X.xe s := by
 refine thn (ha pins s σ H _ I h) fun v s1 ⟨x, H1, I1, r1, q1⟩ => ?_
 refine thn (hb pins s1 σ H1 _ I1 q1) fun u s2 ⟨y, H2, I2, r2, q2⟩ => ?_
 exact hf v u s2 x y H2 I2 r1 r2 q2

theorem pe_op {op : Operator} {r : R2} (ho : OpR X (binaryOp op) r) (ha : PE X a ta) (hb : PE X b tb) : PE X (.BinOp a op b pos) (tOp r ta tb) := by
 intro pins s σ H Q I h
 exact wpAny_BinOp (binT ha hb I h fun v u s2 x y H2 I2 rx ry q => ho pins s2 σ H2 x y v u Q I2 rx ry q)
theorem pe_un {op : UnaryOp} {r : V → Hp → VK → Prop} (ho : UnR X (unaryOp op) r) (ha : PE X a ta) : PE X (.UnaryOp op a pos) (tUn r ta) := by
 intro pins s σ H Q I h
 exact UnaryOp_ (thn (ha pins s σ H _ I h) fun v s1 ⟨x, H1, I1, r1, q1⟩ => ho pins s1 σ H1 x v Q I1 r1 q1)
theorem opI {f : Value → Value → Sem Value} {C : Int → Int → Prop} {g : Int → Int → Int}
 (rule : ∀ (i j : Int) (t u : Tok) (s : Shared) (Q : Value → Shared → Prop) (E : Value → Shared → Prop), C i j → Q (.int (g i j) s.toks) { s with toks := s.toks + 1 } → wpAny (model X.prog X.w) X.A (f (.int i t) (.int j u)) Q E s) :
 OpR X f (rI C fun i j => .int (g i j)) := by
 intro pins s σ H x y v u Q I rx ry h
 obtain ⟨i, j, rfl, rfl, hc, q⟩ := h
 obtain ⟨t, rfl⟩ := rx
 obtain ⟨t', rfl⟩ := ry
 exact rule i j t t' s _ _ hc ⟨.int (g i j), H, I.tok _, ⟨_, rfl⟩, q⟩
theorem opI0 {f : Value → Value → Sem Value} {g : Int → Int → Int}
 (rule : ∀ (i j : Int) (t u : Tok) (s : Shared) (Q : Value → Shared → Prop) (E : Value → Shared → Prop), Q (.int (g i j) s.toks) { s with toks := s.toks + 1 } → wpAny (model X.prog X.w) X.A (f (.int i t) (.int j u)) Q E s) :
 OpR X f (rI0 fun i j => .int (g i j)) := by
 intro pins s σ H x y v u Q I rx ry h
 obtain ⟨i, j, rfl, rfl, q⟩ := h
 obtain ⟨t, rfl⟩ := rx
 obtain ⟨t', rfl⟩ := ry
 exact rule i j t t' s _ _ ⟨.int (g i j), H, I.tok _, ⟨_, rfl⟩, q⟩
theorem opB0 {f : Value → Value → Sem Value} {g : Int → Int → Bool}
 (rule : ∀ (i j : Int) (t u : Tok) (s : Shared) (Q : Value → Shared → Prop) (E : Value → Shared → Prop), Q (.bool (g i j)) s → wpAny (model X.prog X.w) X.A (f (.int i t) (.int j u)) Q E s) :
 OpR X f (rI0 fun i j => .bl (g i j)) := by
 intro pins s σ H x y v u Q I rx ry h
 obtain ⟨i, j, rfl, rfl, q⟩ := h
 obtain ⟨t, rfl⟩ := rx
 obtain ⟨t', rfl⟩ := ry
 exact rule i j t t' s _ _ ⟨.bl (g i j), H, I, rfl, q⟩

noncomputable def CDiv (i j : Int) : Prop := 0 < j ∧ j < 1073741824
noncomputable def CPow (i j : Int) : Prop := 0 ≤ j ∧ j ≤ 1000000 ∧ i.natAbs < 2 ^ 64
noncomputable def CMul (i j : Int) : Prop := (-(2 ^ 64) < i ∧ i < 2 ^ 64) ∨ (-(2 ^ 64) < j ∧ j < 2 ^ 64)
theorem CMul.ok {i j : Int} (h : CMul i j) : IntMulOk i j := by
 rcases h with ⟨h1, h2⟩ | ⟨h1, h2⟩
 · exact .of_left (intBits_le_64 h1 h2)
 · exact .of_right (intBits_le_64 h1 h2)
theorem op_add : OpR X (binaryOp .Add) (rI0 fun i j => .int (i + j)) := opI0 fun _ _ _ _ _ _ _ q => add_int q
theorem op_sub : OpR X (binaryOp .Sub) (rI0 fun i j => .int (i - j)) := opI0 fun _ _ _ _ _ _ _ q => sub_int q
theorem op_mul : OpR X (binaryOp .Mult) (rI CMul fun i j => .int (i * j)) := opI fun _ _ _ _ _ _ _ hc q => mul_int q hc.ok
theorem op_fdiv : OpR X (binaryOp .FloorDiv) (rI CDiv fun i j => .int (i / j)) := opI fun i j _ _ _ _ _ hc q => by
 have h1 : (0 : Int) < j := hc.1
 have h2 : j < 1073741824 := hc.2
 exact floordiv_int (by omega) (by rw [Int.fdiv_eq_ediv_of_nonneg i (by omega)]; exact q) (.inl (PyProof.noPylong_small (by omega)))
theorem op_mod : OpR X (binaryOp .Mod) (rI (fun _ j => 0 < j) fun i j => .int (i % j)) := opI fun i j _ _ _ _ _ hc q => by
 have h1 : (0 : Int) < j := hc
 exact mod_int' (by omega) (by rw [Int.fmod_eq_emod_of_nonneg i (by omega)]; exact q)
theorem op_pow : OpR X (binaryOp .Pow) (rI CPow fun i j => .int (i ^ j.toNat)) := opI fun _ _ _ _ _ _ _ hc q => pow_int_small hc.1 hc.2.1 hc.2.2 q
theorem unI {f : Value → Sem Value} {g : Int → Int}
 (rule : ∀ (i : Int) (t : Tok) (s : Shared) (Q : Value → Shared → Prop) (E : Value → Shared → Prop), Q (.int (g i) s.toks) { s with toks := s.toks + 1 } → wpAny (model X.prog X.w) X.A (f (.int i t)) Q E s) :
 UnR X f (rU fun i => .int (g i)) := by
 intro pins s σ H x v Q I rx h
 obtain ⟨i, rfl, q⟩ := h
 obtain ⟨t, rfl⟩ := rx
 exact rule i t s _ _ ⟨.int (g i), H, I.tok _, ⟨_, rfl⟩, q⟩
theorem un_neg : UnR X (unaryOp .USub) (rU fun i => .int (-i)) := unI fun _ _ _ _ _ q => neg_int q
end

noncomputable def scal : V → V → Bool
 | .non, .non => true | .non, .int _ => true | .int _, .non => true | .non, .bl _ => true | .bl _, .non => true | .non, .str _ => true | .str _, .non => true
 | .int _, .int _ => true | .bl _, .bl _ => true | .str _, .str _ => true | .byt _, .byt _ => true
 | .int _, .str _ => true | .str _, .int _ => true | .bl _, .str _ => true | .str _, .bl _ => true
 | _, _ => false
noncomputable def rEq : R2 := fun x y H Q => scal x y = true ∧ Q (.bl (decide (x = y))) H
noncomputable def rNe : R2 := fun x y H Q => scal x y = true ∧ Q (.bl (!decide (x = y))) H

theorem dec_int {i j : Int} : decide (V.int i = V.int j) = (i == j) := by
 rw [Bool.eq_iff_iff]
 simp
theorem dec_bl {i j : Bool} : decide (V.bl i = V.bl j) = (i == j) := by
 rw [Bool.eq_iff_iff]
 simp
theorem dec_str {i j : Str} : decide (V.str i = V.str j) = (i == j) := by
 rw [Bool.eq_iff_iff]
 simp
theorem dec_byt {i j : Array UInt8} : decide (V.byt i = V.byt j) = (i.toList == j.toList) := by
 rw [Bool.eq_iff_iff]
 cases i
 cases j
 simp

section
variable {X : Cx} {a b c : Expr} {ta tb tc : TE} {pos : Pos}
theorem fin_bl {pins : List (Addr × Obj)} {σ : St} {H : Hp} {s : Shared} {Q : VK} {k k' : Bool} (I : Inv X pins σ H s) (q : Q (.bl k) H) (e : k = k') : EP X pins σ Q (.bool k') s := by
 subst e
 exact ⟨.bl k, H, I, rfl, q⟩
theorem op_eq : OpR X (compareOp .Eq) rEq := by
 intro pins s σ H x y v u Q I rx ry h
 obtain ⟨hs, q⟩ := h
 cases x with
 | non =>
   cases rx
   cases y with
   | non => cases ry; exact PySem.EqNone.eq_none_none (fin_bl I q (by simp))
   | bl j => cases ry; exact PySem.EqNone.eq_none_bool (fin_bl I q (by simp))
   | int j => obtain ⟨t', rfl⟩ := ry; exact PySem.EqNone.eq_none_int (fin_bl I q (by simp))
   | str j => obtain ⟨t', rfl⟩ := ry; exact PySem.EqNone.eq_none_str (fin_bl I q (by simp))
   | _ => exact absurd (show false = true from hs) Bool.false_ne_true
 | bl i =>
   cases rx
   cases y with
   | non => cases ry; exact PySem.EqNone.eq_bool_none (fin_bl I q (by simp))
   | bl j => cases ry; exact eq_bool (fin_bl I q dec_bl)
   | str j => obtain ⟨t', rfl⟩ := ry; exact PySem.EqMixed.eq_bool_str (fin_bl I q (by simp))
   | _ => exact absurd (show false = true from hs) Bool.false_ne_true
 | int i =>
   obtain ⟨t, rfl⟩ := rx
   cases y with
   | non => cases ry; exact PySem.EqNone.eq_int_none (fin_bl I q (by simp))
   | int j => obtain ⟨t', rfl⟩ := ry; exact eq_int (fin_bl I q dec_int)
   | str j => obtain ⟨t', rfl⟩ := ry; exact PySem.EqMixed.eq_int_str (fin_bl I q (by simp))
   | _ => exact absurd (show false = true from hs) Bool.false_ne_true
 | str i =>
   obtain ⟨t, rfl⟩ := rx
   cases y with
   | non => cases ry; exact PySem.EqNone.eq_str_none (fin_bl I q (by simp))
   | bl j => cases ry; exact PySem.EqMixed.eq_str_bool (fin_bl I q (by simp))
   | int j => obtain ⟨t', rfl⟩ := ry; exact PySem.EqMixed.eq_str_int (fin_bl I q (by simp))
   | str j => obtain ⟨t', rfl⟩ := ry; exact eq_str (fin_bl I q dec_str)
   | _ => exact absurd (show false = true from hs) Bool.false_ne_true
 | byt i =>
   obtain ⟨t, rfl⟩ := rx
   cases y with
   | byt j => obtain ⟨t', rfl⟩ := ry; exact PySem.W.eq_bytes (fin_bl I q dec_byt)
   | _ => exact absurd (show false = true from hs) Bool.false_ne_true
 | _ => cases y <;> exact absurd (show false = true from hs) Bool.false_ne_true
theorem op_ne : OpR X (compareOp .NotEq) rNe := by
 intro pins s σ H x y v u Q I rx ry h
 obtain ⟨hs, q⟩ := h
 cases x with
 | non =>
   cases rx
   cases y with
   | non => cases ry; exact PySem.EqNone.ne_none_none (fin_bl I q (by simp))
   | bl j => cases ry; exact PySem.EqNone.ne_none_bool (fin_bl I q (by simp))
   | int j => obtain ⟨t', rfl⟩ := ry; exact PySem.EqNone.ne_none_int (fin_bl I q (by simp))
   | str j => obtain ⟨t', rfl⟩ := ry; exact PySem.EqNone.ne_none_str (fin_bl I q (by simp))
   | _ => exact absurd (show false = true from hs) Bool.false_ne_true
 | bl i =>
   cases rx
   cases y with
   | non => cases ry; exact PySem.EqNone.ne_bool_none (fin_bl I q (by simp))
   | bl j => cases ry; exact ne_bool (fin_bl I q (congrArg not dec_bl))
   | str j => obtain ⟨t', rfl⟩ := ry; exact PySem.EqMixed.ne_bool_str (fin_bl I q (by simp))
   | _ => exact absurd (show false = true from hs) Bool.false_ne_true
 | int i =>
   obtain ⟨t, rfl⟩ := rx
   cases y with
   | non => cases ry; exact PySem.EqNone.ne_int_none (fin_bl I q (by simp))
   | int j => obtain ⟨t', rfl⟩ := ry; exact ne_int (fin_bl I q (congrArg not dec_int))
   | str j => obtain ⟨t', rfl⟩ := ry; exact PySem.EqMixed.ne_int_str (fin_bl I q (by simp))
   | _ => exact absurd (show false = true from hs) Bool.false_ne_true
 | str i =>
   obtain ⟨t, rfl⟩ := rx
   cases y with
   | non => cases ry; exact PySem.EqNone.ne_str_none (fin_bl I q (by simp))
   | bl j => cases ry; exact PySem.EqMixed.ne_str_bool (fin_bl I q (by simp))
   | int j => obtain ⟨t', rfl⟩ := ry; exact PySem.EqMixed.ne_str_int (fin_bl I q (by simp))
   | str j => obtain ⟨t', rfl⟩ := ry; exact ne_str (fin_bl I q (congrArg not dec_str))
   | _ => exact absurd (show false = true from hs) Bool.false_ne_true
 | byt i =>
   obtain ⟨t, rfl⟩ := rx
   cases y with
   | byt j => obtain ⟨t', rfl⟩ := ry; exact PySem.W.ne_bytes (fin_bl I q (congrArg not dec_byt))
   | _ => exact absurd (show false = true from hs) Bool.false_ne_true
 | _ => cases y <;> exact absurd (show false = true from hs) Bool.false_ne_true

theorem op_lt : OpR X (compareOp .Lt) (rI0 fun i j => .bl (decide (i < j))) := opB0 fun _ _ _ _ _ _ _ q => lt_int q
theorem op_le : OpR X (compareOp .LtE) (rI0 fun i j => .bl (decide (i ≤ j))) := opB0 fun _ _ _ _ _ _ _ q => le_int q
theorem op_gt : OpR X (compareOp .Gt) (rI0 fun i j => .bl (decide (j < i))) := opB0 fun _ _ _ _ _ _ _ q => gt_int q
theorem op_ge : OpR X (compareOp .GtE) (rI0 fun i j => .bl (decide (j ≤ i))) := opB0 fun _ _ _ _ _ _ _ q => ge_int q
theorem nomark (b : Expr) {op : CmpOp} (h : op ≠ .In := by decide) (h2 : op ≠ .NotIn := by decide) : behindInMarks op b = false := by
 have e1 : (op == CmpOp.In) = false := by cases op <;> first | rfl | exact absurd rfl h
 have e2 : (op == CmpOp.NotIn) = false := by cases op <;> first | rfl | exact absurd rfl h2
 cases b <;> simp [behindInMarks, e1, e2]
theorem pe_cmpR {op : CmpOp} {r : R2} (ho : OpR X (compareOp op) r) (ha : PE X a ta) (hb : PE X b tb) (hm : behindInMarks op b = false) : PE X (.Compare a [op] [b] pos) (tOp r ta tb) := by
 intro pins s σ H Q I h
 exact wpAny_Compare1 (binT ha hb I h fun v u s2 x y H2 I2 rx ry q => ho pins s2 σ H2 x y v u Q I2 rx ry q) hm
noncomputable def tTest (t : TE) : TT := fun σ H Q => t σ H fun x H' => ∃ k, x = .bl k ∧ Q k H'
theorem pt_cmpR {op : CmpOp} {r : R2} (ho : OpR X (compareOp op) r) (ha : PE X a ta) (hb : PE X b tb) (hm : behindInMarks op b = false) : PT X (.Compare a [op] [b] pos) (tTest (tOp r ta tb)) := by
 intro pins s σ H Q I h
 refine wpAny_isTrue_Compare1 (thn (ha pins s σ H _ I h) fun v s1 ⟨x, H1, I1, r1, q1⟩ => thn (hb pins s1 σ H1 _ I1 q1) fun u s2 ⟨y, H2, I2, r2, q2⟩ =>
  thn (ho pins s2 σ H2 x y v u _ I2 r1 r2 q2) fun c s3 ⟨z, H3, I3, r3, k, e, q3⟩ => ?_) hm
 subst e
 cases r3
 exact wpAny_truthy_bool ⟨H3, I3, q3⟩
noncomputable def tChain (r r' : R2) (ta tb tc : TE) : TE := fun σ H Q => ta σ H fun x H1 => tb σ H1 fun y H2 => r x y H2 fun z H3 => ∃ k, z = .bl k ∧
 (if k = true then tc σ H3 fun w' H4 => r' y w' H4 Q else Q (.bl false) H3)
theorem pe_chain {op op' : CmpOp} {r r' : R2} (ho : OpR X (compareOp op) r) (ho' : OpR X (compareOp op') r') (ha : PE X a ta) (hb : PE X b tb) (hc : PE X c tc)
 (hm : lastMarks [op, op'] [b, c] = false := by with_unfolding_all rfl) : PE X (.Compare a [op, op'] [b, c] pos) (tChain r r' ta tb tc) := by
 intro pins s σ H Q I h
 refine Compare_chain (thn (ha pins s σ H _ I h) fun v s1 ⟨x, H1, I1, r1, q1⟩ => chain_link (thn (hb pins s1 σ H1 _ I1 q1) fun u s2 ⟨y, H2, I2, r2, q2⟩ =>
  thn (ho pins s2 σ H2 x y v u _ I2 r1 r2 q2) fun d s3 ⟨z, H3, I3, r3, k, e, q3⟩ => ?_)) hm
 subst e
 cases r3
 refine wpAny_truthy_bool ?_
 cases k with
 | false => exact ite_ff ⟨.bl false, H3, I3, rfl, q3⟩
 | true => exact ite_tt (chain_last (thn (hc pins s3 σ H3 _ I3 q3) fun w' s4 ⟨z', H4, I4, r4, q4⟩ => ho' pins s4 σ H4 y z' u w' Q I4 r2 r4 q4))
theorem line63 : (sizeLine : Nat) < 2 ^ 63 := by rw [sizeLine_eq]; decide
theorem vals1 {x : V} {us : List Value} (r : Vals [x] us) : ∃ u, us = [u] ∧ RelV x u := by
 cases r with
 | cons r1 r2 => cases r2; exact ⟨_, rfl, r1⟩
theorem vals2 {x y : V} {us : List Value} (r : Vals [x, y] us) : ∃ u w', us = [u, w'] ∧ RelV x u ∧ RelV y w' := by
 cases r with
 | cons r1 r2 =>
   cases r2 with
   | cons r3 r4 => cases r4; exact ⟨_, _, rfl, r1, r3⟩
theorem call_int1 : CallR X (.type "int") (fun xs H Q => (∃ i, xs = [.int i] ∧ Q (.int i) H) ∨ ∃ k, xs = [.bl k] ∧ Q (.int (if k then 1 else 0)) H) := by
 intro pins s σ H xs us Q I r h
 rcases h with ⟨i, rfl, q⟩ | ⟨k, rfl, q⟩
 · obtain ⟨u, rfl, t, rfl⟩ := vals1 r
   exact call_int_int ⟨.int i, H, I, ⟨_, rfl⟩, q⟩
 · obtain ⟨u, rfl, r1⟩ := vals1 r
   cases r1
   exact call_int_bool ⟨.int (if k then 1 else 0), H, I.tok _, ⟨_, rfl⟩, q⟩
end
end L2

namespace L2
open PySem PySem.Spec PyProof.Rows

structure ObjM (h : Heap) (x dx C : Addr) (mA : Str → Option Value) : Prop where
 obj : h.get? x = some (PySem.W.instObj C dx)
 ns : h.Ns1 dx mA
 ne : dx ≠ x

theorem lookIn_ns {h : Heap} {dx : Addr} {mA : Str → Option Value} (n : h.Ns1 dx mA) : ∃ od, h.get? dx = some od ∧ ∀ name, PySem.W.lookIn name od = some (mA name) := by
 obtain ⟨o, es, ep, ho, hd, hk, _, hm⟩ := n
 refine ⟨o, ho, fun name => ?_⟩
 have e := hm name
 unfold nsFind findBy at e
 rw [← Array.find?_toList] at e
 unfold PySem.W.lookIn
 rw [hd]
 dsimp only
 split
 · rename_i y q
   rw [q] at e
   exact congrArg some e
 · rename_i q
   rw [q] at e
   have a : es.toList.any (·.refKey) = false := by
    rw [List.any_eq_false]
    intro y hy
    obtain ⟨z, t, hkey⟩ := hk y (Array.mem_toList_iff.mp hy)
    simp [DictEntry.refKey, hkey]
   have a' : ¬ es.toList.any (·.refKey) = true := by rw [a]; exact Bool.false_ne_true
   rw [if_neg a']
   exact congrArg some e

theorem ObjM.look {h : Heap} {x dx C : Addr} {mA : Str → Option Value} (I : ObjM h x dx C mA) : ∃ od, PySem.W.InstAt h x (PySem.W.instObj C dx) C (some od) ∧ ∀ name, PySem.W.lookIn name od = some (mA name) :=
 let ⟨od, ho, hl⟩ := lookIn_ns I.ns
 ⟨od, ⟨I.obj, rfl, rfl, ho⟩, hl⟩

section
variable {prog : Program} {w : World} {A : Around} {E : Value → Shared → Prop} {s : Shared} {K : PySem.W.Frag} {x dx C f : Addr} {mA : Str → Option Value} {name : Str} {v : Value}

end

section
variable {P : Program} {w : World} {H H' : Hp} {h h' : Heap} {a C dx : Addr} {fs fs' : List (Str × V)}
theorem ins_get (hok : HOk P w H h) (e : H a = some (.ins C dx fs)) : ∃ mA, ObjM h a dx C mA ∧ (∀ f, RelO (fs.lookup f) (mA f)) ∧ PySem.Within mA (fs.map (·.1)) ∧ fs.length ≤ 1000 ∧ H dx = some (.own a) := by
 obtain ⟨d, z, ne, ob, mA, n, r, q⟩ := (show ObjOk P w H h a (.ins C dx fs) from hok a _ e)
 exact ⟨mA, ⟨ob, n, ne⟩, r, q, z, d⟩
end

structure Cls (K : PySem.W.Frag) (C : Addr) : Prop where
 pg : PySem.W.plainGet K C Str.empty = true
 hd : PySem.W.hasDictIn K C = true
 po : PySem.W.plainOver K C = true
 sa : PySem.W.findIn K (.ref C) "__setattr__" = some (some (.builtin "object.__setattr__"))
theorem Cls.get {K : PySem.W.Frag} {C : Addr} (c : Cls K C) (f : Str) : PySem.W.plainGet K C f = true := c.pg
section
variable {X : Cx} {pins : List (Addr × Obj)} {σ : St} {H : Hp} {s : Shared} {a C dx : Addr} {fs : List (Str × V)} {f : Str} {v : V} {A : Around} {E : Value → Shared → Prop}

end

section
variable {X : Cx} {o e value : Expr} {f : Str} {pos pos' tpos : Pos} {ta tv : TE}
end

section
variable {X : Cx} {pins : List (Addr × Obj)} {σ : St} {H : Hp} {s : Shared} {A : Around} {E : Value → Shared → Prop} {Q : Value → Shared → Prop} {c : Value} {b : Bool}
inductive TyOf (K : PySem.W.Frag) (H : Hp) : V → Value → Prop where
 | non : TyOf K H .non (.type "NoneType")
 | bl (x : Bool) : TyOf K H (.bl x) (.type "bool")
 | int (i : Int) : TyOf K H (.int i) (.type "int")
 | str (x : Str) : TyOf K H (.str x) (.type "str")
 | flt (x : UInt64) : TyOf K H (.flt x) (.type "float")
 | lst {a : Addr} {xs : List V} (e : H a = some (.lst xs)) : TyOf K H (.ref a) (.type "list")
 | frz {a : Addr} {o : Obj} {xs : List V} (e : H a = some (.frz o (.lst xs))) : TyOf K H (.ref a) (.type "list")
 | tup {a : Addr} {xs : List V} (e : H a = some (.tup xs)) : TyOf K H (.ref a) (.type "tuple")
 | dK {a : Addr} {kvs : List (Key × V)} (e : H a = some (.dK kvs)) : TyOf K H (.ref a) (.type "dict")
 | dT {a : Addr} {kvs : List (List Key × V)} (e : H a = some (.dT kvs)) : TyOf K H (.ref a) (.type "dict")
 | ins {a C dx : Addr} {fs : List (Str × V)} (e : H a = some (.ins C dx fs)) (cl : Cls K C) (ha : PySem.W.findIn K (.ref C) "__class__" = some (some (.builtin "object.__class__")))
  (hn : PySem.W.specialIn K (.builtin "object.__class__") "__get__" = some (some (.builtin "getset_descriptor.__get__"))) (htk : PySem.W.takesIn K (.builtin "object.__class__") = some true)
  (hm : PySem.W.mroIn K C (.type "object") = some true) : TyOf K H (.ref a) (.ref C)
theorem isinst_ok {x : V} {u t : Value} (I : Inv X pins σ H s) (rx : RelV x u) (ty : TyOf X.K H x t) (e : PySem.W.kitOne X.K t c = some b) (h : ∀ tk, Q (.bool b) { s with toks := tk }) :
 wpAny (model X.prog X.w) A (call (.builtin "isinstance") [u, c]) Q E s := by
 cases ty with
 | non => cases (show u = Value.none from rx); exact PySem.W.kia_one PySem.W.kitx_none I.kIn True.intro e (fun z => nomatch z) h
 | bl y => cases (show u = Value.bool y from rx); exact PySem.W.kia_one PySem.W.kitx_bool I.kIn True.intro e (fun z => nomatch z) h
 | int i => obtain ⟨t, q⟩ := (show ∃ t, u = Value.int i t from rx); cases q; exact PySem.W.kia_one PySem.W.kitx_int I.kIn True.intro e (fun z => nomatch z) h
 | str y => obtain ⟨t, q⟩ := (show ∃ t, u = Value.str y t from rx); cases q; exact PySem.W.kia_one PySem.W.kitx_str I.kIn True.intro e (fun z => nomatch z) h
 | flt y => obtain ⟨t, q⟩ := (show ∃ t, u = Value.float y t from rx); cases q; exact PySem.W.kia_one PySem.W.kitx_float I.kIn True.intro e (fun z => nomatch z) h
 | @lst a xs ea =>
   cases (show u = Value.ref a from rx)
   obtain ⟨_, _, n, _, h1⟩ := (show ObjOk X.prog X.w H s.heap a (.lst xs) from I.hok a _ ea)
   exact PySem.W.kia_one PySem.W.kitx_list I.kIn ⟨_, h1, rfl⟩ e (fun z => nomatch z) h
 | @frz a ob xs ea =>
   cases (show u = Value.ref a from rx)
   obtain ⟨_, _, _, n, _, h1⟩ := (show ObjOk X.prog X.w H s.heap a (.frz ob (.lst xs)) from I.hok a _ ea)
   exact PySem.W.kia_one PySem.W.kitx_list I.kIn ⟨_, h1, rfl⟩ e (fun z => nomatch z) h
 | @tup a xs ea =>
   cases (show u = Value.ref a from rx)
   obtain ⟨_, _, _, p⟩ := (show ObjOk X.prog X.w H s.heap a (.tup xs) from I.hok a _ ea)
   obtain ⟨o, h1, h2, _⟩ := p.tup
   exact PySem.W.kia_one PySem.W.kitx_tuple I.kIn ⟨o, h1, h2⟩ e (fun z => nomatch z) h
 | @dK a kvs ea =>
   cases (show u = Value.ref a from rx)
   obtain ⟨_, _, vs, _, p⟩ := (show ObjOk X.prog X.w H s.heap a (.dK kvs) from I.hok a _ ea)
   obtain ⟨o, es, ep, h1, h2, _⟩ := p
   exact PySem.W.kia_one PySem.W.kitx_dict I.kIn ⟨o, h1, h2.1⟩ e (fun z => nomatch z) h
 | @dT a kvs ea =>
   cases (show u = Value.ref a from rx)
   obtain ⟨_, _, xs, _, o, es, ep, h1, h2, _⟩ := (show ObjOk X.prog X.w H s.heap a (.dT kvs) from I.hok a _ ea)
   exact PySem.W.kia_one PySem.W.kitx_dict I.kIn ⟨o, h1, h2.1⟩ e (fun z => nomatch z) h
 | @ins a C dx fs ea cl ha hn htk hm =>
   cases (show u = Value.ref a from rx)
   obtain ⟨mA, O, _⟩ := ins_get I.hok ea
   obtain ⟨od, J, _⟩ := O.look
   exact PySem.W.kia_one (PySem.W.kitx_own (cl.get _) cl.hd ha hn htk hm) I.kIn J e (fun z => nomatch z) h
end
end L2

namespace L2
open PySem PySem.Spec PyProof.Rows

structure Room (k : Nat) (A : Around) : Prop where
 hd : A.handled = none
 dp : A.depth + 3 * k + 5 < recursionLimit
 un : A.units + 16 * k + 200 < cLine
 gd : A.guards = some []
theorem Room.mono {j k : Nat} {A : Around} (r : Room k A) (h : j ≤ k) : Room j A := ⟨r.hd, by have := r.dp; omega, by have := r.un; omega, r.gd⟩
theorem Room.deeper {k : Nat} {A : Around} (r : Room (k + 1) A) (env : Env) : Room k (A.deeper env) :=
 ⟨r.hd, by have := r.dp; show A.depth + 1 + 3 * k + 5 < _; omega, by have := r.un; show A.units + 3 + 16 * k + 200 < _; omega, r.gd⟩
theorem Room.depth {k : Nat} {A : Around} (r : Room k A) : A.depth < recursionLimit := by have := r.dp; omega
theorem Room.units {k : Nat} {A : Around} (r : Room k A) : A.units + 64 < cLine := by have := r.un; omega
theorem Room.units0 {k : Nat} {A : Around} (r : Room k A) : A.units < cLine := by have := r.un; omega

noncomputable def tNil : TA := fun _ H Q => Q [] H
noncomputable def tCons (ta : TE) (tr : TA) : TA := fun σ H Q => ta σ H fun x H1 => tr σ H1 fun xs H2 => Q (x :: xs) H2
section
variable {X : Cx} {e : Expr} {es : List Expr} {te : TE} {t : TA} {pos : Pos}
theorem pa_nil : PA X [] tNil := fun _ _ _ _ H Q I h => Calls.spliced_nil ⟨[], H, I, .nil, h⟩
theorem pa_cons (ha : PE X e te) (hr : PA X es t) (hs : starEach (e :: es) X.env = (false, eval e X.env) :: starEach es X.env := by rfl) : PA X (e :: es) (tCons te t) := by
 intro pos pins s σ H Q I h
 rw [hs]
 show wpAny _ _ (spliced ((false, eval e X.env) :: backTo pos (starEach es X.env))) _ _ s
 refine Calls.spliced_cons (thn (ha pins s σ H _ I h) fun u s1 ⟨x, H1, I1, r1, q1⟩ => ?_)
 exact thn (hr pos pins s1 σ H1 _ I1 q1) fun us s2 ⟨xs, H2, I2, r2, q2⟩ => ⟨x :: xs, H2, I2, .cons r1 r2, q2⟩

noncomputable def tLst (t : TA) : TE := fun σ H Q => t σ H fun xs H1 => xs.length ≤ sizeLine ∧ ∀ p, H1 p = none → Q (.ref p) (upd H1 p (.lst xs))
theorem pe_lst (h : PA X es t) : PE X (.List es pos) (tLst t) := by
 intro pins s σ H Q I hq
 refine wpAny_List_spliced (thn (h pos pins s σ H _ I hq) fun us s1 ⟨xs, H1, I1, r, z, q⟩ => ⟨by rw [← r.length]; exact z, ?_⟩)
 have hf : H1 s1.heap.objs.size = none := I1.hok.fresh (Nat.le_refl _)
 refine ⟨.ref s1.heap.objs.size, upd H1 s1.heap.objs.size (.lst xs), I1.laid (t' := s1.toks) (fun b u e => Heap.get?_push_of_some _ e) (Nat.le_refl _) ?_, rfl, q _ hf⟩
 exact ⟨z, us, 0, r, Heap.get?_push_size _ rfl⟩
end

noncomputable abbrev Sp := List V → Hp → VK → XK → Prop
noncomputable abbrev CXT := List Env → Hp → Shared → XK → Value → Shared → Prop

structure Env0 (P : Program) (w : World) (K : PySem.W.Frag) (mg : Str → Option Value) (base : Heap) (A : Around) (outer : List Env) (s : Shared) (H : Hp) : Prop where
 frames : A.frames = some outer
 mod : Mod K mg base
 bs : ∀ b o, base.get? b = some o → s.heap.get? b = some o ∧ H b = none
 bsz : base.objs.size ≤ s.heap.objs.size
 funs : s.heap.FunFrames base outer
 frf : ∀ b ∈ frs outer, H b = none
 hok : HOk P w H s.heap
 bare : AllBare s.gens
noncomputable def CE (outer : List Env) (P : Program) (w : World) (H : Hp) (s : Shared) (Q : VK) (u : Value) (s' : Shared) : Prop :=
 ∃ v H', s'.os = s.os ∧ AllBare s'.gens ∧ Un (frs outer) [] H H' s.heap s'.heap ∧ HOk P w H' s'.heap ∧ RelV v u ∧ Q v H'
noncomputable def CR (CX : CXT) (outer : List Env) (P : Program) (w : World) (H : Hp) (s : Shared) (Q : VK) (E : XK) (r : Result) (s' : Shared) : Prop :=
 match r with
 | .ok (.ret u) => CE outer P w H s Q u s'
 | .ok _ => False
 | .error e => CX outer H s E e s'
structure FnOk (P : Program) (w : World) (K : PySem.W.Frag) (mg : Str → Option Value) (base : Heap) (CX : CXT) (k : Nat) (f : Addr) (fd : FuncData) (ps : List Str) (sp : Sp) : Prop where
 len : ∀ vs H Q E, sp vs H Q E → vs.length = ps.length
 run : ∀ (A : Around) (outer : List Env) (s : Shared) (H : Hp) (args : Args) (us : List Value) (vs : List V) (Q : VK) (E : XK), Room k A → Env0 P w K mg base A outer s H → BindsTo s fd args (ps.zip us) → Vals vs us → sp vs H Q E →
  codeAny (model P w) A (.call (.ref f) args) (CR CX outer P w H s Q E) s
section
variable {X : Cx} {pins : List (Addr × Obj)} {σ : St} {H : Hp} {s s' : Shared}
theorem Inv.env0 (I : Inv X pins σ H s) : Env0 X.prog X.w X.K X.mg X.base X.A X.stack s H :=
 ⟨I.ok.frames, I.ok.mod, I.bs, Nat.le_trans I.ok.bsz I.sz, I.stack, I.stkFree, I.hok, I.bare⟩
theorem Inv.after {Q : VK} {u : Value} (I : Inv X pins σ H s) (h : CE X.stack X.prog X.w H s Q u s') : EP X pins σ Q u s' := by
 obtain ⟨v, H', os, bare, un, hok, r, q⟩ := h
 obtain ⟨hh, g, d, t, os'⟩ := s'
 obtain rfl : os' = s.os := os
 exact ⟨v, H', I.call (h' := hh) (g' := g) (d' := d) (t' := t) (ch := []) un hok bare (fun b z => absurd z (by simp)), r, q⟩
end

noncomputable def tCall (sp : Sp) (dvs : List V) (E : XK) (t : TA) : TE := fun σ H Q => t σ H fun vs H1 => sp (vs ++ dvs) H1 Q E
noncomputable def Binds (K : PySem.W.Frag) (fd : FuncData) (ps : List Str) (ds : List Value) : Prop :=
 ∀ (s : Shared) (us : List Value), K.In s.heap → (us ++ ds).length = ps.length → BindsTo s fd ⟨us, []⟩ (ps.zip (us ++ ds))
theorem Binds.all {K : PySem.W.Frag} {fd : FuncData} {ps : List Str} (h : ∀ us : List Value, us.length = ps.length → bindArgs fd ⟨us, []⟩ = pure (ps.zip us)) : Binds K fd ps [] := fun s us _ hl => by
 rw [List.append_nil] at hl ⊢
 exact .of_eq (h us hl)

noncomputable def Passes (CX : CXT) (X : Cx) (E : XK) : Prop := ∀ (pins : List (Addr × Obj)) (σ : St) (H : Hp) (s : Shared) (e : Value) (s' : Shared), Inv X pins σ H s → CX X.stack H s E e s' → X.xe e s'

section
variable {X : Cx} {CX : CXT} {k : Nat} {f C : Addr} {fd : FuncData} {ps : List Str} {sp : Sp} {dvs : List V} {ds : List Value} {E : XK} {x m : Str} {p pos apos : Pos} {e o : Expr} {es : List Expr} {ta : TE} {t : TA}

theorem run_fn {pins : List (Addr × Obj)} {σ : St} {H : Hp} {s : Shared} {Q : VK} {us : List Value} {vs : List V} (F : FnOk X.prog X.w X.K X.mg X.base CX k f fd ps sp) (hr : Room k X.A) (hb : Binds X.K fd ps ds) (hd : Vals dvs ds) (hx : Passes CX X E)
 (I : Inv X pins σ H s) (r : Vals vs us) (h : sp (vs ++ dvs) H Q E) : wpAny (model X.prog X.w) X.A (call (.ref f) us) (EP X pins σ Q) X.xe s := by
 have r2 : Vals (vs ++ dvs) (us ++ ds) := r.append hd
 have hl : (us ++ ds).length = ps.length := by rw [← r2.length]; exact F.len _ _ _ _ h
 refine wpAny_call (codeAny_mono (F.run X.A X.stack s H ⟨us, []⟩ (us ++ ds) (vs ++ dvs) Q E hr I.env0 (hb s us I.kIn hl) r2 h) fun r s' hq => ?_)
 cases r with
 | error e => exact hx pins σ H s e s' I hq
 | ok fl =>
   cases fl with
   | ret u => exact I.after hq
   | next => exact False.elim hq
   | brk => exact False.elim hq
   | cont => exact False.elim hq

theorem pe_call (F : FnOk X.prog X.w X.K X.mg X.base CX k f fd ps sp) (hr : Room k X.A) (hg : Gl X x) (hm : X.mg x = some (.ref f)) (hk : PySem.W.keepIn X.K (.ref f) = true) (hb : Binds X.K fd ps ds) (hd : Vals dvs ds) (hx : Passes CX X E)
 (ha : PA X (e :: es) t) (hdb : (x == ("__debug__" : Str)) = false := by decide) (he : starEach (e :: es) X.env = (false, eval e X.env) :: starEach es X.env := by rfl) (hpl : (backTo pos (starEach es X.env)).any (·.1) = false := by rfl) :
 PE X (.Call (.Name x p) (e :: es) [] pos) (tCall sp dvs E t) := by
 intro pins s σ H Q I h
 refine wpAny_Call_Name_kw (ld_glob I hg hm ?_ hdb)
 refine PySem.W.callWith_K (h₀ := X.base) I.ok.mod.kin hk (thn (ha pos pins s σ H _ I h) fun us s1 ⟨vs, H1, I1, r, q⟩ => ⟨I1.kIn, ?_⟩) he hpl
 exact run_fn F hr hb hd hx I1 r q
end

section
variable {X : Cx} {CX : CXT} {k : Nat} {f C : Addr} {fd : FuncData} {ps ks : List Str} {sp : Sp} {E : XK} {x m : Str} {p pos apos kpos : Pos} {e o : Expr} {es : List Expr} {kws : List Keyword} {te ta : TE} {t tk : TA} {nm : Option Str}
variable {g : List Value → List Value → List Value} {gV : List V → List V → List V}
end

structure FnScope (N P : List Str) (sc : Scope) : Prop where
 kind : sc.kind = .function
 co : sc.isCoroutine = false
 gen : sc.isGenerator = false
 nd : N.Nodup
 pre : N.take P.length = P
 par : ∀ x ∈ P, sc.names.lookup x = some .local ∨ sc.names.lookup x = some .cell
 nofree : ∀ y ∈ sc.names, y.2 ≠ .free

theorem bindL_out {kindOf : Str → Option NameKind} {x : Str} : ∀ {binds : List (Str × Value)} {m : Str → Option Value}, (∀ v, (x, v) ∉ binds) → bindL kindOf binds m x = m x
 | [], _, _ => rfl
 | (n, v) :: r, m, h => by
   unfold bindL
   rw [bindL_out fun w hw => h w (List.mem_cons_of_mem _ hw)]
   split
   · have : x ≠ n := by rintro rfl; exact h v List.mem_cons_self
     simp [this]
   · rfl
theorem bindC_out {kindOf : Str → Option NameKind} {x : Str} : ∀ {binds : List (Str × Value)} {m : Str → Option Value}, (∀ v, (x, v) ∉ binds) → bindC kindOf binds m x = m x
 | [], _, _ => rfl
 | (n, v) :: r, m, h => by
   unfold bindC
   rw [bindC_out fun w hw => h w (List.mem_cons_of_mem _ hw)]
   split
   · rfl
   · have : x ≠ n := by rintro rfl; exact h v List.mem_cons_self
     simp [this]
theorem bindL_get {kindOf : Str → Option NameKind} {x : Str} {v : Value} : ∀ {P : List Str} {vs : List Value} {i : Nat} {m : Str → Option Value}, P.Nodup → P[i]? = some x → vs[i]? = some v → kindOf x = some .local →
 bindL kindOf (P.zip vs) m x = some v
 | [], _, _, _, _, h, _, _ => by simp at h
 | _ :: _, [], _, _, _, _, h, _ => by simp at h
 | p :: P, w :: vs, 0, m, nd, h1, h2, hk => by
   simp at h1 h2; subst h1; subst h2
   show bindL kindOf ((p, w) :: P.zip vs) m p = _
   unfold bindL
   rw [bindL_out fun v hv => (List.nodup_cons.mp nd).1 (List.of_mem_zip hv).1, if_pos hk]
   simp
 | p :: P, w :: vs, i + 1, m, nd, h1, h2, hk => by
   show bindL kindOf ((p, w) :: P.zip vs) m x = _
   unfold bindL
   exact bindL_get (i := i) (List.nodup_cons.mp nd).2 (by simpa using h1) (by simpa using h2) hk
theorem bindC_get {kindOf : Str → Option NameKind} {x : Str} {v : Value} : ∀ {P : List Str} {vs : List Value} {i : Nat} {m : Str → Option Value}, P.Nodup → P[i]? = some x → vs[i]? = some v → kindOf x ≠ some .local →
 bindC kindOf (P.zip vs) m x = some v
 | [], _, _, _, _, h, _, _ => by simp at h
 | _ :: _, [], _, _, _, _, h, _ => by simp at h
 | p :: P, w :: vs, 0, m, nd, h1, h2, hk => by
   simp at h1 h2; subst h1; subst h2
   show bindC kindOf ((p, w) :: P.zip vs) m p = _
   unfold bindC
   rw [bindC_out fun v hv => (List.nodup_cons.mp nd).1 (List.of_mem_zip hv).1, if_neg hk]
   simp
 | p :: P, w :: vs, i + 1, m, nd, h1, h2, hk => by
   show bindC kindOf ((p, w) :: P.zip vs) m x = _
   unfold bindC
   exact bindC_get (i := i) (List.nodup_cons.mp nd).2 (by simpa using h1) (by simpa using h2) hk

noncomputable def start (N : List Str) (vs : List V) : St := vs.map some ++ List.replicate (N.length - vs.length) none

noncomputable def cxOf (CX : CXT) (P : Program) (w : World) (K : PySem.W.Frag) (mg : Str → Option Value) (base : Heap) (N : List Str) (qual : Str) (scope : Scope) (f : Addr) (cd : Value) (A : Around) (outer : List Env) (s : Shared) (H : Hp) (E : XK) : Cx where
 prog := P
 w := w
 K := K
 mg := mg
 base := base
 A := A.deeper (envOfC qual scope s.heap.objs.size f cd)
 N := N
 s₀ := s
 H₀ := H
 env := envOfC qual scope s.heap.objs.size f cd
 outer := outer
 stack := envOfC qual scope s.heap.objs.size f cd :: outer
 ex := []
 calm := true
 fn := fun _ => true
 pn := []
 xe := fun e s' => wpAny (model P w) (A.deeper (envOfC qual scope s.heap.objs.size f cd)) (leaving (envOfC qual scope s.heap.objs.size f cd) e) (fun _ s'' => CX outer H s E e s'') (fun e' s'' => CX outer H s E e' s'') s'

theorem cell_has {sc : Scope} {n : Nat} {x : Str} (h : sc.names.lookup x = some .cell) : ∃ c, (cellsFrom n sc.names []).lookup x = some c := by
 have q := PySem.W.cellsFrom_some sc.names n [] (.inl h)
 exact Option.isSome_iff_exists.mp q

theorem inv_start {CX : CXT} {P : Program} {w : World} {K : PySem.W.Frag} {mg : Str → Option Value} {base : Heap} {N ps : List Str} {qual : Str} {scope : Scope} {f : Addr} {cd : Value} {A : Around} {outer : List Env} {s s1 : Shared} {H : Hp} {E : XK} {us : List Value} {vs : List V}
 (S : FnScope N ps scope) (hd : A.handled = none) (e0 : Env0 P w K mg base A outer s H) (hl : vs.length = ps.length) (r : Vals vs us)
 (x : InCallC s s.heap.objs.size (bindL (envOfC qual scope s.heap.objs.size f cd).kindOf (ps.zip us) fun _ => none) (cellsFrom (s.heap.objs.size + 1) scope.names []) (bindC (envOfC qual scope s.heap.objs.size f cd).kindOf (ps.zip us) fun _ => none) s1) :
 Inv (cxOf CX P w K mg base N qual scope f cd A outer s H E) [] (start N vs) H s1 := by
 have hpl : ps.length ≤ N.length := by have := congrArg List.length S.pre; rw [List.length_take] at this; omega
 obtain ⟨h1, tk, rfl, hk⟩ := x.done
 have noA : ∀ b : Addr, b ∉ (cxOf CX P w K mg base N qual scope f cd A outer s H E).ex := fun b z => absurd (show b ∈ ([] : List Addr) from z) (by simp)
 refine ⟨⟨e0.mod, S.kind, rfl, rfl, Nat.le_refl _, fun y z c h1 h2 => ?_, fun y hy => ?_, fun y c _ h => ?_, fun _ => hd, Around.frames_deeper e0.frames, .inr ⟨rfl, rfl⟩, fun b z => absurd z (noA b), e0.bs, e0.bsz, fun b _ _ => noA b, fun b z => absurd z (noA b), e0.funs, e0.frf⟩,
  rfl, e0.bare, Un.kept hk, ⟨_, x.toInCall.ns, fun i y v h1 h2 h3 => ?_⟩, fun y c h => ⟨_, x.cell y c h⟩, e0.hok.fresh (Nat.le_refl _), fun y c h => ?_, fun p hp => absurd (show p ∈ ([] : List (Addr × Obj)) from hp) (by simp), e0.hok.kept hk, ?_⟩
 · exact name_of_addr x.apart (PySem.mem_of_lookup h1) (PySem.mem_of_lookup h2)
 · have hy : scope.names.lookup y = some .cell ∨ scope.names.lookup y = some .free := hy
   rcases hy with hy | hy
   · exact cell_has hy
   · exact absurd rfl (S.nofree _ (PySem.mem_of_lookup hy))
 · exact Nat.le_of_lt (x.above y c (PySem.mem_of_lookup h))
 · have hi : i < vs.length := by
    unfold start at h2
    by_cases hi : i < vs.length
    · exact hi
    · rw [List.getElem?_append_right (by simpa using hi)] at h2
      rw [List.getElem?_replicate] at h2
      split at h2 <;> cases h2
   have ha : vs[i]? = some v := by
    unfold start at h2
    rw [List.getElem?_append_left (by simpa using hi), List.getElem?_map] at h2
    cases e : vs[i]? with
    | none => rw [e] at h2; cases h2
    | some a => rw [e] at h2; cases h2; rfl
   obtain ⟨u, hu, rv⟩ := r.get ha
   have hp : ps[i]? = some y := by
    rw [← S.pre, List.getElem?_take_of_lt (by omega)]; exact h1
   have ndP : ps.Nodup := by rw [← S.pre]; exact S.nd.sublist (List.take_sublist _ _)
   refine ⟨u, rv, ?_⟩
   rcases S.par y (List.mem_of_getElem? hp) with k | k
   · exact .inl ⟨k, bindL_get ndP hp hu k⟩
   · obtain ⟨c, e⟩ := cell_has (n := s.heap.objs.size + 1) k
     refine .inr ⟨.inl k, c, e, ?_⟩
     have q := x.cell y c e
     rw [bindC_get ndP hp hu (by show scope.names.lookup y ≠ _; rw [k]; decide)] at q
     exact q
 · exact e0.hok.fresh (Nat.le_of_lt (x.above y c (PySem.mem_of_lookup h)))
 · unfold start
   show _ = N.length
   rw [List.length_append, List.length_map, List.length_replicate]
   omega

theorem fn_of {CX : CXT} {P : Program} {w : World} {K : PySem.W.Frag} {mg : Str → Option Value} {base : Heap} {k : Nat} {f : Addr} {name qual : Str} {params : Arguments} {body : List Stmt} {scope : Scope} {dV kV doc pm cdv ct oc : Value} {an od : Option Addr}
 {osl : Array (Option Value)} {N ps : List Str} {sp : Sp} (lk : K.lookup f = some ⟨oc, od, .func (PySem.W.fnOf name qual params body scope dV kV doc pm an cdv ct), osl⟩) (hcd : PySem.W.codeIn K cdv qual = true) (S : FnScope N ps scope)
 (len : ∀ vs H Q E, sp vs H Q E → vs.length = ps.length)
 (hbody : ∀ (A : Around) (outer : List Env) (s : Shared) (H : Hp) (vs : List V) (Q : VK) (E : XK), Room k (A.deeper (envOfC qual scope s.heap.objs.size f cdv)) → sp vs H Q E →
  ∃ t, PSs (cxOf CX P w K mg base N qual scope f cdv A outer s H E) body t ∧ t { nx := fun _ H' => Q .non H', rt := Q } (start N vs) H) :
 FnOk P w K mg base CX (k + 1) f (PySem.W.fnOf name qual params body scope dV kV doc pm an cdv ct) ps sp := by
 refine ⟨len, fun A outer s H args us vs Q E hr e0 hb r hsp => ?_⟩
 have hl := len _ _ _ _ hsp
 have KX : K.In s.heap := e0.mod.kin.keeps fun b o e => (e0.bs b o e).1
 have lim : s.heap.NoLimit := e0.mod.nolimit.keeps fun b o e => (e0.bs b o e).1
 have hkind : ∀ y ∈ ps.zip us, scope.names.lookup y.1 = some .local ∨ (scope.names.lookup y.1 = some .cell ∧ ((cellsFrom (s.heap.objs.size + 1) scope.names []).lookup y.1).isSome = true) := fun ⟨n, v⟩ hy => by
  rcases S.par n (List.of_mem_zip hy).1 with q | q
  · exact .inl q
  · exact .inr ⟨q, PySem.W.cellsFrom_some _ _ _ (.inl q)⟩
 refine codeAny_call_function hr.depth (KX _ _ lk) rfl S.co S.gen rfl (PySem.W.codeRec_of KX hcd) (hb _ _ _ _ ?_)
 refine wpAny_newFunctionEnv_cells S.kind hkind fun env he s1 x => ?_
 subst he
 refine ⟨lim.keeps x.toInCall.keep, codeAny_func ?_⟩
 obtain ⟨t, ht, hq⟩ := hbody A outer s H vs Q E (hr.deeper _) hsp
 have I : Inv (cxOf CX P w K mg base N qual scope f cdv A outer s H E) [] (start N vs) H s1 := inv_start S hr.hd e0 hl r x
 refine wpAny_mono (ht [] s1 (start N vs) H _ I hq) (fun fl s' hs => ?_) fun e s' hs => hs
 have fin : ∀ {σ' : St} {H' : Hp} {v : V} {u : Value}, Inv (cxOf CX P w K mg base N qual scope f cdv A outer s H E) [] σ' H' s' → RelV v u → Q v H' → CE outer P w H s Q u s' :=
  fun {σ' H' v u} J rv q => ⟨v, H', J.os, J.bare, J.base, J.hok, rv, q⟩
 cases fl with
 | ret u =>
   obtain ⟨v, σ', H', J, rv, q⟩ := hs
   exact fin J rv q
 | next =>
   obtain ⟨σ', H', J, q⟩ := hs
   exact fin (v := V.non) (u := Value.none) J rfl q
 | brk =>
   obtain ⟨_, _, _, q⟩ := hs
   exact False.elim q
 | cont =>
   obtain ⟨_, _, _, q⟩ := hs
   exact False.elim q
end L2

namespace L2
open PySem PySem.Spec PyProof.Rows
section
variable {X : Cx} {x : Str} {p pos : Pos} {e : Expr} {es : List Expr} {t : TA} {id T : String} {r : List V → Hp → VK → Prop}

noncomputable def tCB (r : List V → Hp → VK → Prop) (t : TA) : TE := fun σ H Q => t σ H fun vs H1 => r vs H1 Q
theorem pe_callB (hc : CallR X (.builtin id) r) (hg : Gl X x) (hm : X.mg x = none) (hv : bootBuiltins x = some (.builtin id)) (ha : PA X (e :: es) t) (hn : x ≠ "__name__" := by decide) (hdb : (x == ("__debug__" : Str)) = false := by decide)
 (he : starEach (e :: es) X.env = (false, eval e X.env) :: starEach es X.env := by rfl) (hpl : (backTo pos (starEach es X.env)).any (·.1) = false := by rfl) : PE X (.Call (.Name x p) (e :: es) [] pos) (tCB r t) := by
 intro pins s σ H Q I h
 refine wpAny_Call_Name_kw (ld_blt I hg hm hv ?_ hn hdb)
 exact PyProof.Rows.callWith_builtin1 (thn (ha pos pins s σ H _ I h) fun us s1 ⟨vs, H1, I1, r1, q1⟩ => hc pins s1 σ H1 vs us Q I1 r1 q1) he hpl
theorem pe_callTy (hc : CallR X (.type T) r) (hg : Gl X x) (hm : X.mg x = none) (hv : bootBuiltins x = some (.type T)) (ha : PA X (e :: es) t) (hn : x ≠ "__name__" := by decide) (hdb : (x == ("__debug__" : Str)) = false := by decide)
 (he : starEach (e :: es) X.env = (false, eval e X.env) :: starEach es X.env := by rfl) (hpl : (backTo pos (starEach es X.env)).any (·.1) = false := by rfl) : PE X (.Call (.Name x p) (e :: es) [] pos) (tCB r t) := by
 intro pins s σ H Q I h
 refine wpAny_Call_Name_kw (ld_blt I hg hm hv ?_ hn hdb)
 exact PyProof.Rows.callWith_type1 (thn (ha pos pins s σ H _ I h) fun us s1 ⟨vs, H1, I1, r1, q1⟩ => hc pins s1 σ H1 vs us Q I1 r1 q1) he hpl
end
end L2

namespace HT
open PySem PyProof.Rows

noncomputable def lexLt : List Int → List Int → Bool
 | [], [] => false
 | [], _ :: _ => true
 | _ :: _, [] => false
 | x :: xs, y :: ys => if x = y then lexLt xs ys else decide (x < y)
theorem lexLt_cons (x y : Int) (xs ys : List Int) : lexLt (x :: xs) (y :: ys) = if x = y then lexLt xs ys else decide (x < y) := rfl
theorem lexLt_nil_nil : lexLt [] [] = false := rfl
theorem lexLt_nil_cons (y : Int) (ys : List Int) : lexLt [] (y :: ys) = true := rfl
theorem lexLt_cons_nil (x : Int) (xs : List Int) : lexLt (x :: xs) [] = false := rfl

theorem eqAt_int (A : Around) (s : Shared) (a : Int) (t : Tok) (c : Int) (u : Tok) : ∃ e, SeqAt.EqAt A s (.int a t) (.int c u) e ∧ (e = true ↔ a = c) :=
 ⟨(a == c), SeqAt.EqAt.int_int a t c u, by simp⟩
theorem rcLt_int (A : Around) (s : Shared) (a : Int) (t : Tok) (c : Int) (u : Tok) (prog : Program) (w : World) (E : Value → Shared → Prop) (Q : Value → Shared → Prop) (h : Q (.bool (decide (a < c))) s) :
 wpAny (model prog w) A (richCompare .Lt (.int a t) (.int c u)) Q E s :=
 (PyProof.Rows.lt_int h : wpAny (model prog w) A (compareOp .Lt (.int a t) (.int c u)) Q E s)

section
open PySem.SeqAt
open PySem.AutoSeq1 (wpAny_loadPart')
open PySem.MeetsSeq PySem.MeetsSeq2 PySem.MeetsSeq3

theorem tuple_lt_ints (l b : Addr) (items items2 : Array Value) (n n2 : Nat) (dd dd2 : Option Addr) (sl sl2 : Array (Option Value)) (ns ms : List Int) (hi : IntsAre items.toList ns) (hj : IntsAre items2.toList ms) :
 Meets (Builtin.«tuple.__lt__» ⟨[.ref l, .ref b], []⟩)
  (fun _ R s => s.heap.get? l = some { cls := .type "tuple", dict := dd, data := .seq items n, slots := sl } ∧ s.heap.get? b = some { cls := .type "tuple", dict := dd2, data := .seq items2 n2, slots := sl2 } ∧
   R (.ok (.ret (.bool (lexLt ns ms)))) s) :=
 .of_wp fun prog w A R s h => by
  obtain ⟨hp, g, d, tk, os⟩ := s; obtain ⟨hl, hb, h⟩ := h
  have f2 := AutoSeq1.sub_tuple_tuple
  have z1 : items.size = ns.length := by rw [← hi.length]; simp
  have z2 : items2.size = ms.length := by rw [← hj.length]; simp
  wp_walk using wpAny_loadPart' hl, wpAny_loadPart' hb, wpAny_forIn_list _ (fun rest b s' => b.1 = none ∧ s' = ⟨hp, g, d, tk, os⟩ ∧ ∃ (vs ws : List Value) (ns' ms' : List Int), rest = vs.zip ws ∧
   IntsAre vs ns' ∧ IntsAre ws ms' ∧ ns'.length + items2.size = ms'.length + items.size ∧ R (.ok (.ret (.bool (lexLt ns' ms')))) ⟨hp, g, d, tk, os⟩) _
  case turn =>
   rintro ⟨y, x⟩ rest b s' ⟨hb', rfl, vs, ws, ns', ms', hz, hvi, hwi, hlen, hR⟩
   cases hvi with
   | nil => rw [List.zip_nil_left] at hz; cases hz
   | cons a t hvi' =>
     cases hwi with
     | nil => rw [List.zip_nil_right] at hz; cases hz
     | cons c u hwi' =>
       rw [List.zip_cons_cons] at hz
       injection hz with hyx hrest
       injection hyx with hy hx
       subst hy hx
       rw [lexLt_cons] at hR
       simp only [List.length_cons] at hlen
       obtain ⟨e, he, hiff⟩ := eqAt_int A.in1 ⟨hp, g, d, tk, os⟩ a t c u
       refine wpAny_bind (he prog w _ _ ?_)
       cases e with
       | true =>
         rw [if_pos (hiff.mp rfl)] at hR
         wp_walk
         exact ⟨rfl, rfl, _, _, _, _, hrest, hvi', hwi', by omega, hR⟩
       | false =>
         rw [if_neg (fun q => absurd (hiff.mpr q) Bool.false_ne_true)] at hR
         have hri := rcLt_int A.in1 ⟨hp, g, d, tk, os⟩ a t c u prog w
         wp_walk using hri
         exact ⟨_, rfl, by simpa using hR⟩
  case fin =>
   rintro ⟨b1, b2⟩ s' ⟨hb', rfl, vs, ws, ns', ms', hz, hvi, hwi, hlen, hR⟩
   simp only at hb'
   subst hb'
   have hv : lexLt ns' ms' = decide (items.size < items2.size) := by
    cases hvi with
    | nil =>
      cases hwi with
      | nil =>
        simp only [List.length_nil] at hlen
        rw [lexLt_nil_nil]
        exact (decide_eq_false (by omega)).symm
      | cons c u hw =>
        simp only [List.length_nil, List.length_cons] at hlen
        rw [lexLt_nil_cons]
        exact (decide_eq_true (by omega)).symm
    | cons a t hv =>
      cases hwi with
      | nil =>
        simp only [List.length_nil, List.length_cons] at hlen
        rw [lexLt_cons_nil]
        exact (decide_eq_false (by omega)).symm
      | cons c u hw =>
        rw [List.zip_cons_cons] at hz
        cases hz
   rw [hv] at hR
   wp_walk
   exact ⟨_, rfl, by simpa [Builtin.Tuple.tupleCompareSizes] using hR⟩
  case h =>
   exact ⟨rfl, rfl, items.toList, items2.toList, ns, ms, rfl, hi, hj, by omega, h⟩
end

section
variable {prog : Program} {w : World} {A : Around} {E : Value → Shared → Prop} {s : Shared}

theorem lt_tupInts {l b : Addr} {items items2 : Array Value} {ns ms : List Int} {Q : Value → Shared → Prop} (hl : IsTup s.heap l items) (hb : IsTup s.heap b items2) (hi : IntsAre items.toList ns) (hj : IntsAre items2.toList ms)
 (hu : A.units < cLine) (h : Q (.bool (lexLt ns ms)) s) : wpAny (model prog w) A (compareOp .Lt (.ref l) (.ref b)) Q E s := by
 obtain ⟨⟨cls, dd, data, sl⟩, ho, hc, n, hd⟩ := id hl
 obtain ⟨⟨cls2, dd2, data2, sl2⟩, ho2, hc2, n2, hd2⟩ := id hb
 simp only at hc hd hc2 hd2
 subst hc hd hc2 hd2
 exact richCompare_meets_room (op := .Lt) ⟨_, ho, rfl⟩ ⟨_, ho2, rfl⟩ PySem.F.slot_tuple_lt PySem.F.entry_tuple_lt (PySem.F.args_tuple_lt_2 _ _) (tuple_lt_ints l b items items2 n n2 dd dd2 sl sl2 ns ms hi hj)
  ⟨ho, ho2, show Value.bool (lexLt ns ms) ≠ Value.notImplemented ∧ Q (.bool (lexLt ns ms)) s from ⟨(fun x => nomatch x), h⟩⟩ hu

theorem cat_tup {t b : Addr} {vs ws : List Value} {Q : Value → Shared → Prop} (ht : IsTup s.heap t vs.toArray) (hb : IsTup s.heap b ws.toArray) (hv : vs ≠ [])
 (h1 : ws = [] → Q (.ref t) s) (h2 : ws ≠ [] → Q (.ref s.heap.objs.size) { s with heap := s.heap.push { cls := .type "tuple", data := .seq (vs ++ ws).toArray } })
 (hsz : vs.length + ws.length ≤ sizeLine) : wpAny (model prog w) A (binaryOp .Add (.ref t) (.ref b)) Q E s := by
 obtain ⟨⟨cls, dd, data, sl⟩, ho, hc, n, hd⟩ := id ht
 obtain ⟨⟨cls2, dd2, data2, sl2⟩, ho2, hc2, n2, hd2⟩ := id hb
 simp only at hc hd hc2 hd2
 subst hc hd hc2 hd2
 have e : vs.toArray ++ ws.toArray = (vs ++ ws).toArray := by simp
 by_cases hw : ws = []
 · exact concat_meets ⟨_, ho, rfl⟩ ⟨_, ho2, rfl⟩ noFill_tuple_add seq_tuple_add PySem.F.slot_tuple_add PySem.F.entry_tuple_add (PySem.F.args_tuple_add_2 _ _)
    (tuple_addW1 t b vs.toArray ws.toArray n n2 dd dd2 sl sl2 (by simpa using hv) (by simp [hw])) ⟨ho, ho2, h1 hw⟩
 · refine concat_meets ⟨_, ho, rfl⟩ ⟨_, ho2, rfl⟩ noFill_tuple_add seq_tuple_add PySem.F.slot_tuple_add PySem.F.entry_tuple_add (PySem.F.args_tuple_add_2 _ _)
    (tuple_addW2 t b vs.toArray ws.toArray n n2 dd dd2 sl sl2 (by simpa using hv) (by simpa using hw) (by rw [List.size_toArray, List.size_toArray]; exact hsz)) ⟨ho, ho2, ?_⟩
   rw [e]
   exact h2 hw

noncomputable def sIx (n d : Nat) : Option Int → Nat
 | none => d
 | some v => if v < 0 then (v + (n : Int)).toNat else min v.toNat n
theorem sIx_none (n d : Nat) : sIx n d none = d := rfl
theorem sIx_nat (n d k : Nat) : sIx n d (some (k : Int)) = min k n := by
 show (if (k : Int) < 0 then ((k : Int) + (n : Int)).toNat else min (k : Int).toNat n) = min k n
 rw [if_neg (by omega), Int.toNat_natCast]
theorem sIx_le (n d : Nat) (hd : d ≤ n) (o : Option Int) : sIx n d o ≤ n := by
 cases o with
 | none => exact hd
 | some v =>
   show (if v < 0 then (v + (n : Int)).toNat else min v.toNat n) ≤ n
   by_cases hv : v < 0
   · rw [if_pos hv]; omega
   · rw [if_neg hv]; exact Nat.min_le_right _ _
theorem clip_eq (v : Int) (n d : Nat) : (if v < 0 then max (v + (n : Int)) 0 else min v (n : Int)) = ((sIx n d (some v) : Nat) : Int) := by
 show (if v < 0 then max (v + (n : Int)) 0 else min v (n : Int)) = (((if v < 0 then (v + (n : Int)).toNat else min v.toNat n) : Nat) : Int)
 by_cases hv : v < 0
 · simp only [if_pos hv]; omega
 · simp only [if_neg hv]; omega
theorem adjust_gen (lo hi : Option Int) (n : Nat) : Builtin.Slice.sliceAdjust lo hi 1 (n : Int) = (((sIx n 0 lo : Nat) : Int), ((sIx n n hi : Nat) : Int)) := by
 have h1 : ¬ ((1 : Int) < 0) := by omega
 unfold Builtin.Slice.sliceAdjust
 simp only [h1, if_false]
 refine Prod.ext ?_ ?_
 · cases lo with
   | none => rfl
   | some v => exact clip_eq v n 0
 · cases hi with
   | none => rfl
   | some v => exact clip_eq v n n
theorem places_gen (i j : Nat) : Builtin.Slice.slicePlaces (i : Int) (j : Int) 1 = j - i := by
 unfold Builtin.Slice.slicePlaces
 have h1 : (1 : Int) > 0 := by omega
 simp only [h1, if_true, Int.ediv_one]
 split <;> omega
theorem slicePart_ {v : Value} {o : Option Int} {Q : Option Int → Shared → Prop} (p : IsPart v o) (h : Q o s) : wpAny (model prog w) A (Builtin.Slice.slicePartIndex v) Q E s := by
 cases p with
 | none => exact slicePart_none h
 | int i t => exact slicePart_int h
theorem sliceApplied_gen {sl : Addr} {vl vu : Value} {lo hi : Option Int} {n : Nat} {Q : Int × Int × Nat → Shared → Prop} (hs : s.heap.IsSliceOf sl vl vu .none) (pl : IsPart vl lo) (pu : IsPart vu hi)
 (h : Q (((sIx n 0 lo : Nat) : Int), 1, sIx n n hi - sIx n 0 lo) s) : wpAny (model prog w) A (Builtin.Slice.sliceApplied (.ref sl) (pure (n : Int))) Q E s := by
 obtain ⟨os, hos, hcs, hds⟩ := id hs
 unfold Builtin.Slice.sliceApplied Builtin.Slice.sliceFields
 refine wpAny_bind (wpAny_bind (wpAny_field hos hds (x := vl) rfl (wpAny_bind (wpAny_field hos hds (x := vu) rfl (wpAny_bind (wpAny_field hos hds (x := .none) rfl (wpAny_pure ?_)))))))
 refine wpAny_bind (slicePart_none ?_)
 show wpAny _ _ (if ((1 : Int) == 0) = true then _ else _) _ _ s
 rw [if_neg (by decide)]
 refine wpAny_bind (slicePart_ pl (wpAny_bind (slicePart_ pu (wpAny_bind (wpAny_pure ?_)))))
 show wpAny _ _ (match Builtin.Slice.sliceAdjust lo hi 1 (n : Int) with | (lo, hi) => pure (lo, (1 : Int), Builtin.Slice.slicePlaces lo hi 1)) _ _ s
 rw [adjust_gen lo hi n]
 show wpAny _ _ (pure (((sIx n 0 lo : Nat) : Int), (1 : Int), Builtin.Slice.slicePlaces ((sIx n 0 lo : Nat) : Int) ((sIx n n hi : Nat) : Int) 1)) _ _ s
 rw [places_gen]
 exact wpAny_pure h
theorem pick_gen (xs : Array Value) (i k : Nat) : ((List.range k).filterMap fun (m : Nat) => xs[((i : Int) + (m : Int) * 1).toNat]?).toArray = ((xs.toList.drop i).take k).toArray := by
 have e : (fun (m : Nat) => xs[((i : Int) + (m : Int) * 1).toNat]?) = fun m => xs[i + m]? := by
  funext m
  have : ((i : Int) + (m : Int) * 1).toNat = i + m := by omega
  rw [this]
 rw [e]
 have := pick_run xs i k
 rw [List.filterMap_map] at this
 have e2 : ((fun x => xs[x]?) ∘ fun x => i + x) = fun m => xs[i + m]? := rfl
 rw [e2] at this
 rw [this]

theorem getItem_tuple_cut {t sl : Addr} {items : Array Value} {vl vu : Value} {lo hi : Option Int} {Q : Value → Shared → Prop} (ht : IsTup s.heap t items) (hs : s.heap.IsSliceOf sl vl vu .none) (pl : IsPart vl lo) (pu : IsPart vu hi)
 (hw : ¬ (sIx items.size 0 lo = 0 ∧ sIx items.size items.size hi = items.size))
 (h : Q (.ref s.heap.objs.size) { s with heap := s.heap.push { cls := .type "tuple", data := .seq ((items.toList.drop (sIx items.size 0 lo)).take (sIx items.size items.size hi - sIx items.size 0 lo)).toArray } })
 (hsz : items.size ≤ sizeLine) : wpAny (model prog w) A (getItem (.ref t) (.ref sl)) Q E s := by
 have htake : sizeOk (.seq ((items.toList.drop (sIx items.size 0 lo)).take (sIx items.size items.size hi - sIx items.size 0 lo)).toArray) := by
  show ((items.toList.drop (sIx items.size 0 lo)).take (sIx items.size items.size hi - sIx items.size 0 lo)).toArray.size ≤ sizeLine
  rw [List.size_toArray, List.length_take, List.length_drop, Array.length_toList]
  omega
 have hj : sIx items.size items.size hi ≤ items.size := sIx_le _ _ (Nat.le_refl _) hi
 obtain ⟨os, hos, hcs, hds⟩ := id hs
 have hTs : s.TypeIs (.ref sl) "slice" := ⟨os, hos, hcs⟩
 unfold getItem
 try with_reducible refine wpAny_holding ?_
 first | refine wpAny_bind (wpAny_pure ?_) | skip
 refine wpAny_bind (wpAny_sequenceKey ht.typeIs (by decide) ?_)
 refine wpAny_bind (wpAny_callSpecial?_slot (name := Str.ofString "__getitem__") ht.typeIs PyProof.Rows.slot_tuple_getitem
  (wpAny_call_entry PyProof.Rows.slot_tuple_getitem ht.typeIs entry_tuple_getitem ?_ (args_tuple_getitem _ _)))
 show wpAny _ _ (Builtin.Tuple.tupleItemsOf (.ref t) >>= _) _ _ s
 refine wpAny_bind (tupleItemsOf_ ht ?_)
 refine wpAny_bind (wpAny_typeOf hTs ?_)
 rw [if_pos (by decide)]
 refine wpAny_bind (sliceApplied_gen hs pl pu ?_)
 have hno : ¬ ((((sIx items.size 0 lo : Nat) : Int) == 0 && (1 : Int) == 1 && (sIx items.size items.size hi - sIx items.size 0 lo) == items.size) = true) := by
  intro q
  rw [Bool.and_eq_true, Bool.and_eq_true] at q
  have q1 : ((sIx items.size 0 lo : Nat) : Int) = 0 := eq_of_beq q.1.1
  have q2 : sIx items.size items.size hi - sIx items.size 0 lo = items.size := eq_of_beq q.2
  exact hw ⟨by omega, by omega⟩
 show wpAny _ _ (if (((sIx items.size 0 lo : Nat) : Int) == 0 && (1 : Int) == 1 && (sIx items.size items.size hi - sIx items.size 0 lo) == items.size) = true then _ else _) _ _ s
 rw [if_neg hno, pick_gen]
 first
  | exact wpAny_bind (m := Builtin.Tuple.tupleExact _) (wpAny_newObj_type (wpAny_pure ⟨_, rfl, wpAny_pure h⟩) htake)
  | exact wpAny_bind (m := Builtin.Tuple.tupleExact _) (wpAny_newObj_type (wpAny_bind (wpAny_pure (wpAny_pure ⟨_, rfl, wpAny_pure h⟩))) htake)
  | exact wpAny_bind (wpAny_bind (m := Builtin.Tuple.tupleExact _) (wpAny_newObj_type (wpAny_pure (wpAny_pure ⟨_, rfl, wpAny_pure h⟩)) htake))
  | exact wpAny_bind (wpAny_bind (m := Builtin.Tuple.tupleExact _) (wpAny_newObj_type (wpAny_pure ⟨_, rfl, wpAny_pure h⟩) htake))
end
end HT

namespace L2
open PySem PySem.Spec PyProof.Rows

noncomputable abbrev TO := St → Hp → (Option Int → Hp → Prop) → Prop
noncomputable def PO (X : Cx) (e : Option Expr) (t : TO) : Prop :=
 ∀ (pins : List (Addr × Obj)) (s : Shared) (σ : St) (H : Hp) (Q : Option Int → Hp → Prop), Inv X pins σ H s → t σ H Q →
   wpAny (model X.prog X.w) X.A (evalPart e X.env) (fun u s' => ∃ o H', Inv X pins σ H' s' ∧ IsPart u o ∧ Q o H') X.xe s
noncomputable def tNoPart : TO := fun _ H Q => Q none H
noncomputable def tPart (t : TE) : TO := fun σ H Q => t σ H fun x H1 => ∃ i, x = .int i ∧ Q (some i) H1

theorem intsAre_of {ns : List Int} : ∀ {us : List Value}, Vals (ns.map V.int) us → IntsAre us ns := by
 induction ns with
 | nil => intro us r; rw [List.map_nil] at r; cases r; exact .nil
 | cons n ns ih =>
   intro us r
   rw [List.map_cons] at r
   cases r with
   | cons r1 r2 =>
     obtain ⟨t, e⟩ := r1
     subst e
     exact .cons n t (ih r2)

section
variable {X : Cx} {e : Expr} {te : TE} {lo hi : Option Expr} {tl th : TO} {pos p2 : Pos}

theorem po_none : PO X none tNoPart := by
 intro pins s σ H Q I h
 rw [evalPart_none]
 exact wpAny_pure ⟨none, H, I, .none, h⟩
theorem po_some (h : PE X e te) : PO X (some e) (tPart te) := by
 intro pins s σ H Q I hw
 rw [evalPart_some]
 refine thn (h pins s σ H _ I hw) fun u s1 ⟨x, H1, I1, r1, q1⟩ => ?_
 obtain ⟨i, rfl, q⟩ := q1
 obtain ⟨t, rfl⟩ := r1
 exact ⟨some i, H1, I1, .int i t, q⟩

noncomputable def SlR (X : Cx) (r : V → Option Int → Option Int → Hp → VK → Prop) : Prop :=
 ∀ (pins : List (Addr × Obj)) (s : Shared) (σ : St) (H : Hp) (x : V) (v vl vu : Value) (lo hi : Option Int) (sl : Addr) (Q : VK), Inv X pins σ H s → RelV x v → s.heap.IsSliceOf sl vl vu .none → IsPart vl lo → IsPart vu hi → r x lo hi H Q →
   ∃ T id, typeLookup (.type T) "__getitem__" = pure (some (.builtin id)) ∧ s.TypeIs v T ∧ wpAny (model X.prog X.w) X.A (getItem v (.ref sl)) (EP X pins σ Q) X.xe s
theorem SlR.or {r r' : V → Option Int → Option Int → Hp → VK → Prop} (h : SlR X r) (h' : SlR X r') : SlR X (fun x lo hi H Q => r x lo hi H Q ∨ r' x lo hi H Q) := by
 intro pins s σ H x v vl vu lo hi sl Q I rx hs pl pu q
 rcases q with q | q
 · exact h pins s σ H x v vl vu lo hi sl Q I rx hs pl pu q
 · exact h' pins s σ H x v vl vu lo hi sl Q I rx hs pl pu q
noncomputable def tSl (r : V → Option Int → Option Int → Hp → VK → Prop) (te : TE) (tl th : TO) : TE := fun σ H Q => te σ H fun x H1 => tl σ H1 fun l H2 => th σ H2 fun u H3 => r x l u H3 Q
theorem pe_slice {r : V → Option Int → Option Int → Hp → VK → Prop} (hr : SlR X r) (he : PE X e te) (hl : PO X lo tl) (hu : PO X hi th) : PE X (.Subscript e (.Slice lo hi none p2) pos) (tSl r te tl th) := by
 intro pins s σ H Q I h
 refine Subscript_ (thn (he pins s σ H _ I h) fun v s1 ⟨x, H1, I1, r1, q1⟩ => ?_)
 refine wpAny_Slice (thn (hl pins s1 σ H1 _ I1 q1) fun vl s2 ⟨l, H2, I2, pl, q2⟩ => thn (hu pins s2 σ H2 _ I2 q2) fun vu s3 ⟨u, H3, I3, pu, q3⟩ => ?_)
 rw [evalPart_none]
 refine wpAny_pure ?_
 have I4 : Inv X pins σ H3 { s3 with heap := s3.heap.push { cls := .type "slice", data := .fields #[vl, vu, .none] } } := I3.kept (t' := s3.toks) fun b ob q => Heap.get?_push_of_some _ q
 obtain ⟨T, id, hT, ht, hg⟩ := hr pins { s3 with heap := s3.heap.push { cls := .type "slice", data := .fields #[vl, vu, .none] } } σ H3 x v vl vu l u s3.heap.objs.size Q I4 r1 (Heap.IsSliceOf.new ..) pl pu q3
 show wpAny (model X.prog X.w) X.A (subscriptTail e (.Slice lo hi none p2) v (.ref s3.heap.objs.size)) (EP X pins σ Q) X.xe { s3 with heap := s3.heap.push { cls := .type "slice", data := .fields #[vl, vu, .none] } }
 exact tail_any (ops := [.ref s3.heap.objs.size, v]) ht hT hg (by with_unfolding_all rfl)

noncomputable def cutV (xs : List V) (lo hi : Option Int) : List V := (xs.drop (HT.sIx xs.length 0 lo)).take (HT.sIx xs.length xs.length hi - HT.sIx xs.length 0 lo)
theorem cutV_length (xs : List V) (lo hi : Option Int) : (cutV xs lo hi).length ≤ xs.length := by
 unfold cutV
 rw [List.length_take, List.length_drop]
 omega
noncomputable def rSlT (K : PySem.W.Frag) : V → Option Int → Option Int → Hp → VK → Prop := fun x lo hi H Q => ∃ a xs, x = .ref a ∧ SqT K H a xs ∧
 ¬ (HT.sIx xs.length 0 lo = 0 ∧ HT.sIx xs.length xs.length hi = xs.length) ∧ ∀ p, H p = none → Q (.ref p) (upd H p (.tup (cutV xs lo hi)))
theorem sl_tup : SlR X (rSlT X.K) := by
 intro pins s σ H x v vl vu lo hi sl Q I rx hs pl pu h
 obtain ⟨a, xs, rfl, hx, hw, q⟩ := h
 cases rx
 obtain ⟨its, r, ht, hz⟩ := I.tuple hx
 have hlen : its.toArray.size = xs.length := by rw [List.size_toArray]; exact r.length.symm
 refine ⟨"tuple", _, PyProof.Rows.slot_tuple_getitem.lookup, ht.typeIs, ?_⟩
 refine HT.getItem_tuple_cut ht hs pl pu (by rw [hlen]; exact hw) ?_ (by rw [hlen]; exact hz)
 rw [hlen]
 refine ⟨.ref s.heap.objs.size, _, I.laid (t' := s.toks) (o := .tup (cutV xs lo hi)) (fun b ob q => Heap.get?_push_of_some _ q) (Nat.le_refl _) ?_, rfl, q _ (I.hok.fresh (Nat.le_refl _))⟩
 exact ⟨Nat.le_trans (cutV_length xs lo hi) hz, _, (r.drop (HT.sIx xs.length 0 lo)).take (HT.sIx xs.length xs.length hi - HT.sIx xs.length 0 lo), IsTupN.new _ _⟩

noncomputable def rLtT (K : PySem.W.Frag) : R2 := fun x y H Q => ∃ a b ns ms, x = .ref a ∧ y = .ref b ∧ SqT K H a (ns.map V.int) ∧ SqT K H b (ms.map V.int) ∧ Q (.bl (HT.lexLt ns ms)) H
theorem op_ltT (hu : X.A.units < cLine) : OpR X (compareOp .Lt) (rLtT X.K) := by
 intro pins s σ H x y v u Q I rx ry h
 obtain ⟨a, b, ns, ms, rfl, rfl, ha, hb, q⟩ := h
 cases rx
 cases ry
 obtain ⟨its, r1, p1, _⟩ := I.tuple ha
 obtain ⟨its2, r2, p2, _⟩ := I.tuple hb
 have i1 : IntsAre its.toArray.toList ns := intsAre_of r1
 have i2 : IntsAre its2.toArray.toList ms := intsAre_of r2
 exact HT.lt_tupInts p1 p2 i1 i2 hu ⟨.bl (HT.lexLt ns ms), H, I, rfl, q⟩
noncomputable def rCatT (K : PySem.W.Frag) : R2 := fun x y H Q => ∃ a b xs ys, x = .ref a ∧ y = .ref b ∧ SqT K H a xs ∧ SqT K H b ys ∧ xs ≠ [] ∧ xs.length + ys.length ≤ sizeLine ∧
 (ys = [] → Q (.ref a) H) ∧ (ys ≠ [] → ∀ p, H p = none → Q (.ref p) (upd H p (.tup (xs ++ ys))))
theorem Vals.nil_iff {xs : List V} {us : List Value} (r : Vals xs us) : us = [] ↔ xs = [] := by
 cases r with
 | nil => simp
 | cons _ _ => simp
theorem op_catT : OpR X (binaryOp .Add) (rCatT X.K) := by
 intro pins s σ H x y v u Q I rx ry h
 obtain ⟨a, b, xs, ys, rfl, rfl, ha, hb, hx, hz, q1, q2⟩ := h
 cases rx
 cases ry
 obtain ⟨its, r1, p1, _⟩ := I.tuple ha
 obtain ⟨its2, r2, p2, _⟩ := I.tuple hb
 refine HT.cat_tup p1 p2 (fun z => hx (r1.nil_iff.mp z)) (fun z => ⟨.ref a, H, I, rfl, q1 (r2.nil_iff.mp z)⟩) (fun z => ?_) (by rw [← r1.length, ← r2.length]; exact hz)
 refine ⟨.ref s.heap.objs.size, _, I.laid (t' := s.toks) (o := .tup (xs ++ ys)) (fun b ob q => Heap.get?_push_of_some _ q) (Nat.le_refl _) ?_, rfl, q2 (fun w => z (r2.nil_iff.mpr w)) _ (I.hok.fresh (Nat.le_refl _))⟩
 exact ⟨by rw [List.length_append]; exact hz, _, r1.append r2, IsTupN.new _ _⟩
end
end L2

namespace L2
open PySem PySem.Spec PyProof.Rows

noncomputable def ixN (n : Nat) (i : Int) : Option Nat := if 0 ≤ i then (if i < n then some i.toNat else none) else if -(n : Int) ≤ i then some (i + n).toNat else none
noncomputable def atI {α : Type} (xs : List α) (i : Int) : Option α := (ixN xs.length i).bind fun j => xs[j]?
theorem ixN_seq {n : Nat} {i : Int} {j : Nat} (h : ixN n i = some j) : seqIndex? i n = some j ∧ j < n ∧ -(n : Int) ≤ i ∧ i < n := by
 unfold ixN at h
 by_cases h0 : 0 ≤ i
 · rw [if_pos h0] at h
   by_cases h1 : i < n
   · rw [if_pos h1] at h
     have e : i.toNat = j := Option.some.inj h
     exact ⟨by rw [seqIndex_of h0 h1, e], by omega, by omega, h1⟩
   · rw [if_neg h1] at h; cases h
 · rw [if_neg h0] at h
   by_cases h1 : -(n : Int) ≤ i
   · rw [if_pos h1] at h
     have e : (i + n).toNat = j := Option.some.inj h
     exact ⟨by rw [seqIndex_neg (by omega) h1, e], by omega, h1, by omega⟩
   · rw [if_neg h1] at h; cases h
theorem atI_get {α : Type} {xs : List α} {i : Int} {v : α} (h : atI xs i = some v) : ∃ j, seqIndex? i xs.length = some j ∧ xs[j]? = some v ∧ j < xs.length ∧ -(xs.length : Int) ≤ i ∧ i < xs.length := by
 unfold atI at h
 cases e : ixN xs.length i with
 | none => rw [e] at h; cases h
 | some j =>
   rw [e] at h
   obtain ⟨h1, h2, h3, h4⟩ := ixN_seq e
   exact ⟨j, h1, h, h2, h3, h4⟩
theorem atI_nat {α : Type} {xs : List α} {j : Nat} {v : α} (h : xs[j]? = some v) : atI xs (j : Int) = some v := by
 have hj : j < xs.length := (List.getElem?_eq_some_iff.mp h).1
 have e : ixN xs.length (j : Int) = some j := by
  unfold ixN
  rw [if_pos (by omega), if_pos (by omega)]; simp
 unfold atI; rw [e]; exact h
noncomputable def PlainIx (b : Expr) : Prop := ∀ o i, subscripted b false o i = operate [o, i] (getItem o i)
noncomputable def IxR (X : Cx) (r : R2) : Prop :=
 ∀ (value slice : Expr) (pins : List (Addr × Obj)) (s : Shared) (σ : St) (H : Hp) (x y : V) (v u : Value) (Q : VK), Inv X pins σ H s → RelV x v → RelV y u → r x y H Q →
   subscripted slice false v u = operate [v, u] (getItem v u) → wpAny (model X.prog X.w) X.A (subscriptTail value slice v u) (EP X pins σ Q) X.xe s
noncomputable def MtR (X : Cx) (id : String) (r : V → List V → Hp → VK → Prop) : Prop :=
 ∀ (pins : List (Addr × Obj)) (s : Shared) (σ : St) (H : Hp) (x : V) (xs : List V) (v : Value) (us : List Value) (Q : VK), Inv X pins σ H s → RelV x v → Vals xs us → r x xs H Q →
   wpAny (model X.prog X.w) X.A (call (.builtin id) (v :: us)) (EP X pins σ Q) X.xe s
section
variable {X : Cx} {a b : Expr} {ta tb : TE} {pos : Pos}
theorem pe_ix {r : R2} (hr : IxR X r) (ha : PE X a ta) (hb : PE X b tb) (hs : PlainIx b) : PE X (.Subscript a b pos) (tOp r ta tb) := by
 intro pins s σ H Q I h
 exact Subscript_ (binT ha hb I h fun v u s2 x y H2 I2 rx ry q => hr a b pins s2 σ H2 x y v u Q I2 rx ry q (hs _ _))

noncomputable def rIxL (K : PySem.W.Frag) : R2 := fun x y H Q => ∃ p xs i v, x = .ref p ∧ y = .int i ∧ SqL K H p xs ∧ atI xs i = some v ∧ Q v H
noncomputable def rIxT (K : PySem.W.Frag) : R2 := fun x y H Q => ∃ p xs i v, x = .ref p ∧ y = .int i ∧ SqT K H p xs ∧ atI xs i = some v ∧ Q v H
theorem ix_list : IxR X (rIxL X.K) := by
 intro value slice pins s σ H x y v u Q I rx ry h hs
 obtain ⟨p, xs, i, z, rfl, rfl, hq, he, q⟩ := h
 cases rx
 obtain ⟨t, rfl⟩ := ry
 obtain ⟨its, r, pl, hz⟩ := I.list hq
 obtain ⟨j, h1, h2, h3, h4, h5⟩ := atI_get he
 obtain ⟨w, ew, rw'⟩ := r.get h2
 have hl := r.length
 have hn := line63
 have fin : EP X pins σ Q w s := ⟨z, H, I, rw', q⟩
 by_cases h0 : 0 ≤ i
 · have hj : i.toNat = j := by
    rw [seqIndex_of h0 h5] at h1
    exact Option.some.inj h1
   exact item_listR pl.isList h0 (by omega) (by rw [hj]; simpa using ew) fin hs
 · have hj : (i + (its.toArray.size : Int)).toNat = j := by
    rw [seqIndex_neg (by omega) h4] at h1
    rw [List.size_toArray, ← hl]
    exact Option.some.inj h1
   exact subscriptTail_builtinR (x := w) pl.isList.typeIs slot_list_getitem.lookup
    (wpAny_getItem_list_neg (Q := fun r s' => r = w ∧ EP X pins σ Q r s') pl.isList (by omega) (by rw [List.size_toArray] <;> omega) (by omega) (by rw [hj]; simpa using ew) ⟨rfl, fin⟩) hs
theorem ix_tup : IxR X (rIxT X.K) := by
 intro value slice pins s σ H x y v u Q I rx ry h hs
 obtain ⟨p, xs, i, z, rfl, rfl, hq, he, q⟩ := h
 cases rx
 obtain ⟨t, rfl⟩ := ry
 obtain ⟨its, r, pl, hz⟩ := I.tuple hq
 obtain ⟨j, h1, h2, h3, h4, h5⟩ := atI_get he
 obtain ⟨w, ew, rw'⟩ := r.get h2
 have hl := r.length
 have hn := line63
 have fin : EP X pins σ Q w s := ⟨z, H, I, rw', q⟩
 exact subscriptTail_builtinR (x := w) pl.typeIs slot_tuple_getitem.lookup
  (getItem_tuple (j := j) (Q := fun r s' => r = w ∧ EP X pins σ Q r s') pl (by omega) (by omega) (by rw [List.size_toArray, ← hl]; exact h1) (by simpa using ew) ⟨rfl, fin⟩) hs
theorem mapSeq_set (its : List Value) (n j : Nat) (u : Value) : Obj.mapSeq (·.setIfInBounds j u) { cls := .type "list", data := .seq its.toArray n } = { cls := .type "list", data := .seq (its.set j u).toArray n } := by
 simp [Obj.mapSeq]
theorem Inv.lst {pins : List (Addr × Obj)} {σ : St} {H : Hp} {s : Shared} {p : Addr} {xs : List V} (I : Inv X pins σ H s) (h : H p = some (.lst xs)) :
 ∃ (its : List Value) (n : Nat), Vals xs its ∧ s.heap.get? p = some { cls := .type "list", data := .seq its.toArray n } ∧ xs.length ≤ sizeLine := by
 obtain ⟨z, its, n, r, e⟩ := I.hok p _ h
 exact ⟨its, n, r, e, z⟩
theorem Inv.lstUpd {pins : List (Addr × Obj)} {σ : St} {H : Hp} {s : Shared} {p : Addr} {xs ys : List V} {its its' : List Value} {n n' : Nat} {f : Obj → Obj} (I : Inv X pins σ H s) (h : H p = some (.lst xs))
 (ho : s.heap.get? p = some { cls := .type "list", data := .seq its.toArray n }) (hf : f { cls := .type "list", data := .seq its.toArray n } = { cls := .type "list", data := .seq its'.toArray n' }) (r : Vals ys its') (hz : ys.length ≤ sizeLine) (t : Nat) :
 Inv X pins σ (upd H p (.lst ys)) { s with heap := s.heap.update p f, toks := t } := by
 have e : (s.heap.update p f).get? p = some { cls := .type "list", data := .seq its'.toArray n' } := by
  rw [Heap.get?_update_self f ho (by rw [hf] <;> rfl), hf]
 refine I.write (x := p) (e := p) (by rw [h]; trivial) (.inl rfl) (fun b u hb q => (Heap.get?_update_other _ _ (Ne.symm hb)).trans q) ⟨_, e⟩ ?_
 exact ⟨hz, its', n', r, e⟩
noncomputable def rSetL : V → V → V → Hp → (Hp → Prop) → Prop := fun o i v H Q => ∃ p xs k j, o = .ref p ∧ i = .int k ∧ H p = some (.lst xs) ∧ ixN xs.length k = some j ∧ Q (upd H p (.lst (xs.set j v)))
theorem set_list : PSet X rSetL := by
 intro pins s σ H o i v ov iv u Q I ro ri rv h
 obtain ⟨p, xs, k, j, rfl, rfl, hp, hj, q⟩ := h
 cases ro
 obtain ⟨t, rfl⟩ := ri
 obtain ⟨its, n, r, ho, hz⟩ := I.lst hp
 obtain ⟨h1, h2, h3, h4⟩ := ixN_seq hj
 have hl := r.length
 have hn := line63
 have I' : Inv X pins σ (upd H p (.lst (xs.set j v))) { s with heap := s.heap.update p (Obj.mapSeq (·.setIfInBounds j u)) } :=
  I.lstUpd hp ho (mapSeq_set its n j u) (r.set rv j) (by rw [List.length_set]; exact hz) s.toks
 by_cases h0 : 0 ≤ k
 · have hk : k.toNat = j := by
    rw [seqIndex_of h0 h4] at h1
    exact Option.some.inj h1
   exact PySem.W.ki_setAt ho h0 (by omega) (by rw [List.size_toArray, ← hl]; exact h4) (by rw [hk]; exact ⟨_, I', q⟩)
 · have hk : (k + (its.toArray.size : Int)).toNat = j := by
    rw [seqIndex_neg (by omega) h3] at h1
    rw [List.size_toArray, ← hl]
    exact Option.some.inj h1
   exact PySem.W.ki_setBack ho (by omega) (by rw [List.size_toArray, ← hl]; exact h3) (by omega) (by rw [hk]; exact ⟨_, I', q⟩)

theorem slice_bounds (lo hi : Option Int) (n : Nat) : (sliceBounds lo hi none n).1 = ((HT.sIx n 0 lo : Nat) : Int) ∧ (sliceBounds lo hi none n).2.1 = ((HT.sIx n n hi : Nat) : Int) ∧ (sliceBounds lo hi none n).2.2 = 1 := by
 refine ⟨?_, ?_, rfl⟩
 · cases lo with
   | none => simp [sliceBounds, HT.sIx]
   | some i =>
     simp only [sliceBounds, HT.sIx, Option.getD_none, show (1 : Int) > 0 by decide, if_true]
     by_cases h : i < 0
     · simp only [h, if_true] <;> omega
     · simp only [h, if_false] <;> omega
 · cases hi with
   | none => simp [sliceBounds, HT.sIx]
   | some i =>
     simp only [sliceBounds, HT.sIx, Option.getD_none, show (1 : Int) > 0 by decide, if_true]
     by_cases h : i < 0
     · simp only [h, if_true] <;> omega
     · simp only [h, if_false] <;> omega
theorem slicePick_cut (its : List Value) (lo hi : Option Int) : slicePick its.toArray lo hi none = ((its.drop (HT.sIx its.length 0 lo)).take (HT.sIx its.length its.length hi - HT.sIx its.length 0 lo)).toArray := by
 obtain ⟨h1, h2, h3⟩ := slice_bounds lo hi its.toArray.size
 unfold slicePick
 rw [h1, h2, h3]
 simp only [sliceRange_one, pick_run, List.size_toArray] <;> rfl
noncomputable def rSlL (K : PySem.W.Frag) : V → Option Int → Option Int → Hp → VK → Prop := fun x lo hi H Q => ∃ a xs, x = .ref a ∧ SqL K H a xs ∧ ∀ p, H p = none → Q (.ref p) (upd H p (.lst (cutV xs lo hi)))
theorem sl_list : SlR X (rSlL X.K) := by
 intro pins s σ H x v vl vu lo hi sl Q I rx hs pl pu h
 obtain ⟨a, xs, rfl, hx, q⟩ := h
 cases rx
 obtain ⟨its, r, ht, hz⟩ := I.list hx
 have hlen := r.length
 refine ⟨"list", _, slot_list_getitem.lookup, ht.isList.typeIs, ?_⟩
 refine wpAny_getItem_list_slice ht.isList hs pl pu .none (by simp) ?_ (by rw [List.size_toArray] <;> omega)
 rw [slicePick_cut, ← hlen]
 refine ⟨.ref s.heap.objs.size, _, I.laid (t' := s.toks) (o := .lst (cutV xs lo hi)) (fun b ob q => Heap.get?_push_of_some _ q) (Nat.le_refl _) ?_, rfl, q _ (I.hok.fresh (Nat.le_refl _))⟩
 exact ⟨Nat.le_trans (cutV_length xs lo hi) hz, _, 0, (r.drop (HT.sIx xs.length 0 lo)).take (HT.sIx xs.length xs.length hi - HT.sIx xs.length 0 lo), Heap.get?_push_size _ rfl⟩

noncomputable def flatV : V → Bool
 | .non => true
 | .bl _ => true
 | .int _ => true
 | .str _ => true
 | _ => false
noncomputable def eqV : V → V → Bool
 | .non, .non => true
 | .bl a, .bl b => a == b
 | .bl a, .int b => (if a then 1 else 0) == b
 | .int a, .bl b => a == (if b then 1 else 0)
 | .int a, .int b => a == b
 | .str a, .str b => a == b
 | _, _ => false
theorem eqAt_V {A : Around} {s : Shared} {y x : V} {u v : Value} (ry : RelV y u) (rx : RelV x v) (fy : flatV y = true) (fx : flatV x = true) : SeqAt.EqAt A s u v (eqV y x) := by
 cases y with
 | non =>
   cases ry
   cases x with
   | non => cases rx; exact SeqAt.EqAt.same _
   | bl b => cases rx; exact SeqAt.EqAt.none_bool b
   | int b => obtain ⟨t, rfl⟩ := rx; exact SeqAt.EqAt.none_int b t
   | str b => obtain ⟨t, rfl⟩ := rx; exact SeqAt.EqAt.none_str b t
   | _ => exact absurd (show false = true from fx) Bool.false_ne_true
 | bl a =>
   cases ry
   cases x with
   | non => cases rx; exact SeqAt.EqAt.bool_none a
   | bl b => cases rx; exact SeqAt.EqAt.bool_bool a b
   | int b => obtain ⟨t, rfl⟩ := rx; exact SeqAt.EqAt.bool_int a b t
   | str b => obtain ⟨t, rfl⟩ := rx; exact SeqAt.EqAt.bool_str a b t
   | _ => exact absurd (show false = true from fx) Bool.false_ne_true
 | int a =>
   obtain ⟨t', rfl⟩ := ry
   cases x with
   | non => cases rx; exact SeqAt.EqAt.int_none a t'
   | bl b => cases rx; exact SeqAt.EqAt.int_bool a t' b
   | int b => obtain ⟨t, rfl⟩ := rx; exact SeqAt.EqAt.int_int a t' b t
   | str b => obtain ⟨t, rfl⟩ := rx; exact SeqAt.EqAt.int_str a t' b t
   | _ => exact absurd (show false = true from fx) Bool.false_ne_true
 | str a =>
   obtain ⟨t', rfl⟩ := ry
   cases x with
   | non => cases rx; exact SeqAt.EqAt.str_none a t'
   | bl b => cases rx; exact SeqAt.EqAt.str_bool a t' b
   | int b => obtain ⟨t, rfl⟩ := rx; exact SeqAt.EqAt.str_int a t' b t
   | str b => obtain ⟨t, rfl⟩ := rx; exact SeqAt.EqAt.str_str a t' b t
   | _ => exact absurd (show false = true from fx) Bool.false_ne_true
 | _ => exact absurd (show false = true from fy) Bool.false_ne_true
theorem call_len_seq : CallR X (.builtin "len") (fun xs H Q => ∃ p ys, xs = [.ref p] ∧ (SqL X.K H p ys ∨ SqT X.K H p ys) ∧ Q (.int ys.length) H) := by
 intro pins s σ H xs us Q I r h
 obtain ⟨p, ys, rfl, hq, q⟩ := h
 obtain ⟨u, rfl, rx⟩ := vals1 r
 cases rx
 have hn := line63
 rcases hq with hq | hq
 · obtain ⟨its, r', pl, hz⟩ := I.list hq
   have hlen := r'.length
   exact Calls.call_len_list pl.isList (by simp only [List.size_toArray] <;> omega) ⟨.int ys.length, H, I.tok _, ⟨s.toks + 1, by rw [List.size_toArray, hlen]⟩, q⟩
 · obtain ⟨its, r', pl, hz⟩ := I.tuple hq
   have hlen := r'.length
   exact len_tuple pl (by simp only [List.size_toArray] <;> omega) ⟨.int ys.length, H, I.tok _, ⟨s.toks + 1, by rw [List.size_toArray, hlen]⟩, q⟩
theorem call_list_of : CallR X (.type "list") (fun xs H Q => ∃ p ys, xs = [.ref p] ∧ (SqL X.K H p ys ∨ SqT X.K H p ys) ∧ ∀ l, H l = none → Q (.ref l) (upd H l (.lst ys))) := by
 intro pins s σ H xs us Q I r h
 obtain ⟨p, ys, rfl, hq, q⟩ := h
 obtain ⟨u, rfl, rx⟩ := vals1 r
 cases rx
 have fin : ∀ (its : List Value), Vals ys its → ys.length ≤ sizeLine → ∀ (h' : Heap) (c' : Nat), (∀ b o', s.heap.get? b = some o' → h'.get? b = some o') →
  h'.get? s.heap.objs.size = some { cls := .type "list", dict := none, data := .seq its.toArray c', slots := #[] } → EP X pins σ Q (.ref s.heap.objs.size) { s with heap := h' } := fun its r' hz h' c' kp e =>
  ⟨.ref s.heap.objs.size, _, I.laid (t' := s.toks) kp (Nat.le_refl _) (show ObjOk X.prog X.w _ h' _ (.lst ys) from ⟨hz, its, c', r', e⟩), rfl, q _ (I.hok.fresh (Nat.le_refl _))⟩
 rcases hq with hq | hq
 · obtain ⟨its, r', pl, hz⟩ := I.list hq
   have hlen := r'.length
   obtain ⟨o, ho, hc, n, hd⟩ := pl.isList
   exact call_list_seq p (.inl rfl) ho hc hd (fun h' c' kp e => fin its r' hz h' c' kp e) (by simp only [List.size_toArray] <;> omega)
 · obtain ⟨its, r', pl, hz⟩ := I.tuple hq
   have hlen := r'.length
   obtain ⟨o, ho, hc, n, hd⟩ := pl
   exact call_list_seq p (.inr rfl) ho hc hd (fun h' c' kp e => fin its r' hz h' c' kp e) (by simp only [List.size_toArray] <;> omega)
theorem call_tuple_of : CallR X (.type "tuple") (fun xs H Q => ∃ p ys, xs = [.ref p] ∧ ((SqL X.K H p ys ∧ ∀ l, H l = none → Q (.ref l) (upd H l (.tup ys))) ∨ (SqT X.K H p ys ∧ Q (.ref p) H))) := by
 intro pins s σ H xs us Q I r h
 obtain ⟨p, ys, rfl, h⟩ := h
 obtain ⟨u, rfl, rx⟩ := vals1 r
 cases rx
 rcases h with ⟨hq, q⟩ | ⟨hq, q⟩
 · obtain ⟨its, r', pl, hz⟩ := I.list hq
   have hlen := r'.length
   refine call_tuple_list pl.isList (fun h' kp => ?_) (by simp only [List.size_toArray] <;> omega)
   have I1 : Inv X pins σ H { s with heap := h' } := I.kept (t' := s.toks) kp
   have I2 : Inv X pins σ (upd H h'.objs.size (.tup ys)) { s with heap := h'.push { cls := .type "tuple", data := .seq its.toArray } } :=
    I1.laid (t' := s.toks) (fun b o e => Heap.get?_push_of_some _ e) (Nat.le_refl _) (show ObjOk X.prog X.w _ _ _ (.tup ys) from ⟨hz, its, r', IsTupN.new _ _⟩)
   exact ⟨.ref h'.objs.size, _, I2, rfl, q _ (I1.hok.fresh (Nat.le_refl _))⟩
 · obtain ⟨its, r', pl, hz⟩ := I.tuple hq
   exact call_tuple_same pl ⟨.ref p, H, I, rfl, q⟩

noncomputable def tyV (K : PySem.W.Frag) (T : String) (x : V) (H : Hp) : Prop := match x with
 | .str _ => T = "str"
 | .int _ => T = "int"
 | .ref p => (T = "list" ∧ ∃ xs, SqL K H p xs) ∨ (T = "tuple" ∧ ∃ o, K.lookup p = some o ∧ o.cls = .type "tuple" ∧ o.dict = none) ∨
  (T = "dict" ∧ ((∃ kvs, H p = some (.dK kvs)) ∨ ∃ kvs, H p = some (.dT kvs))) ∨ (T = "set" ∧ ∃ S n, H p = some (.set S n))
 | _ => False
theorem tyV_is {pins : List (Addr × Obj)} {σ : St} {H : Hp} {s : Shared} {T : String} {x : V} {v : Value} (I : Inv X pins σ H s) (r : RelV x v) (ty : tyV X.K T x H) :
 s.TypeIs v T ∧ ∀ a, v = .ref a → ∃ ob, s.heap.get? a = some ob ∧ ob.dict = none := by
 cases x with
 | str z =>
   obtain ⟨t, rfl⟩ := r
   cases (show T = "str" from ty)
   exact ⟨typeIs_str s z t, fun _ e => nomatch e⟩
 | int i =>
   obtain ⟨t, rfl⟩ := r
   cases (show T = "int" from ty)
   exact ⟨typeIs_int s i t, fun _ e => nomatch e⟩
 | ref p =>
   cases r
   rcases ty with ⟨rfl, xs, hq⟩ | ⟨rfl, o, hk, hc, hd⟩ | ⟨rfl, hk⟩ | ⟨rfl, S, n, hk⟩
   · obtain ⟨its, _, pl, _⟩ := I.list hq
     refine ⟨pl.isList.typeIs, fun a e => ?_⟩
     cases e
     obtain ⟨o, n, e, c, hd, _⟩ := pl
     exact ⟨o, e, hd⟩
   · refine ⟨⟨o, I.kIn p o hk, hc⟩, fun a e => ?_⟩
     cases e
     exact ⟨o, I.kIn _ o hk, hd⟩
   · have z : ∃ o, s.heap.get? p = some o ∧ o.ExactDict := by
      rcases hk with ⟨kvs, hk⟩ | ⟨kvs, hk⟩
      · obtain ⟨_, _, _, _, o, _, _, e, ex, _⟩ := I.hok p _ hk
        exact ⟨o, e, ex⟩
      · obtain ⟨_, _, _, _, o, _, _, e, ex, _⟩ := I.hok p _ hk
        exact ⟨o, e, ex⟩
     obtain ⟨o, e, ex⟩ := z
     refine ⟨⟨o, e, ex.1⟩, fun a e2 => ?_⟩
     cases e2
     exact ⟨o, e, ex.2.1⟩
   · obtain ⟨o, _, _, _, e, ex, _⟩ := I.hok p _ hk
     refine ⟨⟨o, e, ex.1⟩, fun a e2 => ?_⟩
     cases e2
     exact ⟨o, e, ex.2.1⟩
 | _ => exact False.elim ty
noncomputable def tBM (K : PySem.W.Frag) (T : String) (r : V → List V → Hp → VK → Prop) (to : TE) (t : TA) : TE := fun σ H Q => to σ H fun x H1 => tyV K T x H1 ∧ t σ H1 fun xs H2 => r x xs H2 Q
variable {o e : Expr} {es : List Expr} {to : TE} {t : TA} {name : Str} {apos cpos : Pos} {T id : String} {r : V → List V → Hp → VK → Prop}
theorem pe_bm (pa : PlainAttrs T) (slot : Slot T name id) (hty : typeOf (.builtin id) = pure (.type "method_descriptor")) (hm : MtR X id r) (ho : PE X o to) (ha : PA X (e :: es) t)
 (hbase : attributeBase o name X.env (eval o X.env) = eval o X.env := by rfl)
 (hfew : ((backTo cpos (starEach (e :: es) X.env)).all (fun x => !x.1) && (backToKw cpos (keywordEach [] X.env)).all (fun x => x.1.isSome)
  && decide ((e :: es).length + ([] : List Keyword).length + (if ([] : List Keyword).isEmpty then 0 else 1) < 30)) = true := by rfl)
 (hline : (apos.endLine == cpos.line) = true := by rfl) (hs : starEach (e :: es) X.env = (false, eval e X.env) :: starEach es X.env := by rfl) (hplain : (backTo cpos (starEach es X.env)).any (·.1) = false := by rfl) :
 PE X (.Call (.Attribute o name apos) (e :: es) [] cpos) (tBM X.K T r to t) := by
 intro pins s σ H Q I h
 refine wpAny_Call_method_late hbase hfew hline rfl (thn (ho pins s σ H _ I h) fun v s1 ⟨x, H1, I1, r1, ty, q1⟩ => ?_)
 obtain ⟨h1, h2⟩ := tyV_is I1 r1 ty
 refine ⟨T, id, pa, slot, hty, h1, h2, ?_⟩
 have hA := ha cpos pins s1 σ H1 _ I1 q1
 rw [hs] at hA ⊢
 refine Calls.callWith_builtin (by show (false || (backTo cpos (starEach es X.env)).any (·.1)) = false; rw [hplain] <;> rfl) (Calls.evalArgs_plain ?_)
 exact thn hA fun us s2 ⟨vs, H2, I2, r2, q2⟩ => hm pins s2 σ H2 x vs v us Q I2 r1 r2 q2
/- xs.append(e), list.index on a module's tuple .. are MtR facts of 06m -/
end
end L2

namespace L2
open PySem PySem.Spec PyProof.Rows

noncomputable def MtM (X : Cx) (id : String) (r : V → List V → Hp → VK → Prop) : Prop :=
 ∀ (pins : List (Addr × Obj)) (s : Shared) (σ : St) (H : Hp) (x : V) (xs : List V) (v : Value) (us : List Value) (Q : VK), Inv X pins σ H s → RelV x v → Vals xs us → r x xs H Q →
   wpAny (model X.prog X.w) X.A (call (.builtin id) (v :: us)) (EP X pins σ Q) X.xe s

theorem Vals.one : ∀ {x : V} {us : List Value}, Vals [x] us → ∃ u, us = [u] ∧ RelV x u
 | _, _, .cons r .nil => ⟨_, rfl, r⟩
theorem Vals.reverse {xs : List V} {us : List Value} (h : Vals xs us) : Vals xs.reverse us.reverse := by
 induction h with
 | nil => exact .nil
 | cons r t ih => rw [List.reverse_cons, List.reverse_cons]; exact Vals.append ih (.cons r .nil)
theorem Vals.rep {xs : List V} {us : List Value} (h : Vals xs us) : ∀ k : Nat, Vals (List.replicate k xs).flatten (List.replicate k us).flatten
 | 0 => .nil
 | k + 1 => by
   rw [List.replicate_succ, List.replicate_succ, List.flatten_cons, List.flatten_cons]
   exact Vals.append h (Vals.rep h k)
theorem foldl_rep (its : List Value) : ∀ (k : Nat) (acc : List Value),
 List.foldl (fun x1 x2 => x1 ++ x2) acc.toArray (List.replicate k its.toArray) = (acc ++ (List.replicate k its).flatten).toArray
 | 0, acc => by simp
 | k + 1, acc => by
   have e : acc.toArray ++ its.toArray = (acc ++ its).toArray := by simp
   have e2 : (acc ++ its) ++ (List.replicate k its).flatten = acc ++ (List.replicate (k + 1) its).flatten := by
    rw [List.replicate_succ, List.flatten_cons, List.append_assoc]
   rw [← e2, ← foldl_rep its k (acc ++ its), ← e, List.replicate_succ, List.foldl_cons]

section
variable {X : Cx} {pins : List (Addr × Obj)} {σ : St} {H : Hp} {s : Shared} {l b : Addr} {xs ys zs : List V}

theorem Inv.lset {its its' : List Value} {n : Nat} {f : Array Value → Array Value} {t' : Nat} (I : Inv X pins σ H s) (hH : H l = some (.lst xs))
 (e : s.heap.get? l = some { cls := .type "list", data := .seq its.toArray n }) (hf : f its.toArray = its'.toArray) (hv : Vals ys its') (hz : ys.length ≤ sizeLine) :
 Inv X pins σ (upd H l (.lst ys)) { s with heap := s.heap.update l (Obj.mapSeq f), toks := t' } := by
 have q := PySem.IsL.update e f
 rw [hf] at q
 refine I.write (x := l) (e := l) (by rw [hH]; exact trivial) (.inl rfl) (fun b' u hb hu => (Heap.get?_update_other s.heap (Obj.mapSeq f) (Ne.symm hb)).trans hu) ⟨_, q⟩ ?_
 exact ⟨hz, its', _, hv, q⟩
theorem Inv.lnew {its : List Value} {t' : Nat} (I : Inv X pins σ H s) (hv : Vals ys its) (hz : ys.length ≤ sizeLine) :
 Inv X pins σ (upd H s.heap.objs.size (.lst ys)) { s with heap := s.heap.push { cls := .type "list", data := .seq its.toArray }, toks := t' } :=
 I.laid (fun _ _ q => Heap.get?_push_of_some _ q) (Nat.le_refl _) ⟨hz, its, 0, hv, Heap.get?_push_size _ rfl⟩
theorem Inv.fresh (I : Inv X pins σ H s) : H s.heap.objs.size = none := I.hok.fresh (Nat.le_refl _)
theorem Inv.lstM (I : Inv X pins σ H s) (hH : H l = some (.lst xs)) : xs.length ≤ sizeLine ∧ ∃ (its : List Value) (n : Nat), Vals xs its ∧ xs.length = its.length ∧ s.heap.get? l = some { cls := .type "list", data := .seq its.toArray n } := by
 obtain ⟨z, its, n, r, e⟩ := I.hok l _ hH
 exact ⟨z, its, n, r, r.length, e⟩

theorem notLongL {n : Nat} (h : n ≤ sizeLine) : Builtin.List.listTooLong n = false := by
 unfold Builtin.List.listTooLong
 exact decide_eq_false (by omega)
end

section
variable {X : Cx}

noncomputable def rAppend : V → List V → Hp → VK → Prop := fun x vs H Q => ∃ l xs y, x = .ref l ∧ vs = [y] ∧ H l = some (.lst xs) ∧ xs.length < sizeLine ∧ Q .non (upd H l (.lst (xs ++ [y])))
theorem mt_append : MtM X "list.append" rAppend := by
 intro pins s σ H x vs v us Q I rx rv h
 obtain ⟨l, xs, y, rfl, rfl, hH, hz, q⟩ := h
 cases rx
 obtain ⟨u, rfl, ru⟩ := rv.one
 obtain ⟨z, its, n, r, hl, e⟩ := I.lstM hH
 refine call_meets F.slot_list_append ⟨_, e, rfl⟩ F.entry_list_append (F.args_list_append_2 _ _) (PySem.list_append l its.toArray n u (by rw [List.size_toArray]; omega)) ⟨e, ?_⟩
 refine ⟨.non, _, I.lset (its' := its ++ [u]) hH e (by simp) (r.append (.cons ru .nil)) ?_, rfl, q⟩
 rw [List.length_append, List.length_singleton]
 omega

noncomputable def rCat : R2 := fun x y H Q => ∃ l b xs zs, x = .ref l ∧ y = .ref b ∧ H l = some (.lst xs) ∧ H b = some (.lst zs) ∧ xs.length + zs.length ≤ sizeLine ∧ ∀ p, H p = none → Q (.ref p) (upd H p (.lst (xs ++ zs)))
theorem op_cat : OpR X (binaryOp .Add) rCat := by
 intro pins s σ H x y v u Q I rx ry h
 obtain ⟨l, b, xs, zs, rfl, rfl, hH, hB, hz, q⟩ := h
 cases rx
 cases ry
 obtain ⟨z, its, n, r, hl, e⟩ := I.lstM hH
 obtain ⟨z2, its2, n2, r2, hl2, e2⟩ := I.lstM hB
 refine PySem.P.add_list e e2 ?_ (by rw [List.size_toArray, List.size_toArray]; omega)
 have ea : its.toArray ++ its2.toArray = (its ++ its2).toArray := by simp
 rw [ea]
 exact ⟨.ref _, _, I.lnew (t' := s.toks) (r.append r2) (by rw [List.length_append]; omega), rfl, q _ I.fresh⟩
noncomputable def rRep : R2 := fun x y H Q => ∃ l k xs, x = .ref l ∧ y = .int k ∧ H l = some (.lst xs) ∧ -(2 ^ 63) ≤ k ∧ k < 2 ^ 63 ∧ xs.length * k.toNat ≤ sizeLine ∧
 ∀ p, H p = none → Q (.ref p) (upd H p (.lst (List.replicate k.toNat xs).flatten))
theorem len_rep {α : Type} (xs : List α) (k : Nat) : (List.replicate k xs).flatten.length = k * xs.length := by
 induction k with
 | zero => simp
 | succ k ih => rw [List.replicate_succ, List.flatten_cons, List.length_append, ih, Nat.succ_mul, Nat.add_comm]
theorem op_rep : OpR X (binaryOp .Mult) rRep := by
 intro pins s σ H x y v u Q I rx ry h
 obtain ⟨l, k, xs, rfl, rfl, hH, h1, h2, hz, q⟩ := h
 cases rx
 obtain ⟨t, rfl⟩ := ry
 obtain ⟨z, its, n, r, hl, e⟩ := I.lstM hH
 have hlen : its.toArray.size * k.toNat ≤ sizeLine := by rw [List.size_toArray, ← hl]; exact hz
 have hcap : ¬ its.toArray.size * k.toNat > (2 ^ 63 - 1) / 8 := by
  have : (sizeLine : Nat) ≤ (2 ^ 63 - 1) / 8 := by decide
  omega
 have hfit : ¬ (!Builtin.List.listFitsIndex k) = true := by
  rw [fitsIndex_both h1 h2]
  exact Bool.false_ne_true
 have hlong : ¬ Builtin.List.listTooLong (its.toArray.size * k.toNat) = true := by
  rw [notLongL hlen]
  exact Bool.false_ne_true
 have hnew : List.foldl (fun x1 x2 => x1 ++ x2) #[] (List.replicate (if its.toArray.isEmpty = true then 0 else k.toNat) its.toArray) = (List.replicate k.toNat its).flatten.toArray := by
  have f0 : ∀ m : Nat, List.foldl (fun x1 x2 => x1 ++ x2) #[] (List.replicate m its.toArray) = (List.replicate m its).flatten.toArray := fun m => by
   have := foldl_rep its m []
   rw [List.nil_append] at this
   exact this
  rw [f0]
  cases its with
  | nil => simp
  | cons a r' => rw [if_neg (by simp)]
 refine wpAny_binaryOp_repeat_ref (T := "list") (U := "int") (by decide) ⟨_, e, rfl⟩ (fun s' => typeIs_int s' k t) noFill_list_mul F.fills_int_mul F.slot_int_rmul repeat_list F.slot_int_index.lookup
  (call_meets F.slot_int_rmul (typeIs_int s k t) F.entry_int_rmul (F.args_int_rmul_2 _ _) (int___rmul___int_list k t l its.toArray n)
   ⟨e, rfl, ⟨_, e, rfl⟩, call_meets F.slot_list_mul ⟨_, e, rfl⟩ F.entry_list_mul (F.args_list_mul_2 _ _) (AutoListH.list___mul___list_int_3 l its.toArray n k t hfit hcap hlong) ⟨e, ?_⟩⟩)
 rw [hnew]
 exact ⟨.ref _, _, I.lnew (t' := s.toks) (r.rep k.toNat) (by rw [len_rep, Nat.mul_comm]; exact hz), rfl, q _ I.fresh⟩

end

section
variable {prog : Program} {w : World} {A : Around} {E : Value → Shared → Prop} {s : Shared}
end

section
variable {X : Cx}
end
end L2

namespace Att
open PySem PySem.W PySem.Calls PyProof.Rows

theorem ints_of_wellAll {P : Params} {h : Heap} : ∀ (ns : List Int) (vs : List Value), WellAll P h vs (ns.map WData.int) → IntsAre vs ns := by
 intro ns
 induction ns with
 | nil =>
   intro vs w
   rw [List.map_nil] at w
   cases w
   exact .nil
 | cons n ns ih =>
   intro vs w
   rw [List.map_cons] at w
   cases w with
   | cons a b =>
     cases a
     exact .cons _ _ (ih _ b)

theorem script_of {l : OpenLaw} {n : Nat} (hn : l.most = some n) {P : Params} {h : Heap} {args : List WData} {vals : List Value}
 (hpre : l.row.toRowW.claim.pre args = true) (hwl : WellAll P h vals args) :
 ∃ a vs ns, vals = [Value.ref a] ∧ args = [WData.list (ns.map WData.int)] ∧ h.get? a = some { cls := .type "list", data := .seq vs.toArray } ∧ IntsAre vs ns ∧ ns.length ≤ n := by
 have hsh : WShape.hasAll [] args [.list .int] = true := (pre_splitW hpre).1
 have hc : l.pre.holds [] { args := args } = true := (pre_splitW hpre).2
 obtain ⟨d, r, rfl, h1, h2⟩ := hasAllW_cons hsh
 obtain rfl := hasAllW_nil h2
 obtain ⟨xs, rfl, h3⟩ := hasW_list h1
 obtain ⟨ns, rfl⟩ := items_int h3
 have hlen : ns.length ≤ n := by
  unfold OpenLaw.pre at hc
  have h4 : (WTm.not (.lt (.lit (.int (n : Int))) (.len (.arg 0)))).holds [] { args := [.list (ns.map .int)] } = true := by
   have h4 := (holds_andW hc).1
   rw [hn] at h4
   exact h4
  have h5 := condW_of h4 (w_not (w_lt w_lit (w_len_list (w_arg rfl))))
  rw [List.length_map] at h5
  refine Nat.le_of_not_lt fun q => ?_
  have q' : (n : Int) < ((ns.length : Nat) : Int) := by omega
  first
   | (rw [decide_eq_true q'] at h5; exact absurd h5 (by decide))
   | (simp at h5; omega)
 cases hwl with
 | cons w1 w2 =>
   cases w2
   cases w1 with
   | list ho hall => exact ⟨_, _, ns, rfl, rfl, ho, ints_of_wellAll ns _ hall, hlen⟩

theorem post_true (l : OpenLaw) (args : List WData) : l.row.toRowW.claim.post args (.bool true) args = true :=
 postW_of (r := l.row.toRowW) (X := (true == true))
  (show WShape.has [] (.bool true) .bool = true by first | rfl | decide | simp [WShape.has, WShape.arms, WShape.armsAll])
  (show (WTm.eq .res (.lit (.bool true))).value [] { args := args, res := some (.bool true), after := args } = some (.bool (true == true)) from w_eq_bool (w_res rfl) w_lit) rfl

theorem attach_call {l : OpenLaw} {n : Nat} {q : Program} {loose : List Str} {XP : (Str → Option Value) → Heap → Prop} {YP : World → Heap → Prop} {d : DefRec}
 (hn : l.most = some n) (hdf : d.params.defaults = [])
 (call : ∀ (w : World) (s₀ s₁ : Shared) (mg mb : Str → Option Value) (fa : Addr) (o : Obj) (pm cd doc : Value) (a : Addr) (vs : List Value) (ns : List Int),
  Ground q loose [] XP w s₀ mg mb s₁.heap → YP w s₁.heap →
  s₁.heap.get? fa = some o → o.data = .func (docDef d.name d.params d.body d.scope pm cd doc) → s₁.heap.CodeRec cd d.name → mg d.name = some (.ref fa) →
  s₁.heap.get? a = some { cls := .type "list", data := .seq vs.toArray } → IntsAre vs ns → ns.length ≤ n → s₁.gens = #[] →
  codeAny (model l.prog w) callerA (.call (.ref fa) ⟨[.ref a], []⟩) (fun r s' => r = .ok (.ret (.bool true)) ∧ OldK s₁.heap s'.heap ∧ s'.os = s₁.os ∧ AllBare s'.gens) s₁) :
 WalkO q loose XP YP l.row.toRowW d [] (fun f vs => PySem.call f vs) := by
 intro w s₀ s₁ mg mb G Y fa o pm cd doc dV kV ho hd hcd hD hmg hg args vals as hpre hlay hrd hwl hlo
 obtain rfl : dV = .none := Dflts.none hD hdf
 obtain rfl : kV = .none := Dflts.noKw hD
 obtain ⟨a, vs, ns, rfl, rfl, hobj, hints, hlen⟩ := script_of hn hpre hwl
 refine enter_call (codeAny_mono (call w s₀ s₁ mg mb fa o pm cd doc a vs ns G Y ho (fd_plain hd) hcd hmg hobj hints hlen hg) fun r s' hq => ?_)
 obtain ⟨rfl, h2, h3, h4⟩ := hq
 exact ⟨.inl ⟨.bool true, .bool true, [], rfl, fun _ => rfl, .bool true, post_true l _, fun _ => ⟨List.Pairwise.nil, fun _ hm => (nomatch hm)⟩⟩, h2, h3, h4⟩

section
variable {prog : Program} {w : World} {A : Around} {E : Value → Shared → Prop} {s : Shared} {K : Frag}

end
end Att

namespace L2
open PySem PySem.Spec PyProof.Rows

theorem vals_ints : ∀ {vs : List Value} {ns : List Int}, IntsAre vs ns → Vals (ns.map V.int) vs
 | _, _, .nil => .nil
 | _, _, .cons n t h => .cons ⟨t, rfl⟩ (vals_ints h)

noncomputable def Only (H : Hp) : Prop := ∀ b, H b = none ∨ ∃ o xs, H b = some (.frz o (.lst xs))

theorem law_call {P : Program} {w : World} {K : PySem.W.Frag} {mg mb : Str → Option Value} {CX : CXT} {k : Nat} {fa a : Addr} {fd : FuncData} {x : Str} {sp : Sp} {s₁ : Shared} {vs : List Value} {ns : List Int}
 (KX : K.In s₁.heap) (hns : s₁.heap.Ns mainGlobals mg) (hb : s₁.heap.Ns builtinsNs mb) (hbb : ∀ x : Str, x ≠ "__name__" → mb x = bootBuiltins x) (hlim : s₁.heap.NoLimit) (hg : s₁.gens = #[])
 (ha : s₁.heap.get? a = some { cls := .type "list", data := .seq vs.toArray }) (hi : IntsAre vs ns) (hl : ns.length ≤ sizeLine) (hr : Room k callerA)
 (F : ∀ base : Heap, K.In base → base.Ns mainGlobals mg → FnOk P w K mg base CX k fa fd [x] sp) (hbind : ∀ (s : Shared) (u : Value), BindsTo s fd ⟨[u], []⟩ [(x, u)])
 (hsp : ∀ H : Hp, Only H → SqL K H a (ns.map V.int) → sp [.ref a] H (fun v _ => v = .bl true) fun _ _ _ => False)
 (hCX : ∀ H e s', CX [] H s₁ (fun _ _ _ => False) e s' → False) :
 codeAny (model P w) callerA (.call (.ref fa) ⟨[.ref a], []⟩) (fun r s' => r = .ok (.ret (.bool true)) ∧ OldK s₁.heap s'.heap ∧ s'.os = s₁.os ∧ AllBare s'.gens) s₁ := by
 have rv := vals_ints hi
 have lenV := hi.length
 -- from an abstract heap in which nothing but the script may be tracked
 have core : ∀ H : Hp, Only H → SqL K H a (ns.map V.int) → HOk P w H s₁.heap → (∀ b, H b ≠ none → b = a) → (H a ≠ none → K.lookup a = none) →
  codeAny (model P w) callerA (.call (.ref fa) ⟨[.ref a], []⟩) (fun r s' => r = .ok (.ret (.bool true)) ∧ OldK s₁.heap s'.heap ∧ s'.os = s₁.os ∧ AllBare s'.gens) s₁ := by
  intro H hO hS hok hA hK
  have base_of : ∀ {b : Addr} {o : Obj}, s₁.heap.get? b = some o → H b = none → (hidT s₁.heap H).get? b = some o := fun e n => hidT_get e n
  have noA : ∀ {b : Addr} {o : Obj} {es : Array DictEntry} {ep : Nat}, s₁.heap.get? b = some o → o.data = .dict es ep → H b = none := fun {b o es ep} e d => by
   cases q : H b with
   | none => rfl
   | some u =>
     have e' : b = a := hA b (by rw [q]; simp)
     subst e'
     rw [ha] at e; cases e
     have d' : Data.seq vs.toArray _ = Data.dict es ep := d
     cases d'
  have nsK : ∀ {b : Addr} {m : Str → Option Value}, s₁.heap.Ns b m → (hidT s₁.heap H).Ns b m := fun {b m} ⟨o, es, ep, e, d, r⟩ => ⟨o, es, ep, base_of e (noA e d), d, r⟩
  have hKb : K.In (hidT s₁.heap H) := fun b o e => base_of (KX b o e) (by
   cases q : H b with
   | none => rfl
   | some u =>
     have e' : b = a := hA b (by rw [q]; simp)
     subst e'
     rw [hK (by rw [q]; simp)] at e; cases e)
  have hM : Mod K mg (hidT s₁.heap H) := ⟨hKb, nsK hns, ⟨mb, nsK hb, hbb⟩, let ⟨mc, h1, h2⟩ := hlim; ⟨mc, nsK h1, h2⟩⟩
  have e0 : Env0 P w K mg (hidT s₁.heap H) callerA [] s₁ H := ⟨rfl, hM, fun b o e => of_hidT e, Nat.le_of_eq (hidT_size _ _), trivial, fun b hb => absurd (show b ∈ ([] : List Addr) from hb) (by simp), hok, .of_eq hg⟩
  refine codeAny_mono ((F _ hKb (nsK hns)).run callerA [] s₁ H ⟨[.ref a], []⟩ [.ref a] [.ref a] _ _ hr e0 (hbind s₁ (.ref a)) (.cons rfl .nil) (hsp H hO hS)) fun r s' h => ?_
  cases r with
  | error e => exact (hCX H e s' h).elim
  | ok fl =>
    cases fl with
    | next => exact False.elim h
    | brk => exact False.elim h
    | cont => exact False.elim h
    | ret u =>
      obtain ⟨v, H', os, bare, un, hok', r', q⟩ := h
      have q' : v = .bl true := q
      subst q'
      obtain rfl : u = Value.bool true := r'
      refine ⟨rfl, OldK.of_keep fun b o e => ?_, os, bare⟩
      cases q : H b with
      | none => exact un.keep b o e q (by intro z; exact absurd (show b ∈ ([] : List Addr) from z) (by simp)) (by simp)
      | some u =>
        rcases hO b with z | ⟨ob, xs, z⟩
        · rw [q] at z; cases z
        · have z2 := un.frzs b ob _ z
          obtain ⟨e1, _⟩ := hok b _ z
          obtain ⟨e2, _⟩ := hok' b _ z2
          rw [e] at e1; cases e1
          exact e2
 cases hk : K.lookup a with
 | some o =>
   -- the script is one of the module's own objects
   have e := KX a o hk
   rw [ha] at e
   cases e
   refine core (fun _ => none) (fun _ => .inl rfl) (.inr ⟨_, vs.toArray, _, hk, rfl, rfl, rfl, by rw [List.size_toArray, lenV]; exact hl, by simpa using rv⟩) (fun b u z => by have z' : (none : Option HO) = some u := z; cases z') (fun b z => absurd rfl z) fun z => absurd rfl z
 | none =>
   refine core (fun b => if b = a then some (.frz { cls := .type "list", data := .seq vs.toArray } (.lst (ns.map V.int))) else none) (fun b => ?_) (.inl (.inr ⟨{ cls := .type "list", data := .seq vs.toArray }, if_pos rfl⟩)) (fun b u z => ?_) (fun b z => ?_) fun _ => hk
   · by_cases hb : b = a
     · exact .inr ⟨_, _, if_pos hb⟩
     · exact .inl (if_neg hb)
   · by_cases hb : b = a
     · have z' := (if_pos hb).symm.trans z
       cases z'
       subst hb
       exact ⟨ha, by rw [List.length_map]; exact hl, vs, _, rv, ha⟩
     · have z' := (if_neg hb).symm.trans z
       cases z'
   · by_cases hb : b = a
     · exact hb
     · exact absurd (if_neg hb) z
end L2

namespace L2
open PySem PySem.Spec PyProof.Rows

theorem walk_of {l : PySem.W.OpenLaw} {n k : Nat} {q : Program} {loose : List Str} {XP : (Str → Option Value) → Heap → Prop} {YP : World → Heap → Prop} {d : DefRec} {K : Params → PySem.W.Frag} {CX : World → CXT} {sp : World → Sp} {x : Str}
 (hn : l.most = some n) (hn2 : n ≤ sizeLine) (hdf : d.params.defaults = []) (hr : Room k callerA)
 (hY : ∀ (w : World) (h : Heap), YP w h → (K w.params).In h)
 (F : ∀ (w : World) (mg : Str → Option Value) (fa : Addr) (h : Heap), (K w.params).In h → h.Ns mainGlobals mg → mg d.name = some (.ref fa) →
  ∃ fd : FuncData, (∀ (s : Shared) (u : Value), BindsTo s fd ⟨[u], []⟩ [(x, u)]) ∧
    ∀ base : Heap, (K w.params).In base → base.Ns mainGlobals mg → FnOk l.prog w (K w.params) mg base (CX w) k fa fd [x] (sp w))
 (hsp : ∀ (w : World) (H : Hp) (a : Addr) (ns : List Int), ns.length ≤ n → Only H → SqL (K w.params) H a (ns.map V.int) → sp w [.ref a] H (fun v _ => v = .bl true) fun _ _ _ => False)
 (hCX : ∀ (w : World) (H : Hp) (s : Shared) (e : Value) (s' : Shared), CX w [] H s (fun _ _ _ => False) e s' → False) :
 PySem.W.WalkO q loose XP YP l.row.toRowW d [] (fun f vs => PySem.call f vs) := by
 refine Att.attach_call hn hdf fun w s₀ s₁ mg mb fa o pm cd doc a vs ns G Y ho hd hcd hmg hobj hints hlen hg => ?_
 have KX := hY w _ Y
 obtain ⟨fd, hb, hF⟩ := F w mg fa _ KX G.T.g hmg
 exact law_call KX G.T.g G.T.b G.T.builtins G.T.nolimit hg hobj hints (Nat.le_trans hlen hn2) hr hF hb (fun H hO hS => hsp w H a ns hlen hO hS) fun H e s' => hCX w H s₁ e s'
end L2

namespace L2
open PySem PySem.Spec PyProof.Rows

noncomputable def defArgs (s : Stmt) : Arguments := match s with
 | .FunctionDef _ a _ _ _ _ _ _ _ _ => a
 | _ => { posonlyargs := [], args := [], vararg := none, kwonlyargs := [], kw_defaults := [], kwarg := none, defaults := [] }
noncomputable def defBody (s : Stmt) : List Stmt := match s with
 | .FunctionDef _ _ b _ _ _ _ _ _ _ => b
 | _ => []
noncomputable def defScope (s : Stmt) : Scope := match s with
 | .FunctionDef _ _ _ _ _ _ sc _ _ _ => sc
 | _ => { kind := .function, names := [], isGenerator := false, isCoroutine := false }

noncomputable abbrev CX0 : CXT := fun _ _ _ _ _ _ => False
noncomputable abbrev E0 : XK := fun _ _ _ => False
theorem pass0 {X : Cx} : Passes CX0 X E0 := fun _ _ _ _ _ _ _ h => h.elim

structure Fun (K : PySem.W.Frag) (x qual : Str) (st : Stmt) (f : Addr) (fd : FuncData) : Prop where
 ex : ∃ (oc : Value) (od : Option Addr) (kV doc pm : Value) (an : Option Addr) (cdv ct : Value) (osl : Array (Option Value)),
  fd = PySem.W.fnOf x qual (defArgs st) (defBody st) (defScope st) .none kV doc pm an cdv ct ∧ K.lookup f = some ⟨oc, od, .func fd, osl⟩ ∧ PySem.W.codeIn K cdv qual = true
 kp : PySem.W.keepIn K (.ref f) = true
section
variable {P : Program} {w : World} {K : PySem.W.Frag} {mg : Str → Option Value} {base : Heap}
theorem Fun.ok {x qual : Str} {st : Stmt} {f : Addr} {fd : FuncData} {N ps : List Str} {k : Nat} {sp : Sp} (F : Fun K x qual st f fd) (S : FnScope N ps (defScope st)) (len : ∀ vs H Q E, sp vs H Q E → vs.length = ps.length)
 (hbody : ∀ (cdv : Value) (A : Around) (outer : List Env) (s : Shared) (H : Hp) (vs : List V) (Q : VK) (E : XK), Room k (A.deeper (envOfC qual (defScope st) s.heap.objs.size f cdv)) → sp vs H Q E →
  ∃ t, PSs (cxOf CX0 P w K mg base N qual (defScope st) f cdv A outer s H E).nox (defBody st) t ∧ t { nx := fun _ H' => Q .non H', rt := Q } (start N vs) H) : FnOk P w K mg base CX0 (k + 1) f fd ps sp := by
 obtain ⟨oc, od, kV, doc, pm, an, cdv, ct, osl, rfl, lk, hcd⟩ := F.ex
 refine fn_of lk hcd S len fun A outer s H vs Q E hr hsp => ?_
 obtain ⟨t, h, q⟩ := hbody cdv A outer s H vs Q E hr hsp
 exact ⟨t, h.nox, q⟩
theorem Fun.binds {x qual : Str} {st : Stmt} {f : Addr} {fd : FuncData} {ps : List Str} (F : Fun K x qual st f fd)
 (h : ∀ (kV doc pm : Value) (an : Option Addr) (cdv ct : Value) (us : List Value), us.length = ps.length → bindArgs (PySem.W.fnOf x qual (defArgs st) (defBody st) (defScope st) .none kV doc pm an cdv ct) ⟨us, []⟩ = pure (ps.zip us)) : Binds K fd ps [] := by
 obtain ⟨oc, od, kV, doc, pm, an, cdv, ct, osl, rfl, lk, hcd⟩ := F.ex
 exact .all (h kV doc pm an cdv ct)
theorem fun_mk {x qual : Str} {st : Stmt} {f : Addr} {oc : Value} {od an : Option Addr} {osl : Array (Option Value)} {kV doc pm cdv ct : Value} (l : K.lookup f = some ⟨oc, od, .func (PySem.W.fnOf x qual (defArgs st) (defBody st) (defScope st) .none kV doc pm an cdv ct), osl⟩)
 (c : PySem.W.codeIn K cdv qual = true) (k : PySem.W.keepIn K (.ref f) = true) : Fun K x qual st f (PySem.W.fnOf x qual (defArgs st) (defBody st) (defScope st) .none kV doc pm an cdv ct) := ⟨⟨oc, od, kV, doc, pm, an, cdv, ct, osl, rfl, l, c⟩, k⟩
end
theorem small1000 {n : Nat} (h : n ≤ 1000) : n < sizeLine := Nat.lt_of_le_of_lt h (by decide)

section
variable {X : Cx}
theorem pv (i : Nat) {x : Str} {pos : Pos} (hN : X.N[i]? = some x := by rfl) (hv : Vis X.env.scope x := by first | exact Or.inl rfl | exact Or.inr (Or.inl rfl) | exact Or.inr (Or.inr rfl)) (hd : (x == ("__debug__" : Str)) = false := by decide)
 (hcd : (x == ("__classdict__" : Str)) = false := by decide) : PE X (.Name x pos) (tVar i) := pe_var hN hv hd hcd
end

theorem iteF {A B : Prop} (h : B) : if false = true then A else B := by
 rw [if_neg Bool.false_ne_true]
 exact h
theorem iteT {A B : Prop} (h : A) : if true = true then A else B := by
 rw [if_pos rfl]
 exact h
noncomputable def Same (H H' : Hp) : Prop := ∀ b o, H b = some o → H' b = some o
theorem Same.refl (H : Hp) : Same H H := fun _ _ h => h
theorem Same.trans {H H1 H2 : Hp} (a : Same H H1) (b : Same H1 H2) : Same H H2 := fun c o h => b c o (a c o h)
theorem Same.free {H H' : Hp} (e : Same H H') {l : Addr} (h : H' l = Option.none) : H l = Option.none := by
 cases q : H l with
 | none => rfl
 | some o =>
   rw [e l o q] at h
   cases h
theorem Same.seq {K : PySem.W.Frag} {H H' : Hp} {a : Addr} {xs : List V} (e : Same H H') (h : SqL K H a xs) : SqL K H' a xs := by
 rcases h with (h | ⟨o, h⟩) | h
 · exact .inl (.inl (e _ _ h))
 · exact .inl (.inr ⟨o, e _ _ h⟩)
 · exact .inr h

end L2

namespace L2
open PySem PySem.Spec PyProof.Rows

section
variable {prog : Program} {w : World} {A : Around} {R : Result → Shared → Prop} {s : Shared}
theorem compLoop_any {elt target iter : Expr} {ifs : List Expr} {scope : Scope} {pos : Pos} {it acc : Value} {env : Env} (I : Nat → Shared → Prop)
 (turn : ∀ n s, I n s → wpAny (model prog w) A (pyNext it) (fun r s₁ => match r with
  | none => R (.ok .next) s₁
  | some v => wpAny (model prog w) A (letOwnedTupleGo target it v) (fun _ s₁' => wpAny (model prog w) A (assign target env v) (fun _ s₂ =>
   wpAny (model prog w) A (forIn ifs true fun c r => if r = true then do let ok ← isTrue c env (eval c env); pure (ForInStep.yield ok) else pure (ForInStep.yield r)) (fun ok s₃ =>
    if ok = true then wpAny (model prog w) A (eval elt env) (fun x s₄ =>
     wpAny (model prog w) A (call (.builtin "list.append") [acc, x]) (fun _ s₅ => ∃ m, m < n ∧ I m s₅) (fun _ _ => False) s₄) (fun _ _ => False) s₃
    else ∃ m, m < n ∧ I m s₃) (fun _ _ => False) s₂) (fun _ _ => False) s₁') (fun _ _ => False) s₁) (fun _ _ => False) s)
 (n : Nat) (h : I n s) :
 codeAny (model prog w) A (.compLoop (.ListComp elt [⟨target, iter, ifs, 0⟩] scope pos) 0 it acc env) R s := by
 refine codeAny_loop rfl I (fun n s hI => ?_) n h
 show wpAny _ A ((compTurn (.ListComp elt [⟨target, iter, ifs, 0⟩] scope pos) 0 it acc env).onRaise (fun x => do noteFrame x env; theTreesLotGoes x)) _ _ s
 refine wpAny_noted ?_
 rw [compTurn_list]
 have el : ∀ {E' : Value → Shared → Prop} (x : Value) (s' : Shared), False → E' x s' := fun _ _ f => f.elim
 refine wpAny_bind (wpAny_standAt (wpAny_bind (wpAny_mono (turn n s hI) (fun r s₁ h₁ => ?_) fun _ _ f => f.elim)))
 cases r with
 | none => exact wpAny_pure h₁
 | some v =>
   refine wpAny_bind (wpAny_mono h₁ (fun _ s₁' h₁' => ?_) fun _ _ f => f.elim)
   refine wpAny_bind (wpAny_mono h₁' (fun _ s₂ h₂ => wpAny_bind (wpAny_mono h₂ (fun ok s₃ h₃ => ?_) fun _ _ f => f.elim)) fun _ _ f => f.elim)
   cases ok with
   | false => exact wpAny_pure ⟨rfl, h₃⟩
   | true =>
     exact wpAny_bind (wpAny_bind (wpAny_mono h₃ (fun x s₄ h₄ => wpAny_bind (wpAny_mono h₄ (fun _ s₅ h₅ => wpAny_pure (wpAny_pure ⟨rfl, h₅⟩)) fun _ _ f => f.elim)) fun _ _ f => f.elim))
end

noncomputable def compX (X : Cx) (N' : List Str) (scope : Scope) (cl : List (Str × Addr)) (C : Addr) (s : Shared) (H : Hp) (fp : List Addr) : Cx where
 prog := X.prog
 w := X.w
 K := X.K
 mg := X.mg
 base := X.base
 A := X.A
 N := N'
 s₀ := s
 H₀ := H
 env := compEnvC scope cl C X.env
 outer := X.stack
 stack := X.stack
 ex := fp
 fn := fun _ => false
 calm := X.calm
 pn := []
 xe := fun _ _ => False

noncomputable def PTs (X : Cx) (ifs : List Expr) (t : TT) : Prop :=
 ∀ (pins : List (Addr × Obj)) (s : Shared) (σ : St) (H : Hp) (Q : Bool → Hp → Prop), Inv X pins σ H s → t σ H Q →
   wpAny (model X.prog X.w) X.A (forIn ifs true fun c r => if r = true then do let ok ← isTrue c X.env (eval c X.env); pure (ForInStep.yield ok) else pure (ForInStep.yield r)) (TP X pins σ Q) X.xe s
theorem pts_nil {X : Cx} : PTs X [] (fun _ H Q => Q true H) := fun _ _ _ H _ I h => wpAny_pure ⟨H, I, h⟩
theorem pts_one {X : Cx} {c : Expr} {t : TT} (h : PT X c t) : PTs X [c] t := fun pins s σ H Q I hw => by
 simp only [List.forIn_cons, List.forIn_nil, if_true]
 exact wpAny_bind (wpAny_bind (wpAny_mono (h pins s σ H Q I hw) (fun b s' hb => wpAny_pure (wpAny_pure hb)) fun _ _ x => x))

noncomputable def Cap (X : Cx) (sc : Scope) : List Str → List (Option Nat) → Prop
 | [], [] => True
 | _ :: N, none :: ks => Cap X sc N ks
 | x :: N, some k :: ks => (X.N[k]? = some x ∧ X.env.scope.names.lookup x = some .cell ∧ (sc.names.lookup x = some .cell ∨ sc.names.lookup x = some .free)) ∧ Cap X sc N ks
 | _, _ => False
theorem Cap.len {X : Cx} {sc : Scope} : ∀ {N : List Str} {ks : List (Option Nat)}, Cap X sc N ks → ks.length = N.length
 | [], [], _ => rfl
 | _ :: N, none :: ks, h => by simp [Cap.len (show Cap X sc N ks from h)]
 | _ :: N, some _ :: ks, h => by simp [Cap.len (show Cap X sc N ks from h.2)]
 | [], _ :: _, h => by cases h
 | _ :: _, [], h => by cases h
theorem Cap.get {X : Cx} {sc : Scope} : ∀ {N : List Str} {ks : List (Option Nat)} {i k : Nat} {x : Str}, Cap X sc N ks → N[i]? = some x → ks[i]? = some (some k) →
 X.N[k]? = some x ∧ X.env.scope.names.lookup x = some .cell ∧ (sc.names.lookup x = some .cell ∨ sc.names.lookup x = some .free)
 | [], [], _, _, _, _, e, _ => by simp at e
 | [], _ :: _, _, _, _, h, _, _ => by cases h
 | _ :: _, [], _, _, _, h, _, _ => by cases h
 | _ :: N, none :: ks, 0, k, x, h, e1, e2 => by simp at e2
 | _ :: N, none :: ks, i + 1, k, x, h, e1, e2 => Cap.get (i := i) (show Cap X sc N ks from h) (by simpa using e1) (by simpa using e2)
 | y :: N, some j :: ks, 0, k, x, h, e1, e2 => by
   simp at e1 e2
   subst e1 e2
   exact h.1
 | _ :: N, some _ :: ks, i + 1, k, x, h, e1, e2 => Cap.get (i := i) (show Cap X sc N ks from h.2) (by simpa using e1) (by simpa using e2)
noncomputable def capt (ks : List (Option Nat)) (σ : St) : St := ks.map fun o => match o with
 | none => none
 | some k => σ.getD k none

noncomputable def CompW (J : It) (D : Addr) (g : TG) (tt : TT) (te : TE) (Q : VK) (σ0 : St) (H0 : Hp) : Prop :=
 ∃ W : Nat → Nat → List V → St → Hp → Prop, (∃ m, W 0 m [] σ0 H0) ∧ ∀ i m ys σ' H', W i m ys σ' H' → H' D = some (.lst ys) ∧
   ((J.stop i H' ∧ Q (.ref D) H') ∨ (J.go i H' ∧ ∀ x H2, J.yld i H' x H2 → g x σ' H2 fun σ3 H3 => tt σ3 H3 fun b H4 => if b = true then
     te σ3 H4 fun y H5 => H5 D = some (.lst ys) ∧ ys.length < sizeLine ∧ ∃ m', m' < m ∧ W (i + 1) m' (ys ++ [y]) σ3 (upd H5 D (.lst (ys ++ [y]))) else ∃ m', m' < m ∧ W (i + 1) m' ys σ3 H4))
noncomputable def tComp (wi : TI) (ks : List (Option Nat)) (g : TG) (tt : TT) (te : TE) : TE := fun σ H Q => wi σ H fun J H1 => ∀ D, H1 D = none → CompW J D g tt te Q (capt ks σ) (upd H1 D (.lst []))

section
variable {X : Cx}
theorem pe_comp {tg iter elt : Expr} {ifs : List Expr} {scope : Scope} {pos : Pos} {N' : List Str} {ks : List (Option Nat)} {cl : List (Str × Addr)} {wi : TI} {g : TG} {tt : TT} {te : TE}
 (hcalm : X.calm = true) (hi : PI X tg iter wi) (hclos : closureFor scope X.env = pure cl) (hcl : ∀ x c, cl.lookup x = some c → X.env.cells.lookup x = some c)
 (hcell : ∀ y ∈ scope.names, y.2 ≠ .cell) (hkind : scope.kind = .function) (hnames : ∀ y ∈ scope.names, y.2 = .local → scope.names.lookup y.1 = some .local)
 (hhas : ∀ x, ((relabel scope X.env).names.lookup x = some .cell ∨ (relabel scope X.env).names.lookup x = some .free) → ∃ c, cl.lookup x = some c)
 (hcap : Cap X (relabel scope X.env) N' ks)
 (hg : ∀ C s H fp, PG (compX X N' scope cl C s H fp) tg g) (ht : ∀ C s H fp, PTs (compX X N' scope cl C s H fp) ifs tt) (he : ∀ C s H fp, PE (compX X N' scope cl C s H fp) elt te)
 (hs : ∀ x, foldedSetIterable iter X.env x = pure x := by intro _; rfl) : PE X (.ListComp elt [⟨tg, iter, ifs, 0⟩] scope pos) (tComp wi ks g tt te) := by
 intro pins s σ H Q I h
 rw [eval_ListComp]
 refine wpAny_comprehension_free (use := none) rfl hs hclos hkind hnames (thn (hi pins s σ H _ I h) fun v s1 h1 => thn h1 fun itv s2 h2 => ?_)
 obtain ⟨it, fp, tn, J, H2, e, I2, T, st2, f2, R⟩ := h2
 subst e
 refine wpAny_newObj_type (wpAny_newFunctionEnv hcell (by intro y hy; simp at hy) (fun h₁ hns₁ hsb₁ => ?_) hkind)
 dsimp only at hns₁ hsb₁ ⊢
 have hD : H2 s2.heap.objs.size = none := I2.hok.fresh (Nat.le_refl _)
 obtain ⟨W, ⟨m0, w0⟩, turn⟩ := R _ hD
 generalize hs3 : ({ s2 with heap := s2.heap.push { cls := .type "list", dict := none, data := .seq ([] : List Value).toArray } } : Shared) = s3
 have e3 : s3.heap = s2.heap.push { cls := .type "list", dict := none, data := .seq ([] : List Value).toArray } := by rw [← hs3]
 have I3 : Inv X pins σ (upd H2 s2.heap.objs.size (.lst [])) s3 := by
  rw [← hs3]
  exact I2.laid (t' := s2.toks) (fun b o e => Heap.get?_push_of_some _ e) (Nat.le_refl _) ⟨Nat.zero_le _, [], 0, .nil, Heap.get?_push_size _ rfl⟩
 generalize hD0 : s2.heap.objs.size = D at *
 generalize hH3 : upd H2 D (.lst []) = H3 at *
 rw [← e3] at hns₁ hsb₁ ⊢
 -- what newFunctionEnv keeps
 have kp : ∀ b o, s3.heap.get? b = some o → h₁.get? b = some o := fun b o e => hsb₁.extBut b o (Nat.ne_of_lt (Heap.lt_size e)) (Heap.get?_push_of_some _ e)
 have f3 : ∀ b ∈ fp, FpOk X pins H3 b ∧ b < s3.heap.objs.size := fun b hb => by
  obtain ⟨o, ho, _⟩ := T.obj 0 _ st2 b hb
  have hlt : b < D := by rw [← hD0]; exact Heap.lt_size ho
  refine ⟨⟨?_, (f2 b hb).2⟩, ?_⟩
  · rw [← hH3, upd_ne (Nat.ne_of_lt hlt)]; exact (f2 b hb).1
  · rw [e3, Heap.size_push, hD0]; exact Nat.lt_succ_of_lt hlt
 have st3 : tn 0 h₁ := T.keep 0 s2.heap h₁ st2 fun b hb o e => kp b o (by rw [e3]; exact Heap.get?_push_of_some _ e)
 have capK : ∀ x c, cl.lookup x = some c → X.env.cells.lookup x = some c := hcl
 have stkne : ∀ b ∈ fp, b ∉ frs X.stack := fun b hb z => by
  rcases List.mem_cons.mp (I3.stkSub b z) with e | e
  · exact (f3 b hb).1.2.1 e
  · exact (f3 b hb).1.2.2.1 e
 have Cfresh : H3 s3.heap.objs.size = none := I3.hok.fresh (Nat.le_refl _)
 have ok' : (compX X N' scope cl s3.heap.objs.size s3 H3 fp).Ok := by
  refine ⟨I3.ok.mod, hkind, I3.ok.glob, I3.ok.blt, Nat.le_refl _, fun x y c h1 h2 => I3.ok.inj x y c (capK x c h1) (capK y c h2), fun x hx => hhas x hx, fun x c hf _ => absurd (show false = true from hf) Bool.false_ne_true, fun z => I3.ok.hd z, I3.ok.frames, .inl rfl,
   fun b hb => ⟨Nat.ne_of_lt (f3 b hb).2, fun x c e => (f3 b hb).1.2.2.2.2.1 x c (capK x c e)⟩, I3.bs, Nat.le_trans I3.ok.bsz I3.sz, fun b o e hb => ?_, fun b hb => stkne b hb, I3.stack, I3.stkFree⟩
  rcases (f3 b hb).1.2.2.2.1 with z | z
  · exact I3.ok.noex b o e z
  · exact absurd (Nat.lt_of_lt_of_le (Heap.lt_size e) (Nat.le_trans I3.ok.bsz z)) (Nat.lt_irrefl _)
 have I4 : Inv (compX X N' scope cl s3.heap.objs.size s3 H3 fp) [] (capt ks σ) H3 { s3 with heap := h₁, toks := s3.toks + ([] : List (Str × Value)).length } := by
  refine ⟨ok', rfl, I3.bare, Un.kept kp, ⟨_, hns₁, fun i x v e1 e2 e3' => ?_⟩, fun x c e => ?_, Cfresh, fun x c e => I3.freeC x c (capK x c e), fun p hp => absurd (show p ∈ ([] : List (Addr × Obj)) from hp) (by simp), I3.hok.kept kp, ?_⟩
  · have e2' : (capt ks σ)[i]? = some (some v) := e2
    unfold capt at e2'
    rw [List.getElem?_map] at e2'
    cases hk : ks[i]? with
    | none => rw [hk] at e2'; cases e2'
    | some o =>
      rw [hk] at e2'
      cases o with
      | none => cases e2'
      | some k =>
        have ev : σ.getD k none = some v := Option.some.inj e2'
        obtain ⟨c1, c2, c3⟩ := hcap.get e1 hk
        obtain ⟨m, hn, hl⟩ := I3.loc
        have es : σ[k]? = some (some v) := by
         rw [List.getD_eq_getElem?_getD] at ev
         cases q : σ[k]? with
         | none => rw [q] at ev; cases ev
         | some z => rw [q] at ev; exact congrArg some ev
        obtain ⟨u, r, l⟩ := hl k x v c1 es (.inr (.inl c2))
        refine ⟨u, r, .inr ⟨c3, ?_⟩⟩
        rcases l with ⟨l1, _⟩ | ⟨_, c, l2, l3⟩
        · have l1' : X.env.scope.names.lookup x = some .local := l1
          rw [c2] at l1'; cases l1'
        · obtain ⟨c', hc'⟩ := hhas x c3
          have : X.env.cells.lookup x = some c' := capK x c' hc'
          rw [l2] at this
          cases this
          refine ⟨c, hc', ?_⟩
          obtain ⟨o, ho, hd⟩ := l3
          exact ⟨o, kp c o ho, hd⟩
  · obtain ⟨v, o, ho, hd⟩ := I3.cell x c (capK x c e)
    exact ⟨v, o, kp c o ho, hd⟩
  · show (capt ks σ).length = N'.length
    unfold capt
    rw [List.length_map, hcap.len]
 -- behind the block
 have Cne : ∀ p ∈ X.pn ++ pins, p.1 ≠ s3.heap.objs.size := fun p hp => Nat.ne_of_lt (Heap.lt_size (I3.pin p hp).1)
 have back : ∀ {σ' : St} {H' : Hp} {s' : Shared}, Inv (compX X N' scope cl s3.heap.objs.size s3 H3 fp) [] σ' H' s' → ∀ h'' : Heap, Heap.SameBut s3.heap.objs.size s'.heap h'' → Inv X pins σ H' { s' with heap := h'' } := fun {σ' H' s'} I' h'' sb => by
  have J1 : Inv X pins σ H' s' := I3.call' (ch := fp) I'.os I'.base I'.hok I'.bare fun b hb => ⟨(f3 b hb).1.2.2.2.1, (f3 b hb).1.2.1, (f3 b hb).1.2.2.2.2.1, (f3 b hb).1.2.2.2.2.2⟩
  refine J1.turned (t' := s'.toks) (it := s3.heap.objs.size) (fun b o hb e => (sb.2 b hb).trans e) I'.free (Nat.ne_of_gt I3.lt) (.inr I3.sz) (fun x c e => ?_) Cne
  obtain ⟨v, q⟩ := I3.cell x c e
  exact Nat.ne_of_lt q.lt
 have fpok : ∀ {H' : Hp}, (∀ b ∈ fp, H' b = none) → ∀ b ∈ fp, FpOk (compX X N' scope cl s3.heap.objs.size s3 H3 fp) [] H' b := fun hn b hb =>
  ⟨hn b hb, Nat.ne_of_lt (f3 b hb).2, stkne b hb, .inl hb, fun x c e => (f3 b hb).1.2.2.2.2.1 x c (capK x c e), fun p hp => absurd (show p ∈ ([] : List (Addr × Obj)) from hp) (by simp)⟩
 have loop : codeAny (model X.prog X.w) X.A (.compLoop (.ListComp elt [⟨tg, iter, ifs, 0⟩] scope pos) 0 (.ref it) (.ref D) (compEnvC scope cl s3.heap.objs.size X.env))
  (compPost (model X.prog X.w) X.A X.xe none (EP X pins σ Q) (.ref D) s3.heap.objs.size) { s3 with heap := h₁, toks := s3.toks + ([] : List (Str × Value)).length } := by
  refine compLoop_any (fun n s' => ∃ i ys σ' H', Inv (compX X N' scope cl s3.heap.objs.size s3 H3 fp) [] σ' H' s' ∧ tn i s'.heap ∧ (∀ b ∈ fp, H' b = none) ∧ W i n ys σ' H') ?_ m0 ⟨0, [], _, _, I4, st3, fun b hb => (f3 b hb).1.1, w0⟩
  rintro n s5 ⟨i, ys, σ5, H5, I5, st5, fr5, w5⟩
  obtain ⟨hD5, tq⟩ := turn i n ys σ5 H5 w5
  rcases tq with ⟨stop, q⟩ | ⟨go, step⟩
  · refine thn (T.done (compX X N' scope cl s3.heap.objs.size s3 H3 fp) rfl rfl rfl hcalm i [] s5 σ5 H5 _ I5 (fpok fr5) st5 stop) fun r s6 ⟨hr, I6⟩ => ?_
    subst hr
    obtain ⟨m, hn, _⟩ := I6.loc
    exact ⟨m, hn, fun h'' sb => ⟨.ref D, H5, back I6 h'' sb, rfl, q⟩⟩
  · refine thn (T.item (compX X N' scope cl s3.heap.objs.size s3 H3 fp) rfl rfl rfl hcalm i [] s5 σ5 H5 _ I5 (fpok fr5) st5 go) fun r s6 ⟨u, hr, h6⟩ => ?_
    subst hr
    refine thn h6 fun _ s7 ⟨x, H7, I7, r7, y7, st7, fr7⟩ => ?_
    have I7' := I7.pinned (fpok fr7) (T.obj _ _ st7)
    refine thn (hg _ _ _ _ _ s7 σ5 H7 x u _ I7' r7 (step x H7 y7)) fun _ s8 ⟨σ8, H8, I8, q8⟩ => ?_
    refine thn (ht _ _ _ _ _ s8 σ8 H8 _ I8 q8) fun ok s9 ⟨H9, I9, q9⟩ => ?_
    have again : ∀ {σ' : St} {H' : Hp} {s' : Shared} {ys' : List V}, Inv (compX X N' scope cl s3.heap.objs.size s3 H3 fp) ([] ++ pinsAt fp s7.heap) σ' H' s' → (∃ m', m' < n ∧ W (i + 1) m' ys' σ' H') →
     ∃ m', m' < n ∧ ∃ i ys σ' H', Inv (compX X N' scope cl s3.heap.objs.size s3 H3 fp) [] σ' H' s' ∧ tn i s'.heap ∧ (∀ b ∈ fp, H' b = none) ∧ W i m' ys σ' H' := fun {σ' H' s' ys'} I' hw => by
     obtain ⟨m', hm, w'⟩ := hw
     refine ⟨m', hm, i + 1, ys', σ', H', I'.unpinned, T.keep _ _ _ st7 fun b hb o e => (I'.pin (b, o) (List.mem_append_right _ (List.mem_append_right _ (mem_pinsAt hb e)))).1, fun b hb => ?_, w'⟩
     obtain ⟨o, e, d⟩ := T.obj _ _ st7 b hb
     exact (I'.pin (b, o) (List.mem_append_right _ (List.mem_append_right _ (mem_pinsAt hb e)))).2.1
    cases ok with
    | false =>
      rw [if_neg Bool.false_ne_true] at q9 ⊢
      exact again I9 q9
    | true =>
      rw [if_pos rfl] at q9 ⊢
      refine thn (he _ _ _ _ _ s9 σ8 H9 _ I9 q9) fun y s10 ⟨yv, H10, I10, r10, q10, z10, w10⟩ => ?_
      refine thn (mt_append _ s10 σ8 H10 (.ref D) [yv] (.ref D) [y] (fun v H' => v = .non ∧ H' = upd H10 D (.lst (ys ++ [yv]))) I10 rfl (.cons r10 .nil) ⟨D, ys, yv, rfl, rfl, q10, z10, rfl, rfl⟩) fun _ s11 ⟨_, H11, I11, _, _, e11⟩ => ?_
      subst e11
      exact again I11 w10
 have es : ({ s3 with heap := h₁, toks := s3.toks + ([] : List (Str × Value)).length } : Shared) = { s2 with heap := h₁, toks := s2.toks + ([] : List (Str × Value)).length } := by rw [← hs3]
 rw [es] at loop
 exact codeAny_compStart_list loop (T.self _ 0 _ _ _ st3 loop)
end
end L2

namespace L2
open PySem PySem.Spec PyProof.Rows

noncomputable def Sz (n : Nat) (k : Int) : Prop := k.natAbs < 2 ^ n
theorem Sz.mono {n m : Nat} {k : Int} (h : Sz n k) (l : n ≤ m) : Sz m k := Nat.lt_of_lt_of_le h (Nat.pow_le_pow_right (by decide) l)
theorem Sz.log2 {n : Nat} {k : Int} (h : Sz n k) (hn : 0 < n) : k.natAbs.log2 < n := by
 by_cases h0 : k.natAbs = 0
 · rw [h0]; exact hn
 · exact (Nat.log2_lt h0).mpr h
noncomputable def CDivB (_ j : Int) : Prop := j ≠ 0 ∧ Sz 9000 j
section
variable {X : Cx}
theorem op_fdivB : OpR X (binaryOp .FloorDiv) (rI CDivB fun i j => .int (i.fdiv j)) := opI fun _ _ _ _ _ _ _ hc q => floordiv_int hc.1 q (.inl (PyProof.noPylong_of_log2 (hc.2.log2 (by decide))))
end

inductive Dt where
 | non | bl (b : Bool) | int (i : Int) | str (x : Str) | tup (xs : List Dt) | lst (xs : List Dt)
mutual
def Den (K : PySem.W.Frag) (H : Hp) : Dt → V → Prop
 | .non, v => v = .non
 | .bl b, v => v = .bl b
 | .int i, v => v = .int i
 | .str x, v => v = .str x
 | .tup ds, v => ∃ a xs, v = .ref a ∧ SqT K H a xs ∧ Dens K H ds xs
 | .lst ds, v => ∃ a xs, v = .ref a ∧ SqL K H a xs ∧ Dens K H ds xs
def Dens (K : PySem.W.Frag) (H : Hp) : List Dt → List V → Prop
 | [], xs => xs = []
 | d :: ds, xs => ∃ x r, xs = x :: r ∧ Den K H d x ∧ Dens K H ds r
end
mutual
def eqD : Dt → Dt → Bool
 | .non, .non => true
 | .bl a, .bl b => a == b
 | .bl a, .int b => (if a then 1 else 0) == b
 | .int a, .bl b => a == (if b then 1 else 0)
 | .int a, .int b => a == b
 | .str a, .str b => a == b
 | .tup xs, .tup ys => eqDs xs ys
 | .lst xs, .lst ys => eqDs xs ys
 | _, _ => false
def eqDs : List Dt → List Dt → Bool
 | [], [] => true
 | x :: xs, y :: ys => eqD x y && eqDs xs ys
 | _, _ => false
end
mutual
def depD : Dt → Nat
 | .tup xs => depDs xs + 1
 | .lst xs => depDs xs + 1
 | _ => 0
def depDs : List Dt → Nat
 | [] => 0
 | x :: xs => max (depD x) (depDs xs)
end
mutual
theorem eqD_refl : ∀ d : Dt, eqD d d = true
 | .non => rfl
 | .bl b => by simp [eqD]
 | .int b => by simp [eqD]
 | .str b => by simp [eqD]
 | .tup xs => by simp only [eqD]; exact eqDs_refl xs
 | .lst xs => by simp only [eqD]; exact eqDs_refl xs
theorem eqDs_refl : ∀ ds : List Dt, eqDs ds ds = true
 | [] => rfl
 | x :: xs => by simp only [eqDs, eqD_refl x, eqDs_refl xs, Bool.and_self]
end
theorem Dens.length {K : PySem.W.Frag} {H : Hp} : ∀ {ds : List Dt} {xs : List V}, Dens K H ds xs → xs.length = ds.length
 | [], _, h => by simp only [Dens] at h; subst h; rfl
 | d :: ds, _, h => by
   simp only [Dens] at h
   obtain ⟨x, r, rfl, _, h⟩ := h
   simp [Dens.length h]
section
variable {X : Cx} {pins : List (Addr × Obj)} {σ : St} {H : Hp} {s : Shared}
theorem kinds_apart (I : Inv X pins σ H s) {a : Addr} {xs ys : List V} (h : SqT X.K H a xs) (h' : SqL X.K H a ys) : False := by
 obtain ⟨its, _, ⟨o, e, c, _⟩, _⟩ := I.tuple h
 obtain ⟨its', _, ⟨o', n', e', c', _⟩, _⟩ := I.list h'
 rw [e] at e'; cases e'
 rw [c] at c'
 have : ("tuple" : String) = "list" := by injection c'
 exact absurd this (by decide)
mutual
theorem Den.inj (I : Inv X pins σ H s) : ∀ {d e : Dt} {v : V}, Den X.K H d v → Den X.K H e v → d = e
 | .non, e, v, h, h' => by
   simp only [Den] at h
   subst h
   cases e <;> simp only [Den] at h' <;> first
    | rfl
    | (obtain ⟨_, _, z, _⟩ := h'; cases z; done)
    | (cases h'; done)
 | .bl b, e, v, h, h' => by
   simp only [Den] at h
   subst h
   cases e <;> simp only [Den] at h' <;> first
    | (obtain ⟨_, _, z, _⟩ := h'; cases z; done)
    | (cases h'; rfl)
    | (cases h'; done)
 | .int b, e, v, h, h' => by
   simp only [Den] at h
   subst h
   cases e <;> simp only [Den] at h' <;> first
    | (obtain ⟨_, _, z, _⟩ := h'; cases z; done)
    | (cases h'; rfl)
    | (cases h'; done)
 | .str b, e, v, h, h' => by
   simp only [Den] at h
   subst h
   cases e <;> simp only [Den] at h' <;> first
    | (obtain ⟨_, _, z, _⟩ := h'; cases z; done)
    | (cases h'; rfl)
    | (cases h'; done)
 | .tup ds, e, v, h, h' => by
   simp only [Den] at h
   obtain ⟨a, xs, rfl, hx, hd⟩ := h
   cases e with
   | tup es =>
     simp only [Den] at h'
     obtain ⟨b, ys, z, hy, he⟩ := h'
     cases z
     rw [I.tuple_inj hy hx] at he
     rw [Dens.inj I hd he]
   | lst es =>
     simp only [Den] at h'
     obtain ⟨b, ys, z, hy, he⟩ := h'
     cases z
     exact (kinds_apart I hx hy).elim
   | non => simp only [Den] at h'; cases h'
   | bl b => simp only [Den] at h'; cases h'
   | int b => simp only [Den] at h'; cases h'
   | str b => simp only [Den] at h'; cases h'
 | .lst ds, e, v, h, h' => by
   simp only [Den] at h
   obtain ⟨a, xs, rfl, hx, hd⟩ := h
   cases e with
   | lst es =>
     simp only [Den] at h'
     obtain ⟨b, ys, z, hy, he⟩ := h'
     cases z
     rw [I.list_inj hy hx] at he
     rw [Dens.inj I hd he]
   | tup es =>
     simp only [Den] at h'
     obtain ⟨b, ys, z, hy, he⟩ := h'
     cases z
     exact (kinds_apart I hy hx).elim
   | non => simp only [Den] at h'; cases h'
   | bl b => simp only [Den] at h'; cases h'
   | int b => simp only [Den] at h'; cases h'
   | str b => simp only [Den] at h'; cases h'
theorem Dens.inj (I : Inv X pins σ H s) : ∀ {ds es : List Dt} {vs : List V}, Dens X.K H ds vs → Dens X.K H es vs → ds = es
 | [], [], _, _, _ => rfl
 | [], e :: es, vs, h, h' => by
   simp only [Dens] at h h'
   subst h
   obtain ⟨_, _, z, _⟩ := h'
   cases z
 | d :: ds, [], vs, h, h' => by
   simp only [Dens] at h h'
   subst h'
   obtain ⟨_, _, z, _⟩ := h
   cases z
 | d :: ds, e :: es, vs, h, h' => by
   simp only [Dens] at h h'
   obtain ⟨x, r, rfl, h1, h2⟩ := h
   obtain ⟨y, r', z, h3, h4⟩ := h'
   cases z
   rw [Den.inj I h1 h3, Dens.inj I h2 h4]
end
noncomputable def eqAtD (ds es : List Dt) (j : Nat) : Bool := match ds[j]?, es[j]? with
 | some d, some e => eqD d e
 | _, _ => true
theorem all_eqAtD : ∀ (ds es : List Dt), ds.length = es.length → (List.range ds.length).all (eqAtD ds es) = eqDs ds es
 | [], [], _ => rfl
 | d :: ds, e :: es, h => by
   have ih := all_eqAtD ds es (by simpa using h)
   rw [List.length_cons, List.range_succ_eq_map, List.all_cons, List.all_map]
   have e0 : eqAtD (d :: ds) (e :: es) 0 = eqD d e := rfl
   have e1 : (eqAtD (d :: ds) (e :: es)) ∘ Nat.succ = eqAtD ds es := by
    funext j
    simp [eqAtD, Function.comp]
   rw [e0, e1, ih]
   rfl
theorem eqDs_len : ∀ (ds es : List Dt), ds.length ≠ es.length → eqDs ds es = false
 | [], [], h => absurd rfl h
 | [], _ :: _, _ => rfl
 | _ :: _, [], _ => rfl
 | d :: ds, e :: es, h => by
   simp only [eqDs]
   rw [eqDs_len ds es (by simpa using h), Bool.and_false]
end
end L2

namespace L2
open PySem PySem.Spec PyProof.Rows
section
variable {X : Cx} {pins : List (Addr × Obj)} {σ : St} {H : Hp} {s : Shared}
theorem Dens.get {K : PySem.W.Frag} {H : Hp} : ∀ {ds : List Dt} {xs : List V} {j : Nat} {d : Dt}, Dens K H ds xs → ds[j]? = some d → ∃ x, xs[j]? = some x ∧ Den K H d x
 | [], _, _, _, _, e => by simp at e
 | d :: ds, xs, 0, d', h, e => by
   simp only [Dens] at h
   obtain ⟨x, r, rfl, h1, _⟩ := h
   simp at e
   subst e
   exact ⟨x, rfl, h1⟩
 | d :: ds, xs, j + 1, d', h, e => by
   simp only [Dens] at h
   obtain ⟨x, r, rfl, _, h2⟩ := h
   obtain ⟨y, h3, h4⟩ := Dens.get (j := j) h2 (by simpa using e)
   exact ⟨y, by simpa using h3, h4⟩
theorem depDs_mem : ∀ {ds : List Dt} {j : Nat} {d : Dt}, ds[j]? = some d → depD d ≤ depDs ds
 | [], _, _, e => by simp at e
 | d :: ds, 0, d', e => by simp at e; subst e; simp only [depDs]; exact Nat.le_max_left _ _
 | d :: ds, j + 1, d', e => by
   have := depDs_mem (ds := ds) (j := j) (d := d') (by simpa using e)
   simp only [depDs]
   exact Nat.le_trans this (Nat.le_max_right _ _)
theorem items_eq {A : Around} (n : Nat) (ih : ∀ (A : Around) (d e : Dt) (x y : V) (u v : Value), depD d ≤ n → A.units + n < cLine → Den X.K H d x → Den X.K H e y → RelV x u → RelV y v → SeqAt.EqAt A s u v (eqD d e))
 {ds es : List Dt} {xs ys : List V} {us vs : List Value} (hd : depDs ds ≤ n) (hu : A.units + n + 1 < cLine) (h1 : Dens X.K H ds xs) (h2 : Dens X.K H es ys) (r1 : Vals xs us) (r2 : Vals ys vs) :
 ∀ j (g1 : j < us.toArray.size) (g2 : j < vs.toArray.size), SeqAt.EqAt A.in1 s us.toArray[j] vs.toArray[j] (eqAtD ds es j) := by
 intro j g1 g2
 have l1 := h1.length
 have l2 := h2.length
 have l3 := r1.length
 have l4 := r2.length
 have g1' : j < us.length := by simpa using g1
 have g2' : j < vs.length := by simpa using g2
 have j1 : j < ds.length := by rw [← l1, l3]; exact g1'
 have j2 : j < es.length := by rw [← l2, l4]; exact g2'
 have e1 : ds[j]? = some ds[j] := by simp [j1]
 have e2 : es[j]? = some es[j] := by simp [j2]
 obtain ⟨x, ex, dx⟩ := h1.get e1
 obtain ⟨y, ey, dy⟩ := h2.get e2
 obtain ⟨u, eu, ru⟩ := r1.get ex
 obtain ⟨v, ev, rv⟩ := r2.get ey
 have e3 : eqAtD ds es j = eqD ds[j] es[j] := by unfold eqAtD; rw [e1, e2]
 rw [e3]
 have a1 : us.toArray[j] = u := by
  have : us[j]? = some us[j] := by simp [g1']
  rw [this] at eu
  simpa using Option.some.inj eu
 have a2 : vs.toArray[j] = v := by
  have : vs[j]? = some vs[j] := by simp [g2']
  rw [this] at ev
  simpa using Option.some.inj ev
 rw [a1, a2]
 exact ih A.in1 _ _ x y u v (Nat.le_trans (depDs_mem e1) hd) (by show A.units + 1 + n < cLine; omega) dx dy ru rv
theorem rc_seqT {A : Around} (I : Inv X pins σ H s) (n : Nat) (ih : ∀ (A : Around) (d e : Dt) (x y : V) (u v : Value), depD d ≤ n → A.units + n < cLine → Den X.K H d x → Den X.K H e y → RelV x u → RelV y v → SeqAt.EqAt A s u v (eqD d e))
 {ds es : List Dt} {a b : Addr} {xs ys : List V} (hd : depDs ds ≤ n) (hu : A.units + n + 1 < cLine) (ha : SqT X.K H a xs) (hb : SqT X.K H b ys) (h1 : Dens X.K H ds xs) (h2 : Dens X.K H es ys) :
 SeqAt.RcAt A s (.ref a) (.ref b) (eqDs ds es) ∧ SeqAt.RcNeAt A s (.ref a) (.ref b) (!eqDs ds es) := by
 obtain ⟨its, r1, p1, _⟩ := I.tuple ha
 obtain ⟨its2, r2, p2, _⟩ := I.tuple hb
 have l1 := h1.length
 have l2 := h2.length
 have l3 := r1.length
 have l4 := r2.length
 have hu' : A.units < cLine := by omega
 have q := SeqAt.RcAt.tuples (A := A) (s := s) (e := eqAtD ds es) p1 p2 hu' (items_eq n ih hd hu h1 h2 r1 r2)
 have q2 := SeqAt.RcNeAt.tuples (A := A) (s := s) (e := eqAtD ds es) p1 p2 hu' (items_eq n ih hd hu h1 h2 r1 r2)
 have e : ((List.range (min its.toArray.size its2.toArray.size)).all (eqAtD ds es) && its.toArray.size == its2.toArray.size) = eqDs ds es := by
  simp only [List.size_toArray]
  by_cases hl : ds.length = es.length
  · have : its.length = its2.length := by rw [← l3, ← l4, l1, l2, hl]
    rw [this, Nat.min_self, ← l4, l2, ← hl, all_eqAtD ds es hl]
    simp
  · have : its.length ≠ its2.length := by rw [← l3, ← l4, l1, l2]; exact hl
    rw [eqDs_len ds es hl]
    simp [this]
 rw [e] at q q2
 exact ⟨q, q2⟩
theorem rc_seqL {A : Around} (I : Inv X pins σ H s) (n : Nat) (ih : ∀ (A : Around) (d e : Dt) (x y : V) (u v : Value), depD d ≤ n → A.units + n < cLine → Den X.K H d x → Den X.K H e y → RelV x u → RelV y v → SeqAt.EqAt A s u v (eqD d e))
 {ds es : List Dt} {a b : Addr} {xs ys : List V} (hd : depDs ds ≤ n) (hu : A.units + n + 1 < cLine) (ha : SqL X.K H a xs) (hb : SqL X.K H b ys) (h1 : Dens X.K H ds xs) (h2 : Dens X.K H es ys) :
 SeqAt.RcAt A s (.ref a) (.ref b) (eqDs ds es) ∧ SeqAt.RcNeAt A s (.ref a) (.ref b) (!eqDs ds es) := by
 obtain ⟨its, r1, p1, _⟩ := I.list ha
 obtain ⟨its2, r2, p2, _⟩ := I.list hb
 have l1 := h1.length
 have l2 := h2.length
 have l3 := r1.length
 have l4 := r2.length
 have hu' : A.units < cLine := by omega
 by_cases hl : ds.length = es.length
 · have hsz : its.toArray.size = its2.toArray.size := by simp only [List.size_toArray]; rw [← l3, ← l4, l1, l2, hl]
   have q := SeqAt.RcAt.lists (A := A) (s := s) (e := eqAtD ds es) p1.isList p2.isList hsz hu' (items_eq n ih hd hu h1 h2 r1 r2)
   have q2 := SeqAt.RcNeAt.lists (A := A) (s := s) (e := eqAtD ds es) p1.isList p2.isList hsz hu' (items_eq n ih hd hu h1 h2 r1 r2)
   have e : (List.range its.toArray.size).all (eqAtD ds es) = eqDs ds es := by
    simp only [List.size_toArray]
    rw [← l3, l1, all_eqAtD ds es hl]
   rw [e] at q q2
   exact ⟨q, q2⟩
 · have hsz : (its.toArray.size != its2.toArray.size) = true := by
    simp only [List.size_toArray]
    rw [← l3, ← l4, l1, l2]
    simpa using hl
   rw [eqDs_len ds es hl]
   exact ⟨SeqAt.RcAt.lists_lengths p1.isList p2.isList hsz hu', SeqAt.RcNeAt.lists_lengths p1.isList p2.isList hsz hu'⟩
theorem eqAt_D (I : Inv X pins σ H s) : ∀ (n : Nat) (A : Around) (d e : Dt) (x y : V) (u v : Value), depD d ≤ n → A.units + n < cLine → Den X.K H d x → Den X.K H e y → RelV x u → RelV y v → SeqAt.EqAt A s u v (eqD d e) := by
 intro n
 induction n with
 | zero =>
   intro A d e x y u v hd hu h1 h2 rx ry
   have hu' : A.units < cLine := by omega
   cases d with
   | tup ds => simp only [depD] at hd; omega
   | lst ds => simp only [depD] at hd; omega
   | non =>
     simp only [Den] at h1
     subst h1
     cases e with
     | tup es =>
       simp only [Den] at h2
       obtain ⟨b, ys, rfl, hy, _⟩ := h2
       cases rx; cases ry
       obtain ⟨its, _, p, _⟩ := I.tuple hy
       exact SeqAt.EqAt.none_tuple p hu'
     | lst es =>
       simp only [Den] at h2
       obtain ⟨b, ys, rfl, hy, _⟩ := h2
       cases rx; cases ry
       obtain ⟨its, _, p, _⟩ := I.list hy
       exact SeqAt.EqAt.none_list p.isList hu'
     | _ => simp only [Den] at h2; subst h2; exact eqAt_V rx ry rfl rfl
   | bl i =>
     simp only [Den] at h1
     subst h1
     cases e with
     | tup es =>
       simp only [Den] at h2
       obtain ⟨b, ys, rfl, hy, _⟩ := h2
       cases rx; cases ry
       obtain ⟨its, _, p, _⟩ := I.tuple hy
       exact SeqAt.EqAt.bool_tuple _ p hu'
     | lst es =>
       simp only [Den] at h2
       obtain ⟨b, ys, rfl, hy, _⟩ := h2
       cases rx; cases ry
       obtain ⟨its, _, p, _⟩ := I.list hy
       exact SeqAt.EqAt.bool_list _ p.isList hu'
     | _ => simp only [Den] at h2; subst h2; exact eqAt_V rx ry rfl rfl
   | int i =>
     simp only [Den] at h1
     subst h1
     cases e with
     | tup es =>
       simp only [Den] at h2
       obtain ⟨b, ys, rfl, hy, _⟩ := h2
       obtain ⟨t, rfl⟩ := rx
       cases ry
       obtain ⟨its, _, p, _⟩ := I.tuple hy
       exact SeqAt.EqAt.int_tuple _ _ p hu'
     | lst es =>
       simp only [Den] at h2
       obtain ⟨b, ys, rfl, hy, _⟩ := h2
       obtain ⟨t, rfl⟩ := rx
       cases ry
       obtain ⟨its, _, p, _⟩ := I.list hy
       exact SeqAt.EqAt.int_list _ _ p.isList hu'
     | _ => simp only [Den] at h2; subst h2; exact eqAt_V rx ry rfl rfl
   | str i =>
     simp only [Den] at h1
     subst h1
     cases e with
     | tup es =>
       simp only [Den] at h2
       obtain ⟨b, ys, rfl, hy, _⟩ := h2
       obtain ⟨t, rfl⟩ := rx
       cases ry
       obtain ⟨its, _, p, _⟩ := I.tuple hy
       exact SeqAt.EqAt.str_tuple _ _ p hu'
     | lst es =>
       simp only [Den] at h2
       obtain ⟨b, ys, rfl, hy, _⟩ := h2
       obtain ⟨t, rfl⟩ := rx
       cases ry
       obtain ⟨its, _, p, _⟩ := I.list hy
       exact SeqAt.EqAt.str_list _ _ p.isList hu'
     | _ => simp only [Den] at h2; subst h2; exact eqAt_V rx ry rfl rfl
 | succ n ih =>
   intro A d e x y u v hd hu h1 h2 rx ry
   have hu' : A.units < cLine := by omega
   by_cases hle : depD d ≤ n
   · exact ih A d e x y u v hle (by omega) h1 h2 rx ry
   cases d with
   | tup ds =>
     simp only [depD] at hd
     have h1' := h1
     simp only [Den] at h1
     obtain ⟨a, xs, rfl, hx, hds⟩ := h1
     cases rx
     have hT := I.tuple hx
     obtain ⟨its, r1, p1, _⟩ := hT
     cases e with
     | tup es =>
       have h2' := h2
       simp only [Den] at h2
       obtain ⟨b, ys, rfl, hy, hes⟩ := h2
       cases ry
       by_cases hab : a = b
       · subst hab
         rw [Den.inj I h1' h2', eqD_refl]
         exact SeqAt.EqAt.same _
       · simp only [eqD]
         exact SeqAt.EqAt.of_refs hab (rc_seqT I n ih (by omega) (by omega) hx hy hds hes).1
     | lst es =>
       simp only [Den] at h2
       obtain ⟨b, ys, rfl, hy, _⟩ := h2
       cases ry
       obtain ⟨its', _, p, _⟩ := I.list hy
       exact SeqAt.EqAt.tuple_list p1 p.isList hu'
     | non => simp only [Den] at h2; subst h2; cases ry; exact SeqAt.EqAt.tuple_none p1 hu'
     | bl i => simp only [Den] at h2; subst h2; cases ry; exact SeqAt.EqAt.tuple_bool _ p1 hu'
     | int i => simp only [Den] at h2; subst h2; obtain ⟨t, rfl⟩ := ry; exact SeqAt.EqAt.tuple_int _ _ p1 hu'
     | str i => simp only [Den] at h2; subst h2; obtain ⟨t, rfl⟩ := ry; exact SeqAt.EqAt.tuple_str _ _ p1 hu'
   | lst ds =>
     simp only [depD] at hd
     have h1' := h1
     simp only [Den] at h1
     obtain ⟨a, xs, rfl, hx, hds⟩ := h1
     cases rx
     have hT := I.list hx
     obtain ⟨its, r1, p1, _⟩ := hT
     cases e with
     | lst es =>
       have h2' := h2
       simp only [Den] at h2
       obtain ⟨b, ys, rfl, hy, hes⟩ := h2
       cases ry
       by_cases hab : a = b
       · subst hab
         rw [Den.inj I h1' h2', eqD_refl]
         exact SeqAt.EqAt.same _
       · simp only [eqD]
         exact SeqAt.EqAt.of_refs hab (rc_seqL I n ih (by omega) (by omega) hx hy hds hes).1
     | tup es =>
       simp only [Den] at h2
       obtain ⟨b, ys, rfl, hy, _⟩ := h2
       cases ry
       obtain ⟨its', _, p, _⟩ := I.tuple hy
       exact SeqAt.EqAt.list_tuple p1.isList p hu'
     | non => simp only [Den] at h2; subst h2; cases ry; exact SeqAt.EqAt.list_none p1.isList hu'
     | bl i => simp only [Den] at h2; subst h2; cases ry; exact SeqAt.EqAt.list_bool _ p1.isList hu'
     | int i => simp only [Den] at h2; subst h2; obtain ⟨t, rfl⟩ := ry; exact SeqAt.EqAt.list_int _ _ p1.isList hu'
     | str i => simp only [Den] at h2; subst h2; obtain ⟨t, rfl⟩ := ry; exact SeqAt.EqAt.list_str _ _ p1.isList hu'
   | _ => simp only [depD] at hle; omega
end
section
variable {X : Cx}
noncomputable def rEqD (K : PySem.W.Frag) (neg : Bool) : R2 := fun x y H Q => ∃ a b xs ys ds es, x = .ref a ∧ y = .ref b ∧ ((SqT K H a xs ∧ SqT K H b ys) ∨ (SqL K H a xs ∧ SqL K H b ys)) ∧ Dens K H ds xs ∧ Dens K H es ys ∧ depDs ds ≤ 20 ∧
 Q (.bl (if neg then !eqDs ds es else eqDs ds es)) H
theorem op_eqD {k : Nat} (hr : Room k X.A) : OpR X (compareOp .Eq) (rEqD X.K false) := by
 intro pins s σ H x y v u Q I rx ry h
 obtain ⟨a, b, xs, ys, ds, es, rfl, rfl, hk, h1, h2, hd, q⟩ := h
 cases rx
 cases ry
 have hu := hr.units
 rcases hk with ⟨ha, hb⟩ | ⟨ha, hb⟩
 · exact (rc_seqT (A := X.A) I 20 (eqAt_D I 20) hd (by omega) ha hb h1 h2).1 _ _ _ _ ⟨.bl _, H, I, rfl, q⟩
 · exact (rc_seqL (A := X.A) I 20 (eqAt_D I 20) hd (by omega) ha hb h1 h2).1 _ _ _ _ ⟨.bl _, H, I, rfl, q⟩
noncomputable def rIsi (K : PySem.W.Frag) : List V → Hp → VK → Prop := fun xs H Q => ∃ x T t b, xs = [x, .ty T] ∧ TyOf K H x t ∧ PySem.W.kitOne K t (.type T) = some b ∧ Q (.bl b) H
theorem call_isi : CallR X (.builtin "isinstance") (rIsi X.K) := by
 intro pins s σ H xs us Q I r h
 obtain ⟨x, T, t, b, rfl, ty, e, q⟩ := h
 obtain ⟨u, w', rfl, ru, rw'⟩ := vals2 r
 cases rw'
 exact isinst_ok I ru ty e fun tk => ⟨.bl b, H, I.tok tk, rfl, q⟩
theorem isi_tt (K : PySem.W.Frag) : PySem.W.kitOne K (.type "tuple") (.type "tuple") = some true := rfl
theorem isi_it (K : PySem.W.Frag) : PySem.W.kitOne K (.type "int") (.type "tuple") = some false := by rfl
theorem isi_ii (K : PySem.W.Frag) : PySem.W.kitOne K (.type "int") (.type "int") = some true := by rfl
theorem isi_ib (K : PySem.W.Frag) : PySem.W.kitOne K (.type "int") (.type "bool") = some false := by rfl
theorem isi_bi (K : PySem.W.Frag) : PySem.W.kitOne K (.type "bool") (.type "int") = some true := by rfl
theorem isi_bb (K : PySem.W.Frag) : PySem.W.kitOne K (.type "bool") (.type "bool") = some true := by rfl
end
end L2

namespace L2
open PySem PySem.Spec PyProof.Rows

section
variable {prog : Program} {w : World} {A : Around} {E : Value → Shared → Prop} {s : Shared}
theorem loadIfAlive_ok {M : Model} {a : Addr} {Q : Option Obj → Shared → Prop} (h : Q (s.heap.get? a) s) : wpAny M A (loadIfAlive a) Q E s := fun Γ p hΓ => by
 unfold loadIfAlive
 rw [Sem.wp_loadIfAlive]
 exact wpAny_pure h Γ p hΓ

noncomputable abbrev EnOut (h : Heap) (e it : Addr) (i : Int) (f1 : Bool) (old : Value) (a : Addr) : Prop :=
 h.get? e = some { cls := .type "enumerate", dict := none, data := .fields #[rawInt a, .bool f1, .ref it, rawInt i, .none, old], slots := #[] }
noncomputable def EnSt (h : Heap) (e it : Addr) (i : Int) : Prop := (∃ old, IsEnum h e it i old) ∨ ∃ f1 old a o, EnOut h e it i f1 old a ∧ h.get? a = some o ∧ a ≠ e ∧ a ≠ it

theorem enum_next_out {e it a : Addr} {f1 : Bool} {o : Obj} {fp : List Addr} {n i : Nat} {P : Nat → Value → Prop} {St : Nat → Heap → Prop} {old : Value} {Q : Value → Shared → Prop}
 (D : Draws prog w A it fp n P St) (he : EnOut s.heap e it i f1 old a) (ha : s.heap.get? a = some o) (hae : a ≠ e) (hai : a ≠ it) (hst : St i s.heap) (hlt : i < n) (hne : e ≠ it) (hef : e ∉ fp)
 (hQ : ∀ x h' tk, P i x → EnSt h' e it ((i : Int) + 1) → St (i + 1) h' →
  h'.get? s.heap.objs.size = some { cls := .type "tuple", data := .seq #[.int i tk, x] } →
  (∀ b o, b ≠ e → b ≠ it → s.heap.get? b = some o → h'.get? b = some o) → Q (.ref s.heap.objs.size) { s with heap := h', toks := tk + 1 }) :
 wpAny (model prog w) A (Builtin.«enumerate.__next__» ⟨[.ref e], []⟩) (fun fin s' => ∃ v, fin = .done (.ret v) ∧ Q v s') E s := by
 obtain ⟨hp, g, d, tk₀, os⟩ := s
 show wpAny _ _ (field (.ref e) 2 >>= _) _ _ _
 refine wpAny_bind (wpAny_field he rfl (x := .ref it) rfl ?_)
 refine wpAny_bind (D.item i _ _ _ hlt hst fun x h₁ tk hPx hit₁ hs₁ => ?_)
 replace hs₁ : Heap.SameBut it hp h₁ := hs₁
 have he₁ : EnOut h₁ e it i f1 old a := (hs₁.2 e hne).trans he
 show wpAny _ _ (field (.ref e) 3 >>= _) _ _ ⟨h₁, g, d, tk, os⟩
 refine wpAny_bind (wpAny_field he₁ rfl (x := rawInt i) rfl ?_)
 show wpAny _ _ (field (.ref e) 4 >>= _) _ _ ⟨h₁, g, d, tk, os⟩
 refine wpAny_bind (wpAny_field he₁ rfl (x := .none) rfl ?_)
 show wpAny _ _ (mkInt i >>= _) _ _ ⟨h₁, g, d, tk, os⟩
 refine wpAny_bind (wpAny_mkInt ?_)
 show wpAny _ _ (setField (.ref e) 3 (rawInt ((i : Int) + 1)) >>= _) _ _ ⟨h₁, g, d, tk + 1, os⟩
 refine wpAny_bind (wpAny_setField_rec he₁ (by simp) fun h₂ he₂ hs₂ => ?_)
 replace hs₂ : Heap.SameBut e h₁ h₂ := hs₂
 replace he₂ : EnOut h₂ e it ((i : Int) + 1) f1 old a := he₂
 show wpAny _ _ (setField (.ref e) 4 .none >>= _) _ _ ⟨h₂, g, d, tk + 1, os⟩
 refine wpAny_bind (wpAny_setField_rec he₂ (by simp) fun h₃ he₃ hs₃ => ?_)
 replace hs₃ : Heap.SameBut e h₂ h₃ := hs₃
 replace he₃ : EnOut h₃ e it ((i : Int) + 1) f1 old a := he₃
 show wpAny _ _ (newTuple [.int i tk, x] >>= _) _ _ ⟨h₃, g, d, tk + 1, os⟩
 refine wpAny_bind (wpAny_newTuple ?_)
 have he₄ : EnOut (h₃.push { cls := .type "tuple", data := .seq #[.int i tk, x] }) e it ((i : Int) + 1) f1 old a := Heap.get?_push_of_some _ he₃
 generalize hh₄ : h₃.push { cls := .type "tuple", data := .seq #[.int i tk, x] } = h₄ at he₄
 have hsz : h₃.objs.size = hp.objs.size := by rw [hs₃.1, hs₂.1, hs₁.1]
 have hel : e < hp.objs.size := Heap.lt_size he
 have ht₄ : h₄.get? hp.objs.size = some { cls := .type "tuple", data := .seq #[.int i tk, x] } := by rw [← hh₄, ← hsz]; exact Heap.get?_push_size _ rfl
 have hk₄ : ∀ b o, b ≠ e → b ≠ it → hp.get? b = some o → h₄.get? b = some o := fun b o hbe hbi hb => by
  rw [← hh₄]; exact Heap.get?_push_of_some _ (hs₃.extBut b o hbe (hs₂.extBut b o hbe (hs₁.extBut b o hbi hb)))
 have hit₄ : St (i + 1) h₄ := D.frame _ _ _ hit₁ fun b hb o y => by
  have hbe : b ≠ e := fun q => hef (q ▸ hb)
  rw [← hh₄]; exact Heap.get?_push_of_some _ (hs₃.extBut b o hbe (hs₂.extBut b o hbe y))
 have ha₄ : h₄.get? a = some o := hk₄ a o hae hai ha
 show wpAny _ _ (Builtin.SmallTypes.ownedTupleIsFree (.ref e) >>= _) _ _ ⟨h₄, g, d, tk + 1, os⟩
 rw [hsz]
 clear hh₄ he₃ hs₃ he₂ hs₂ he₁ hs₁ hit₁ hsz h₃ h₂ h₁
 refine wpAny_bind ?_
 unfold Builtin.SmallTypes.ownedTupleIsFree
 refine wpAny_bind (wpAny_field he₄ rfl (x := rawInt a) rfl ?_)
 show wpAny _ _ (loadIfAlive ((a : Int).toNat) >>= _) _ _ _
 refine wpAny_bind (loadIfAlive_ok ?_)
 have ea : h₄.get? ((a : Int).toNat) = some o := by rw [Int.toNat_natCast]; exact ha₄
 dsimp only
 rw [ea]
 simp only [Option.isNone_some, Bool.false_eq_true, if_false]
 refine wpAny_bind (wpAny_field he₄ rfl (x := .bool f1) rfl ?_)
 cases f1 with
 | true =>
   rw [if_neg (by simp)]
   refine wpAny_pure ?_
   simp only [Bool.false_eq_true, if_false]
   refine wpAny_pure ⟨_, rfl, hQ x h₄ tk hPx (.inr ⟨_, _, a, o, he₄, ha₄, hae, hai⟩) hit₄ ht₄ hk₄⟩
 | false =>
   rw [if_pos (by decide)]
   refine wpAny_bind (wpAny_setField_rec he₄ (by simp) fun h₅ he₅ hs₅ => ?_)
   replace hs₅ : Heap.SameBut e h₄ h₅ := hs₅
   replace he₅ : EnOut h₅ e it ((i : Int) + 1) true old a := he₅
   refine wpAny_pure ?_
   simp only [Bool.false_eq_true, if_false]
   refine wpAny_pure ⟨_, rfl, hQ x h₅ tk hPx (.inr ⟨_, _, a, o, he₅, hs₅.extBut a o hae ha₄, hae, hai⟩) ?_ ?_ ?_⟩
   · exact D.frame _ _ _ hit₄ fun b hb o y => hs₅.extBut b o (fun q => hef (q ▸ hb)) y
   · exact hs₅.extBut _ _ (Nat.ne_of_gt hel) ht₄
   · exact fun b o hbe hbi hb => hs₅.extBut b o hbe (hk₄ b o hbe hbi hb)

theorem EnSt.typeIs {e it : Addr} {i : Int} (h : EnSt s.heap e it i) : s.TypeIs (.ref e) "enumerate" := by
 rcases h with ⟨_, h⟩ | ⟨_, _, _, _, h, _⟩
 · exact ⟨_, h, rfl⟩
 · exact ⟨_, h, rfl⟩
theorem enum_item {e it : Addr} {fp : List Addr} {n i : Nat} {P : Nat → Value → Prop} {St : Nat → Heap → Prop} {Q : Option Value → Shared → Prop}
 (D : Draws prog w A.in1 it fp n P St) (he : EnSt s.heap e it i) (hst : St i s.heap) (hlt : i < n) (hne : e ≠ it) (hef : e ∉ fp)
 (hQ : ∀ x h' tk, P i x → EnSt h' e it ((i : Int) + 1) → St (i + 1) h' →
  h'.get? s.heap.objs.size = some { cls := .type "tuple", data := .seq #[.int i tk, x] } →
  (∀ b o, b ≠ e → b ≠ it → s.heap.get? b = some o → h'.get? b = some o) → Q (some (.ref s.heap.objs.size)) { s with heap := h', toks := tk + 1 }) :
 wpAny (model prog w) A (pyNext (.ref e)) Q E s := by
 have hT := he.typeIs
 have hel : e < s.heap.objs.size := by
  rcases he with ⟨_, h⟩ | ⟨_, _, _, _, h, _⟩
  · exact Heap.lt_size h
  · exact Heap.lt_size h
 have hil : it < s.heap.objs.size := by obtain ⟨_, y⟩ := D.live _ _ hst; exact Heap.lt_size y
 unfold pyNext
 refine wpAny_bind (wpAny_attempt (wpAny_callSpecial?_slot (name := Str.ofString "__next__") hT F.slot_enumerate_next
  (wpAny_call_entry F.slot_enumerate_next hT F.entry_enumerate_next ?_ (F.args_enumerate_next_1 _))))
 rcases he with ⟨old, h⟩ | ⟨f1, old, a, o, h, ha, hae, hai⟩
 · exact enumerate_next_itemD D h hst hlt hne hef fun x h' tk p q r t _ k => wpAny_pure (hQ x h' tk p (.inr ⟨_, _, _, _, q, t, Nat.ne_of_gt hel, Nat.ne_of_gt hil⟩) r t k)
 · exact enum_next_out D h ha hae hai hst hlt hne hef fun x h' tk p q r t k => wpAny_pure (hQ x h' tk p q r t k)
theorem enum_done {e it : Addr} {fp : List Addr} {n : Nat} {P : Nat → Value → Prop} {St : Nat → Heap → Prop} {i : Int} {Q : Option Value → Shared → Prop}
 (D : Draws prog w A.in1 it fp n P St) (he : EnSt s.heap e it i) (hst : St n s.heap)
 (hQ : ∀ h', Heap.ExtBut it s.heap h' → Q none { s with heap := h' }) : wpAny (model prog w) A (pyNext (.ref e)) Q E s := by
 have hT := he.typeIs
 unfold pyNext
 refine wpAny_bind (wpAny_attempt (wpAny_callSpecial?_slot (name := Str.ofString "__next__") hT F.slot_enumerate_next
  (wpAny_call_entry F.slot_enumerate_next hT F.entry_enumerate_next ?_ (F.args_enumerate_next_1 _))))
 show wpAny _ _ (field (.ref e) 2 >>= _) _ _ _
 have go : wpAny (model prog w) A.in1 (Builtin.SmallTypes.nextOf (.ref it)) (fun _ _ => False) (fun e' s' => ∃ h' , s' = { s with heap := h' } ∧ Heap.ExtBut it s.heap h' ∧ ∃ a o, e' = .ref a ∧ h'.get? a = some o ∧ o.cls = .type "StopIteration") s := by
  refine D.done _ _ _ hst fun h' x he' hx' => ?_
  obtain ⟨o, ho, hc⟩ := hx'
  exact ⟨h', rfl, he', x, o, rfl, ho, hc⟩
 have f2 : wpAny (model prog w) A.in1 (field (.ref e) 2) (fun v s' => v = .ref it ∧ s' = s) (fun _ _ => False) s := by
  rcases he with ⟨_, h⟩ | ⟨_, _, _, _, h, _⟩
  · exact wpAny_field h rfl (x := .ref it) rfl ⟨rfl, rfl⟩
  · exact wpAny_field h rfl (x := .ref it) rfl ⟨rfl, rfl⟩
 refine wpAny_bind (wpAny_mono f2 (fun v s' hv => ?_) fun _ _ f => f.elim)
 obtain ⟨rfl, rfl⟩ := hv
 refine wpAny_bind (wpAny_mono go (fun _ _ f => f.elim) fun e' s'' he' => ?_)
 obtain ⟨h', rfl, hx, a, o, rfl, ho, hc⟩ := he'
 refine wpAny_bind (wpAny_isInstance (T := "StopIteration") (b := true) ⟨o, ho, hc⟩ isSubtype_stop ?_)
 exact wpAny_pure (hQ _ hx)
end
end L2

namespace L2
open PySem PySem.Spec PyProof.Rows
section
variable {X : Cx} {pins : List (Addr × Obj)} {σ : St} {H : Hp} {s : Shared} {h' : Heap}
theorem Inv.turnedNew {e it T : Addr} {o : HO} {t' : Nat} (I : Inv X pins σ H s) (k : ∀ b ob, b ≠ e → b ≠ it → s.heap.get? b = some ob → h'.get? b = some ob) (fe : FpOk X pins H e) (fi : FpOk X pins H it)
 (hT : s.heap.objs.size ≤ T) (new : ObjOk X.prog X.w (upd H T o) h' T o) : Inv X pins σ (upd H T o) { s with heap := h', toks := t' } := by
 have hn : H T = none := I.hok.fresh hT
 have ne2 : ∀ b, b ∉ [e, it] → b ≠ e ∧ b ≠ it := fun b hb => ⟨fun z => hb (by simp [z]), fun z => hb (by simp [z])⟩
 have neT : ∀ b ob, s.heap.get? b = some ob → b ≠ T := fun b ob q => Nat.ne_of_lt (Nat.lt_of_lt_of_le (Heap.lt_size q) hT)
 have nit : ∀ b u, H b = some u → b ≠ e ∧ b ≠ it := fun b u q => ⟨fun z => (by rw [z, fe.1] at q; cases q), fun z => (by rw [z, fi.1] at q; cases q)⟩
 refine I.step (g' := s.gens) (d' := s.drawn) (ch := [e, it]) (fun b hb => ?_) (fun b ob _ _ hc q _ => k b ob (ne2 b hc).1 (ne2 b hc).2 q) (fun b ob _ _ hc q _ => ⟨ob.slots, k b ob (ne2 b hc).1 (ne2 b hc).2 q⟩)
  (fun b ob _ q n => by rw [upd_ne (neT b ob q)]; exact n) (fun b ob hc q => ⟨ob, k b ob (ne2 b hc).1 (ne2 b hc).2 q⟩)
  (fun b xs q => by rw [upd_ne (ne_of_none q hn)]; exact q) (fun b ob u q => by rw [upd_ne (ne_of_none q hn)]; exact q) (fun b ps q => ⟨#[], by rw [upd_ne (ne_of_none q hn), q]; simp⟩) (fun m hm => ?_) (fun b u q => ?_) I.bare
 · rcases List.mem_cons.mp hb with z | z
   · subst z; exact ⟨fe.2.2.2.1, fe.2.1, fe.2.2.2.2.1, fe.2.2.2.2.2⟩
   · have z := List.mem_singleton.mp z
     subst z; exact ⟨fi.2.2.2.1, fi.2.1, fi.2.2.2.2.1, fi.2.2.2.2.2⟩
 · obtain ⟨ob, es, ep, ho, r⟩ := hm
   exact ⟨ob, es, ep, k _ ob (Ne.symm fe.2.1) (Ne.symm fi.2.1) ho, r⟩
 · by_cases hb : b = T
   · subst hb; rw [upd_same] at q; cases q; exact new
   · rw [upd_ne hb] at q
     refine (I.hok b u q).stay (fun c v hc z => ?_) (fun c z => by rw [upd_ne (ne_of_none z hn)]; exact z) fun c xs z => by rw [upd_ne (ne_of_none z hn)]; exact z
     rcases hc with e1 | e1
     · subst e1; exact k _ v (nit _ u q).1 (nit _ u q).2 z
     · exact k c v (nit c _ e1).1 (nit c _ e1).2 z

noncomputable def TsOk (H : Hp) (xs ts : List V) : Prop := ∀ (j : Nat) (t : V), ts[j]? = some t → ∃ x T, xs[j]? = some x ∧ t = .ref T ∧ H T = some (.tup [.int j, x])
theorem enum_loop {A : Around} {R : Result → Shared → Prop} {e it l S : Addr} {xs : List V} {res : Value} (hh : A.handled = none) (hz : xs.length ≤ sizeLine) (hei : e ≠ it) (hel : e ≠ l) (hil : l ≠ it) (H0 : Hp) :
 ∀ (k i : Nat) (s : Shared) (H : Hp) (ts : List V), xs.length - i = k → i ≤ xs.length → Inv X pins σ H s → EnSt s.heap e it i → s.heap.IsListIter it l i → SqL X.K H l xs → H S = some (.lst ts) → ts.length = i → TsOk H xs ts →
   FpOk X pins H e → FpOk X pins H it → l ≠ S → (∀ b o, H0 b = some o → b ≠ S ∧ H b = some o) →
   (∀ (s' : Shared) (H' : Hp) (ts' : List V), Inv X pins σ H' s' → (∀ b o, H0 b = some o → H' b = some o) → H' S = some (.lst ts') → ts'.length = xs.length → TsOk H' xs ts' → R (.ok (.ret res)) s') →
   codeAny (model X.prog X.w) A (.builtin "list.extend.loop" ⟨[.ref S, .ref e, res], []⟩) R s := by
 intro k
 induction k with
 | zero =>
   intro i s H ts hk hi I he hit hl hS hts hok fe fi hlS h0 hR
   have hin : i = xs.length := by omega
   subst hin
   obtain ⟨its, rv, pl, _⟩ := I.list hl
   have hlen : xs.length = its.toArray.size := by rw [List.size_toArray]; exact rv.length
   refine codeAny_builtin F.entry_extend_loop ?_
   rw [Around.under_plainId F.plain_extend_loop _]
   show wpAny _ A.in1 (pyNext (.ref e) >>= _) _ _ s
   have D := Draws.list (prog := X.prog) (w := X.w) (A := A.in1.in1) hh it l hil its.toArray
   rw [hlen] at hit
   refine wpAny_bind (enum_done D he ⟨hit, pl.isList⟩ fun h' hx => ?_)
   have I' : Inv X pins σ H { s with heap := h' } := I.turned (t' := s.toks) (fun b o hb q => hx b o hb q) fi.1 fi.2.1 fi.2.2.2.1 fi.2.2.2.2.1 fi.2.2.2.2.2
   exact wpAny_pure (hR _ H ts I' (fun b o q => (h0 b o q).2) hS hts hok)
 | succ k ih =>
   intro i s H ts hk hi I he hit hl hS hts hok fe fi hlS h0 hR
   have hlt : i < xs.length := by omega
   obtain ⟨its, rv, pl, _⟩ := I.list hl
   have hlen : xs.length = its.toArray.size := by rw [List.size_toArray]; exact rv.length
   refine codeAny_builtin F.entry_extend_loop ?_
   rw [Around.under_plainId F.plain_extend_loop _]
   show wpAny _ A.in1 (pyNext (.ref e) >>= _) _ _ s
   have D := Draws.list (prog := X.prog) (w := X.w) (A := A.in1.in1) hh it l hil its.toArray
   refine wpAny_bind (enum_item D he ⟨hit, pl.isList⟩ (by rw [← hlen]; exact hlt) hei (fun hm => ?_) fun x h' tk hP hen hst' hT hkp => ?_)
   · rcases List.mem_cons.mp hm with z | z
     · exact hei z
     · exact hel (List.mem_singleton.mp z)
   -- the item and its pair
   obtain ⟨xv, hxv⟩ : ∃ xv, xs[i]? = some xv := ⟨xs[i], by simp [hlt]⟩
   obtain ⟨u, hu, ru⟩ := rv.get hxv
   have hux : u = x := by
    have : its.toArray[i]? = some x := hP
    have h2 : its[i]? = some x := by simpa using this
    rw [hu] at h2
    exact Option.some.inj h2
   subst hux
   have hnT : H s.heap.objs.size = none := I.hok.fresh (Nat.le_refl _)
   have I1 : Inv X pins σ (upd H s.heap.objs.size (.tup [.int i, xv])) { s with heap := h', toks := tk + 1 } :=
    I.turnedNew hkp fe fi (Nat.le_refl _) ⟨by show 2 ≤ sizeLine; decide, [.int i tk, u], .cons ⟨_, rfl⟩ (.cons ru .nil), ⟨_, hT, rfl, 0, rfl⟩⟩
   have hS1 : upd H s.heap.objs.size (.tup [.int i, xv]) S = some (.lst ts) := by rw [upd_ne (ne_of_none hS hnT)]; exact hS
   obtain ⟨its1, n1, r1, hS2, hz1⟩ := I1.lst hS1
   have hl1 := r1.length
   show wpAny _ A.in1 (updateSeq S (·.push (.ref s.heap.objs.size)) >>= _) _ _ _
   refine wpAny_bind ?_
   have hsz : its1.toArray.size ≤ sizeLine := by rw [List.size_toArray, ← hl1]; omega
   refine wpAny_updateSeq hS2 rfl (wpAny_pure ⟨plainId_quiet F.plain_extend_loop _, ?_⟩) hsz (by show (its1.toArray.push _).size ≤ sizeLine + 1; rw [Array.size_push]; omega)
   have I2 := I1.lstUpd (f := Obj.mapSeq (·.push (.ref s.heap.objs.size))) (ys := ts ++ [.ref s.heap.objs.size]) (its' := its1 ++ [.ref s.heap.objs.size]) (n' := (match (Obj.mapSeq (·.push (.ref s.heap.objs.size)) { cls := .type "list", data := .seq its1.toArray n1 }).data with | .seq _ n => n | _ => 0)) hS1 hS2
    (by simp [Obj.mapSeq]) (r1.append (.cons rfl .nil)) (by rw [List.length_append, List.length_singleton]; omega) (tk + 1)
   have hdel : S ≠ e := fun z => by rw [z, fe.1] at hS; cases hS
   have hdil : S ≠ it := fun z => by rw [z, fi.1] at hS; cases hS
   have hk2 : ∀ b o, b ≠ S → h'.get? b = some o → (h'.update S (Obj.mapSeq (·.push (.ref s.heap.objs.size)))).get? b = some o := fun b o hb q => (Heap.get?_update_other _ _ (Ne.symm hb)).trans q
   have hen2 : EnSt (h'.update S (Obj.mapSeq (·.push (.ref s.heap.objs.size)))) e it ((i + 1 : Nat) : Int) := by
    have ec : ((i + 1 : Nat) : Int) = (i : Int) + 1 := by push_cast; rfl
    rw [ec]
    rcases hen with ⟨old, q⟩ | ⟨f1, old, a, o, q, qa, q1, q2⟩
    · exact .inl ⟨old, hk2 e _ (Ne.symm hdel) q⟩
    · by_cases hAS : a = S
      · subst hAS
        exact .inr ⟨f1, old, a, _, hk2 e _ (Ne.symm hdel) q, Heap.get?_update_self _ hS2 (by simp [Obj.mapSeq, Obj.isFreed]), q1, q2⟩
      · exact .inr ⟨f1, old, a, o, hk2 e _ (Ne.symm hdel) q, hk2 a o hAS qa, q1, q2⟩
   have hit2 : (h'.update S (Obj.mapSeq (·.push (.ref s.heap.objs.size)))).IsListIter it l (i + 1) := hst'.1.at fun o q => hk2 it o (Ne.symm hdil) q
   have neN : ∀ b, (∃ o, H b = some o) → b ≠ s.heap.objs.size := fun b ⟨o, q⟩ => ne_of_none q hnT
   have fp2 : ∀ b, b ≠ S → b < s.heap.objs.size → FpOk X pins H b → FpOk X pins (upd (upd H s.heap.objs.size (.tup [.int i, xv])) S (.lst (ts ++ [.ref s.heap.objs.size]))) b := fun b hb hb2 f => by
    refine ⟨?_, f.2⟩
    rw [upd_ne hb, upd_ne (Nat.ne_of_lt hb2)]
    exact f.1
   have hel2 : e < s.heap.objs.size := by
    rcases he with ⟨_, q⟩ | ⟨_, _, _, _, q, _⟩
    · exact Heap.lt_size q
    · exact Heap.lt_size q
   have hil2 : it < s.heap.objs.size := by obtain ⟨o, q, _⟩ := hit; exact Heap.lt_size q
   refine ih (i + 1) _ _ (ts ++ [.ref s.heap.objs.size]) (by omega) hlt I2 hen2 hit2 ?_ upd_same (by rw [List.length_append, List.length_singleton, hts]) ?_ (fp2 e (Ne.symm hdel) hel2 fe) (fp2 it (Ne.symm hdil) hil2 fi) hlS ?_ hR
   · rcases hl with (q | ⟨o, q⟩) | q
     · exact .inl (.inl (by rw [upd_ne hlS, upd_ne (ne_of_none q hnT)]; exact q))
     · exact .inl (.inr ⟨o, by rw [upd_ne hlS, upd_ne (ne_of_none q hnT)]; exact q⟩)
     · exact .inr q
   · intro j t hj
     by_cases hji : j < ts.length
     · rw [List.getElem?_append_left hji] at hj
       obtain ⟨x', T, a1, a2, a3⟩ := hok j t hj
       refine ⟨x', T, a1, a2, ?_⟩
       rw [upd_ne (by intro z; rw [z, hS] at a3; cases a3), upd_ne (ne_of_none a3 hnT)]
       exact a3
     · have hj2 : j < (ts ++ [V.ref s.heap.objs.size]).length := (List.getElem?_eq_some_iff.mp hj).1
       rw [List.length_append, List.length_singleton] at hj2
       have ej : j = ts.length := by omega
       subst ej
       rw [List.getElem?_append_right (Nat.le_refl _), Nat.sub_self] at hj
       have ht : t = V.ref s.heap.objs.size := by
        have : ([V.ref s.heap.objs.size] : List V)[0]? = some (V.ref s.heap.objs.size) := rfl
        rw [this] at hj
        exact (Option.some.inj hj).symm
       refine ⟨xv, s.heap.objs.size, by rw [hts]; exact hxv, ht, ?_⟩
       rw [upd_ne (Ne.symm (ne_of_none hS hnT)), upd_same, hts]
   · intro b o q
     obtain ⟨q1, q2⟩ := h0 b o q
     exact ⟨q1, by rw [upd_ne q1, upd_ne (ne_of_none q2 hnT)]; exact q2⟩
end
end L2

namespace L2
open PySem PySem.Spec PyProof.Rows
theorem enum_no_len : typeLookup (.type "enumerate") "__len__" = pure none := by rw [typeLookup_type, builtinLookup_eq_fast]; kernel_rfl
theorem enum_no_hint : typeLookup (.type "enumerate") "__length_hint__" = pure none := by rw [typeLookup_type, builtinLookup_eq_fast]; kernel_rfl
section
variable {X : Cx} {pins : List (Addr × Obj)} {σ : St} {H : Hp} {s : Shared}
theorem call_list_enum {e it l : Addr} {xs : List V} {Q : VK} (hc : X.calm = true) (I : Inv X pins σ H s) (he : IsEnum s.heap e it 0 .none) (hit : s.heap.IsListIter it l 0) (hl : SqL X.K H l xs) (hei : e ≠ it) (hel : e ≠ l) (hil : l ≠ it)
 (fe : FpOk X pins H e) (fi : FpOk X pins H it)
 (q : ∀ (H' : Hp) (L : Addr) (ts : List V), (∀ b o, H b = some o → H' b = some o) → H L = none → H' L = some (.lst ts) → ts.length = xs.length → TsOk H' xs ts → Q (.ref L) H') :
 wpAny (model X.prog X.w) X.A (call (.type "list") [.ref e]) (EP X pins σ Q) X.xe s := by
 have hh : X.A.handled = none := I.ok.hd hc
 obtain ⟨its, rv, pl, hz⟩ := id (I.list hl)
 have hll : l < s.heap.objs.size := by obtain ⟨o, z, _⟩ := pl.isList; exact Heap.lt_size z
 refine callType_codes (Q₁ := fun obj s₁ => obj = .ref s.heap.objs.size ∧ s₁ = { s with heap := s.heap.push { cls := .type "list", data := .seq #[] } }) F.called_list (F.typeCall_list_1 _) F.entry_list_init
  (code_list_new _ ⟨rfl, rfl⟩) fun obj s₁ h₁ => ?_
 obtain ⟨rfl, rfl⟩ := h₁
 have hS : (s.heap.push { cls := .type "list", data := .seq #[] }).get? s.heap.objs.size = some { cls := .type "list", data := .seq #[] } := Heap.get?_push_size _ rfl
 refine ⟨⟨_, hS, rfl⟩, F.args_list_init_2 _ _, ?_⟩
 generalize hSd : s.heap.objs.size = S at *
 have hSe : S ≠ e := by rw [← hSd]; exact Nat.ne_of_gt (Heap.lt_size he)
 have hSl : S ≠ l := Nat.ne_of_gt hll
 have hSi : S ≠ it := by obtain ⟨o, z, _⟩ := hit; rw [← hSd]; exact Nat.ne_of_gt (Heap.lt_size z)
 have up : ∀ b o, s.heap.get? b = some o → b ≠ S ∧ (s.heap.push { cls := .type "list", data := .seq #[] }).get? b = some o := fun b o z => ⟨by rw [← hSd]; exact Nat.ne_of_lt (Heap.lt_size z), Heap.get?_push_of_some _ z⟩
 -- the loop from any heap that keeps what stood
 have key : ∀ (h : Heap) (c : Nat), (∀ b o, s.heap.get? b = some o → h.get? b = some o) → h.get? S = some { cls := .type "list", dict := none, data := .seq #[] c, slots := #[] } →
  codeAny (model X.prog X.w) X.A.in1 (.builtin "list.extend.loop" ⟨[.ref S, .ref e, .none], []⟩) (wants (fun r s₂ => r = .none ∧ EP X pins σ Q (.ref S) s₂) X.xe) { s with heap := h } := by
  intro h c kp hS'
  have hn : H S = none := I.hok.fresh (by rw [hSd]; exact Nat.le_refl _)
  have I1 : Inv X pins σ (upd H S (.lst [])) { s with heap := h } := I.laid (t' := s.toks) kp (by rw [hSd]; exact Nat.le_refl _) ⟨Nat.zero_le _, [], c, .nil, hS'⟩
  have fp : ∀ b, b ≠ S → FpOk X pins H b → FpOk X pins (upd H S (.lst [])) b := fun b hb f => ⟨by rw [upd_ne hb]; exact f.1, f.2⟩
  have hl1 : SqL X.K (upd H S (.lst [])) l xs := by
   rcases hl with (z | ⟨o, z⟩) | z
   · exact .inl (.inl (by rw [upd_ne (Ne.symm hSl)]; exact z))
   · exact .inl (.inr ⟨o, by rw [upd_ne (Ne.symm hSl)]; exact z⟩)
   · exact .inr z
  refine enum_loop (A := X.A.in1) (S := S) (xs := xs) (H0 := H) hh hz hei hel hil _ 0 _ _ [] rfl (Nat.zero_le _) I1 (.inl ⟨_, kp _ _ he⟩) (hit.at fun o z => kp _ o z) hl1 upd_same rfl (fun j t z => by simp at z)
   (fp e (Ne.symm hSe) fe) (fp it (Ne.symm hSi) fi) (Ne.symm hSl) (fun b o z => ⟨ne_of_none z hn, by rw [upd_ne (ne_of_none z hn)]; exact z⟩) fun s' H' ts' I' k' hL' hlen' hts' => ?_
  exact ⟨rfl, .ref S, H', I', rfl, q H' S ts' k' hn hL' hlen' hts'⟩
 show wpAny _ X.A.in1.in1 (do let old ← Builtin.List.listItems (.ref S); Builtin.List.listUpdate (.ref S) (fun _ => #[]); letGo old.toList.reverse; Builtin.List.listExtendWith (.ref S) (.ref e) .none) _ _ _
 refine wpAny_bind ?_
 unfold Builtin.List.listItems
 refine wpAny_bind (wpAny_seqItems hS rfl (wpAny_pure ?_))
 show wpAny _ X.A.in1.in1 (updateSeq S (fun _ => #[]) >>= fun _ => letGo (#[] : Array Value).toList.reverse >>= fun _ => Builtin.List.listExtendWith (.ref S) (.ref e) .none) _ _ _
 refine wpAny_bind (wpAny_updateSeq hS rfl ?_)
 have hS₂ := Heap.get?_update_self (Obj.mapSeq (fun _ => (#[] : Array Value))) hS rfl
 generalize hh1 : (s.heap.push { cls := .type "list", data := .seq #[] }).update S (Obj.mapSeq (fun _ => (#[] : Array Value))) = h1 at hS₂
 have up1 : ∀ b o, s.heap.get? b = some o → h1.get? b = some o := fun b o z => by rw [← hh1]; exact (Heap.get?_update_other _ _ (Ne.symm (up b o z).1)).trans (up b o z).2
 refine wpAny_bind (wpAny_letGo ?_)
 unfold Builtin.List.listExtendWith
 have hT1 : Shared.TypeIs { s with heap := h1 } (.ref e) "enumerate" := ⟨_, up1 _ _ he, rfl⟩
 refine wpAny_bind (wpAny_typeOf hT1 ?_)
 have g1 : Builtin.List.listSameRef (.ref S) (.ref e) = false := by simp [Builtin.List.listSameRef, hSe]
 have g2 : (Value.type "enumerate" == Value.type "list") = false := by decide
 have g3 : (Value.type "enumerate" == Value.type "tuple") = false := by decide
 simp only [g1, g2, g3, Bool.or_false, Bool.false_eq_true, if_false]
 refine wpAny_bind (wpAny_pyIter_enum (s := { s with heap := h1 }) (up1 _ _ he) ?_)
 refine wpAny_bind (wpAny_holding ?_)
 unfold Builtin.List.listLengthHint
 refine wpAny_bind (wpAny_specialOf hT1 enum_no_len ?_)
 show wpAny _ X.A.in1.in1 (specialOf (Value.ref e) (Str.ofString "__length_hint__") >>= _) _ _ _
 refine wpAny_bind (wpAny_specialOf hT1 enum_no_hint ?_)
 refine wpAny_pure ?_
 show wpAny _ X.A.in1.in1 (rule "list.extend.makes-room" >>= fun _ => Builtin.List.listTouch (.ref S) >>= fun _ =>
  again (.builtin "list.extend.loop" ⟨[.ref S, .ref e, .none], []⟩)) _ _ _
 refine wpAny_bind (wpAny_rule ?_)
 refine wpAny_bind ?_
 show wpAny _ X.A.in1.in1 (updateSeq S (·.push .none) >>= fun _ => updateSeq S (·.pop)) _ _ _
 refine wpAny_bind (wpAny_updateSeq hS₂ rfl ?_)
 have hS₃ := Heap.get?_update_self (Obj.mapSeq (·.push Value.none)) hS₂ rfl
 refine wpAny_updateSeq (hz := by seq_fits) hS₃ rfl ?_
 have hS₄ := Heap.get?_update_self (Obj.mapSeq (·.pop)) hS₃ rfl
 refine wpAny_pure ⟨plainId_quiet F.plain_extend_loop _, key _ _ (fun b o z => ?_) hS₄⟩
 exact (Heap.get?_update_other _ _ (Ne.symm (up b o z).1)).trans ((Heap.get?_update_other _ _ (Ne.symm (up b o z).1)).trans (up1 b o z))
end
section
variable {X : Cx}
noncomputable def tLEnum (K : PySem.W.Frag) (ta : TA) : TE := fun σ H Q => ta σ H fun vs H1 => ∃ l xs, vs = [.ref l] ∧ SqL K H1 l xs ∧
 ∀ (H' : Hp) (L : Addr) (ts : List V), (∀ b o, H1 b = some o → H' b = some o) → H1 L = none → H' L = some (.lst ts) → ts.length = xs.length → TsOk H' xs ts → Q (.ref L) H'
theorem pe_lenum {a : Expr} {ta : TA} {p p' pos pos' : Pos} (hc : X.calm = true) (hgL : Gl X "list") (hmL : X.mg "list" = none) (hgE : Gl X "enumerate") (hmE : X.mg "enumerate" = none) (ha : PA X [a] ta)
 (hs : starEach [.Call (.Name "enumerate" p') [a] [] pos'] X.env = [(false, eval (.Call (.Name "enumerate" p') [a] [] pos') X.env)] := by rfl) (hs2 : starEach [a] X.env = [(false, eval a X.env)] := by rfl) :
 PE X (.Call (.Name "list" p) [.Call (.Name "enumerate" p') [a] [] pos'] [] pos) (tLEnum X.K ta) := by
 intro pins s σ H Q I h
 refine wpAny_Call_Name_kw (ld_blt I hgL hmL boot_list ?_ (by decide) (by decide))
 refine PyProof.Rows.callWith_type1 ?_ hs rfl
 rw [hs]
 show wpAny _ _ (spliced ((false, eval (.Call (.Name "enumerate" p') [a] [] pos') X.env) :: backTo pos [])) _ _ s
 refine Calls.spliced_cons ?_
 refine wpAny_Call_Name_kw (ld_blt I hgE hmE boot_enumerate ?_ (by decide) (by decide))
 refine PyProof.Rows.callWith_type1 (thn (ha pos' pins s σ H _ I h) fun us s1 ⟨vs, H1, I1, r1, q1⟩ => ?_) hs2 rfl
 obtain ⟨l, xs, rfl, hl, q⟩ := q1
 obtain ⟨u, rfl, ru⟩ := vals1 r1
 cases ru
 obtain ⟨its, rv, pl, hz⟩ := id (I1.list hl)
 have hll : l < s1.heap.objs.size := by obtain ⟨o, z, _⟩ := pl.isList; exact Heap.lt_size z
 refine call_enumerate_list pl.isList fun h' he hit hsz hk => ?_
 have I2 : Inv X pins σ H1 { s1 with heap := h' } := I1.kept (t' := s1.toks) hk
 refine Calls.spliced_nil ?_
 have nx : ∀ b, s1.heap.objs.size ≤ b → FpOk X pins H1 b := fun b hb => I1.fpOk hb (I1.hok.fresh hb)
 exact call_list_enum hc I2 he hit hl (Nat.succ_ne_self _) (Nat.ne_of_gt (Nat.lt_succ_of_lt hll)) (Nat.ne_of_lt hll) (nx _ (Nat.le_succ _)) (nx _ (Nat.le_refl _)) q
end
end L2


namespace L2
open PySem PySem.Spec PyProof.Rows
theorem ifT {b : Bool} {A B : Prop} (e : b = true) (a : A) : if b = true then A else B := by rw [if_pos e]; exact a
theorem ifF {b : Bool} {A B : Prop} (e : b = false) (h : B) : if b = true then A else B := by rw [e]; exact iteF h
theorem if2 {b : Bool} {A B : Prop} (h1 : b = true → A) (h2 : b = false → B) : if b = true then A else B := by
 cases b with
 | true => exact iteT (h1 rfl)
 | false => exact iteF (h2 rfl)
theorem sz_of {k : Int} (n : Nat) {m : Nat} (h : k.natAbs < 2 ^ n) (l : n ≤ m := by decide) : Sz m k := Sz.mono h l

noncomputable def Wt (Pv : Nat → List V → St → Hp → Prop) (n : Nat) : Nat → Nat → List V → St → Hp → Prop := fun i m ys σ H => m = n - i ∧ i ≤ n ∧ Pv i ys σ H
theorem Wt.next {Pv : Nat → List V → St → Hp → Prop} {n i : Nat} {ys : List V} {σ : St} {H : Hp} (h : i < n) (p : Pv (i + 1) ys σ H) : ∃ m', m' < n - i ∧ Wt Pv n (i + 1) m' ys σ H := ⟨n - (i + 1), by omega, rfl, h, p⟩
section
variable {K : PySem.W.Frag} {a D : Addr} {xs : List V} {g : TG} {tt : TT} {te : TE} {σ0 : St} {H0 : Hp} {Q : VK}
theorem comp_tup (Pv : Nat → List V → St → Hp → Prop) (h0 : Pv 0 [] σ0 H0) (hl : ∀ i ys σ H, Pv i ys σ H → SqT K H a xs ∧ H D = some (.lst ys))
 (hs : ∀ i x ys σ H, xs[i]? = some x → i < xs.length → Pv i ys σ H → g x σ H fun σ3 H3 => tt σ3 H3 fun b H4 => if b = true then
  te σ3 H4 fun y H5 => H5 D = some (.lst ys) ∧ ys.length < sizeLine ∧ ∃ m', m' < xs.length - i ∧ Wt Pv xs.length (i + 1) m' (ys ++ [y]) σ3 (upd H5 D (.lst (ys ++ [y]))) else ∃ m', m' < xs.length - i ∧ Wt Pv xs.length (i + 1) m' ys σ3 H4)
 (hd : ∀ ys σ H, Pv xs.length ys σ H → Q (.ref D) H) :
 CompW (Itt K a) D g tt te Q σ0 H0 := by
 refine ⟨Wt Pv xs.length, ⟨xs.length, rfl, Nat.zero_le _, h0⟩, ?_⟩
 rintro i m ys σ' H' ⟨rfl, hi, p⟩
 obtain ⟨hq, hD⟩ := hl i ys σ' H' p
 refine ⟨hD, ?_⟩
 by_cases hlt : i < xs.length
 · refine .inr ⟨⟨xs, xs[i], hq, by simp [hlt]⟩, fun x H2 y => ?_⟩
   obtain ⟨e, y⟩ := y
   subst e
   exact hs i x ys σ' _ (y xs hq) hlt p
 · have e : i = xs.length := by omega
   subst e
   exact .inl ⟨⟨xs, hq, Nat.le_refl _⟩, hd ys σ' H' p⟩
end

section
variable {X : Cx} {K : PySem.W.Frag}
theorem call_lenK (e : X.K = K) : CallR X (.builtin "len") (fun xs H Q => ∃ p ys, xs = [.ref p] ∧ (SqL K H p ys ∨ SqT K H p ys) ∧ Q (.int ys.length) H) := e ▸ call_len_seq
end

theorem dens_ints (K : PySem.W.Frag) (H : Hp) : ∀ ns : List Int, Dens K H (ns.map Dt.int) (ns.map V.int)
 | [] => by simp only [List.map_nil, Dens]
 | n :: ns => by
   simp only [List.map_cons, Dens]
   exact ⟨_, _, rfl, by simp only [Den], dens_ints K H ns⟩
theorem dep_ints : ∀ ns : List Int, depDs (ns.map Dt.int) = 0
 | [] => rfl
 | n :: ns => by simp only [List.map_cons, depDs, depD, dep_ints ns]; rfl
noncomputable def HandAt (H : Hp) (p : Addr) : Prop := ∃ a b : Int, H p = some (.lst [.int a, .int b]) ∧ 0 ≤ a ∧ 0 ≤ b ∧ b < 2147483587
theorem HandAt.new {H : Hp} {p q : Addr} {o : HO} (h : HandAt H p) (hq : H q = none) : HandAt (upd H q o) p := by
 obtain ⟨a, b, e, r⟩ := h
 exact ⟨a, b, by rw [upd_ne (ne_of_none e hq)]; exact e, r⟩
theorem HandAt.ne {H : Hp} {p q : Addr} (h : HandAt H p) (hq : H q = none) : q ≠ p := by
 obtain ⟨a, b, e, r⟩ := h
 exact (ne_of_none e hq).symm
noncomputable def Kp (p : Addr) (H H' : Hp) : Prop := ∀ b o, H b = some o → b ≠ p → H' b = some o
theorem Kp.trans {p : Addr} {H H1 H2 : Hp} (a : Kp p H H1) (b : Kp p H1 H2) : Kp p H H2 := fun c o h n => b c o (a c o h n) n
theorem Kp.new {p q : Addr} {H : Hp} {o : HO} (hq : H q = none) : Kp p H (upd H q o) := fun b u h _ => by rw [upd_ne (ne_of_none h hq)]; exact h
theorem Kp.set {p : Addr} {H : Hp} {o : HO} : Kp p H (upd H p o) := fun b u h n => by rw [upd_ne n]; exact h
theorem Kp.same {p : Addr} {H H1 : Hp} (h : H p = none) (k : Kp p H H1) : Same H H1 := fun b o e => k b o e (ne_of_none e h)
theorem Same.kp {p : Addr} {H H1 : Hp} (k : Same H H1) : Kp p H H1 := fun b o e _ => k b o e
theorem Same.new {q : Addr} {H : Hp} {o : HO} (hq : H q = none) : Same H (upd H q o) := fun b u h => by rw [upd_ne (ne_of_none h hq)]; exact h
theorem Same.seqT {K : PySem.W.Frag} {H H' : Hp} {a : Addr} {xs : List V} (e : Same H H') (h : SqT K H a xs) : SqT K H' a xs := by
 rcases h with (h | ⟨o, h⟩) | h
 · exact .inl (.inl (e _ _ h))
 · exact .inl (.inr ⟨o, e _ _ h⟩)
 · exact .inr h
noncomputable def AllInt (xs : List V) : Prop := ∀ (j : Nat) (x : V), xs[j]? = some x → ∃ i : Int, x = .int i

noncomputable def spHand : Sp := fun vs H Q _ => ∃ c k : Int, vs = [.int c, .int k] ∧ 0 ≤ k ∧ k < 1000 ∧ ∀ p H', H p = none → HandAt H' p → Same H H' → Q (.ref p) H'
noncomputable def spDraw : Sp := fun vs H Q _ => ∃ (p : Addr) (lim : Int), vs = [.ref p, .int lim] ∧ 0 < lim ∧ lim < 2 ^ 60 ∧ HandAt H p ∧ ∀ (v : Int) (H' : Hp), 0 ≤ v → v < lim → HandAt H' p → Kp p H H' → Q (.int v) H'
noncomputable def spCells (K : PySem.W.Frag) : Sp := fun vs H Q _ => ∃ (a : Addr) (m : Int) (ns : List Int), vs = [.ref a, .int m] ∧ SqL K H a (ns.map V.int) ∧ ns.length ≤ 63 ∧
 ∀ (H' : Hp) (L : Addr) (xs ts : List V), Same H H' → H L = none → H' L = some (.lst ts) → ts.length = xs.length → TsOk H' xs ts → AllInt xs → xs.length ≤ 64 → Q (.ref L) H'
noncomputable def spLaw (K : PySem.W.Frag) : Sp := fun vs H Q _ => ∃ (a : Addr) (ns : List Int), vs = [.ref a] ∧ SqL K H a (ns.map V.int) ∧ ns.length ≤ 63 ∧ ∀ H', Q (.bl true) H'
end L2

namespace L2
open PySem PySem.Spec PyProof.Rows
section
variable {X : Cx}
theorem op_isB : OpR X (compareOp .Is) (fun x y H Q => ∃ a b, x = .bl a ∧ y = .bl b ∧ Q (.bl (a == b)) H) := by
 intro pins s σ H x y v u Q I rx ry h
 obtain ⟨a, b, rfl, rfl, q⟩ := h
 cases rx
 cases ry
 refine wpAny_is_plain rfl ⟨.bl (a == b), H, I, ?_, q⟩
 cases a <;> cases b <;> rfl
theorem op_notB : OpR X (compareOp .IsNot) (fun x y H Q => ∃ a b, x = .bl a ∧ y = .bl b ∧ Q (.bl (!(a == b))) H) := by
 intro pins s σ H x y v u Q I rx ry h
 obtain ⟨a, b, rfl, rfl, q⟩ := h
 cases rx
 cases ry
 refine wpAny_isNot_plain rfl ⟨.bl (!(a == b)), H, I, ?_, q⟩
 cases a <;> cases b <;> rfl
end

noncomputable def tMid (t u : TS) : TS := fun D σ H => ∃ R : St → Hp → Prop, t { D with nx := R } σ H ∧ ∀ σ' H', R σ' H' → u D σ' H'
theorem pss_mid {X : Cx} {st : Stmt} {rest : List Stmt} {t u : TS} (h1 : PS X st t) (h2 : PSs X rest u) : PSs X (st :: rest) (tMid t u) := by
 intro pins s σ H D I h
 obtain ⟨R, h, hR⟩ := h
 refine wpAny_execs_cons (thn (h1 pins s σ H { D with nx := R } I h) fun f s1 q => ?_)
 cases f with
 | next =>
   obtain ⟨σ', H', I', q⟩ := q
   exact h2 pins s1 σ' H' D I' (hR σ' H' q)
 | ret v => exact q
 | brk => exact q
 | cont => exact q

noncomputable def tTupS (t : TA) : TE := fun σ H Q => t σ H fun xs H1 => xs.length ≤ sizeLine ∧ ∀ (p : Addr) (H' : Hp), Same H1 H' → H1 p = none → H' p = some (.tup xs) → Q (.ref p) H'
noncomputable def tLstS (t : TA) : TE := fun σ H Q => t σ H fun xs H1 => xs.length ≤ sizeLine ∧ ∀ (p : Addr) (H' : Hp), Same H1 H' → H1 p = none → H' p = some (.lst xs) → Q (.ref p) H'
section
variable {X : Cx} {es : List Expr} {t : TA} {pos : Pos}
theorem pe_tupS {x1} (h : PA X es t) : PE X (.Tuple es x1 pos) (tTupS t) := by
 intro pins s σ H Q I hq
 refine wpAny_Tuple_spliced (thn (h pos pins s σ H _ I hq) fun us s1 ⟨xs, H1, I1, r, z, q⟩ => ⟨by rw [← r.length]; exact z, ?_⟩)
 have hf : H1 s1.heap.objs.size = none := I1.hok.fresh (Nat.le_refl _)
 refine ⟨.ref s1.heap.objs.size, upd H1 s1.heap.objs.size (.tup xs), I1.laid (t' := s1.toks) (fun b u e => Heap.get?_push_of_some _ e) (Nat.le_refl _) ?_, rfl, q _ _ (Same.new hf) hf upd_same⟩
 exact ⟨z, us, r, ⟨_, Heap.get?_push_size _ rfl, rfl, _, rfl⟩⟩
theorem pe_lstS (h : PA X es t) : PE X (.List es pos) (tLstS t) := by
 intro pins s σ H Q I hq
 refine wpAny_List_spliced (thn (h pos pins s σ H _ I hq) fun us s1 ⟨xs, H1, I1, r, z, q⟩ => ⟨by rw [← r.length]; exact z, ?_⟩)
 have hf : H1 s1.heap.objs.size = none := I1.hok.fresh (Nat.le_refl _)
 refine ⟨.ref s1.heap.objs.size, upd H1 s1.heap.objs.size (.lst xs), I1.laid (t' := s1.toks) (fun b u e => Heap.get?_push_of_some _ e) (Nat.le_refl _) ?_, rfl, q _ _ (Same.new hf) hf upd_same⟩
 exact ⟨z, us, 0, r, Heap.get?_push_size _ rfl⟩
end
end L2

namespace Srt
open PySem PySem.W PyProof.Rows
noncomputable def run {α : Type} (lt : Nat → Nat → Bool) : KasT α → α
 | .ret a => a
 | .ask i j k => run lt (k (lt i j))
theorem run_bind {α β : Type} (lt : Nat → Nat → Bool) (f : α → KasT β) : ∀ t : KasT α, run lt (t.bind f) = run lt (f (run lt t))
 | .ret _ => rfl
 | .ask i j k => by
   show run lt ((k (lt i j)).bind f) = _
   rw [run_bind lt f (k (lt i j))]
   rfl
noncomputable def e (p : Array Nat) (k : Nat) : Nat := p.getD k 0
theorem e_of {p q : Array Nat} {i k : Nat} (h : p[i]? = q[k]?) : e p i = e q k := by
 have h1 : p.getD i 0 = (p[i]?).getD 0 := by simp [Array.getD_eq_getD_getElem?]
 have h2 : q.getD k 0 = (q[k]?).getD 0 := by simp [Array.getD_eq_getD_getElem?]
 show p.getD i 0 = q.getD k 0
 rw [h1, h2, h]
theorem e_rev_in {p : Array Nat} {i j k : Nat} (hj : j ≤ p.size) (h1 : i ≤ k) (h2 : k < j) : e (kas_rev p i j) k = e p (i + j - 1 - k) := by
 unfold kas_rev
 refine e_of ?_
 rw [getElem?_mirror hj ((j - i) / 2) (by omega) k]
 split
 · rfl
 · rename_i h
   have : i + j - 1 - k = k := by omega
   rw [this]
theorem e_rev_out {p : Array Nat} {i j k : Nat} (hj : j ≤ p.size) (h : k < i ∨ j ≤ k) : e (kas_rev p i j) k = e p k := by
 unfold kas_rev
 refine e_of ?_
 rw [getElem?_mirror hj ((j - i) / 2) (by omega) k]
 split
 · omega
 · rfl
theorem e_bub {p : Array Nat} {k l i : Nat} (hk : k < p.size) (hl : l ≤ k) : e (bubble p k (k - l)) i = if i = l then e p k else if l < i ∧ i ≤ k then e p (i - 1) else e p i := by
 have h := getElem?_bubble hk (k - l) (by omega) i
 have h3 : k - (k - l) = l := by omega
 rw [h3] at h
 split
 · rename_i hi
   rw [if_pos hi] at h
   exact e_of h
 · rename_i hi
   rw [if_neg hi] at h
   split
   · rename_i h2
     rw [if_pos h2] at h
     exact e_of h
   · rename_i h2
     rw [if_neg h2] at h
     exact e_of h
theorem rev_size (p : Array Nat) (i j : Nat) : (kas_rev p i j).size = p.size := mirror_size _ _ _ _
theorem rev_perm (p : Array Nat) (i j : Nat) : (kas_rev p i j).Perm p := mirror_perm _ _ _ _
structure Ord (lt : Nat → Nat → Bool) : Prop where
 asym : ∀ i j, lt i j = true → lt j i = false
 trans : ∀ i j k, lt j i = false → lt k j = false → lt k i = false
section
variable {lt : Nat → Nat → Bool} (O : Ord lt)
noncomputable def Up (lt : Nat → Nat → Bool) (p : Array Nat) (b : Nat) : Prop := ∀ k, 1 ≤ k → k < b → lt (e p k) (e p (k - 1)) = false
noncomputable def Down (lt : Nat → Nat → Bool) (p : Array Nat) (b : Nat) : Prop := ∀ k, 1 ≤ k → k < b → lt (e p (k - 1)) (e p k) = false
noncomputable def Alike (lt : Nat → Nat → Bool) (p : Array Nat) (a b : Nat) : Prop := ∀ i j, a ≤ i → i < b → a ≤ j → j < b → lt (e p i) (e p j) = false
include O
theorem irr (i : Nat) : lt i i = false := by
 cases h : lt i i with
 | false => rfl
 | true => rw [O.asym i i h] at h; cases h
theorem Up.pair {p : Array Nat} {b : Nat} (h : Up lt p b) : ∀ d i, i + d < b → lt (e p (i + d)) (e p i) = false
 | 0, i, _ => irr O _
 | d + 1, i, hb => O.trans _ _ _ (Up.pair h d i (by omega)) (by
     have := h (i + (d + 1)) (by omega) hb
     rw [show i + (d + 1) - 1 = i + d by omega] at this
     exact this)
theorem Up.le {p : Array Nat} {b i j : Nat} (h : Up lt p b) (hij : i ≤ j) (hj : j < b) : lt (e p j) (e p i) = false := by
 have := Up.pair O h (j - i) i (by omega)
 rw [show i + (j - i) = j by omega] at this
 exact this
theorem asc_ok {p : Array Nat} : ∀ (f n : Nat), 1 ≤ n → Up lt p n → n ≤ run lt (kas_asc p f n) ∧ run lt (kas_asc p f n) ≤ n + f ∧ Up lt p (run lt (kas_asc p f n)) ∧ (run lt (kas_asc p f n) < n + f → lt (e p (run lt (kas_asc p f n))) (e p (run lt (kas_asc p f n) - 1)) = true)
 | 0, n, h1, h => ⟨Nat.le_refl _, Nat.le_refl _, h, fun z => absurd z (Nat.lt_irrefl _)⟩
 | f + 1, n, h1, h => by
   have er : run lt (kas_asc p (f + 1) n) = run lt (if lt (e p n) (e p (n - 1)) = true then KasT.ret n else kas_asc p f (n + 1)) := rfl
   cases c : lt (e p n) (e p (n - 1)) with
   | true =>
     rw [er, c, if_pos rfl]
     exact ⟨Nat.le_refl _, Nat.le_add_right _ _, h, fun _ => c⟩
   | false =>
     rw [er, c, if_neg Bool.false_ne_true]
     obtain ⟨a1, a2, a3, a4⟩ := asc_ok (p := p) f (n + 1) (by omega) (fun k k1 k2 => by
      by_cases hk : k < n
      · exact h k k1 hk
      · have : k = n := by omega
        subst this; exact c)
     exact ⟨by omega, by omega, a3, fun z => a4 (by omega)⟩
theorem Down.rev {p : Array Nat} {a b n : Nat} (hn : n ≤ p.size) (hb : b ≤ n) (h : Down lt p n) (al : Alike lt p a b) : Down lt (kas_rev p a b) n := by
 intro k k1 k2
 have hj : b ≤ p.size := Nat.le_trans hb hn
 -- any place of the block answers as any other one of it
 by_cases i1 : a ≤ k ∧ k < b
 · by_cases i0 : a ≤ k - 1 ∧ k - 1 < b
   · rw [e_rev_in hj i1.1 i1.2, e_rev_in hj i0.1 i0.2]
     exact al _ _ (by omega) (by omega) (by omega) (by omega)
   · rw [e_rev_in (k := k) hj i1.1 i1.2, e_rev_out (k := k - 1) hj (by omega)]
     have ek : k = a := by omega
     have h1 := h k k1 k2
     have h2 := al (a + b - 1 - k) k (by omega) (by omega) i1.1 i1.2
     have h3 := al k (a + b - 1 - k) i1.1 i1.2 (by omega) (by omega)
     exact O.trans _ _ _ h3 h1
 · by_cases i0 : a ≤ k - 1 ∧ k - 1 < b
   · rw [e_rev_out (k := k) hj (by omega), e_rev_in (k := k - 1) hj i0.1 i0.2]
     have h1 := h k k1 k2
     have h2 := al (a + b - 1 - (k - 1)) (k - 1) (by omega) (by omega) i0.1 i0.2
     exact O.trans _ _ _ h1 h2
   · rw [e_rev_out (k := k) hj (by omega), e_rev_out (k := k - 1) hj (by omega)]
     exact h k k1 k2
theorem desc_ok : ∀ (f : Nat) (p : Array Nat) (n q : Nat), n + f ≤ p.size → q + 1 ≤ n → Down lt p n → Alike lt p (n - (q + 1)) n →
 (run lt (kas_desc f p n q)).1.size = p.size ∧ (run lt (kas_desc f p n q)).1.Perm p ∧ n ≤ (run lt (kas_desc f p n q)).2.1 ∧ (run lt (kas_desc f p n q)).2.1 ≤ n + f ∧ (run lt (kas_desc f p n q)).2.2 + 1 ≤ (run lt (kas_desc f p n q)).2.1 ∧
 Down lt (run lt (kas_desc f p n q)).1 (run lt (kas_desc f p n q)).2.1 ∧ Alike lt (run lt (kas_desc f p n q)).1 ((run lt (kas_desc f p n q)).2.1 - ((run lt (kas_desc f p n q)).2.2 + 1)) (run lt (kas_desc f p n q)).2.1
 | 0, p, n, q, hz, hq, hd, ha => ⟨rfl, Array.Perm.refl _, Nat.le_refl _, Nat.le_refl _, hq, hd, ha⟩
 | f + 1, p, n, q, hz, hq, hd, ha => by
   have er : run lt (kas_desc (f + 1) p n q) = run lt (if lt (e p n) (e p (n - 1)) = true then (if q > 0 then kas_desc f (kas_rev p (n - (q + 1)) n) (n + 1) 0 else kas_desc f p (n + 1) 0)
    else .ask (e p (n - 1)) (e p n) fun d => if d = true then .ret (p, n, q) else kas_desc f p (n + 1) (q + 1)) := rfl
   have one : ∀ (p' : Array Nat), Alike lt p' (n + 1 - (0 + 1)) (n + 1) := fun p' i j i1 i2 j1 j2 => by
    have e1 : i = n := by omega
    have e2 : j = n := by omega
    subst e1 e2; exact irr O _
   cases c : lt (e p n) (e p (n - 1)) with
   | true =>
     rw [er, c, if_pos rfl]
     by_cases q0 : q > 0
     · rw [if_pos q0]
       have hs := rev_size p (n - (q + 1)) n
       have d1 : Down lt (kas_rev p (n - (q + 1)) n) n := Down.rev O (by omega) (Nat.le_refl _) hd ha
       have d2 : Down lt (kas_rev p (n - (q + 1)) n) (n + 1) := fun k k1 k2 => by
        by_cases hk : k < n
        · exact d1 k k1 hk
        · have ek : k = n := by omega
          subst ek
          rw [e_rev_out (k := k) (by omega) (Or.inr (Nat.le_refl _)), e_rev_in (k := k - 1) (by omega) (by omega) (by omega)]
          have h1 := ha (k - 1) (k - (q + 1) + k - 1 - (k - 1)) (by omega) (by omega) (by omega) (by omega)
          have h2 := ha (k - (q + 1) + k - 1 - (k - 1)) (k - 1) (by omega) (by omega) (by omega) (by omega)
          exact O.trans _ _ _ (O.asym _ _ c) h2
       obtain ⟨a1, a2, a3, a4, a5, a6, a7⟩ := desc_ok f (kas_rev p (n - (q + 1)) n) (n + 1) 0 (by omega) (by omega) d2 (one _)
       exact ⟨a1.trans hs, a2.trans (rev_perm ..), by omega, by omega, a5, a6, a7⟩
     · rw [if_neg q0]
       have d2 : Down lt p (n + 1) := fun k k1 k2 => by
        by_cases hk : k < n
        · exact hd k k1 hk
        · have ek : k = n := by omega
          subst ek
          exact O.asym _ _ c
       obtain ⟨a1, a2, a3, a4, a5, a6, a7⟩ := desc_ok f p (n + 1) 0 (by omega) (by omega) d2 (one _)
       exact ⟨a1, a2, by omega, by omega, a5, a6, a7⟩
   | false =>
     rw [er, c, if_neg Bool.false_ne_true]
     have er2 : run lt (KasT.ask (e p (n - 1)) (e p n) fun d => if d = true then KasT.ret (p, n, q) else kas_desc f p (n + 1) (q + 1)) = run lt (if lt (e p (n - 1)) (e p n) = true then KasT.ret (p, n, q) else kas_desc f p (n + 1) (q + 1)) := rfl
     rw [er2]
     cases c2 : lt (e p (n - 1)) (e p n) with
     | true =>
       rw [if_pos rfl]
       exact ⟨rfl, Array.Perm.refl _, Nat.le_refl _, Nat.le_add_right _ _, hq, hd, ha⟩
     | false =>
       rw [if_neg Bool.false_ne_true]
       have d2 : Down lt p (n + 1) := fun k k1 k2 => by
        by_cases hk : k < n
        · exact hd k k1 hk
        · have ek : k = n := by omega
          subst ek
          exact c2
       have al2 : Alike lt p (n + 1 - (q + 1 + 1)) (n + 1) := fun i j i1 i2 j1 j2 => by
        by_cases hi : i < n
        · by_cases hj : j < n
          · exact ha i j (by omega) hi (by omega) hj
          · have ej : j = n := by omega
            subst ej
            exact O.trans _ _ _ c2 (ha i (j - 1) (by omega) hi (by omega) (by omega))
        · have ei : i = n := by omega
          subst ei
          by_cases hj : j < i
          · exact O.trans _ _ _ (ha (i - 1) j (by omega) (by omega) (by omega) hj) c
          · have ej : j = i := by omega
            subst ej; exact irr O _
       obtain ⟨a1, a2, a3, a4, a5, a6, a7⟩ := desc_ok f p (n + 1) (q + 1) (by omega) (by omega) d2 al2
       exact ⟨a1, a2, by omega, by omega, a5, a6, a7⟩
theorem Down.up {p : Array Nat} {n : Nat} (hn : n ≤ p.size) (h : Down lt p n) : Up lt (kas_rev p 0 n) n := fun k k1 k2 => by
 rw [e_rev_in (k := k) hn (Nat.zero_le _) k2, e_rev_in (k := k - 1) hn (Nat.zero_le _) (by omega)]
 have := h (0 + n - 1 - (k - 1)) (by omega) (by omega)
 rw [show 0 + n - 1 - (k - 1) - 1 = 0 + n - 1 - k by omega] at this
 exact this
theorem tail3_ok {p : Array Nat} {n nrem : Nat} (h1 : 1 ≤ n) (hn : n ≤ nrem) (hz : nrem ≤ p.size) (h : Down lt p n) :
 (run lt (kas_tail3 n nrem p)).2.size = p.size ∧ (run lt (kas_tail3 n nrem p)).2.Perm p ∧ 1 ≤ (run lt (kas_tail3 n nrem p)).1 ∧ (run lt (kas_tail3 n nrem p)).1 ≤ nrem ∧ Up lt (run lt (kas_tail3 n nrem p)).2 (run lt (kas_tail3 n nrem p)).1 := by
 have er : run lt (kas_tail3 n nrem p) = (run lt (kas_asc (kas_rev p 0 n) (nrem - n) n), kas_rev p 0 n) := by
  unfold kas_tail3
  rw [run_bind]; rfl
 rw [er]
 obtain ⟨a1, a2, a3, _⟩ := asc_ok O (p := kas_rev p 0 n) (nrem - n) n h1 (Down.up O (by omega) h)
 exact ⟨rev_size .., rev_perm .., by show 1 ≤ run lt _; omega, by show run lt _ ≤ nrem; omega, a3⟩
theorem descPart_ok {p : Array Nat} {n nrem : Nat} (h1 : 1 ≤ n) (hn : n + 1 ≤ nrem) (hz : nrem ≤ p.size) (h : Down lt p (n + 1)) :
 (run lt (kas_descPart n nrem p)).2.size = p.size ∧ (run lt (kas_descPart n nrem p)).2.Perm p ∧ 1 ≤ (run lt (kas_descPart n nrem p)).1 ∧ (run lt (kas_descPart n nrem p)).1 ≤ nrem ∧ Up lt (run lt (kas_descPart n nrem p)).2 (run lt (kas_descPart n nrem p)).1 := by
 have one : Alike lt p (n + 1 - (0 + 1)) (n + 1) := fun i j i1 i2 j1 j2 => by
  have e1 : i = n := by omega
  have e2 : j = n := by omega
  subst e1 e2; exact irr O _
 obtain ⟨a1, a2, a3, a4, a5, a6, a7⟩ := desc_ok O (nrem - (n + 1)) p (n + 1) 0 (by omega) (by omega) h one
 have er : run lt (kas_descPart n nrem p) = run lt (if (run lt (kas_desc (nrem - (n + 1)) p (n + 1) 0)).2.2 > 0 then kas_tail3 (run lt (kas_desc (nrem - (n + 1)) p (n + 1) 0)).2.1 nrem (kas_rev (run lt (kas_desc (nrem - (n + 1)) p (n + 1) 0)).1 ((run lt (kas_desc (nrem - (n + 1)) p (n + 1) 0)).2.1 - ((run lt (kas_desc (nrem - (n + 1)) p (n + 1) 0)).2.2 + 1)) (run lt (kas_desc (nrem - (n + 1)) p (n + 1) 0)).2.1)
  else kas_tail3 (run lt (kas_desc (nrem - (n + 1)) p (n + 1) 0)).2.1 nrem (run lt (kas_desc (nrem - (n + 1)) p (n + 1) 0)).1) := by
  unfold kas_descPart
  rw [run_bind]
 rw [er]
 generalize run lt (kas_desc (nrem - (n + 1)) p (n + 1) 0) = r at *
 split
 · have hs := rev_size r.1 (r.2.1 - (r.2.2 + 1)) r.2.1
   obtain ⟨b1, b2, b3, b4, b5⟩ := tail3_ok O (p := kas_rev r.1 (r.2.1 - (r.2.2 + 1)) r.2.1) (n := r.2.1) (nrem := nrem) (by omega) (by omega) (by rw [hs, a1]; exact hz) (Down.rev O (by omega) (Nat.le_refl _) a6 a7)
   exact ⟨b1.trans (hs.trans a1), b2.trans ((rev_perm ..).trans a2), b3, b4, b5⟩
 · obtain ⟨b1, b2, b3, b4, b5⟩ := tail3_ok O (p := r.1) (n := r.2.1) (nrem := nrem) (by omega) (by omega) (by rw [a1]; exact hz) a6
   exact ⟨b1.trans a1, b2.trans a2, b3, b4, b5⟩
theorem count_ok {p : Array Nat} {nrem : Nat} (h2 : 1 ≤ nrem) (hz : nrem ≤ p.size) :
 (run lt (kas_count nrem p)).2.size = p.size ∧ (run lt (kas_count nrem p)).2.Perm p ∧ 1 ≤ (run lt (kas_count nrem p)).1 ∧ (run lt (kas_count nrem p)).1 ≤ nrem ∧ Up lt (run lt (kas_count nrem p)).2 (run lt (kas_count nrem p)).1 := by
 obtain ⟨a1, a2, a3, a4⟩ := asc_ok O (p := p) (nrem - 1) 1 (Nat.le_refl _) (fun k k1 k2 => by omega)
 have er : run lt (kas_count nrem p) = run lt (if (run lt (kas_asc p (nrem - 1) 1) == nrem) = true then KasT.ret (run lt (kas_asc p (nrem - 1) 1), p) else if run lt (kas_asc p (nrem - 1) 1) > 1 then
  .ask (e p 0) (e p (run lt (kas_asc p (nrem - 1) 1) - 1)) fun c => if c = true then .ret (run lt (kas_asc p (nrem - 1) 1), p) else kas_descPart (run lt (kas_asc p (nrem - 1) 1)) nrem (kas_rev p 0 (run lt (kas_asc p (nrem - 1) 1)))
  else kas_descPart (run lt (kas_asc p (nrem - 1) 1)) nrem p) := by
  unfold kas_count
  rw [run_bind]
  rfl
 rw [er]
 generalize run lt (kas_asc p (nrem - 1) 1) = n at *
 split
 · exact ⟨rfl, Array.Perm.refl _, a1, by show n ≤ nrem; omega, a3⟩
 · rename_i hne
   have hne' : n ≠ nrem := fun z => hne (by simp [z])
   have hlt := a4 (by omega)
   split
   · rename_i hn1
     have er2 : run lt (KasT.ask (e p 0) (e p (n - 1)) fun c => if c = true then KasT.ret (n, p) else kas_descPart n nrem (kas_rev p 0 n)) = run lt (if lt (e p 0) (e p (n - 1)) = true then KasT.ret (n, p) else kas_descPart n nrem (kas_rev p 0 n)) := rfl
     rw [er2]
     cases c : lt (e p 0) (e p (n - 1)) with
     | true =>
       rw [if_pos rfl]
       exact ⟨rfl, Array.Perm.refl _, a1, by show n ≤ nrem; omega, a3⟩
     | false =>
       rw [if_neg Bool.false_ne_true]
       -- all of the run are alike
       have al : Alike lt p 0 n := fun i j _ i2 _ j2 => by
        have h1 := Up.le O a3 (Nat.zero_le j) j2
        have h2 := Up.le O a3 (show i ≤ n - 1 by omega) (by omega)
        have h3 := Up.le O a3 (show j ≤ n - 1 by omega) (by omega)
        have h4 := Up.le O a3 (Nat.zero_le i) i2
        -- e i ≤ e (n-1) ≤ e 0 ≤ e j
        exact O.trans _ _ _ (O.trans _ _ _ h3 c) h4
       have hs := rev_size p 0 n
       have dn : Down lt p n := fun k k1 k2 => al _ _ (Nat.zero_le _) (by omega) (Nat.zero_le _) k2
       have d1 : Down lt (kas_rev p 0 n) (n + 1) := fun k k1 k2 => by
        by_cases hk : k < n
        · exact Down.rev O (by omega) (Nat.le_refl _) dn al k k1 hk
        · have ek : k = n := by omega
          subst ek
          rw [e_rev_out (k := k) (by omega) (Or.inr (Nat.le_refl _)), e_rev_in (k := k - 1) (by omega) (Nat.zero_le _) (by omega)]
          have h1 := al (0 + k - 1 - (k - 1)) (k - 1) (Nat.zero_le _) (by omega) (Nat.zero_le _) (by omega)
          exact O.trans _ _ _ (O.asym _ _ hlt) h1
       obtain ⟨b1, b2, b3, b4, b5⟩ := descPart_ok O (p := kas_rev p 0 n) (n := n) (nrem := nrem) a1 (by omega) (by rw [hs]; exact hz) d1
       exact ⟨b1.trans hs, b2.trans (rev_perm ..), b3, b4, b5⟩
   · have en : n = 1 := by omega
     subst en
     have d1 : Down lt p 2 := fun k k1 k2 => by
      have ek : k = 1 := by omega
      subst ek
      exact O.asym _ _ hlt
     exact descPart_ok O (p := p) (n := 1) (nrem := nrem) (Nat.le_refl _) (by omega) hz d1
theorem place_ok {p : Array Nat} {k : Nat} (h : Up lt p k) : ∀ (f l r : Nat), r ≤ l + f → l ≤ r → r ≤ k → (∀ i, i < l → lt (e p k) (e p i) = false) → (∀ i, r ≤ i → i < k → lt (e p k) (e p i) = true) →
 run lt (kas_place p k f l r) ≤ k ∧ (∀ i, i < run lt (kas_place p k f l r) → lt (e p k) (e p i) = false) ∧ (∀ i, run lt (kas_place p k f l r) ≤ i → i < k → lt (e p k) (e p i) = true)
 | 0, l, r, h1, h2, h3, h4, h5 => by
   have : r = l := by omega
   subst this
   exact ⟨h3, h4, h5⟩
 | f + 1, l, r, h1, h2, h3, h4, h5 => by
   have er : run lt (kas_place p k (f + 1) l r) = run lt (if l ≥ r then KasT.ret l else KasT.ask (e p k) (e p ((l + r) / 2)) fun c => if c = true then kas_place p k f l ((l + r) / 2) else kas_place p k f ((l + r) / 2 + 1) r) := rfl
   rw [er]
   by_cases hlr : l ≥ r
   · rw [if_pos hlr]
     have : r = l := by omega
     subst this
     exact ⟨h3, h4, h5⟩
   · rw [if_neg hlr]
     have er2 : run lt (KasT.ask (e p k) (e p ((l + r) / 2)) fun c => if c = true then kas_place p k f l ((l + r) / 2) else kas_place p k f ((l + r) / 2 + 1) r) = run lt (if lt (e p k) (e p ((l + r) / 2)) = true then kas_place p k f l ((l + r) / 2) else kas_place p k f ((l + r) / 2 + 1) r) := rfl
     rw [er2]
     cases c : lt (e p k) (e p ((l + r) / 2)) with
     | true =>
       rw [if_pos rfl]
       refine place_ok h f l ((l + r) / 2) (by omega) (by omega) (by omega) h4 fun i i1 i2 => ?_
       -- pivot < mid ≤ e i
       cases d : lt (e p k) (e p i) with
       | true => rfl
       | false =>
         have := O.trans _ _ _ (Up.le O h i1 i2) d
         rw [c] at this
         cases this
     | false =>
       rw [if_neg Bool.false_ne_true]
       refine place_ok h f ((l + r) / 2 + 1) r (by omega) (by omega) h3 (fun i i1 => ?_) h5
       exact O.trans _ _ _ (Up.le O h (show i ≤ (l + r) / 2 by omega) (by omega)) c
theorem bin_ok : ∀ (f : Nat) (p : Array Nat) (k : Nat), k + f ≤ p.size → 1 ≤ k → Up lt p k → (run lt (kas_bin f p k)).Perm p ∧ Up lt (run lt (kas_bin f p k)) (k + f)
 | 0, p, k, _, _, h => ⟨Array.Perm.refl _, h⟩
 | f + 1, p, k, hz, h1, h => by
   have er : run lt (kas_bin (f + 1) p k) = run lt (kas_bin f (bubble p k (k - run lt (kas_place p k k 0 k))) (k + 1)) := by
    show run lt ((kas_place p k k 0 k).bind fun l => kas_bin f (bubble p k (k - l)) (k + 1)) = _
    rw [run_bind]
   rw [er]
   obtain ⟨a1, a2, a3⟩ := place_ok O h k 0 k (by omega) (Nat.zero_le _) (Nat.le_refl _) (fun i hi => absurd hi (Nat.not_lt_zero _)) (fun i h1 h2 => by omega)
   generalize run lt (kas_place p k k 0 k) = l at *
   have hk : k < p.size := by omega
   have up : Up lt (bubble p k (k - l)) (k + 1) := fun j j1 j2 => by
    rw [e_bub hk a1, e_bub hk a1]
    by_cases c1 : j = l
    · rw [if_pos c1, if_neg (by omega), if_neg (by omega)]
      exact a2 _ (by omega)
    · rw [if_neg c1]
      by_cases c2 : j - 1 = l
      · rw [if_pos c2, if_pos (by omega)]
        exact O.asym _ _ (a3 _ (by omega) (by omega))
      · rw [if_neg c2]
        by_cases c3 : l < j - 1 ∧ j - 1 ≤ k
        · rw [if_pos c3, if_pos (by omega)]
          exact h (j - 1) (by omega) (by omega)
        · rw [if_neg c3, if_neg (by omega)]
          exact h j j1 (by omega)
   obtain ⟨b1, b2⟩ := bin_ok f (bubble p k (k - l)) (k + 1) (by rw [bubble_size]; omega) (by omega) up
   refine ⟨b1.trans (bubble_perm ..), ?_⟩
   rw [show k + (f + 1) = k + 1 + f by omega]
   exact b2
theorem sort_ok {n : Nat} (hn : 1 ≤ n) : (run lt (kas_sort n)).toList.Perm (List.range n) ∧ Up lt (run lt (kas_sort n)) n := by
 have hz : n ≤ (List.toArray (List.range n)).size := by simp
 obtain ⟨a1, a2, a3, a4, a5⟩ := count_ok O (p := List.toArray (List.range n)) hn hz
 have er : run lt (kas_sort n) = run lt (if (run lt (kas_count n (List.toArray (List.range n)))).1 < n then kas_bin (n - max (run lt (kas_count n (List.toArray (List.range n)))).1 1) (run lt (kas_count n (List.toArray (List.range n)))).2 (max (run lt (kas_count n (List.toArray (List.range n)))).1 1) else .ret (run lt (kas_count n (List.toArray (List.range n)))).2) := by
  unfold kas_sort
  rw [run_bind]
 rw [er]
 generalize run lt (kas_count n (List.toArray (List.range n))) = r at *
 have hm : max r.1 1 = r.1 := by omega
 rw [hm]
 have hsz : r.2.size = n := by rw [a1]; simp
 split
 · obtain ⟨b1, b2⟩ := bin_ok O (n - r.1) r.2 r.1 (by omega) a3 a5
   refine ⟨(b1.trans a2).toList, ?_⟩
   rw [show r.1 + (n - r.1) = n by omega] at b2
   exact b2
 · have e1 : r.1 = n := by omega
   refine ⟨a2.toList, ?_⟩
   rw [e1] at a5
   exact a5
end
end Srt

namespace Srt
open PySem PySem.W PyProof.Rows
noncomputable def Asks {α : Type} (n : Nat) : KasT α → (α → Prop) → Prop
 | .ret a, Q => Q a
 | .ask i j k, Q => i < n ∧ j < n ∧ ∀ b, Asks n (k b) Q
theorem Asks.bind {α β : Type} {n : Nat} {f : α → KasT β} {Q : β → Prop} : ∀ {t : KasT α}, Asks n t (fun a => Asks n (f a) Q) → Asks n (t.bind f) Q
 | .ret _, h => h
 | .ask _ _ _, h => ⟨h.1, h.2.1, fun b => Asks.bind (h.2.2 b)⟩
theorem run_wp' {α : Type} {n : Nat} (lt : Nat → Nat → Bool) {cmp : Nat → Nat → (Bool → Shared → Prop) → Shared → Prop} {P : Shared → Prop} (h : ∀ i j (C : Bool → Shared → Prop) s, i < n → j < n → P s → (∀ s', P s' → C (lt i j) s') → cmp i j C s)
 {Q : α → Shared → Prop} {T : α → Prop} : ∀ (t : KasT α) (s : Shared), Asks n t T → P s → (∀ s', P s' → Q (run lt t) s') → t.kasWp cmp Q s
 | .ret a, s, _, p, q => q s p
 | .ask i j k, s, a, p, q => h i j _ s a.1 a.2.1 p fun s' p' => run_wp' lt h (k (lt i j)) s' (a.2.2 _) p' q
noncomputable def AllLt (n : Nat) (p : Array Nat) : Prop := ∀ k, p.getD k 0 < n
theorem AllLt.perm {n : Nat} {p q : Array Nat} (hn : 0 < n) (h : AllLt n p) (pm : q.Perm p) : AllLt n q := fun k => by
 by_cases hk : k < q.size
 · have e1 : q.getD k 0 = q[k] := by simp [Array.getD, hk]
   rw [e1]
   have hm : q[k] ∈ q := Array.getElem_mem hk
   have hm2 : q[k] ∈ p := by
    have := pm.toList.mem_iff (a := q[k])
    simpa using this.mp (by simpa using hm)
   obtain ⟨j, hj, e2⟩ := Array.mem_iff_getElem.mp hm2
   have := h j
   have e3 : p.getD j 0 = p[j] := by simp [Array.getD, hj]
   rw [e3, e2] at this
   exact this
 · have e1 : q.getD k 0 = 0 := by simp [Array.getD, hk]
   rw [e1]; exact hn
section
variable {n : Nat} (hn : 0 < n)
include hn
theorem asc_asks {p : Array Nat} (h : AllLt n p) : ∀ f m, Asks n (kas_asc p f m) (fun _ => True)
 | 0, _ => trivial
 | f + 1, m => ⟨h _, h _, fun b => by
     cases b with
     | true => exact trivial
     | false => exact asc_asks h f (m + 1)⟩
theorem desc_asks : ∀ (f : Nat) (p : Array Nat) (m q : Nat), AllLt n p → Asks n (kas_desc f p m q) (fun r => AllLt n r.1)
 | 0, p, _, _, h => h
 | f + 1, p, m, q, h => ⟨h _, h _, fun b => by
     cases b with
     | true =>
       show Asks n (if true = true then (if q > 0 then kas_desc f (kas_rev p (m - (q + 1)) m) (m + 1) 0 else kas_desc f p (m + 1) 0) else _) _
       rw [if_pos rfl]
       split
       · exact desc_asks f _ _ _ (h.perm hn (rev_perm ..))
       · exact desc_asks f _ _ _ h
     | false =>
       show Asks n (if false = true then _ else KasT.ask (p.getD (m - 1) 0) (p.getD m 0) fun d => if d = true then KasT.ret (p, m, q) else kas_desc f p (m + 1) (q + 1)) _
       rw [if_neg Bool.false_ne_true]
       refine ⟨h _, h _, fun d => ?_⟩
       cases d with
       | true => exact h
       | false => exact desc_asks f _ _ _ h⟩
theorem Asks.mono {α : Type} {Q Q' : α → Prop} (hq : ∀ a, Q a → Q' a) : ∀ {t : KasT α}, Asks n t Q → Asks n t Q'
 | .ret a, h => hq a h
 | .ask _ _ _, h => ⟨h.1, h.2.1, fun b => Asks.mono hq (h.2.2 b)⟩
theorem tail3_asks {p : Array Nat} (h : AllLt n p) (m r : Nat) : Asks n (kas_tail3 m r p) (fun x => AllLt n x.2) := by
 have h' := h.perm hn (rev_perm p 0 m)
 exact Asks.bind (Asks.mono hn (fun _ _ => h') (asc_asks hn h' _ _))
theorem descPart_asks {p : Array Nat} (h : AllLt n p) (m r : Nat) : Asks n (kas_descPart m r p) (fun x => AllLt n x.2) := by
 refine Asks.bind (Asks.mono hn (fun x hx => ?_) (desc_asks hn _ _ _ _ h))
 split
 · exact tail3_asks hn (hx.perm hn (rev_perm ..)) _ _
 · exact tail3_asks hn hx _ _
theorem count_asks {p : Array Nat} (h : AllLt n p) (r : Nat) : Asks n (kas_count r p) (fun x => AllLt n x.2) := by
 refine Asks.bind (Asks.mono hn (fun m _ => ?_) (asc_asks hn h _ _))
 split
 · exact h
 · split
   · refine ⟨h _, h _, fun b => ?_⟩
     cases b with
     | true => exact h
     | false => exact descPart_asks hn (h.perm hn (rev_perm ..)) _ _
   · exact descPart_asks hn h _ _
theorem place_asks {p : Array Nat} (h : AllLt n p) (k : Nat) : ∀ f l r, Asks n (kas_place p k f l r) (fun _ => True)
 | 0, _, _ => trivial
 | f + 1, l, r => by
   show Asks n (if l ≥ r then KasT.ret l else KasT.ask (p.getD k 0) (p.getD ((l + r) / 2) 0) fun c => if c = true then kas_place p k f l ((l + r) / 2) else kas_place p k f ((l + r) / 2 + 1) r) _
   split
   · exact trivial
   · refine ⟨h _, h _, fun b => ?_⟩
     cases b with
     | true => exact place_asks h k f _ _
     | false => exact place_asks h k f _ _
theorem bin_asks : ∀ (f : Nat) (p : Array Nat) (k : Nat), AllLt n p → Asks n (kas_bin f p k) (fun _ => True)
 | 0, _, _, _ => trivial
 | f + 1, p, k, h => Asks.bind (Asks.mono hn (fun l _ => bin_asks f _ _ (h.perm hn (bubble_perm ..))) (place_asks hn h k _ _ _))
theorem sort_asks : Asks n (kas_sort n) (fun _ => True) := by
 have h0 : AllLt n (List.toArray (List.range n)) := fun k => by
  by_cases hk : k < n
  · simp [Array.getD, hk]
  · simp [Array.getD, hk]; exact hn
 refine Asks.bind (Asks.mono hn (fun r hr => ?_) (count_asks hn h0 n))
 split
 · exact bin_asks hn _ _ _ hr
 · exact trivial
end
end Srt
namespace L2
open PySem PySem.Spec PyProof.Rows PySem.W
section
variable {prog : Program} {w : World} {A : Around} {E : Value → Shared → Prop} {s : Shared}
theorem zip_snd (vs : List Value) : (vs.toArray.zip vs.toArray).map (·.2) = vs.toArray := by
 apply Array.toList_inj.mp
 simp [List.map_snd_zip]
set_option maxHeartbeats 2000000 in
theorem sorted_small {l : Addr} {vs : List Value} {Q : Value → Shared → Prop} (hl : s.heap.IsList l vs.toArray) (h2 : vs.length < 2)
 (h : ∀ (h' : Heap) (c : Nat), (∀ b o, s.heap.get? b = some o → h'.get? b = some o) → h'.get? (s.heap.objs.size + 1) = some (seqObj "list" vs.toArray c) → Q (.ref (s.heap.objs.size + 1)) { s with heap := h' }) :
 wpAny (model prog w) A (call (.builtin "sorted") [.ref l]) Q E s := by
 refine Calls.call_function_entry kind_sorted plain_sorted entry_sorted (args_sorted1 _) ?_
 unfold Builtin.«sorted»
 refine wpAny_bind (m := checkCount "sorted" 1 1 _) (wpAny_pure ?_)
 refine wpAny_bind (collect_list hl ?_ (by rw [sizeLine_eq]; omega))
 refine wpAny_bind (wpAny_newList ?_ (by rw [sizeLine_eq]; omega))
 have hsz : ((s.heap.push (seqObj "list" #[] 0)).update s.heap.objs.size (Obj.mapSeq (· ++ vs.toArray))).objs.size = s.heap.objs.size + 1 := by
  rw [Heap.size_update, size_push']
 have hoL : (((s.heap.push (seqObj "list" #[] 0)).update s.heap.objs.size (Obj.mapSeq (· ++ vs.toArray))).push (seqObj "list" vs.toArray 0)).get? (s.heap.objs.size + 1) = some (seqObj "list" vs.toArray 0) := by
  rw [← hsz]; exact Heap.get?_push_size _ rfl
 have keep : ∀ b o, s.heap.get? b = some o → (((s.heap.push (seqObj "list" #[] 0)).update s.heap.objs.size (Obj.mapSeq (· ++ vs.toArray))).push (seqObj "list" vs.toArray 0)).get? b = some o := fun b o q => by
  have hlt : b < s.heap.objs.size := Heap.lt_size q
  rw [Heap.get?_push_ne _ _ _ (by rw [hsz]; exact Nat.ne_of_lt (Nat.lt_succ_of_lt hlt)), Heap.get?_update_ne _ _ _ _ (Nat.ne_of_lt hlt), Heap.get?_push_ne _ _ _ (Nat.ne_of_lt hlt)]
  exact q
 show wpAny _ _ _ _ _ { s with heap := ((s.heap.push (seqObj "list" #[] 0)).update s.heap.objs.size (Obj.mapSeq (· ++ vs.toArray))).push (seqObj "list" vs.toArray 0) }
 rw [hsz]
 generalize ((s.heap.push (seqObj "list" #[] 0)).update s.heap.objs.size (Obj.mapSeq (· ++ vs.toArray))).push (seqObj "list" vs.toArray 0) = g at *
 generalize hD : s.heap.objs.size + 1 = D at *
 have hDs : ∀ b o, s.heap.get? b = some o → b ≠ D := fun b o q => by rw [← hD]; exact Nat.ne_of_lt (Nat.lt_succ_of_lt (Heap.lt_size q))
 refine wpAny_bind (wpAny_holding (wpAny_call_entry slot_list_sort ⟨_, hoL, rfl⟩ entry_list_sort ?body (args_list_sort _)))
 case body =>
  obtain ⟨e1, ho1⟩ : ∃ e1, (g.update D (Obj.mapSeq fun _ => (#[] : Array Value))).get? D = some (seqObj "list" #[] e1) := ⟨_, get?_update_seq hoL fun _ => #[]⟩
  rw [list_sort_plain]
  refine wpAny_bind (listItems_at hoL rfl ?_)
  refine wpAny_bind (listUpdate_at hoL rfl ?_ (by rw [List.size_toArray, sizeLine_eq]; omega) (Nat.zero_le _))
  refine wpAny_bind (seqEpoch_at ho1 rfl ?_)
  refine wpAny_bind (wpAny_newTuple ?_ (by show vs.length ≤ _; rw [sizeLine_eq]; omega))
  refine wpAny_bind (wpAny_newList ?_ (Nat.zero_le _))
  refine wpAny_holding ?_
  show wpAny (model prog w) _ _ _ E { s with heap := ((g.update D (Obj.mapSeq fun _ => (#[] : Array Value))).push (seqObj "tuple" vs.toArray 0)).push (seqObj "list" #[] 0) }
  dsimp only
  have hn2 : vs.toArray.size < 2 := by rw [List.size_toArray]; exact h2
  rw [if_pos hn2, if_pos hn2]
  refine wpAny_bind (wpAny_pure ?_)
  refine wpAny_bind (wpAny_pure ?_)
  dsimp only
  have ho6 : (((g.update D (Obj.mapSeq fun _ => (#[] : Array Value))).push (seqObj "tuple" vs.toArray 0)).push (seqObj "list" #[] 0)).get? D = some (seqObj "list" #[] e1) := Heap.get?_push_of_some _ (Heap.get?_push_of_some _ ho1)
  have harr : (arrOf (SortSt.mk' general' (vs.toArray.zip vs.toArray) #[] 7 none)).map (·.2) = vs.toArray := by
   exact zip_snd vs
  rw [harr]
  refine wpAny_bind (seqEpoch_at ho6 rfl ?_)
  refine wpAny_bind (listUpdate_at ho6 rfl ?_ (Nat.zero_le _) (by show vs.toArray.size ≤ _; rw [List.size_toArray, sizeLine_eq]; omega))
  simp only [bne_self_eq_false, Bool.false_eq_true, if_false]
  obtain ⟨c2, hc2⟩ : ∃ c2, ((((g.update D (Obj.mapSeq fun _ => (#[] : Array Value))).push (seqObj "tuple" vs.toArray 0)).push (seqObj "list" #[] 0)).update D (Obj.mapSeq fun _ => vs.toArray)).get? D = some (seqObj "list" vs.toArray c2) := ⟨_, get?_update_seq ho6 fun _ => vs.toArray⟩
  refine wpAny_pure ⟨_, rfl, wpAny_pure ⟨_, rfl, ?_⟩⟩
  refine h _ c2 (fun b o q => ?_) hc2
  have hb := hDs b o q
  exact (Heap.get?_update_other _ _ (Ne.symm hb)).trans (Heap.get?_push_of_some _ (Heap.get?_push_of_some _ ((Heap.get?_update_other _ _ (Ne.symm hb)).trans (keep b o q))))
end
end L2

namespace L2
open PySem PySem.Spec PyProof.Rows PySem.W
theorem ns_inj {h : Heap} {a : Addr} {m m' : Str → Option Value} (x : h.Ns a m) (y : h.Ns a m') : m = m' := by
 obtain ⟨o, es, ep, ho, hd, _, hm⟩ := x
 obtain ⟨o', es', ep', ho', hd', _, hm'⟩ := y
 rw [ho] at ho'; cases ho'
 rw [hd] at hd'; cases hd'
 funext z
 rw [← hm z, ← hm' z]
theorem ObjOk.there {P : Program} {w : World} {H : Hp} {h : Heap} {a : Addr} {o : HO} (x : ObjOk P w H h a o) : ∃ u, h.get? a = some u := by
 cases o with
 | lst xs => obtain ⟨_, _, _, _, e⟩ := x; exact ⟨_, e⟩
 | tup xs => obtain ⟨_, _, _, ob, e, _⟩ := x; exact ⟨_, e⟩
 | dK kvs => obtain ⟨_, _, _, _, o, _, _, e, _⟩ := x; exact ⟨_, e⟩
 | dT kvs => obtain ⟨_, _, _, _, o, _, _, e, _⟩ := x; exact ⟨_, e⟩
 | set S n => obtain ⟨o, _, _, _, e, _⟩ := x; exact ⟨_, e⟩
 | ins C dx fs => obtain ⟨_, _, _, e, _⟩ := x; exact ⟨_, e⟩
 | own y => obtain ⟨_, e⟩ := x; exact ⟨_, e⟩
 | xd fs => obtain ⟨_, ⟨_, _, _, e, _⟩, _⟩ := x; exact ⟨_, e⟩
 | rng lo hi => obtain ⟨_, _, _, e⟩ := x; exact ⟨_, e⟩
 | frz ob u => obtain ⟨e, _⟩ := x; exact ⟨_, e⟩
 | tbl ps => exact ⟨_, (show h.get? a = some _ from x)⟩
 | met f y => exact ⟨_, (show h.get? a = some _ from x)⟩
 | ext φ => obtain ⟨_, ⟨_, e⟩, _⟩ := x; exact ⟨_, e⟩
theorem map_small : ∀ (xs : List V), xs.length < 2 → (List.range xs.length).map (fun i => xs.getD i V.non) = xs
 | [], _ => rfl
 | [_], _ => rfl
 | _ :: _ :: _, h => by simp at h; omega
section
variable {X : Cx} {pins : List (Addr × Obj)} {σ : St} {H : Hp} {s : Shared}
theorem Inv.byNews {h' : Heap} {m : Str → Option Value} {D : Addr} {ws : List V} {out : List Value} {c : Nat} {t' : Nat} (I : Inv X pins σ H s) (hn : s.heap.Ns X.env.locals m) (F : Fr X.base X.env.locals h' m)
 (k : ∀ b o, b ≠ X.env.locals → s.heap.get? b = some o → h'.get? b = some o) (hD : H D = none) (hDs : ∀ o, s.heap.get? D ≠ some o) (ho : h'.get? D = some { cls := .type "list", data := .seq out.toArray c }) (r : Vals ws out) (hz : ws.length ≤ sizeLine) :
 Inv X pins σ (upd H D (.lst ws)) { s with heap := h', toks := t' } := by
 have nD : ∀ b o, s.heap.get? b = some o → b ≠ D := fun b o e z => by subst z; exact hDs o e
 have nL : ∀ b u, H b = some u → b ≠ X.env.locals := fun b u e z => by rw [z, I.free] at e; cases e
 refine I.step (g' := s.gens) (d' := s.drawn) (ch := []) (fun _ z => nomatch z) (fun b o hL _ _ e _ => k b o hL e) (fun b o hL _ _ e _ => ⟨o.slots, k b o hL e⟩) (fun b o _ e n => by rw [upd_ne (nD b o e)]; exact n) (fun b o _ e => ?_)
  (fun b xs e => by rw [upd_ne (ne_of_none e hD)]; exact e) (fun b o u e => by rw [upd_ne (ne_of_none e hD)]; exact e) (fun b ps e => ⟨#[], by rw [upd_ne (ne_of_none e hD), e]; simp⟩) (fun m' hm => ?_) (fun b u e => ?_) I.bare
 · by_cases hb : b = X.env.locals
   · obtain ⟨o', _, _, e', _⟩ := F.ns
     exact ⟨o', by rw [hb]; exact e'⟩
   · exact ⟨o, k b o hb e⟩
 · rw [← ns_inj hn hm]; exact F.ns
 · by_cases hb : b = D
   · subst hb
     rw [upd_same] at e; cases e
     exact ⟨hz, out, c, r, ho⟩
   · rw [upd_ne hb] at e
     refine (I.hok b u e).stay (fun x v hx q => k x v ?_ q) (fun x q => by rw [upd_ne (ne_of_none q hD)]; exact q) fun x xs q => by rw [upd_ne (ne_of_none q hD)]; exact q
     rcases hx with z | z
     · rw [z]; exact nL b u e
     · exact nL x _ z
theorem getD_e (p : Array Nat) (j : Nat) : p.toList.getD j 0 = Srt.e p j := by
 unfold Srt.e
 simp [List.getD_eq_getElem?_getD]
set_option maxHeartbeats 2000000 in
theorem sorted_ok {l : Addr} {xs : List V} {Q : VK} (I : Inv X pins σ H s) (hl : SqL X.K H l xs) (h64 : xs.length < 64) (lt : Nat → Nat → Bool) (O : Srt.Ord lt)
 (hkind : ∀ (vs : List Value) (s' : Shared), Vals xs vs → 2 ≤ vs.length → (∀ b o, b ≠ X.env.locals → s.heap.get? b = some o → s'.heap.get? b = some o) → ∃ κ : SortKind, (∀ (R : SortKind → Shared → Prop), R κ s' → wpAny (model X.prog X.w) X.A.in1.in1 (keyKind' vs.toArray) R (fun _ _ => False) s') ∧
  ∀ (i j : Nat) (C : Bool → Shared → Prop) (s2 : Shared), i < vs.length → j < vs.length → (∀ b o, b ≠ X.env.locals → s.heap.get? b = some o → s2.heap.get? b = some o) → C (lt i j) s2 → kas_ask X.prog X.w X.A.in1.in1 κ vs i j C s2)
 (q : ∀ (p : List Nat) (D : Addr), p.Perm (List.range xs.length) → (∀ k, 1 ≤ k → k < xs.length → lt (p.getD k 0) (p.getD (k - 1) 0) = false) → H D = none → Q (.ref D) (upd H D (.lst (p.map fun i => xs.getD i .non)))) :
 wpAny (model X.prog X.w) X.A (call (.builtin "sorted") [.ref l]) (EP X pins σ Q) X.xe s := by
 obtain ⟨its, rv, pl, hz⟩ := id (I.list hl)
 have hlen := rv.length
 by_cases h2 : its.length < 2
 · refine sorted_small pl.isList h2 fun h' c kp ho => ?_
   have hf : H (s.heap.objs.size + 1) = none := I.hok.fresh (Nat.le_succ _)
   have I' : Inv X pins σ (upd H (s.heap.objs.size + 1) (.lst xs)) { s with heap := h' } := I.laid (t' := s.toks) kp (Nat.le_succ _) ⟨hz, its, c, rv, ho⟩
   have hq := q (List.range xs.length) (s.heap.objs.size + 1) (List.Perm.refl _) (fun k k1 k2 => by omega) hf
   have ex : (List.range xs.length).map (fun i => xs.getD i .non) = xs := by
    exact map_small xs (by omega)
   rw [ex] at hq
   exact ⟨.ref (s.heap.objs.size + 1), _, I', rfl, hq⟩
 · obtain ⟨m, hn, _⟩ := id I.loc
   have F : Fr X.base X.env.locals s.heap m := ⟨hn, I.bk, Nat.le_trans I.ok.bsz I.ok.above⟩
   have N : News X.base X.env.locals s.heap (allNews X.base s.heap X.env.locals) := news_all
   have keepN : ∀ {h' : Heap} {r : List (Addr × Obj)}, Fr X.base X.env.locals h' m → News X.base X.env.locals h' r → (∀ p ∈ allNews X.base s.heap X.env.locals, p ∈ r) → ∀ b o, b ≠ X.env.locals → s.heap.get? b = some o → h'.get? b = some o := fun {h' r} F' N' sub b o hb e => by
    cases z : X.base.get? b with
    | some u =>
      have := I.bk b u z
      rw [e] at this; cases this
      exact F'.keep b _ z
    | none => exact (N' (b, o) (sub _ (mem_allNews hb z e))).1
   have h2' : 2 ≤ its.length := by omega
   refine kat_sorted F N pl.isList h2' (by omega) fun D e1 h' F' N' hD => ?_
   have kp := keepN F' N' (fun p hp => List.mem_cons_of_mem _ hp)
   have nDD := N' (D, seqObj "list" #[] e1) List.mem_cons_self
   have hDs : ∀ o, s.heap.get? D ≠ some o := fun o e => Nat.lt_irrefl _ (hD (D, o) (mem_allNews nDD.2.1 nDD.2.2 e))
   have hHD : H D = none := by
    cases z : H D with
    | none => rfl
    | some u =>
      obtain ⟨o, e⟩ := ObjOk.there (I.hok D u z)
      exact absurd e (hDs o)
   obtain ⟨κ, hκ, hask⟩ := hkind its { s with heap := h' } rv h2' kp
   refine hκ _ ?_
   have hn1 : 0 < its.length := by omega
   refine Srt.run_wp' (n := its.length) (P := fun s' => s' = { s with heap := h' }) lt (fun i j C s2 hi hj p2 hc => by subst p2; exact hask i j C _ hi hj kp (hc _ rfl)) (kas_sort its.length) _ (Srt.sort_asks hn1) rfl fun s2 p2 => ?_
   subst p2
   obtain ⟨pm, up⟩ := Srt.sort_ok O (n := its.length) (by omega)
   generalize Srt.run lt (kas_sort its.length) = p at *
   refine KasFin.intro F' N' (.head fun x hx => Nat.ne_of_lt (hD x hx)) fun h3 c F3 N3 => ?_
   have kp3 := keepN F3 N3 (fun p hp => List.mem_cons_of_mem _ hp)
   have hD3 := (N3 (D, listOf (List.toArray (p.toList.map fun i => its.getD i Value.none)) c) List.mem_cons_self).1
   have rel : Vals (p.toList.map fun i => xs.getD i .non) (p.toList.map fun i => its.getD i Value.none) := by
    have key : ∀ (l : List Nat), (∀ i ∈ l, i < its.length) → Vals (l.map fun i => xs.getD i .non) (l.map fun i => its.getD i Value.none) := by
     intro l
     induction l with
     | nil => intro _; exact .nil
     | cons a l ih =>
       intro hl'
       have ha := hl' a List.mem_cons_self
       have ha2 : a < xs.length := by omega
       obtain ⟨u, hu, ru⟩ := rv.get (i := a) (x := xs[a]) (by simp [ha2])
       have e1 : xs.getD a .non = xs[a] := by simp [ha2]
       have e2 : its.getD a Value.none = u := by rw [List.getD_eq_getElem?_getD, hu]; rfl
       rw [List.map_cons, List.map_cons, e1, e2]
       exact .cons ru (ih fun i hi => hl' i (List.mem_cons_of_mem _ hi))
    exact key _ fun i hi => List.mem_range.mp (pm.mem_iff.mp hi)
   have hq := q p.toList D (by rw [hlen]; exact pm) (fun k k1 k2 => by
    have := up k k1 (by omega)
    rw [getD_e, getD_e]; exact this) hHD
   refine ⟨.ref D, _, I.byNews (t' := s.toks) hn F3 kp3 hHD hDs hD3 rel ?_, rfl, hq⟩
   rw [List.length_map, pm.length_eq, List.length_range, ← hlen]
   exact hz
end
end L2

namespace L2
open PySem PySem.Spec PyProof.Rows PySem.W
theorem pairwise_of_adj {α : Type} {R : α → α → Prop} (tr : ∀ a b c, R a b → R b c → R a c) : ∀ l : List α, (∀ k a b, l[k]? = some a → l[k + 1]? = some b → R a b) → l.Pairwise R
 | [], _ => .nil
 | [a], _ => by simp
 | a :: b :: l, h => by
   have ih := pairwise_of_adj tr (b :: l) fun k x y hx hy => h (k + 1) x y (by simpa using hx) (by simpa using hy)
   refine List.pairwise_cons.mpr ⟨fun c hc => ?_, ih⟩
   rcases List.mem_cons.mp hc with rfl | hc
   · exact h 0 a c rfl rfl
   · exact tr a b c (h 0 a b rfl rfl) ((List.pairwise_cons.mp ih).1 c hc)
theorem range_getD {α : Type} (l : List α) (d : α) : (List.range l.length).map (fun i => l.getD i d) = l := by
 refine List.ext_getElem (by simp) fun i h1 h2 => ?_
 simp [h2]
theorem perm_getD {α : Type} {l : List α} {d : α} {p : List Nat} (h : p.Perm (List.range l.length)) : (p.map fun i => l.getD i d).Perm l := by
 have := h.map (fun i => l.getD i d)
 rw [range_getD] at this
 exact this
theorem vals_getD {xs : List V} {vs : List Value} (r : Vals xs vs) {i : Nat} (h : i < vs.length) : RelV (xs.getD i .non) (vs.getD i Value.none) := by
 have h' : i < xs.length := by rw [r.length]; exact h
 obtain ⟨u, hu, ru⟩ := r.get (i := i) (x := xs[i]) (by simp [h'])
 have e1 : xs.getD i .non = xs[i] := by simp [h']
 have e2 : vs.getD i Value.none = u := by rw [List.getD_eq_getElem?_getD, hu]; rfl
 rw [e1, e2]; exact ru
noncomputable def lexB (p q : Int × Int) : Bool := decide (p.1 < q.1 ∨ (p.1 = q.1 ∧ p.2 < q.2))
noncomputable def lexR (p q : Int × Int) : Prop := p.1 < q.1 ∨ (p.1 = q.1 ∧ p.2 ≤ q.2)
theorem lexR_of {p q : Int × Int} (h : lexB q p = false) : lexR p q := by
 simp only [lexB, lexR, decide_eq_false_iff_not] at *
 omega
theorem lexR_trans (a b c : Int × Int) (h1 : lexR a b) (h2 : lexR b c) : lexR a c := by
 simp only [lexR] at *
 omega
noncomputable def ltP (ps : List (Int × Int)) (i j : Nat) : Bool := lexB (ps.getD i (0, 0)) (ps.getD j (0, 0))
theorem ltP_ord (ps : List (Int × Int)) : Srt.Ord (ltP ps) := by
 refine ⟨fun i j h => ?_, fun i j k h1 h2 => ?_⟩ <;> simp only [ltP, lexB, decide_eq_true_eq, decide_eq_false_iff_not] at * <;> omega
theorem up_pairwise {α : Type} {R : α → α → Prop} (tr : ∀ a b c, R a b → R b c → R a c) {l : List α} {d : α} {p : List Nat} (h : p.Perm (List.range l.length)) {lt : Nat → Nat → Bool}
 (up : ∀ k, 1 ≤ k → k < l.length → lt (p.getD k 0) (p.getD (k - 1) 0) = false) (hR : ∀ i j, lt j i = false → R (l.getD i d) (l.getD j d)) : (p.map fun i => l.getD i d).Pairwise R := by
 refine pairwise_of_adj tr _ fun k a b ha hb => ?_
 have hl : p.length = l.length := by rw [h.length_eq, List.length_range]
 rw [List.getElem?_map] at ha hb
 cases e1 : p[k]? with
 | none => rw [e1] at ha; cases ha
 | some i =>
   cases e2 : p[k + 1]? with
   | none => rw [e2] at hb; cases hb
   | some j =>
     rw [e1] at ha; rw [e2] at hb
     have ha : l.getD i d = a := Option.some.inj ha
     have hb : l.getD j d = b := Option.some.inj hb
     subst ha hb
     have hk : k + 1 < p.length := (List.getElem?_eq_some_iff.mp e2).1
     have := up (k + 1) (by omega) (by omega)
     have g1 : p.getD (k + 1) 0 = j := by rw [List.getD_eq_getElem?_getD, e2]; rfl
     have g2 : p.getD (k + 1 - 1) 0 = i := by rw [List.getD_eq_getElem?_getD, Nat.add_sub_cancel, e1]; rfl
     rw [g1, g2] at this
     exact hR i j this
noncomputable def dtP (p : Int × Int) : Dt := .tup [.int p.1, .int p.2]
noncomputable def Prs (K : PySem.W.Frag) (H : Hp) (ps : List (Int × Int)) (vs : List V) : Prop := Dens K H (ps.map dtP) vs
theorem dens_pick {K : PySem.W.Frag} {H : Hp} {α : Type} {f : α → Dt} {l : List α} {d : α} {vs : List V} (h : Dens K H (l.map f) vs) : ∀ {p : List Nat}, (∀ i ∈ p, i < l.length) → Dens K H ((p.map fun i => l.getD i d).map f) (p.map fun i => vs.getD i .non)
 | [], _ => by simp only [List.map_nil, Dens]
 | i :: p, hp => by
   have hi := hp i List.mem_cons_self
   simp only [List.map_cons, Dens]
   obtain ⟨x, hx, dx⟩ := h.get (j := i) (d := f l[i]) (by simp [hi])
   refine ⟨_, _, rfl, ?_, dens_pick h fun j hj => hp j (List.mem_cons_of_mem _ hj)⟩
   have e1 : l.getD i d = l[i] := by simp [hi]
   have e2 : vs.getD i .non = x := by rw [List.getD_eq_getElem?_getD, hx]; rfl
   rw [e1, e2]; exact dx
theorem prs_at {K : PySem.W.Frag} {H : Hp} {ps : List (Int × Int)} {vs : List V} (h : Prs K H ps vs) {i : Nat} (hi : i < ps.length) : ∃ a, vs.getD i .non = .ref a ∧ SqT K H a [.int (ps.getD i (0, 0)).1, .int (ps.getD i (0, 0)).2] := by
 obtain ⟨x, hx, dx⟩ := Dens.get (j := i) (d := dtP ps[i]) h (by simp [hi])
 have e1 : ps.getD i (0, 0) = ps[i] := by simp [hi]
 have e2 : vs.getD i .non = x := by rw [List.getD_eq_getElem?_getD, hx]; rfl
 rw [e1, e2]
 simp only [dtP, Den, Dens] at dx
 obtain ⟨a, xs, rfl, hq, y, r, rfl, rfl, y2, r2, rfl, rfl, rfl⟩ := dx
 exact ⟨a, rfl, hq⟩
section
variable {X : Cx} {pins : List (Addr × Obj)} {σ : St} {H : Hp} {s : Shared}
theorem Inv.tupNe {a : Addr} {xs : List V} (I : Inv X pins σ H s) (h : SqT X.K H a xs) : a ≠ X.env.locals := by
 rintro rfl
 obtain ⟨its, _, ⟨o, e, c, n, d⟩, _⟩ := I.tuple h
 obtain ⟨m, ⟨o', es, ep, ho, hd, _⟩, _⟩ := I.loc
 rw [e] at ho; cases ho
 rw [d] at hd; cases hd
noncomputable def rSortP (K : PySem.W.Frag) : List V → Hp → VK → Prop := fun xs H Q => ∃ (l : Addr) (vs : List V) (ps : List (Int × Int)), xs = [.ref l] ∧ SqL K H l vs ∧ Prs K H ps vs ∧ ps.length < 64 ∧ ∀ (us : List V) (ms : List (Int × Int)) (D : Addr), ms.Perm ps → ms.Pairwise lexR → Prs K H ms us → H D = none → Q (.ref D) (upd H D (.lst us))
theorem call_sortedP : CallR X (.builtin "sorted") (rSortP X.K) := by
 intro pins s σ H xs us Q I r h
 obtain ⟨l, xs, ps, rfl, hl, hp, h64, q⟩ := h
 obtain ⟨u, rfl, rfl⟩ := vals1 r
 have hlen : xs.length = ps.length := by have := Dens.length hp; rw [List.length_map] at this; exact this
 refine sorted_ok I hl (by omega) (ltP ps) (ltP_ord ps) (fun vs s' rv h2 kp => ?_) fun p D pm up hD => ?_
 · have hv : vs.length = ps.length := by rw [← rv.length, hlen]
   have tup : ∀ {s2 : Shared}, (∀ b o, b ≠ X.env.locals → s.heap.get? b = some o → s2.heap.get? b = some o) → ∀ {i : Nat}, i < vs.length → ∃ a o n t1 t2, vs.getD i Value.none = .ref a ∧ s2.heap.get? a = some o ∧ o.cls = .type "tuple" ∧ o.data = .seq #[.int (ps.getD i (0, 0)).1 t1, .int (ps.getD i (0, 0)).2 t2] n := fun {s2} k {i} hi => by
    obtain ⟨a, e, hq⟩ := prs_at hp (show i < ps.length by omega)
    have rr := vals_getD rv hi
    rw [e] at rr
    obtain ⟨its, ri, ⟨o, ho, hc, n, hd⟩, _⟩ := I.tuple hq
    obtain ⟨u1, u2, rfl, ⟨t1, rfl⟩, ⟨t2, rfl⟩⟩ := vals2 ri
    exact ⟨a, o, n, t1, t2, rr, k a o (I.tupNe hq) ho, hc, by simpa using hd⟩
   refine ⟨tuples' true, fun R hR => ?_, fun i j C s2 hi hj k hc => ?_⟩
   · have build : ∀ (ws : List Value), (∀ v ∈ ws, ∃ a o n x t1 y t2, v = .ref a ∧ s'.heap.get? a = some o ∧ o.cls = .type "tuple" ∧ o.data = .seq #[.int x t1, .int y t2] n) → ∃ fs : List Value, fs.length = ws.length ∧ KatTups s'.heap ws fs ∧ ∀ v ∈ fs, ∃ x t, v = .int x t := by
      intro ws
      induction ws with
      | nil => intro _; exact ⟨[], rfl, KatTups.nil, fun v h => by simp at h⟩
      | cons w ws ih =>
        intro h
        obtain ⟨fs, e, t, a⟩ := ih fun v hv => h v (List.mem_cons_of_mem _ hv)
        obtain ⟨b, o, n, x, t1, y, t2, rfl, ho, hc, hd⟩ := h w List.mem_cons_self
        refine ⟨.int x t1 :: fs, by simp [e], KatTups.cons ho hc hd rfl t, fun v hv => ?_⟩
        rcases List.mem_cons.mp hv with rfl | hv
        · exact ⟨_, _, rfl⟩
        · exact a v hv
     obtain ⟨fs, e, kt, fa⟩ := build vs fun v hv => by
      obtain ⟨i, hi, rfl⟩ := List.mem_iff_getElem.mp hv
      obtain ⟨a, o, n, t1, t2, e, ho, hc, hd⟩ := tup kp hi
      have : vs.getD i Value.none = vs[i] := by simp [hi]
      rw [this] at e
      exact ⟨a, o, n, _, t1, _, t2, e, ho, hc, hd⟩
     refine kat_kind (T := .type "int") kt (by omega) (fun v hv => ?_) (by decide) hR
     obtain ⟨x, t, rfl⟩ := fa v hv
     exact Looks.of_pure rfl
   · unfold kas_ask
     obtain ⟨a, o, n, t1, t2, e, ho, _, hd⟩ := tup k hi
     obtain ⟨a', o', n', t1', t2', e', ho', _, hd'⟩ := tup k hj
     rw [e, e']
     refine kat_lt ho hd ho' hd' (kat_cons ?_)
     have hc' : C (lexB (ps.getD i (0, 0)) (ps.getD j (0, 0))) s2 := hc
     generalize ps.getD i (0, 0) = x at *
     generalize ps.getD j (0, 0) = y at *
     refine wpAny_eqBool_int ?_
     by_cases h1 : x.1 = y.1
     · rw [show (x.1 == y.1) = true by simp [h1]]
       refine kat_yes (kat_cons (wpAny_eqBool_int ?_))
       by_cases h2 : x.2 = y.2
       · rw [show (x.2 == y.2) = true by simp [h2]]
         refine kat_yes (kat_nil ?_)
         have : lexB x y = false := by simp only [lexB, decide_eq_false_iff_not]; omega
         rw [this] at hc'
         simpa using hc'
       · rw [show (x.2 == y.2) = false by simp [h2]]
         refine kat_no (kat_one _ _ ?_)
         have : lexB x y = decide (x.2 < y.2) := by simp only [lexB, decide_eq_decide]; omega
         rw [this] at hc'
         exact lt_int hc'
     · rw [show (x.1 == y.1) = false by simp [h1]]
       refine kat_no (oneLt_int ?_)
       have : lexB x y = decide (x.1 < y.1) := by simp only [lexB, decide_eq_decide]; omega
       rw [this] at hc'
       exact hc'
 · rw [hlen] at pm up
   have hb : ∀ i ∈ p, i < ps.length := fun i hi => List.mem_range.mp (pm.mem_iff.mp hi)
   exact q _ _ D (perm_getD pm) (up_pairwise lexR_trans pm up fun i j h => lexR_of h) (dens_pick hp hb) hD
end
end L2

namespace L2
open PySem PySem.Spec PyProof.Rows PySem.W
theorem closure_loop (env : Env) : ∀ (names : List (Str × NameKind)) (cs : List (Str × Addr)), (∀ y ∈ names, y.2 = .free → ∃ c, env.cells.lookup y.1 = some c) → (∀ p ∈ cs, env.cells.lookup p.1 = some p.2) →
 ∃ cl : List (Str × Addr), (forIn names cs fun x cs => (match x with | (name, kind) => if (kind == .free) = true then do let __do_lift ← cellOf env name; pure (ForInStep.yield ((name, __do_lift) :: cs)) else pure (ForInStep.yield cs) : Sem (ForInStep (List (Str × Addr))))) = pure cl ∧
   (∀ p ∈ cl, env.cells.lookup p.1 = some p.2) ∧ (∀ p ∈ cs, p ∈ cl) ∧ ∀ x, (x, NameKind.free) ∈ names → ∃ c, (x, c) ∈ cl
 | [], cs, _, hc => ⟨cs, by rw [List.forIn_nil], hc, fun _ h => h, fun x h => by simp at h⟩
 | (n, k) :: names, cs, h, hc => by
   have h' := fun y hy => h y (List.mem_cons_of_mem _ hy)
   rw [List.forIn_cons]
   by_cases hk : k = .free
   · subst hk
     obtain ⟨c, e⟩ := h (n, .free) List.mem_cons_self rfl
     obtain ⟨cl, e1, e2, e3, e4⟩ := closure_loop env names ((n, c) :: cs) h' fun p hp => by
      rcases List.mem_cons.mp hp with rfl | hp
      · exact e
      · exact hc p hp
     refine ⟨cl, ?_, e2, fun p hp => e3 p (List.mem_cons_of_mem _ hp), fun x hx => ?_⟩
     · have ec : cellOf env n = pure c := by unfold cellOf; rw [e]
       simp only [ec, beq_self_eq_true, if_true, pure_bind]
       exact e1
     · rcases List.mem_cons.mp hx with z | hx
       · cases z; exact ⟨c, e3 _ List.mem_cons_self⟩
       · exact e4 x hx
   · obtain ⟨cl, e1, e2, e3, e4⟩ := closure_loop env names cs h' hc
     refine ⟨cl, ?_, e2, e3, fun x hx => ?_⟩
     · have : (k == NameKind.free) = false := by simpa using hk
       simp only [this, Bool.false_eq_true, if_false, pure_bind]
       exact e1
     · rcases List.mem_cons.mp hx with z | hx
       · cases z; exact absurd rfl hk
       · exact e4 x hx
theorem lookup_some_of_mem {x : Str} {c : Addr} : ∀ {l : List (Str × Addr)}, (x, c) ∈ l → ∃ c', l.lookup x = some c'
 | [], h => by simp at h
 | (n, d) :: l, h => by
   rw [List.lookup_cons]
   cases e : x == n with
   | true => exact ⟨d, rfl⟩
   | false =>
     rcases List.mem_cons.mp h with z | h
     · cases z; simp at e
     · exact lookup_some_of_mem h
theorem closure_ok {scope : Scope} {env : Env} (h : ∀ y ∈ scope.names, y.2 = .free → ∃ c, env.cells.lookup y.1 = some c) :
 ∃ cl, closureFor scope env = pure cl ∧ (∀ x c, cl.lookup x = some c → env.cells.lookup x = some c) ∧ ∀ x, (x, NameKind.free) ∈ scope.names → ∃ c, cl.lookup x = some c := by
 obtain ⟨cl, e1, e2, _, e4⟩ := closure_loop env scope.names [] h (fun p hp => by simp at hp)
 refine ⟨cl, ?_, fun x c hx => e2 (x, c) (PySem.mem_of_lookup hx), fun x hx => ?_⟩
 · unfold closureFor
   refine Eq.trans (congrArg (fun t => t >>= fun cs => pure cs) ?_) (bind_pure _)
   exact e1
 · obtain ⟨c, hc⟩ := e4 x hx
   exact lookup_some_of_mem hc
section
variable {X : Cx}
theorem pe_compC {tg iter elt : Expr} {ifs : List Expr} {scope : Scope} {pos : Pos} (N' : List Str) (ks : List (Option Nat)) {wi : TI} {g : TG} {tt : TT} {te : TE}
 (hcalm : X.calm = true) (hi : PI X tg iter wi) (hfree : ∀ y ∈ scope.names, y.2 = .free → X.env.scope.names.lookup y.1 = some .cell)
 (hcell : ∀ y ∈ scope.names, y.2 ≠ .cell) (hkind : scope.kind = .function) (hnames : ∀ y ∈ scope.names, y.2 = .local → scope.names.lookup y.1 = some .local)
 (hcap : Cap X (relabel scope X.env) N' ks)
 (hg : ∀ cl C s H fp, PG (compX X N' scope cl C s H fp) tg g) (ht : ∀ cl C s H fp, PTs (compX X N' scope cl C s H fp) ifs tt) (he : ∀ cl C s H fp, PE (compX X N' scope cl C s H fp) elt te)
 (hs : ∀ x, foldedSetIterable iter X.env x = pure x := by intro _; rfl) : PE X (.ListComp elt [⟨tg, iter, ifs, 0⟩] scope pos) (tComp wi ks g tt te) := by
 intro pins s σ H Q I h
 obtain ⟨cl, e1, e2, e3⟩ := closure_ok (scope := scope) (env := X.env) fun y hy hf => I.ok.has y.1 (.inl (hfree y hy hf))
 refine pe_comp hcalm hi e1 e2 hcell hkind hnames (fun x hx => ?_) hcap (hg cl) (ht cl) (he cl) hs pins s σ H Q I h
 have key : ∀ k, (x, k) ∈ (relabel scope X.env).names → k = .cell ∨ k = .free → (x, NameKind.free) ∈ scope.names := fun k hm hk => by
  unfold relabel at hm
  obtain ⟨⟨n, k'⟩, hy, e⟩ := List.mem_map.mp hm
  dsimp only at e
  split at e
  · rename_i hc
    cases e
    have : k' = .free := by simp at hc; exact hc.1.1
    rw [← this]; exact hy
  · cases e
    rcases hk with rfl | rfl
    · exact absurd rfl (hcell _ hy)
    · exact hy
 rcases hx with hx | hx
 · exact e3 x (key _ (PySem.mem_of_lookup hx) (.inl rfl))
 · exact e3 x (key _ (PySem.mem_of_lookup hx) (.inr rfl))
theorem comp_rng {lo : Int} {n : Nat} {D : Addr} {g : TG} {tt : TT} {te : TE} {σ0 : St} {H0 : Hp} {Q : VK} (Pv : Nat → List V → St → Hp → Prop) (h0 : Pv 0 [] σ0 H0) (hl : ∀ i ys σ H, Pv i ys σ H → H D = some (.lst ys))
 (hs : ∀ i ys σ H, i < n → Pv i ys σ H → g (.int (lo + i)) σ H fun σ3 H3 => tt σ3 H3 fun b H4 => if b = true then
  te σ3 H4 fun y H5 => H5 D = some (.lst ys) ∧ ys.length < sizeLine ∧ ∃ m', m' < n - i ∧ Wt Pv n (i + 1) m' (ys ++ [y]) σ3 (upd H5 D (.lst (ys ++ [y]))) else ∃ m', m' < n - i ∧ Wt Pv n (i + 1) m' ys σ3 H4)
 (hd : ∀ ys σ H, Pv n ys σ H → Q (.ref D) H) :
 CompW (Itr lo n) D g tt te Q σ0 H0 := by
 refine ⟨Wt Pv n, ⟨n, rfl, Nat.zero_le _, h0⟩, ?_⟩
 rintro i m ys σ' H' ⟨rfl, hi, p⟩
 refine ⟨hl i ys σ' H' p, ?_⟩
 by_cases hlt : i < n
 · refine .inr ⟨hlt, fun x H2 y => ?_⟩
   obtain ⟨e, y⟩ := y
   subst e y
   exact hs i ys σ' _ hlt p
 · have e : i = n := by omega
   subst e
   exact .inl ⟨Nat.le_refl _, hd ys σ' H' p⟩
theorem pg_tupK {K : PySem.W.Frag} {es : List Expr} {k : Nat} {t : TGs} {pos : Pos} (n : Nat) (e : X.K = K) (hc : X.calm = true) (h : PGs X es t)
 (hn : (assignEach es X.env).length = n := by rfl) (hst : (assignEach es X.env).findIdx? (·.1) = none := by rfl) : PG X (.Tuple es k pos) (gTup K n t) := e ▸ pg_tup hc h hn hst
noncomputable def rSum (K : PySem.W.Frag) : List V → Hp → VK → Prop := fun xs H Q => ∃ (l : Addr) (ns : List Int), xs = [.ref l] ∧ SqL K H l (ns.map V.int) ∧ Q (.int ns.sum) H
theorem call_sum (hc : X.calm = true) : CallR X (.builtin "sum") (rSum X.K) := by
 intro pins s σ H xs us Q I r h
 obtain ⟨l, ns, rfl, hl, q⟩ := h
 obtain ⟨u, rfl, rfl⟩ := vals1 r
 obtain ⟨its, rv, pl, _⟩ := I.list hl
 have hi := intsAre_of rv
 obtain ⟨xs, hx⟩ := hi.allInts.items
 have hl' : s.heap.IsList l (intItems xs) := hx ▸ pl.isList
 refine sum_intListG (I.ok.hd hc) hl' fun h' tk t' hk => ?_
 have e1 : ns = xs.toList.map (·.1) := by
  rw [← nums_intItems, ← hx]
  exact (show numsOf its.toArray.toList = ns from hi.numsOf).symm
 have e2 : preSum (numAt xs) xs.size = ns.sum := by
  rw [preSum_eq, List.take_of_length_le (by simp), e1]
 rw [e2]
 exact ⟨.int ns.sum, H, I.kept (t' := tk) hk, ⟨_, rfl⟩, q⟩
end

theorem newS {H : Hp} {Q : VK} {o : HO} (h : ∀ (p : Addr) (H' : Hp), Same H H' → H p = none → H' p = some o → Q (.ref p) H') : ∀ p, H p = none → Q (.ref p) (upd H p o) := fun p hp => h p _ (Same.new hp) hp upd_same
noncomputable def KL (H H' : Hp) : Prop := ∀ b o, H b = some o → (∀ xs, o ≠ .lst xs) → H' b = some o
theorem KL.trans {H H1 H2 : Hp} (a : KL H H1) (b : KL H1 H2) : KL H H2 := fun c o h n => b c o (a c o h n) n
theorem Same.kl {H H' : Hp} (s : Same H H') : KL H H' := fun b o h _ => s b o h
theorem KL.set {H : Hp} {l : Addr} {xs ys : List V} (h : H l = some (.lst xs)) : KL H (upd H l (.lst ys)) := fun b o e n => by
 have : b ≠ l := by rintro rfl; rw [h] at e; cases e; exact n xs rfl
 rw [upd_ne this]; exact e
theorem Kp.kl {H H' : Hp} {l : Addr} {xs : List V} (k : Kp l H H') (h : H l = some (.lst xs)) : KL H H' := fun b o e n => k b o e (by rintro rfl; rw [h] at e; cases e; exact n xs rfl)
theorem HandAt.kl {H H' : Hp} {l : Addr} (h : HandAt H l) (k : Kp l H H') : KL H H' := by
 obtain ⟨a, b, e, _⟩ := h
 exact k.kl e
theorem KL.seqT {K : PySem.W.Frag} {H H' : Hp} {a : Addr} {xs : List V} (e : KL H H') (h : SqT K H a xs) : SqT K H' a xs := by
 rcases h with (h | ⟨o, h⟩) | h
 · exact .inl (.inl (e _ _ h fun _ z => by cases z))
 · exact .inl (.inr ⟨o, e _ _ h fun _ z => by cases z⟩)
 · exact .inr h
theorem prs_nil {K : PySem.W.Frag} {H : Hp} : Prs K H [] [] := by simp only [Prs, List.map_nil, Dens]
theorem prs_cons {K : PySem.W.Frag} {H : Hp} {a : Addr} {p : Int × Int} {ps : List (Int × Int)} {vs : List V} (h : SqT K H a [.int p.1, .int p.2]) (r : Prs K H ps vs) : Prs K H (p :: ps) (.ref a :: vs) := by
 simp only [Prs, List.map_cons, Dens, dtP, Den]
 exact ⟨_, _, rfl, ⟨a, _, rfl, h, _, _, rfl, rfl, _, _, rfl, rfl, rfl⟩, r⟩
theorem prs_uncons {K : PySem.W.Frag} {H : Hp} {p : Int × Int} {ps : List (Int × Int)} {vs : List V} (h : Prs K H (p :: ps) vs) : ∃ a r, vs = .ref a :: r ∧ SqT K H a [.int p.1, .int p.2] ∧ Prs K H ps r := by
 simp only [Prs, List.map_cons, Dens, dtP, Den] at h
 obtain ⟨x, r, rfl, ⟨a, xs, rfl, hq, y, r1, rfl, rfl, y2, r2, rfl, rfl, rfl⟩, hr⟩ := h
 exact ⟨a, r, rfl, hq, hr⟩
theorem Prs.kl {K : PySem.W.Frag} {H H' : Hp} (k : KL H H') : ∀ {ps : List (Int × Int)} {vs : List V}, Prs K H ps vs → Prs K H' ps vs
 | [], vs, h => by
   simp only [Prs, List.map_nil, Dens] at h
   subst h
   exact prs_nil
 | p :: ps, vs, h => by
   obtain ⟨a, r, rfl, hq, hr⟩ := prs_uncons h
   exact prs_cons (k.seqT hq) (Prs.kl k hr)
theorem Prs.snoc {K : PySem.W.Frag} {H : Hp} {a : Addr} {p : Int × Int} (hp : SqT K H a [.int p.1, .int p.2]) : ∀ {ps : List (Int × Int)} {vs : List V}, Prs K H ps vs → Prs K H (ps ++ [p]) (vs ++ [.ref a])
 | [], vs, h => by
   simp only [Prs, List.map_nil, Dens] at h
   subst h
   exact prs_cons hp prs_nil
 | q :: ps, vs, h => by
   obtain ⟨b, r, rfl, hq, hr⟩ := prs_uncons h
   exact prs_cons hq (Prs.snoc hp hr)
theorem Prs.len {K : PySem.W.Frag} {H : Hp} {ps : List (Int × Int)} {vs : List V} (h : Prs K H ps vs) : vs.length = ps.length := by
 have := Dens.length h
 rw [List.length_map] at this
 exact this
theorem Prs.get {K : PySem.W.Frag} {H : Hp} {ps : List (Int × Int)} {vs : List V} (h : Prs K H ps vs) {i : Nat} {v : V} (hv : vs[i]? = some v) : ∃ a p, ps[i]? = some p ∧ v = .ref a ∧ SqT K H a [.int p.1, .int p.2] := by
 have hi : i < ps.length := by rw [← h.len]; exact (List.getElem?_eq_some_iff.mp hv).1
 obtain ⟨a, e, q⟩ := prs_at h hi
 have e1 : vs.getD i .non = v := by rw [List.getD_eq_getElem?_getD, hv]; rfl
 have e2 : ps.getD i (0, 0) = ps[i] := by simp [hi]
 rw [e1] at e
 rw [e2] at q
 exact ⟨a, ps[i], by simp [hi], e, q⟩
noncomputable def rCatS : R2 := fun x y H Q => ∃ l b xs zs, x = .ref l ∧ y = .ref b ∧ H l = some (.lst xs) ∧ H b = some (.lst zs) ∧ xs.length + zs.length ≤ sizeLine ∧ ∀ (p : Addr) (H' : Hp), Same H H' → H p = none → H' p = some (.lst (xs ++ zs)) → Q (.ref p) H'
noncomputable def rSortPS (K : PySem.W.Frag) : List V → Hp → VK → Prop := fun xs H Q => ∃ (l : Addr) (vs : List V) (ps : List (Int × Int)), xs = [.ref l] ∧ SqL K H l vs ∧ Prs K H ps vs ∧ ps.length < 64 ∧ ∀ (us : List V) (ms : List (Int × Int)) (D : Addr) (H' : Hp), ms.Perm ps → ms.Pairwise lexR → Prs K H' ms us → Same H H' → H D = none → H' D = some (.lst us) → Q (.ref D) H'
noncomputable def rTupOf (K : PySem.W.Frag) : List V → Hp → VK → Prop := fun xs H Q => ∃ (p : Addr) (ys : List V), xs = [.ref p] ∧ SqL K H p ys ∧ ∀ (t : Addr) (H' : Hp), Same H H' → H t = none → H' t = some (.tup ys) → Q (.ref t) H'
section
variable {X : Cx}
theorem op_catS : OpR X (binaryOp .Add) rCatS := fun pins s σ H x y v u Q I rx ry ⟨l, b, xs, zs, e1, e2, h1, h2, h3, q⟩ => op_cat pins s σ H x y v u Q I rx ry ⟨l, b, xs, zs, e1, e2, h1, h2, h3, newS q⟩
theorem call_sortedPS : CallR X (.builtin "sorted") (rSortPS X.K) := fun pins s σ H xs us Q I r ⟨l, vs, ps, e, h1, h2, h3, q⟩ => call_sortedP pins s σ H xs us Q I r ⟨l, vs, ps, e, h1, h2, h3, fun us ms D a b c hD => q us ms D _ a b (c.kl (Same.new hD).kl) (Same.new hD) hD upd_same⟩
theorem call_tupOf : CallR X (.type "tuple") (rTupOf X.K) := fun pins s σ H xs us Q I r ⟨p, ys, e, h1, q⟩ => call_tuple_of pins s σ H xs us Q I r ⟨p, ys, e, .inl ⟨h1, newS q⟩⟩
end
end L2

namespace Pw
structure WebOk (pages : Int) (ps : List (Int × Int)) : Prop where
 lo : 1 ≤ pages
 hi : pages ≤ 12
 few : ps.length ≤ 60
 up : ps.Pairwise L2.lexR
 lk : ∀ p ∈ ps, 0 ≤ p.1 ∧ p.1 < pages ∧ 0 ≤ p.2 ∧ p.2 < pages
end Pw
namespace L2
open PySem PySem.Spec PyProof.Rows PySem.W
theorem HandAt.same {H H' : Hp} {p : Addr} (h : HandAt H p) (s : Same H H') : HandAt H' p := by
 obtain ⟨a, b, e, r⟩ := h
 exact ⟨a, b, s _ _ e, r⟩
theorem HandAt.set {H : Hp} {p q : Addr} {o : HO} (h : HandAt H p) (n : p ≠ q) : HandAt (upd H q o) p := by
 obtain ⟨a, b, e, r⟩ := h
 exact ⟨a, b, by rw [upd_ne n]; exact e, r⟩
theorem Kp.free {H H' : Hp} {p l : Addr} (k : Kp p H H') (h : HandAt H' p) (hl : H' l = none) : H l = none := by
 have n := h.ne hl
 cases e : H l with
 | none => rfl
 | some o => rw [k l o e n] at hl; cases hl
theorem atI_ints {ns : List Int} {i : Int} (h0 : 0 ≤ i) (h1 : i < ns.length) : ∃ z ∈ ns, atI (ns.map V.int) i = some (.int z) := by
 obtain ⟨n, rfl⟩ : ∃ n : Nat, i = n := ⟨i.toNat, by omega⟩
 have hn : n < ns.length := by omega
 exact ⟨ns[n], List.getElem_mem hn, atI_nat (by simp [hn])⟩
noncomputable def WebAt (K : PySem.W.Frag) (H : Hp) (w : Addr) (pages : Int) (ps : List (Int × Int)) : Prop := ∃ (ws : Addr) (us : List V), H w = some (.tup [.int pages, .ref ws]) ∧ H ws = some (.tup us) ∧ Prs K H ps us
noncomputable def spGreat (K : PySem.W.Frag) : Sp := fun vs H Q _ => ∃ (a : Addr) (ns : List Int), vs = [.ref a] ∧ SqL K H a (ns.map V.int) ∧ ∀ b, Q (.bl b) H
noncomputable def spWeb (K : PySem.W.Frag) : Sp := fun vs H Q _ => ∃ (p : Addr) (great : Bool), vs = [.ref p, .bl great] ∧ HandAt H p ∧
 ∀ (w : Addr) (H' : Hp) (pages : Int) (ps : List (Int × Int)), Pw.WebOk pages ps → WebAt K H' w pages ps → HandAt H' p → Kp p H H' → Q (.ref w) H'
end L2

namespace L2
open PySem PySem.Spec PyProof.Rows PySem.W
open Builtin in
theorem int_rmul_tup (a : Int) (t : Tok) (l : Addr) (items : Array Value) (n : Nat) (dd : Option Addr) (sl : Array (Option Value)) :
 Meets (Builtin.«int.__rmul__» ⟨[.int a t, .ref l], []⟩) (fun _ R s => s.heap.get? l = some { cls := .type "tuple", dict := dd, data := .seq items n, slots := sl } ∧ R (.ok (.ret Value.notImplemented)) s) :=
 .of_wp fun prog w A R s h => by obtain ⟨hp, g, d, tk, os⟩ := s; obtain ⟨hl, h⟩ := h; wp_walk; exact ⟨_, rfl, h⟩
theorem noFill_tup_mul : fillsNumberSlot (.type "tuple") "mul" = pure false :=
 PySem.fillsNumberSlot_seq (id := "tuple.__mul__") (r := some (.builtin "tuple.__rmul__")) F.slot_tuple_mul.lookup (by decide +kernel) F.slot_tuple_rmul.lookup (by decide +kernel)
theorem repeat_tup : seqRepeat? (.type "tuple") = pure (some (.builtin "tuple.__mul__")) := by
 unfold seqRepeat?
 rw [PySem.seqSlot_of (T := "tuple") (name := "__mul__") (id := "tuple.__mul__") F.slot_tuple_mul.lookup (by decide +kernel), PySem.seqSlot_of (T := "tuple") (name := "__rmul__") (id := "tuple.__rmul__") F.slot_tuple_rmul.lookup (by decide +kernel)]
 rfl
open Builtin in
theorem tup_mul_one (l : Addr) (items : Array Value) (n : Nat) (dd : Option Addr) (sl : Array (Option Value)) (u : Tok) :
 Meets (Builtin.«tuple.__mul__» ⟨[.ref l, .int 1 u], []⟩) (fun _ R s => s.heap.get? l = some { cls := .type "tuple", dict := dd, data := .seq items n, slots := sl } ∧ R (.ok (.ret (.ref l))) s) :=
 .of_wp fun prog w A R s h => by obtain ⟨hp, g, d, tk, os⟩ := s; obtain ⟨hl, h⟩ := h; have f1 := AutoSeq1.idx_int; have f2 := AutoSeq1.sub_tuple_tuple; wp_walk using wpAny_loadPart' hl; exact ⟨_, rfl, h⟩
open Builtin in
theorem tup_mul_more (l : Addr) (items : Array Value) (n : Nat) (dd : Option Addr) (sl : Array (Option Value)) (x : Int) (u : Tok) (h1 : (decide (x < -(2 ^ 63)) || decide (x ≥ 2 ^ 63)) = false) (h2 : (items.isEmpty || x == 1) = false) (h3 : (decide (x ≤ 0) || items.isEmpty) = false)
 (h4 : ¬ (items.size * x > (2 ^ 63 - 1) / 8)) (h5 : Builtin.Tuple.tupleTooMany (items.size * x) = false) (hz : sizeOk (.seq ((List.replicate x.toNat items).foldl (· ++ ·) #[]))) :
 Meets (Builtin.«tuple.__mul__» ⟨[.ref l, .int x u], []⟩) (fun _ R s => s.heap.get? l = some { cls := .type "tuple", dict := dd, data := .seq items n, slots := sl } ∧ R (.ok (.ret (.ref s.heap.objs.size))) { s with heap := s.heap.push { cls := .type "tuple", data := .seq ((List.replicate x.toNat items).foldl (· ++ ·) #[]) } }) :=
 .of_wp fun prog w A R s h => by obtain ⟨hp, g, d, tk, os⟩ := s; obtain ⟨hl, h⟩ := h; have f1 := AutoSeq1.idx_int; have f2 := AutoSeq1.sub_tuple_tuple; wp_walk using wpAny_loadPart' hl; refine wpAny_ite_false (by simpa using h1) ?_; wp_walk using wpAny_loadPart' hl; refine wpAny_ite_false (decide_eq_false h4) ?_; wp_walk using wpAny_loadPart' hl; refine wpAny_ite_false (decide_eq_false (Nat.not_lt.mpr hz)) ?_; wp_walk using wpAny_loadPart' hl; exact ⟨_, rfl, h⟩
section
variable {X : Cx}
noncomputable def rRepT : R2 := fun x y H Q => ∃ l k xs, x = .ref l ∧ y = .int k ∧ H l = some (.tup xs) ∧ xs ≠ [] ∧ 1 ≤ k ∧ k < 2 ^ 60 ∧ xs.length * k.toNat ≤ sizeLine ∧
 ∀ (p : Addr) (H' : Hp), Same H H' → H' p = some (.tup (List.replicate k.toNat xs).flatten) → Q (.ref p) H'
theorem foldl_repA (its : List Value) (m : Nat) : List.foldl (fun x1 x2 => x1 ++ x2) #[] (List.replicate m its.toArray) = (List.replicate m its).flatten.toArray := by
 have : ∀ (m : Nat) (a : List Value), List.foldl (fun x1 x2 => x1 ++ x2) a.toArray (List.replicate m its.toArray) = (a ++ (List.replicate m its).flatten).toArray := fun m => by
  induction m with
  | zero => intro a; simp
  | succ m ih => intro a; rw [List.replicate_succ, List.foldl_cons, List.replicate_succ, List.flatten_cons, show a.toArray ++ its.toArray = (a ++ its).toArray by simp, ih (a ++ its), List.append_assoc]
 have := this m []
 rw [List.nil_append] at this
 exact this
theorem op_repT : OpR X (binaryOp .Mult) rRepT := by
 intro pins s σ H x y v u Q I rx ry h
 obtain ⟨l, k, xs, rfl, rfl, hH, hne, h1, h2, hz, q⟩ := h
 cases rx
 obtain ⟨t, rfl⟩ := ry
 obtain ⟨z, its, r, p⟩ : xs.length ≤ sizeLine ∧ ∃ its : List Value, Vals xs its ∧ IsTupN s.heap l its.toArray := I.hok l _ hH
 have p := p.tup
 obtain ⟨⟨cls, dd, data, sl⟩, ho, hc, n, hd⟩ := id p
 simp only at hc hd
 subst hc hd
 have hlen : its.toArray.size = xs.length := by rw [List.size_toArray]; exact r.length.symm
 have hpos : 0 < xs.length := List.length_pos_iff.mpr hne
 by_cases hk : k = 1
 · subst hk
   refine wpAny_binaryOp_repeat_ref (T := "tuple") (U := "int") (by decide) ⟨_, ho, rfl⟩ (fun s' => typeIs_int s' 1 t) noFill_tup_mul F.fills_int_mul F.slot_int_rmul repeat_tup F.slot_int_index.lookup
    (call_meets F.slot_int_rmul (typeIs_int s 1 t) F.entry_int_rmul (F.args_int_rmul_2 _ _) (int_rmul_tup 1 t l its.toArray n dd sl)
     ⟨ho, rfl, ⟨_, ho, rfl⟩, call_meets F.slot_tuple_mul ⟨_, ho, rfl⟩ F.entry_tuple_mul (F.args_tuple_mul_2 _ _) (tup_mul_one l its.toArray n dd sl t) ⟨ho, ?_⟩⟩)
   refine ⟨.ref l, H, I, rfl, q l H (Same.refl _) ?_⟩
   have : (List.replicate (1 : Int).toNat xs).flatten = xs := by
    show (List.replicate 1 xs).flatten = xs
    simp
   rw [this]
   exact hH
 · have hz2 : (List.replicate k.toNat its).flatten.length ≤ sizeLine := by
    rw [len_rep, ← r.length, Nat.mul_comm]; exact hz
   have e1 : ((its.toArray.size : Nat) : Int) * k = ((xs.length * k.toNat : Nat) : Int) := by
    rw [hlen, Int.natCast_mul, Int.toNat_of_nonneg (by omega)]
   have hsl : ((sizeLine : Nat) : Int) ≤ (2 ^ 63 - 1) / 8 := by decide
   have hzi : ((xs.length * k.toNat : Nat) : Int) ≤ ((sizeLine : Nat) : Int) := Int.ofNat_le.mpr hz
   have hem : its.toArray.isEmpty = false := by
    rw [Bool.eq_false_iff]
    intro h
    have := Array.isEmpty_iff.mp h
    have h2 : its.toArray.size = 0 := by rw [this]; rfl
    omega
   refine wpAny_binaryOp_repeat_ref (T := "tuple") (U := "int") (by decide) ⟨_, ho, rfl⟩ (fun s' => typeIs_int s' k t) noFill_tup_mul F.fills_int_mul F.slot_int_rmul repeat_tup F.slot_int_index.lookup
    (call_meets F.slot_int_rmul (typeIs_int s k t) F.entry_int_rmul (F.args_int_rmul_2 _ _) (int_rmul_tup k t l its.toArray n dd sl)
     ⟨ho, rfl, ⟨_, ho, rfl⟩, call_meets F.slot_tuple_mul ⟨_, ho, rfl⟩ F.entry_tuple_mul (F.args_tuple_mul_2 _ _)
      (tup_mul_more l its.toArray n dd sl k t (by rw [decide_eq_false (by omega), decide_eq_false (by omega)]; rfl) (by rw [hem]; simpa using hk) (by rw [hem, decide_eq_false (by omega)]; rfl)
       (by rw [e1]; omega) (by unfold Builtin.Tuple.tupleTooMany; rw [e1]; exact decide_eq_false (by omega)) (by rw [foldl_repA]; show (List.replicate k.toNat its).flatten.toArray.size ≤ sizeLine; rw [List.size_toArray]; exact hz2)) ⟨ho, ?_⟩⟩)
   rw [foldl_repA]
   refine ⟨.ref s.heap.objs.size, _, I.laid (t' := s.toks) (o := .tup (List.replicate k.toNat xs).flatten) (fun b ob q => Heap.get?_push_of_some _ q) (Nat.le_refl _) ?_, rfl, q _ _ (Same.new I.fresh) upd_same⟩
   exact ⟨by rw [len_rep, Nat.mul_comm]; exact hz, _, r.rep k.toNat, IsTupN.new _ _⟩
theorem vals_bools : ∀ {bs : List Bool} {its : List Value}, Vals (bs.map V.bl) its → LSm.BoolsAre its bs
 | [], _, .nil => .nil
 | b :: bs, _, .cons r t => by
   cases r
   exact .cons b (vals_bools t)
noncomputable def rAll (K : PySem.W.Frag) : List V → Hp → VK → Prop := fun xs H Q => ∃ (l : Addr) (bs : List Bool), xs = [.ref l] ∧ SqL K H l (bs.map V.bl) ∧ Q (.bl (bs.all id)) H
theorem call_all (hc : X.calm = true) : CallR X (.builtin "all") (rAll X.K) := by
 intro pins s σ H xs us Q I r h
 obtain ⟨l, bs, rfl, hl, q⟩ := h
 obtain ⟨u, rfl, rfl⟩ := vals1 r
 obtain ⟨its, rv, pl, _⟩ := I.list hl
 have hb := vals_bools rv
 have hl' := pl.isList
 have hh := I.ok.hd hc
 have hlt : l < s.heap.objs.size := by obtain ⟨_, e, _⟩ := hl'; exact Heap.lt_size e
 refine call_all_walk (wpAny_pyIter_list hl' ?_)
 refine ⟨s.heap.objs.size, [s.heap.objs.size, l], [s.heap.objs.size], its.toArray.size, _, _, fun i => (bs[i]?).getD true, rfl, Walks.list (A := X.A.in1) hh _ l (Nat.ne_of_lt hlt) its.toArray,
  ⟨⟨_, Heap.get?_push_size _ rfl, rfl, rfl⟩, hl'.push _⟩, fun i v s' Q' E' hP hQ => ?_, fun h' tk hk => ?_⟩
 · obtain ⟨b, e, rfl⟩ := hb.get i v (by simpa using hP)
   simp only [e, Option.getD_some] at hQ
   exact wpAny_truthy_bool hQ
 · have e : ((List.range its.toArray.size).all fun i => (bs[i]?).getD true) = bs.all id := by
    rw [List.size_toArray, hb.length]; exact LSm.range_all bs
   rw [e]
   exact ⟨.bl (bs.all id), H, I.kept (t' := tk) (LSm.kept_iter hk), rfl, q⟩
end
end L2

namespace L2
open PySem PySem.Spec PyProof.Rows
section
variable {X : Cx}
theorem pa_consX {e : Expr} {es : List Expr} {te : TE} {t : TA} (hs : starEach (e :: es) X.env = (false, eval e X.env) :: starEach es X.env) (h1 : PE X e te) (h2 : PA X es t) : PA X (e :: es) (tCons te t) := pa_cons h1 h2 hs
theorem ps_setX {pos : Pos} {i : Nat} {x : Str} {e : Expr} {te : TE} {pos' : Pos} (hs : swapsWith e (some (.Name x pos')) pos.line X.env = pure false) (hf : X.fn x = true ∨ X.env.scope.names.lookup x = some .local) (hN : X.N.Nodup) (hi : X.N[i]? = some x) (hx : Loc X.env.scope x) (he : PE X e te) :
 PS X (.Assign [.Name x pos'] e pos) (tAsg te (gName i)) := ps_set hN hi hx he hs hf
end
end L2

namespace L2
open PySem PySem.Spec PyProof.Rows PySem.W
noncomputable def rNil (K : PySem.W.Frag) (neg : Bool) : R2 := fun x y H Q => ∃ a b xs, x = .ref a ∧ y = .ref b ∧ ((SqT K H a xs ∧ SqT K H b []) ∨ (SqL K H a xs ∧ SqL K H b [])) ∧ Q (.bl (if neg then !xs.isEmpty else xs.isEmpty)) H
section
variable {X : Cx} {pins : List (Addr × Obj)} {σ : St} {H : Hp} {s : Shared}
theorem rc_nilT {A : Around} {a b : Addr} {xs : List V} (I : Inv X pins σ H s) (hu : A.units < cLine) (ha : SqT X.K H a xs) (hb : SqT X.K H b []) :
 SeqAt.RcAt A s (.ref a) (.ref b) xs.isEmpty ∧ SeqAt.RcNeAt A s (.ref a) (.ref b) (!xs.isEmpty) := by
 obtain ⟨its, r1, p1, _⟩ := I.tuple ha
 obtain ⟨its2, r2, p2, _⟩ := I.tuple hb
 cases r2
 have l3 := r1.length
 have q := SeqAt.RcAt.tuples (A := A) (s := s) (e := fun _ => true) p1 p2 hu (fun j h1 h2 => absurd h2 (Nat.not_lt_zero j))
 have q2 := SeqAt.RcNeAt.tuples (A := A) (s := s) (e := fun _ => true) p1 p2 hu (fun j h1 h2 => absurd h2 (Nat.not_lt_zero j))
 have e : ((List.range (min its.toArray.size ([] : List Value).toArray.size)).all (fun _ => true) && its.toArray.size == ([] : List Value).toArray.size) = xs.isEmpty := by
  cases xs <;> cases its <;> simp at l3 ⊢
 rw [e] at q q2
 exact ⟨q, q2⟩
theorem rc_nilL {A : Around} {a b : Addr} {xs : List V} (I : Inv X pins σ H s) (hu : A.units < cLine) (ha : SqL X.K H a xs) (hb : SqL X.K H b []) :
 SeqAt.RcAt A s (.ref a) (.ref b) xs.isEmpty ∧ SeqAt.RcNeAt A s (.ref a) (.ref b) (!xs.isEmpty) := by
 obtain ⟨its, r1, p1, _⟩ := I.list ha
 obtain ⟨its2, r2, p2, _⟩ := I.list hb
 cases r2
 have l3 := r1.length
 cases xs with
 | nil =>
   cases r1
   exact ⟨SeqAt.RcAt.lists (A := A) (s := s) (e := fun _ => true) p1.isList p2.isList rfl hu (fun j h1 h2 => absurd h2 (Nat.not_lt_zero j)), SeqAt.RcNeAt.lists (A := A) (s := s) (e := fun _ => true) p1.isList p2.isList rfl hu (fun j h1 h2 => absurd h2 (Nat.not_lt_zero j))⟩
 | cons x xs =>
   have hsz : (its.toArray.size != ([] : List Value).toArray.size) = true := by
    cases its <;> simp at l3 ⊢
   exact ⟨SeqAt.RcAt.lists_lengths p1.isList p2.isList hsz hu, SeqAt.RcNeAt.lists_lengths p1.isList p2.isList hsz hu⟩
end
section
variable {X : Cx}
theorem op_eqNil {k : Nat} (hr : Room k X.A) : OpR X (compareOp .Eq) (rNil X.K false) := by
 intro pins s σ H x y v u Q I rx ry h
 obtain ⟨a, b, xs, rfl, rfl, hk, q⟩ := h
 cases rx
 cases ry
 have hu := hr.units
 rcases hk with ⟨ha, hb⟩ | ⟨ha, hb⟩
 · exact (rc_nilT (A := X.A) I (by omega) ha hb).1 _ _ _ _ ⟨.bl _, H, I, rfl, q⟩
 · exact (rc_nilL (A := X.A) I (by omega) ha hb).1 _ _ _ _ ⟨.bl _, H, I, rfl, q⟩
end
noncomputable def KTy (H H' : Hp) : Prop := ∀ b o, H b = some o → H' b = some o ∨ ∃ xs ys, o = .lst xs ∧ H' b = some (.lst ys)
theorem Same.kt {H H' : Hp} (s : Same H H') : KTy H H' := fun b o h => .inl (s b o h)
theorem KTy.kl {H H' : Hp} (k : KTy H H') : KL H H' := fun b o e n => by
 rcases k b o e with h | ⟨xs, ys, rfl, h⟩
 · exact h
 · exact absurd rfl (n xs)
theorem HandAt.kt {H H' : Hp} {p : Addr} (h : HandAt H p) (h' : HandAt H' p) (k : Kp p H H') : KTy H H' := fun b o e => by
 by_cases z : b = p
 · subst z
   obtain ⟨x, y, e1, _⟩ := h
   obtain ⟨x', y', e2, _⟩ := h'
   rw [e1] at e
   cases e
   exact .inr ⟨_, _, rfl, e2⟩
 · exact .inl (k b o e z)
theorem TyOf.kt {K : PySem.W.Frag} {H H' : Hp} (k : KTy H H') {v : V} {t : Value} (h : TyOf K H v t) : TyOf K H' v t := by
 cases h with
 | non => exact .non
 | bl x => exact .bl x
 | int i => exact .int i
 | str x => exact .str x
 | flt x => exact .flt x
 | lst e =>
   rcases k _ _ e with h | ⟨_, _, _, h⟩
   · exact .lst h
   · exact .lst h
 | frz e => exact .frz (k.kl _ _ e fun _ z => by cases z)
 | tup e => exact .tup (k.kl _ _ e fun _ z => by cases z)
 | dK e => exact .dK (k.kl _ _ e fun _ z => by cases z)
 | dT e => exact .dT (k.kl _ _ e fun _ z => by cases z)
 | ins e cl ha hn htk hm => exact .ins (k.kl _ _ e fun _ z => by cases z) cl ha hn htk hm
end L2

namespace HT
open PySem PyProof.Rows
section
variable {prog : Program} {w : World} {A : Around} {E : Value → Shared → Prop} {s : Shared}
theorem sliceApplied_rev {sl : Addr} {t : Tok} {n : Nat} {Q : Int × Int × Nat → Shared → Prop} (hs : s.heap.IsSliceOf sl .none .none (.int (-1) t))
 (h : Q ((n : Int) - 1, -1, n) s) : wpAny (model prog w) A (Builtin.Slice.sliceApplied (.ref sl) (pure (n : Int))) Q E s := by
 obtain ⟨os, hos, hcs, hds⟩ := id hs
 unfold Builtin.Slice.sliceApplied Builtin.Slice.sliceFields
 refine wpAny_bind (wpAny_bind (wpAny_field hos hds (x := .none) rfl (wpAny_bind (wpAny_field hos hds (x := .none) rfl (wpAny_bind (wpAny_field hos hds (x := .int (-1) t) rfl (wpAny_pure ?_)))))))
 refine wpAny_bind (slicePart_int ?_)
 show wpAny _ _ (if ((-1 : Int) == 0) = true then _ else _) _ _ s
 rw [if_neg (by decide)]
 refine wpAny_bind (slicePart_none (wpAny_bind (slicePart_none (wpAny_bind (wpAny_pure ?_)))))
 show wpAny _ _ (match Builtin.Slice.sliceAdjust none none (-1) (n : Int) with | (lo, hi) => pure (lo, (-1 : Int), Builtin.Slice.slicePlaces lo hi (-1))) _ _ s
 have e1 : Builtin.Slice.sliceAdjust none none (-1) (n : Int) = ((n : Int) - 1, -1) := rfl
 rw [e1]
 show wpAny _ _ (pure ((n : Int) - 1, (-1 : Int), Builtin.Slice.slicePlaces ((n : Int) - 1) (-1) (-1))) _ _ s
 have e2 : Builtin.Slice.slicePlaces ((n : Int) - 1) (-1) (-1) = n := by
  unfold Builtin.Slice.slicePlaces
  rw [if_neg (by decide)]
  by_cases h0 : n = 0
  · subst h0; rfl
  · rw [if_pos (by omega)]
    have : ((n : Int) - 1 - -1 - 1) / (- -1) + 1 = n := by
     rw [show (- -1 : Int) = 1 from rfl, Int.ediv_one]; omega
    rw [this]; exact Int.toNat_natCast n
 rw [e2]
 exact wpAny_pure h
theorem fm_map {α β : Type} (f : α → Option β) (g : α → β) : ∀ (l : List α), (∀ x ∈ l, f x = some (g x)) → l.filterMap f = l.map g
 | [], _ => rfl
 | x :: l, h => by rw [List.filterMap_cons_some (h x List.mem_cons_self), List.map_cons, fm_map f g l fun y hy => h y (List.mem_cons_of_mem _ hy)]
theorem pick_rev (xs : List Value) : ((List.range xs.toArray.size).filterMap fun (k : Nat) => xs.toArray[(((xs.toArray.size : Nat) : Int) - 1 + (k : Int) * -1).toNat]?).toArray = xs.reverse.toArray := by
 congr 1
 rw [List.size_toArray]
 refine List.ext_getElem? fun i => ?_
 by_cases hi : i < xs.length
 · have e : (List.range xs.length).filterMap (fun (k : Nat) => xs.toArray[((xs.length : Int) - 1 + (k : Int) * -1).toNat]?) = (List.range xs.length).map (fun (k : Nat) => (xs[xs.length - 1 - k]?).getD .none) := by
    refine fm_map _ _ _ fun k hk => ?_
    have hk := List.mem_range.mp hk
    have : ((xs.length : Int) - 1 + (k : Int) * -1).toNat = xs.length - 1 - k := by omega
    rw [this, List.getElem?_toArray]
    have : xs.length - 1 - k < xs.length := by omega
    simp [this]
   rw [e, List.getElem?_map, List.getElem?_range hi, List.getElem?_reverse hi]
   have : xs.length - 1 - i < xs.length := by omega
   simp [this]
 · rw [List.getElem?_eq_none (l := xs.reverse) (by rw [List.length_reverse]; omega)]
   refine List.getElem?_eq_none ?_
   have := List.length_filterMap_le (fun (k : Nat) => xs.toArray[((xs.length : Int) - 1 + (k : Int) * -1).toNat]?) (List.range xs.length)
   rw [List.length_range] at this
   omega
theorem getItem_tuple_rev {tp sl : Addr} {xs : List Value} {t : Tok} {Q : Value → Shared → Prop} (ht : IsTup s.heap tp xs.toArray) (hs : s.heap.IsSliceOf sl .none .none (.int (-1) t))
 (h : Q (.ref s.heap.objs.size) { s with heap := s.heap.push { cls := .type "tuple", data := .seq xs.reverse.toArray } })
 (hsz : xs.length ≤ sizeLine) : wpAny (model prog w) A (getItem (.ref tp) (.ref sl)) Q E s := by
 have htake : sizeOk (.seq xs.reverse.toArray) := by
  show xs.reverse.toArray.size ≤ sizeLine
  rw [List.size_toArray, List.length_reverse]
  exact hsz
 obtain ⟨os, hos, hcs, hds⟩ := id hs
 have hTs : s.TypeIs (.ref sl) "slice" := ⟨os, hos, hcs⟩
 unfold getItem
 try with_reducible refine wpAny_holding ?_
 first | refine wpAny_bind (wpAny_pure ?_) | skip
 refine wpAny_bind (wpAny_sequenceKey ht.typeIs (by decide) ?_)
 refine wpAny_bind (wpAny_callSpecial?_slot (name := Str.ofString "__getitem__") ht.typeIs PyProof.Rows.slot_tuple_getitem
  (wpAny_call_entry PyProof.Rows.slot_tuple_getitem ht.typeIs entry_tuple_getitem ?_ (args_tuple_getitem _ _)))
 show wpAny _ _ (Builtin.Tuple.tupleItemsOf (.ref tp) >>= _) _ _ s
 refine wpAny_bind (tupleItemsOf_ ht ?_)
 refine wpAny_bind (wpAny_typeOf hTs ?_)
 rw [if_pos (by decide)]
 refine wpAny_bind (sliceApplied_rev hs ?_)
 show wpAny _ _ (if ((((xs.toArray.size : Nat) : Int) - 1 == 0) && (-1 : Int) == 1 && xs.toArray.size == xs.toArray.size) = true then _ else _) _ _ s
 rw [if_neg (by simp), pick_rev]
 first
  | exact wpAny_bind (m := Builtin.Tuple.tupleExact _) (wpAny_newObj_type (wpAny_pure ⟨_, rfl, wpAny_pure h⟩) htake)
  | exact wpAny_bind (m := Builtin.Tuple.tupleExact _) (wpAny_newObj_type (wpAny_bind (wpAny_pure (wpAny_pure ⟨_, rfl, wpAny_pure h⟩))) htake)
  | exact wpAny_bind (wpAny_bind (m := Builtin.Tuple.tupleExact _) (wpAny_newObj_type (wpAny_pure (wpAny_pure ⟨_, rfl, wpAny_pure h⟩)) htake))
  | exact wpAny_bind (wpAny_bind (m := Builtin.Tuple.tupleExact _) (wpAny_newObj_type (wpAny_pure ⟨_, rfl, wpAny_pure h⟩) htake))
theorem cat_tup0 {t b : Addr} {ws : List Value} {Q : Value → Shared → Prop} (ht : IsTup s.heap t ([] : List Value).toArray) (hb : IsTup s.heap b ws.toArray) (h : Q (.ref b) s) : wpAny (model prog w) A (binaryOp .Add (.ref t) (.ref b)) Q E s := by
 obtain ⟨⟨cls, dd, data, sl⟩, ho, hc, n, hd⟩ := id ht
 obtain ⟨⟨cls2, dd2, data2, sl2⟩, ho2, hc2, n2, hd2⟩ := id hb
 simp only at hc hd hc2 hd2
 subst hc hd hc2 hd2
 exact concat_meets ⟨_, ho, rfl⟩ ⟨_, ho2, rfl⟩ noFill_tuple_add seq_tuple_add PySem.F.slot_tuple_add PySem.F.entry_tuple_add (PySem.F.args_tuple_add_2 _ _)
  (tuple_addW0 t b _ ws.toArray n n2 dd dd2 sl sl2 rfl) ⟨ho, ho2, h⟩
end
end HT
namespace L2
open PySem PySem.Spec PyProof.Rows PySem.W
section
variable {X : Cx}
noncomputable def rCatTS : R2 := fun x y H Q => ∃ a b xs ys, x = .ref a ∧ y = .ref b ∧ H a = some (.tup xs) ∧ H b = some (.tup ys) ∧ xs.length + ys.length ≤ sizeLine ∧ ∀ (p : Addr) (H' : Hp), Same H H' → H' p = some (.tup (xs ++ ys)) → Q (.ref p) H'
theorem op_catTS : OpR X (binaryOp .Add) rCatTS := by
 intro pins s σ H x y v u Q I rx ry h
 obtain ⟨a, b, xs, ys, rfl, rfl, ha, hb, hz, q⟩ := h
 cases hx : xs with
 | nil =>
   subst hx
   cases rx
   cases ry
   obtain ⟨_, its, r1, p1⟩ : ([] : List V).length ≤ sizeLine ∧ ∃ its : List Value, Vals [] its ∧ IsTupN s.heap a its.toArray := I.hok a _ ha
   obtain ⟨_, its2, r2, p2⟩ : ys.length ≤ sizeLine ∧ ∃ its : List Value, Vals ys its ∧ IsTupN s.heap b its.toArray := I.hok b _ hb
   cases r1
   exact HT.cat_tup0 p1.tup p2.tup ⟨.ref b, H, I, rfl, q b H (Same.refl _) hb⟩
 | cons z zs =>
   refine op_catT pins s σ H _ _ v u Q I rx ry ⟨a, b, xs, ys, rfl, rfl, SqT.of ha, SqT.of hb, by rw [hx]; simp, hz, fun e => ?_, fun _ p hp => q p _ (Same.new hp) upd_same⟩
   subst e
   exact q a H (Same.refl _) (by rw [List.append_nil]; exact ha)
noncomputable def rSlTS (K : PySem.W.Frag) : V → Option Int → Option Int → Hp → VK → Prop := fun x lo hi H Q => ∃ a xs, x = .ref a ∧ SqT K H a xs ∧
 ¬ (HT.sIx xs.length 0 lo = 0 ∧ HT.sIx xs.length xs.length hi = xs.length) ∧ ∀ (p : Addr) (H' : Hp), Same H H' → H p = none → H' p = some (.tup (cutV xs lo hi)) → Q (.ref p) H'
theorem sl_tupS : SlR X (rSlTS X.K) := fun pins s σ H x v vl vu lo hi sl Q I rx hs pl pu ⟨a, xs, e, h1, h2, q⟩ => sl_tup pins s σ H x v vl vu lo hi sl Q I rx hs pl pu ⟨a, xs, e, h1, h2, newS q⟩
noncomputable def rListS (K : PySem.W.Frag) : List V → Hp → VK → Prop := fun xs H Q => ∃ (p : Addr) (ys : List V), xs = [.ref p] ∧ (SqL K H p ys ∨ SqT K H p ys) ∧ ∀ (l : Addr) (H' : Hp), Same H H' → H l = none → H' l = some (.lst ys) → Q (.ref l) H'
theorem call_listS : CallR X (.type "list") (rListS X.K) := fun pins s σ H xs us Q I r ⟨p, ys, e, h1, q⟩ => call_list_of pins s σ H xs us Q I r ⟨p, ys, e, h1, newS q⟩
noncomputable def tRev (te : TE) : TE := fun σ H Q => te σ H fun x H1 => ∃ a xs, x = .ref a ∧ H1 a = some (.tup xs) ∧ ∀ (p : Addr) (H' : Hp), Same H1 H' → H1 p = none → H' p = some (.tup xs.reverse) → Q (.ref p) H'
theorem pe_rev {e st : Expr} {te : TE} {pos p2 : Pos} (he : PE X e te) (hst : PE X st (tC (.int (-1)))) : PE X (.Subscript e (.Slice none none (some st) p2) pos) (tRev te) := by
 intro pins s σ H Q I h
 refine Subscript_ (thn (he pins s σ H _ I h) fun v s1 ⟨x, H1, I1, r1, q1⟩ => ?_)
 refine wpAny_Slice ?_
 rw [evalPart_none]
 refine wpAny_pure ?_
 refine wpAny_pure ?_
 rw [evalPart_some]
 refine thn (hst pins s1 σ H1 (fun y H' => y = .int (-1) ∧ H1 = H') I1 ⟨rfl, rfl⟩) fun u s3 ⟨y, H3, I3, ry, e1, e2⟩ => ?_
 subst e1 e2
 obtain ⟨t, rfl⟩ := ry
 obtain ⟨a, xs, rfl, ha, q⟩ := q1
 cases r1
 have I4 : Inv X pins σ H1 { s3 with heap := s3.heap.push { cls := .type "slice", data := .fields #[.none, .none, .int (-1) t] } } := I3.kept (t' := s3.toks) fun b ob q => Heap.get?_push_of_some _ q
 obtain ⟨hz, its, r, p⟩ : xs.length ≤ sizeLine ∧ ∃ its : List Value, Vals xs its ∧ IsTupN _ a its.toArray := I4.hok a _ ha
 have p := p.tup
 show wpAny (model X.prog X.w) X.A (subscriptTail e (.Slice none none (some st) p2) (.ref a) (.ref s3.heap.objs.size)) (EP X pins σ Q) X.xe { s3 with heap := s3.heap.push { cls := .type "slice", data := .fields #[.none, .none, .int (-1) t] } }
 refine tail_any (ops := [.ref a, .ref s3.heap.objs.size]) p.typeIs PyProof.Rows.slot_tuple_getitem.lookup ?_ (by with_unfolding_all rfl)
 refine HT.getItem_tuple_rev p (Heap.IsSliceOf.new ..) ?_ (by rw [← r.length]; exact hz)
 refine ⟨.ref _, _, I4.laid (t' := s3.toks) (o := .tup xs.reverse) (fun b ob q => Heap.get?_push_of_some _ q) (Nat.le_refl _) ?_, rfl, q _ _ (Same.new I4.fresh) I4.fresh upd_same⟩
 exact ⟨by rw [List.length_reverse]; exact hz, its.reverse, r.reverse, IsTupN.new _ _⟩
end
end L2

namespace L2
open PySem PySem.Spec PyProof.Rows

section
variable {κ : Type} [DecidableEq κ]
end


section
variable {P : Program} {w : World} {H : Hp} {h : Heap} {a : Addr}
theorem rd_of {u : HO} (ok : HOk P w H h) (e : Rd H a u) : ObjOk P w H h a u := e.ok ok
theorem dk_rd {kvs : List (Key × V)} (ok : HOk P w H h) (e : Rd H a (.dK kvs)) : kvs.length ≤ sizeLine ∧ (a == sysModules) = false ∧ ∃ vs, KV kvs vs ∧ h.DictOf (mixKind P w) a vs :=
 show ObjOk P w H h a (.dK kvs) from rd_of ok e
theorem dk_of {kvs : List (Key × V)} (ok : HOk P w H h) (e : H a = some (.dK kvs)) : kvs.length ≤ sizeLine ∧ (a == sysModules) = false ∧ ∃ vs, KV kvs vs ∧ h.DictOf (mixKind P w) a vs := dk_rd ok (.inl e)
end

section
variable {X : Cx} {pins : List (Addr × Obj)} {σ : St} {H : Hp} {s : Shared} {a : Addr} {y v : V} {u r : Value} {o : Option V} {A : Around} {E : Value → Shared → Prop}

theorem Inv.big (I : Inv X pins σ H s) : sysModules < s.heap.objs.size := by
 have h : mainGlobals < s.heap.objs.size := (I.mod.glob.keeps I.bk).lt
 exact Nat.lt_trans (by decide) h

theorem d_write {h' : Heap} {t' : Nat} {ob : HO} (I : Inv X pins σ H s) (mu : Mut (H a)) (hs : Heap.SameBut a s.heap h') (he : ∃ q, h'.get? a = some q) (new : ObjOk X.prog X.w (upd H a ob) h' a ob) :
 Inv X pins σ (upd H a ob) { s with heap := h', toks := t' } :=
 I.write (x := a) (e := a) mu (.inl rfl) (fun b q hb z => (hs.2 b hb).trans z) he new
end

section
variable {X : Cx} {pins : List (Addr × Obj)} {σ : St} {H : Hp} {s : Shared} {a : Addr} {kvs : List (Key × V)} {k : Key} {u : Value} {A : Around} {E : Value → Shared → Prop}
end


section
variable {X : Cx} {o i e value : Expr} {pos pos' tpos : Pos} {td ty tv : TE}
end


theorem dk_empty {P : Program} {w : World} {H : Hp} (h : Heap) (hb : sysModules < h.objs.size) : ObjOk P w H (h.push { cls := .type "dict", data := .dict #[] }) h.objs.size (.dK []) :=
 ⟨Nat.zero_le _, beq_eq_false_iff_ne.mpr (Ne.symm (Nat.ne_of_lt hb)), [], .nil, Heap.DictOf.new h⟩
section
variable {X : Cx} {pos : Pos}
end

noncomputable def tPairs : List (TE × TE) → St → Hp → (List (V × V) → Hp → Prop) → Prop
 | [], _, H, Q => Q [] H
 | (tk, tv) :: r, σ, H, Q => tk σ H fun x H1 => tv σ H1 fun y H2 => tPairs r σ H2 fun ps H3 => Q ((x, y) :: ps) H3
noncomputable abbrev VV : List (V × V) → List (Value × Value) → Prop := Paired fun p q => RelV p.1 q.1 ∧ RelV p.2 q.2
noncomputable def PPs (X : Cx) (pos : Pos) (keys : List (Option Expr)) (values : List Expr) (trs : List (TE × TE)) : Prop :=
 ∀ (pins : List (Addr × Obj)) (s : Shared) (σ : St) (H : Hp) (Q : List (V × V) → Hp → Prop), Inv X pins σ H s → tPairs trs σ H Q →
   wpAny (model X.prog X.w) X.A (evalPairs (pairTrees keys values X.env pos)) (fun vs s' => ∃ ps H', Inv X pins σ H' s' ∧ VV ps vs ∧ Q ps H') X.xe s
theorem pps_nil {X : Cx} {pos : Pos} : PPs X pos [] [] [] := fun pins s σ H Q I h => pairTrees_nil_walk ⟨[], H, I, .nil, h⟩
theorem pps_cons {X : Cx} {pos : Pos} {k v : Expr} {ks : List (Option Expr)} {vs : List Expr} {tk tv : TE} {trs : List (TE × TE)} (hk : PE X k tk) (hv : PE X v tv) (hr : PPs X pos ks vs trs) :
 PPs X pos (some k :: ks) (v :: vs) ((tk, tv) :: trs) := fun pins s σ H Q I h =>
 pairTrees_cons_walk (thn (hk pins s σ H _ I h) fun u s1 ⟨x, H1, I1, rx, q1⟩ => thn (hv pins s1 σ H1 _ I1 q1) fun w2 s2 ⟨y, H2, I2, ry, q2⟩ =>
  thn (hr pins s2 σ H2 _ I2 q2) fun ws s3 ⟨ps, H3, I3, rel, q3⟩ => ⟨(x, y) :: ps, H3, I3, .cons ⟨rx, ry⟩ rel, q3⟩)

end L2

namespace L2
open PySem PySem.Spec PyProof.Rows PySem.W
theorem pe_neg1 {X : Cx} {j : Nat} {pos pos' : Pos} : PE X (.UnaryOp .USub (.Constant (.int 1) j pos') pos) (tC (.int (-1))) := fun pins s σ H Q I h => pe_un un_neg pe_int pins s σ H Q I ⟨_, rfl, h⟩
theorem ki_nt (K : PySem.W.Frag) : PySem.W.kitOne K (.type "NoneType") (.type "tuple") = some false := by rfl
theorem ki_bt (K : PySem.W.Frag) : PySem.W.kitOne K (.type "bool") (.type "tuple") = some false := by rfl
theorem ki_st (K : PySem.W.Frag) : PySem.W.kitOne K (.type "str") (.type "tuple") = some false := by rfl
theorem ki_lt (K : PySem.W.Frag) : PySem.W.kitOne K (.type "list") (.type "tuple") = some false := by rfl
theorem ki_dt (K : PySem.W.Frag) : PySem.W.kitOne K (.type "dict") (.type "tuple") = some false := by rfl
theorem ki_ni (K : PySem.W.Frag) : PySem.W.kitOne K (.type "NoneType") (.type "int") = some false := by rfl
theorem ki_si (K : PySem.W.Frag) : PySem.W.kitOne K (.type "str") (.type "int") = some false := by rfl
theorem ki_li (K : PySem.W.Frag) : PySem.W.kitOne K (.type "list") (.type "int") = some false := by rfl
theorem ki_ti (K : PySem.W.Frag) : PySem.W.kitOne K (.type "tuple") (.type "int") = some false := by rfl
section
variable {K : PySem.W.Frag} {H H' : Hp} {n m : Nat} {v : V}
end
end L2

namespace L2
open PySem PySem.Spec PyProof.Rows PySem.W
section
variable {X : Cx}
theorem ps_forX {tg iter : Expr} {body : List Stmt} {wi : TI} {g : TG} {tb : TS} {pos : Pos} (hs : ∀ x : Value, foldedSetIterable iter X.env x = pure x) (h1 : PassesOwn (model X.prog X.w) X.A X.env X.xe) (h2 : X.calm = true) (hi : PI X tg iter wi) (hg : PG X tg g) (hb : PSs X body tb) :
 PS X (.For tg iter body [] pos) (tFor wi g tb) := ps_for h1 h2 hi hg hb hs
end
end L2



namespace L2
open PySem PySem.Spec PyProof.Rows
section
variable {X : Cx} {pins : List (Addr × Obj)} {σ : St} {H : Hp} {s : Shared} {h' : Heap}
theorem Inv.turnedL {ch : List Addr} {t' : Nat} (I : Inv X pins σ H s) (k : ∀ b ob, b ∉ ch → s.heap.get? b = some ob → h'.get? b = some ob) (fe : ∀ b ∈ ch, FpOk X pins H b) : Inv X pins σ H { s with heap := h', toks := t' } := by
 have nit : ∀ b u, H b = some u → b ∉ ch := fun b u q z => by rw [(fe b z).1] at q; cases q
 refine I.step (g' := s.gens) (d' := s.drawn) (ch := ch) (fun b hb => ?_) (fun b ob _ _ hc q _ => k b ob hc q) (fun b ob _ _ hc q _ => ⟨ob.slots, k b ob hc q⟩) (fun _ _ _ _ n => n)
  (fun b ob hc q => ⟨ob, k b ob hc q⟩) (fun _ _ q => q) (fun _ _ _ q => q) (fun b ps q => ⟨#[], by rw [q]; simp⟩) (fun m hm => ?_) (fun b u q => ?_) I.bare
 · have z := fe b hb
   exact ⟨z.2.2.2.1, z.2.1, z.2.2.2.2.1, z.2.2.2.2.2⟩
 · obtain ⟨ob, es, ep, ho, r⟩ := hm
   exact ⟨ob, es, ep, k _ ob (fun z => (fe _ z).2.1 rfl) ho, r⟩
 · refine (I.hok b u q).stay (fun c v hc z => k c v ?_ z) (fun _ z => z) fun _ _ z => z
   rcases hc with z | z
   · rw [z]; exact nit b u q
   · exact nit c _ z
theorem Inv.turnedNewL {ch : List Addr} {T : Addr} {o : HO} {t' : Nat} (I : Inv X pins σ H s) (k : ∀ b ob, b ∉ ch → s.heap.get? b = some ob → h'.get? b = some ob) (fe : ∀ b ∈ ch, FpOk X pins H b)
 (hT : s.heap.objs.size ≤ T) (new : ObjOk X.prog X.w (upd H T o) h' T o) : Inv X pins σ (upd H T o) { s with heap := h', toks := t' } := by
 have hn : H T = none := I.hok.fresh hT
 have neT : ∀ b ob, s.heap.get? b = some ob → b ≠ T := fun b ob q => Nat.ne_of_lt (Nat.lt_of_lt_of_le (Heap.lt_size q) hT)
 have nit : ∀ b u, H b = some u → b ∉ ch := fun b u q z => by rw [(fe b z).1] at q; cases q
 refine I.step (g' := s.gens) (d' := s.drawn) (ch := ch) (fun b hb => ?_) (fun b ob _ _ hc q _ => k b ob hc q) (fun b ob _ _ hc q _ => ⟨ob.slots, k b ob hc q⟩)
  (fun b ob _ q n => by rw [upd_ne (neT b ob q)]; exact n) (fun b ob hc q => ⟨ob, k b ob hc q⟩)
  (fun b xs q => by rw [upd_ne (ne_of_none q hn)]; exact q) (fun b ob u q => by rw [upd_ne (ne_of_none q hn)]; exact q) (fun b ps q => ⟨#[], by rw [upd_ne (ne_of_none q hn), q]; simp⟩) (fun m hm => ?_) (fun b u q => ?_) I.bare
 · have z := fe b hb
   exact ⟨z.2.2.2.1, z.2.1, z.2.2.2.2.1, z.2.2.2.2.2⟩
 · obtain ⟨ob, es, ep, ho, r⟩ := hm
   exact ⟨ob, es, ep, k _ ob (fun z => (fe _ z).2.1 rfl) ho, r⟩
 · by_cases hb : b = T
   · subst hb; rw [upd_same] at q; cases q; exact new
   · rw [upd_ne hb] at q
     refine (I.hok b u q).stay (fun c v hc z => ?_) (fun c z => by rw [upd_ne (ne_of_none z hn)]; exact z) fun c xs z => by rw [upd_ne (ne_of_none z hn)]; exact z
     rcases hc with e1 | e1
     · subst e1; exact k _ v (nit _ u q) z
     · exact k c v (nit c _ e1) z
end
noncomputable def ItemN (prog : Program) (w : World) (A : Around) (I : Addr) (wr : List Addr) (n : Nat) (Pt : Nat → Array Value → Prop) (St : Nat → Heap → Prop) (Mid : Nat → Addr → Heap → Prop) : Prop :=
 ∀ (i : Nat) (s : Shared) (Q : Option Value → Shared → Prop) (E : Value → Shared → Prop), i < n → St i s.heap →
   (∀ (T : Addr) (x y : Value) (h' : Heap) (tk : Nat), Pt i #[x, y] → s.heap.objs.size ≤ T → h'.get? T = some { cls := .type "tuple", data := .seq #[x, y] } → Mid i T h' → (∀ b o, b ∉ wr → s.heap.get? b = some o → h'.get? b = some o) → Q (some (.ref T)) { s with heap := h', toks := tk }) →
   wpAny (model prog w) A (pyNext (.ref I)) Q E s
noncomputable def ItP (go : Nat → Hp → Prop) (pr : Nat → Hp → V → V → Prop) (stop : Nat → Hp → Prop) : It := ⟨go, fun i H x H' => ∃ T u v, x = .ref T ∧ H T = none ∧ H' = upd H T (.tup [u, v]) ∧ pr i H u v, stop⟩
section
variable {P : Program} {w : World} {K : PySem.W.Frag}
theorem turn_pairs {elts : List Expr} {ek : Nat} {epos : Pos} {go : Nat → Hp → Prop} {pr : Nat → Hp → V → V → Prop} {stop : Nat → Hp → Prop} {I : Addr} {fp wr : List Addr} {tn : Nat → Heap → Prop}
 (hI : I ∈ fp) (hw : ∀ b ∈ wr, b ∈ fp) (obj : ∀ i h, tn i h → ∀ b ∈ fp, ∃ o, h.get? b = some o ∧ ∀ v, o.data ≠ .cell v)
 (keep : ∀ i h h', tn i h → (∀ b ∈ fp, ∀ o, h.get? b = some o → h'.get? b = some o) → tn i h')
 (self : ∀ (A : Around) (i : Nat) (s : Shared) (Q : Value → Shared → Prop) (E : Value → Shared → Prop), tn i s.heap → Q (.ref I) s → wpAny (model P w) A (pyIter (.ref I)) Q E s)
 (it : ∀ (X : Cx), X.prog = P → X.w = w → X.K = K → X.calm = true → ∀ (i : Nat) (pins : List (Addr × Obj)) (s : Shared) (σ : St) (H : Hp), Inv X pins σ H s → (∀ b ∈ fp, FpOk X pins H b) → tn i s.heap → go i H →
  ∃ fp' n Pt St Mid, (WalksT P w X.A I fp' wr n Pt St Mid ∧ ItemN P w X.A I wr n Pt St Mid) ∧ i < n ∧ St i s.heap ∧ (∀ h', St (i + 1) h' → tn (i + 1) h') ∧ ∀ vals, Pt i vals → ∃ u v x y, vals = #[x, y] ∧ RelV u x ∧ RelV v y ∧ pr i H u v)
 (dn : ∀ (X : Cx), X.prog = P → X.w = w → X.K = K → X.calm = true → ∀ (i : Nat) (pins : List (Addr × Obj)) (s : Shared) (σ : St) (H : Hp), Inv X pins σ H s → (∀ b ∈ fp, FpOk X pins H b) → tn i s.heap → stop i H →
  ∃ fp' n Pt St Mid, WalksT P w X.A I fp' wr n Pt St Mid ∧ St n s.heap) :
 Turn P w K (.Tuple elts ek epos) (ItP go pr stop) fp I tn where
 mem := hI
 obj := obj
 keep := keep
 self := self
 item := by
  intro X hP hw' hK hc i pins s σ H E I0 hf st hg
  obtain ⟨fp', n, Pt, St, Mid, ⟨W, WN⟩, hi, hst, hnx, hpt⟩ := it X hP hw' hK hc i pins s σ H I0 hf st hg
  subst hP hw' hK
  refine WN i s _ _ hi hst fun T x0 y0 h1 tk hv hT hIT hmid hk1 => ⟨.ref T, rfl, ?_⟩
  refine W.go elts ek epos i T _ _ _ hmid fun h2 hs2 hk2 => ?_
  obtain ⟨u, v, x, y, exy, ru, rv, hpr⟩ := hpt _ hv
  cases exy
  have fe : ∀ b ∈ wr, FpOk X pins H b := fun b hb => hf b (hw b hb)
  have hTw : T ∉ wr := W.apart i T _ hmid
  have hn : H T = none := I0.hok.fresh hT
  have I2 : Inv X pins σ (upd H T (.tup [u, v])) { s with heap := h2, toks := tk } :=
   I0.turnedNewL (ch := wr) (fun b ob hb q => hk2 b ob hb (hk1 b ob hb q)) fe hT ⟨by show 2 ≤ sizeLine; decide, [x0, y0], .cons ru (.cons rv .nil), ⟨_, hk2 T _ hTw hIT, rfl, _, rfl⟩⟩
  refine ⟨.ref T, _, I2, rfl, ⟨T, u, v, rfl, hn, rfl, hpr⟩, hnx _ hs2, fun b hb => ?_⟩
  obtain ⟨ob, eb, _⟩ := obj i _ st b hb
  rw [upd_ne (Nat.ne_of_lt (Nat.lt_of_lt_of_le (Heap.lt_size eb) hT))]
  exact (hf b hb).1
 done := by
  intro X hP hw' hK hc i pins s σ H E I0 hf st hg
  obtain ⟨fp', n, Pt, St, Mid, W, hst⟩ := dn X hP hw' hK hc i pins s σ H I0 hf st hg
  subst hP hw' hK
  exact W.done s _ _ hst fun h1 tk hk => ⟨rfl, I0.turnedL hk fun b hb => hf b (hw b hb)⟩
end

section
variable {prog : Program} {w : World} {A : Around}
theorem nextT_some {j t : Addr} {i : Nat} {its : Array Value} {y : Value} {s : Shared} {E Q : Value → Shared → Prop} (hj : s.heap.IsTupleIter j t i) (hs : s.heap.IsTuple t its) (hy : its[i]? = some y) (q : ∀ hp, hp.IsTupleIter j t (i + 1) → Heap.SameBut j s.heap hp → Q y { s with heap := hp }) : wpAny (model prog w) A (Builtin.SmallTypes.nextOf (.ref j)) Q E s := by
 obtain ⟨oj, gj, cj, dj⟩ := id hj
 obtain ⟨ot, gt, ct, nt, dt⟩ := hs
 unfold Builtin.SmallTypes.nextOf; refine wpAny_bind (wpAny_callSpecial?_slot (name := Str.ofString "__next__") hj.typeIs slot_tupleiter_next (wpAny_call_entry slot_tupleiter_next hj.typeIs entry_tupleiter_next ?_ (args_tupleiter_next _)))
 show wpAny _ _ (field (.ref j) 0 >>= _) _ _ s; refine wpAny_bind (wpAny_field gj dj (x := .ref t) rfl ?_)
 show wpAny _ _ (if (Value.ref t == Value.none) = true then _ else _) _ _ s; rw [if_neg (show ¬ ((Value.ref t == Value.none) = true) from Bool.false_ne_true)]
 show wpAny _ _ (field (.ref j) 1 >>= _) _ _ s; refine wpAny_bind (wpAny_field gj dj (x := .int i 0) rfl ?_)
 show wpAny _ _ (seqItems? (.ref t) >>= _) _ _ s; refine wpAny_bind (wpAny_seqItems gt dt ?_)
 simp only [Int.toNat_natCast, hy]; refine wpAny_bind (wpAny_setField gj dj (by simp) (wpAny_pure ⟨y, rfl, wpAny_pure (q _ ?_ (Heap.SameBut.update ..))⟩))
 exact ⟨_, Heap.get?_update_self _ gj (Obj.isFreed_of_fields (Obj.data_mapFields dj _)), (Obj.cls_mapFields ..).trans cj, by rw [Obj.data_mapFields dj]; simp [rawInt]⟩
theorem nextT_none {j t : Addr} {i : Nat} {its : Array Value} {s : Shared} {E Q : Value → Shared → Prop} (hh : A.handled = none) (hj : s.heap.IsTupleIter j t i) (hs : s.heap.IsTuple t its) (hy : its[i]? = none) (q : ∀ hp e, Heap.ExtBut j s.heap hp → (∃ o, hp.get? e = some o ∧ o.cls = .type "StopIteration") → E (.ref e) { s with heap := hp }) : wpAny (model prog w) A (Builtin.SmallTypes.nextOf (.ref j)) Q E s := by
 obtain ⟨oj, gj, cj, dj⟩ := id hj
 obtain ⟨ot, gt, ct, nt, dt⟩ := hs
 unfold Builtin.SmallTypes.nextOf; refine wpAny_bind (wpAny_callSpecial?_slot (name := Str.ofString "__next__") hj.typeIs slot_tupleiter_next (wpAny_call_entry slot_tupleiter_next hj.typeIs entry_tupleiter_next ?_ (args_tupleiter_next _)))
 show wpAny _ _ (field (.ref j) 0 >>= _) _ _ s; refine wpAny_bind (wpAny_field gj dj (x := .ref t) rfl ?_)
 show wpAny _ _ (if (Value.ref t == Value.none) = true then _ else _) _ _ s; rw [if_neg (show ¬ ((Value.ref t == Value.none) = true) from Bool.false_ne_true)]
 show wpAny _ _ (field (.ref j) 1 >>= _) _ _ s; refine wpAny_bind (wpAny_field gj dj (x := .int i 0) rfl ?_)
 show wpAny _ _ (seqItems? (.ref t) >>= _) _ _ s; refine wpAny_bind (wpAny_seqItems gt dt ?_)
 simp only [Int.toNat_natCast, hy]; refine wpAny_bind (wpAny_rule (wpAny_bind (wpAny_setField gj dj (by simp) ?_)))
 show wpAny _ _ (newExc (.type "StopIteration") [] >>= _) _ _ _; refine wpAny_bind ?_; simp only [newExc, newTuple]
 refine wpAny_bind (wpAny_newObj_type ?_ (by size_fits)); refine wpAny_bind (m := firstArgMember _ _) (wpAny_of_eq (a := Value.none) (by first | rfl | (simp only [firstArgMember]; rfl)) ?_)
 refine wpAny_newObj_type ?_ (by size_fits); simp only [raiseNew]; refine wpAny_bind (wpAny_handled ?_)
 first | rw [show A.in1.handled = none from hh] | rw [hh]
 refine wpAny_bind (wpAny_pure (wpAny_throw ?_)); exact q _ _ (((Heap.SameBut.update ..).extBut.push _).push _) ⟨_, Heap.get?_push_size _ rfl, rfl⟩
theorem drawsT (hh : A.handled = none) (it l : Addr) (hne : l ≠ it) (its : Array Value) :
 Draws prog w A it [it, l] its.size (fun i v => its[i]? = some v) (fun i h => h.IsTupleIter it l i ∧ h.IsTuple l its) where
 live := fun _ _ st => by
  obtain ⟨o, ho, _⟩ := st.1
  exact ⟨o, ho⟩
 frame := fun _ _ _ st hk => by
  obtain ⟨o, ho, r⟩ := st.2
  exact ⟨st.1.at fun o e => hk it (by simp) o e, o, hk l (by simp) o ho, r⟩
 item := fun i s Q E hi st hQ => by
  obtain ⟨s1, o, ho, r⟩ := st
  exact nextT_some s1 ⟨o, ho, r⟩ (y := its[i]) (by simp [hi]) fun hp a b => hQ _ hp s.toks (by simp [hi]) ⟨a, o, b.extBut l o hne ho, r⟩ b
 done := fun s Q E st hE => nextT_none hh st.1 st.2 (by simp) hE
end

section
variable {P : Program} {w : World} {K : PySem.W.Frag} {elts : List Expr} {ek : Nat} {epos : Pos}
end
section
variable {X : Cx} {elts : List Expr} {ek : Nat} {epos : Pos}
end
section
variable {X : Cx}
end
end L2

namespace L2
open PySem PySem.Spec PyProof.Rows
noncomputable def Fnd (K : PySem.W.Frag) (mg : Str → Option Value) (nm : Str) (st : Stmt) (ps : List Str) : Prop := ∃ (f : Addr) (fd : FuncData), Fun K nm nm st f fd ∧ mg nm = some (.ref f) ∧ Binds K fd ps []
noncomputable def Def (P : Program) (w : World) (K : PySem.W.Frag) (mg : Str → Option Value) (base : Heap) (k : Nat) (nm : Str) (ps : List Str) (sp : Sp) : Prop :=
 ∃ (f : Addr) (fd : FuncData), PySem.W.keepIn K (.ref f) = true ∧ mg nm = some (.ref f) ∧ Binds K fd ps [] ∧ FnOk P w K mg base CX0 k f fd ps sp
theorem Fnd.def {P : Program} {w : World} {K : PySem.W.Frag} {mg : Str → Option Value} {base : Heap} {k : Nat} {nm : Str} {st : Stmt} {ps : List Str} {sp : Sp} (S : Fnd K mg nm st ps) (h : ∀ f fd, Fun K nm nm st f fd → FnOk P w K mg base CX0 k f fd ps sp) : Def P w K mg base k nm ps sp := by
 obtain ⟨f, fd, F, m, b⟩ := S
 exact ⟨f, fd, F.kp, m, b, h f fd F⟩
section
variable {X : Cx}
theorem pe_def {k : Nat} {nm : Str} {ps : List Str} {sp : Sp} {e : Expr} {es : List Expr} {t : TA} {p pos : Pos} (hg : Gl X nm) (he : starEach (e :: es) X.env = (false, eval e X.env) :: starEach es X.env) (hpl : (backTo pos (starEach es X.env)).any (·.1) = false) (hdb : (nm == ("__debug__" : Str)) = false)
 (D : Def X.prog X.w X.K X.mg X.base k nm ps sp) (hr : Room k X.A) (ha : PA X (e :: es) t) :
 PE X (.Call (.Name nm p) (e :: es) [] pos) (tCall sp [] E0 t) := by
 obtain ⟨f, fd, a, b, c, F⟩ := D
 exact pe_call F hr hg b a c .nil pass0 ha hdb he hpl
end
section
variable {K : PySem.W.Frag} {a b D : Addr} {xs zs : List V} {g : TG} {tt : TT} {te : TE} {σ0 : St} {H0 : Hp} {Q : VK}
end
structure Txt (mg : Str → Option Value) : Prop where
 abs : mg "abs" = none
 isi : mg "isinstance" = none
 tup : mg "tuple" = none
 int : mg "int" = none
 bool : mg "bool" = none
 lst : mg "list" = none
 enu : mg "enumerate" = none
 len : mg "len" = none
 range : mg "range" = none
 srt : mg "sorted" = none
 sum : mg "sum" = none
 zip : mg "zip" = none
 max : mg "max" = none
end L2




namespace L2
open PySem PySem.Spec PyProof.Rows
noncomputable def Sq (b : Bool) (K : PySem.W.Frag) (H : Hp) (a : Addr) (xs : List V) : Prop := if b = true then SqL K H a xs else SqT K H a xs
section
variable {b : Bool} {K : PySem.W.Frag} {a D : Addr} {xs : List V} {g : TG} {tt : TT} {te : TE} {σ0 : St} {H0 : Hp} {Q : VK}
end
end L2























namespace L2
open PySem PySem.Spec PyProof.Rows
structure ZFar (z TI TO i1 i2 : Addr) (f1 f2 : List Addr) : Prop where
 a1 : TI ≠ z
 a2 : TO ≠ z
 a3 : i1 ≠ z
 a4 : i2 ≠ z
 a5 : TI ≠ TO
 a6 : TI ≠ i1
 a7 : TI ≠ i2
 a8 : TO ≠ i1
 a9 : TO ≠ i2
 b0 : i1 ≠ i2
 b1 : z ∉ f1
 b2 : z ∉ f2
 b3 : TO ∉ f1
 b4 : TO ∉ f2
 b5 : i2 ∉ f1
 b6 : i1 ∉ f2
section
variable {prog : Program} {w : World} {A : Around} {E : Value → Shared → Prop} {s : Shared} {z TI TO i1 i2 : Addr} {f1 f2 : List Addr} {n1 n2 k : Nat} {P1 P2 : Nat → Value → Prop} {S1 S2 : Nat → Heap → Prop} {a b : Value}
theorem Draws.but {it c : Addr} {f : List Addr} {n i : Nat} {Pp : Nat → Value → Prop} {St : Nat → Heap → Prop} {h h' : Heap} (D : Draws prog w A it f n Pp St) (nc : c ∉ f) (x : Heap.ExtBut c h h') (st : St i h) : St i h' :=
 D.frame i h h' st fun b hb o e => x b o (fun y => nc (y ▸ hb)) e
theorem zipD_item {Q : Value → Shared → Prop} (D1 : Draws prog w A i1 f1 n1 P1 S1) (D2 : Draws prog w A i2 f2 n2 P2 S2) (Z : ZFar z TI TO i1 i2 f1 f2)
 (gz : IsZip s.heap z TI TO .none) (gI : IsPair s.heap TI (.ref i1) (.ref i2)) (gO : IsPair s.heap TO a b) (g1 : S1 k s.heap) (g2 : S2 k s.heap) (l1 : k < n1) (l2 : k < n2)
 (q : ∀ x y hp tk, P1 k x → P2 k y → IsZip hp z TI TO (rawInt s.heap.objs.size) → IsPair hp TO x y → S1 (k + 1) hp → S2 (k + 1) hp → IsPair hp s.heap.objs.size x y →
  (∀ c o, c ≠ z → c ≠ TO → c ≠ i1 → c ≠ i2 → s.heap.get? c = some o → hp.get? c = some o) → Q (.ref s.heap.objs.size) { s with heap := hp, toks := tk }) :
 wpAny (model prog w) A (Builtin.«zip.__next__» ⟨[.ref z], []⟩) (fun fin s' => ∃ v, fin = .done (.ret v) ∧ Q v s') E s := by
 show wpAny _ _ (field (.ref z) 2 >>= _) _ _ _; refine wpAny_bind (wpAny_field gz rfl (x := .bool false) rfl ?_)
 show wpAny _ _ (field (.ref z) 3 >>= _) _ _ _; refine wpAny_bind (wpAny_field gz rfl (x := .ref TI) rfl (wpAny_bind (wpAny_seqItems gI rfl ?_)))
 show wpAny _ _ (Builtin.SmallTypes.ownedTupleIsFree (.ref z) >>= _) _ _ _; refine wpAny_bind ?_; unfold Builtin.SmallTypes.ownedTupleIsFree
 refine wpAny_bind (wpAny_field gz rfl (x := .none) rfl (wpAny_pure ?_)); simp only [if_true]
 refine wpAny_bind (wpAny_rule (wpAny_bind (wpAny_field gz rfl (x := .ref TO) rfl (wpAny_bind (wpAny_setField_rec gz (by simp) fun p1 gz1 t1 => ?_)))))
 replace gz1 : IsZip p1 z TI TO .ellipsis := gz1; refine wpAny_bind ?_; simp only [List.zipIdx_cons, List.zipIdx_nil, List.forIn_cons, List.forIn_nil]
 refine wpAny_bind (wpAny_bind (wpAny_onRaise ?_)); show wpAny _ _ (Builtin.SmallTypes.nextOf (.ref i1) >>= _) _ _ _
 refine wpAny_bind (D1.item k _ _ _ l1 (Draws.but D1 Z.b1 t1.extBut g1) fun x p2 tk2 px g12 t2 => wpAny_pure ?_)
 have gO2 : IsPair p2 TO a b := t2.extBut _ _ Z.a8 (t1.extBut _ _ Z.a2 gO)
 refine wpAny_bind (wpAny_seqItems gO2 rfl (wpAny_bind (wpAny_updateSeq_pair gO2 fun p3 gO3 t3 => ?_)))
 replace gO3 : IsPair p3 TO x b := gO3; refine wpAny_bind (wpAny_letGo (wpAny_pure ?_))
 refine wpAny_bind (wpAny_bind (wpAny_onRaise ?_)); show wpAny _ _ (Builtin.SmallTypes.nextOf (.ref i2) >>= _) _ _ _
 refine wpAny_bind (D2.item k _ _ _ l2 (Draws.but D2 Z.b4 t3.extBut (Draws.but D2 Z.b6 t2.extBut (Draws.but D2 Z.b2 t1.extBut g2))) fun y p4 tk4 py g24 t4 => wpAny_pure ?_)
 have gO4 : IsPair p4 TO x b := t4.extBut _ _ Z.a9 gO3
 refine wpAny_bind (wpAny_seqItems gO4 rfl (wpAny_bind (wpAny_updateSeq_pair gO4 fun p5 gO5 t5 => ?_)))
 replace gO5 : IsPair p5 TO x y := gO5; refine wpAny_bind (wpAny_letGo (wpAny_pure (wpAny_pure ?_)))
 refine wpAny_bind (wpAny_seqItems gO5 rfl (wpAny_bind (wpAny_newTuple ?_)))
 have sz : p5.objs.size = s.heap.objs.size := by rw [t5.1, t4.1, t3.1, t2.1, t1.1]
 have gz5 : IsZip p5 z TI TO .ellipsis := t5.extBut _ _ Z.a2.symm (t4.extBut _ _ Z.a4.symm (t3.extBut _ _ Z.a2.symm (t2.extBut _ _ Z.a3.symm gz1)))
 have kp5 : ∀ c o, c ≠ z → c ≠ TO → c ≠ i1 → c ≠ i2 → s.heap.get? c = some o → p5.get? c = some o := fun c o c1 c2 c3 c4 e => t5.extBut _ _ c2 (t4.extBut _ _ c4 (t3.extBut _ _ c2 (t2.extBut _ _ c3 (t1.extBut _ _ c1 e))))
 have g15 : S1 (k + 1) p5 := Draws.but D1 Z.b3 t5.extBut (Draws.but D1 Z.b5 t4.extBut (Draws.but D1 Z.b3 t3.extBut g12))
 have g25 : S2 (k + 1) p5 := Draws.but D2 Z.b4 t5.extBut g24
 have lz : z < p5.objs.size := Heap.lt_size gz5
 show wpAny _ _ (Builtin.SmallTypes.ownedTupleHandOut (.ref z) (.ref p5.objs.size) >>= _) _ _ _; refine wpAny_bind ?_; unfold Builtin.SmallTypes.ownedTupleHandOut
 have gz6 : IsZip (p5.push { cls := .type "tuple", data := .seq #[x, y] }) z TI TO .ellipsis := Heap.get?_push_of_some _ gz5
 refine wpAny_bind (wpAny_setField_rec gz6 (by simp) fun p7 gz7 t7 => ?_); replace gz7 : IsZip p7 z TI TO (rawInt p5.objs.size) := gz7
 refine wpAny_setField_rec gz7 (by simp) fun p8 gz8 t8 => ?_; replace gz8 : IsZip p8 z TI TO (rawInt p5.objs.size) := gz8
 have up : ∀ c o, c ≠ z → p5.get? c = some o → p8.get? c = some o := fun c o c1 e => t8.extBut _ _ c1 (t7.extBut _ _ c1 (Heap.get?_push_of_some _ e))
 have gT8 : IsPair p8 p5.objs.size x y := t8.extBut _ _ (Nat.ne_of_gt lz) (t7.extBut _ _ (Nat.ne_of_gt lz) (Heap.get?_push_size _ rfl))
 rw [sz] at gz8 gT8
 refine wpAny_pure ⟨_, rfl, ?_⟩; show Q (.ref p5.objs.size) _; rw [sz]
 exact q x y p8 tk4 px py gz8 (up _ _ Z.a2 gO5) (D1.frame _ _ _ g15 fun b hb o e => up _ o (fun y => Z.b1 (y ▸ hb)) e) (D2.frame _ _ _ g25 fun b hb o e => up _ o (fun y => Z.b2 (y ▸ hb)) e) gT8 fun c o c1 c2 c3 c4 e => up c o c1 (kp5 c o c1 c2 c3 c4 e)
theorem zipD_end {Q : Fin → Shared → Prop} (D1 : Draws prog w A i1 f1 n1 P1 S1) (D2 : Draws prog w A i2 f2 n2 P2 S2) (Z : ZFar z TI TO i1 i2 f1 f2) (gz : IsZip s.heap z TI TO .none) (gI : IsPair s.heap TI (.ref i1) (.ref i2)) (gO : IsPair s.heap TO a b) (g1 : S1 k s.heap) (g2 : S2 k s.heap) (hk : k = n1 ∨ (k < n1 ∧ k = n2))
 (q : ∀ hp e tk, (∀ c o, c ≠ z → c ≠ TO → c ≠ i1 → c ≠ i2 → s.heap.get? c = some o → hp.get? c = some o) → (∃ o, hp.get? e = some o ∧ o.cls = .type "StopIteration") → E (.ref e) { s with heap := hp, toks := tk }) :
 wpAny (model prog w) A (Builtin.«zip.__next__» ⟨[.ref z], []⟩) Q E s := by
 show wpAny _ _ (field (.ref z) 2 >>= _) _ _ _; refine wpAny_bind (wpAny_field gz rfl (x := .bool false) rfl ?_)
 show wpAny _ _ (field (.ref z) 3 >>= _) _ _ _; refine wpAny_bind (wpAny_field gz rfl (x := .ref TI) rfl (wpAny_bind (wpAny_seqItems gI rfl ?_)))
 show wpAny _ _ (Builtin.SmallTypes.ownedTupleIsFree (.ref z) >>= _) _ _ _; refine wpAny_bind ?_; unfold Builtin.SmallTypes.ownedTupleIsFree
 refine wpAny_bind (wpAny_field gz rfl (x := .none) rfl (wpAny_pure ?_)); simp only [if_true]
 refine wpAny_bind (wpAny_rule (wpAny_bind (wpAny_field gz rfl (x := .ref TO) rfl (wpAny_bind (wpAny_setField_rec gz (by simp) fun p1 gz1 t1 => ?_)))))
 replace gz1 : IsZip p1 z TI TO .ellipsis := gz1; refine wpAny_bind ?_; simp only [List.zipIdx_cons, List.zipIdx_nil, List.forIn_cons, List.forIn_nil]
 refine wpAny_bind (wpAny_bind (wpAny_onRaise ?_)); show wpAny _ _ (Builtin.SmallTypes.nextOf (.ref i1) >>= _) _ _ _
 rcases hk with e | ⟨hlt, e⟩
 · subst e
   refine wpAny_bind (D1.done _ _ _ (Draws.but D1 Z.b1 t1.extBut g1) fun p2 e t2 he => ?_)
   obtain ⟨oe, hoe, hce⟩ := he
   have gz2 : IsZip p2 z TI TO .ellipsis := t2 _ _ Z.a3.symm gz1
   have ez : e ≠ z := fun x => by subst x; rw [gz2] at hoe; cases hoe; simp at hce
   exact wpAny_setField_rec gz2 (by simp) fun p3 _ t3 => q p3 e _ (fun c o c1 _ c3 _ x => t3.extBut _ _ c1 (t2 _ _ c3 (t1.extBut _ _ c1 x))) ⟨oe, t3.extBut _ _ ez hoe, hce⟩
 · subst e
   refine wpAny_bind (D1.item k _ _ _ hlt (Draws.but D1 Z.b1 t1.extBut g1) fun x p2 tk2 px g12 t2 => wpAny_pure ?_)
   have gO2 : IsPair p2 TO a b := t2.extBut _ _ Z.a8 (t1.extBut _ _ Z.a2 gO)
   refine wpAny_bind (wpAny_seqItems gO2 rfl (wpAny_bind (wpAny_updateSeq_pair gO2 fun p3 gO3 t3 => ?_)))
   refine wpAny_bind (wpAny_letGo (wpAny_pure (wpAny_bind (wpAny_bind (wpAny_onRaise ?_))))); show wpAny _ _ (Builtin.SmallTypes.nextOf (.ref i2) >>= _) _ _ _
   refine wpAny_bind (D2.done _ _ _ (Draws.but D2 Z.b4 t3.extBut (Draws.but D2 Z.b6 t2.extBut (Draws.but D2 Z.b2 t1.extBut g2))) fun p4 e t4 he => ?_)
   obtain ⟨oe, hoe, hce⟩ := he
   have gz4 : IsZip p4 z TI TO .ellipsis := t4 _ _ Z.a4.symm (t3.extBut _ _ Z.a2.symm (t2.extBut _ _ Z.a3.symm gz1))
   have ez : e ≠ z := fun x => by subst x; rw [gz4] at hoe; cases hoe; simp at hce
   exact wpAny_setField_rec gz4 (by simp) fun p5 _ t5 => q p5 e _ (fun c o c1 c2 c3 c4 x => t5.extBut _ _ c1 (t4 _ _ c4 (t3.extBut _ _ c2 (t2.extBut _ _ c3 (t1.extBut _ _ c1 x))))) ⟨oe, t5.extBut _ _ ez hoe, hce⟩
end
section
variable {prog : Program} {w : World} {A : Around} {z TI TO i1 i2 : Addr} {f1 f2 : List Addr} {n1 n2 : Nat} {P1 P2 : Nat → Value → Prop} {S1 S2 : Nat → Heap → Prop}
noncomputable def ZSt (z TI TO i1 i2 : Addr) (S1 S2 : Nat → Heap → Prop) (i : Nat) (h : Heap) : Prop := IsZip h z TI TO .none ∧ IsPair h TI (.ref i1) (.ref i2) ∧ (∃ a b, IsPair h TO a b) ∧ S1 i h ∧ S2 i h
noncomputable def ZMid (z TI TO i1 i2 : Addr) (S1 S2 : Nat → Heap → Prop) (i : Nat) (T : Addr) (h : Heap) : Prop := IsZip h z TI TO (rawInt T) ∧ IsPair h TI (.ref i1) (.ref i2) ∧ (∃ a b, IsPair h TO a b) ∧ S1 (i + 1) h ∧ S2 (i + 1) h ∧ T ≠ z ∧ T ≠ TO ∧ T ≠ i1 ∧ T ≠ i2
theorem itemZ (D1 : Draws prog w A.in1 i1 f1 n1 P1 S1) (D2 : Draws prog w A.in1 i2 f2 n2 P2 S2) (Z : ZFar z TI TO i1 i2 f1 f2) :
 ItemN prog w A z [z, TO, i1, i2] (min n1 n2) (fun i vals => ∃ x y, P1 i x ∧ P2 i y ∧ vals = #[x, y]) (ZSt z TI TO i1 i2 S1 S2) (ZMid z TI TO i1 i2 S1 S2) := fun i s Q E hi st q => by
 obtain ⟨gz, gI, ⟨a, b, gO⟩, g1, g2⟩ := st
 have hT : s.TypeIs (.ref z) "zip" := ⟨_, gz, rfl⟩
 have gt : ∀ {c : Addr} {o : Obj}, s.heap.get? c = some o → s.heap.objs.size ≠ c := fun e => Nat.ne_of_gt (Heap.lt_size e)
 unfold pyNext
 refine wpAny_bind (wpAny_attempt (wpAny_callSpecial?_slot (name := Str.ofString "__next__") hT F.slot_zip_next (wpAny_call_entry F.slot_zip_next hT F.entry_zip_next
  (zipD_item D1 D2 Z gz gI gO g1 g2 (Nat.lt_of_lt_of_le hi (Nat.min_le_left ..)) (Nat.lt_of_lt_of_le hi (Nat.min_le_right ..)) fun x y hp tk px py a1 a2 a3 a4 a5 kp => wpAny_pure ?_) (F.args_zip_next_1 _))))
 exact q _ _ _ hp tk ⟨_, _, px, py, rfl⟩ (Nat.le_refl _) a5 ⟨a1, kp _ _ Z.a1 Z.a5 Z.a6 Z.a7 gI, ⟨_, _, a2⟩, a3, a4, gt gz, gt gO, (by obtain ⟨_, e⟩ := D1.live _ _ g1; exact gt e), (by obtain ⟨_, e⟩ := D2.live _ _ g2; exact gt e)⟩
  fun c o hc e => kp c o (fun y => hc (by simp [y])) (fun y => hc (by simp [y])) (fun y => hc (by simp [y])) (fun y => hc (by simp [y])) e
theorem walkZ (D1 : Draws prog w A.in1 i1 f1 n1 P1 S1) (D2 : Draws prog w A.in1 i2 f2 n2 P2 S2) (Z : ZFar z TI TO i1 i2 f1 f2) :
 WalksT prog w A z ([z, TI, TO, i1, i2] ++ (f1 ++ f2)) [z, TO, i1, i2] (min n1 n2) (fun i vals => ∃ x y, P1 i x ∧ P2 i y ∧ vals = #[x, y]) (ZSt z TI TO i1 i2 S1 S2) (ZMid z TI TO i1 i2 S1 S2) where
 sub := fun c hc => by
  simp at hc ⊢
  rcases hc with rfl | rfl | rfl | rfl <;> simp
 frame := fun i h h' st hk => by
  obtain ⟨gz, gI, ⟨a, b, gO⟩, g1, g2⟩ := st
  exact ⟨hk z (by simp) _ gz, hk TI (by simp) _ gI, ⟨a, b, hk TO (by simp) _ gO⟩, D1.frame _ _ _ g1 fun b hb o e => hk b (by simp [hb]) o e, D2.frame _ _ _ g2 fun b hb o e => hk b (by simp [hb]) o e⟩
 item := fun i s Q E hi st hQ => itemZ D1 D2 Z i s Q E hi st fun T x y h' tk pt hT gT mid kp => hQ T #[x, y] h' tk pt hT ⟨_, gT, rfl, _, rfl⟩ mid kp
 go := fun elts k pos i T s Q E hm hQ => by
  obtain ⟨gz, gI, ⟨a, b, gO⟩, g1, g2, _⟩ := hm
  exact wpAny_letOwnedTupleGo_zip gz fun h' gz' t => hQ h' ⟨gz', t.extBut _ _ Z.a1 gI, ⟨a, b, t.extBut _ _ Z.a2 gO⟩, Draws.but D1 Z.b1 t.extBut g1, Draws.but D2 Z.b2 t.extBut g2⟩ fun c o hc e => t.extBut _ _ (fun x => hc (by simp [x])) e
 apart := fun i T h hm hT => by
  obtain ⟨_, _, _, _, _, t1, t2, t3, t4⟩ := hm
  simp at hT
  rcases hT with y | y | y | y
  · exact t1 y
  · exact t2 y
  · exact t3 y
  · exact t4 y
 done := fun s Q E st hQ => by
  obtain ⟨gz, gI, ⟨a, b, gO⟩, g1, g2⟩ := st
  have hT : s.TypeIs (.ref z) "zip" := ⟨_, gz, rfl⟩
  unfold pyNext
  refine wpAny_bind (wpAny_attempt (wpAny_callSpecial?_slot (name := Str.ofString "__next__") hT F.slot_zip_next (wpAny_call_entry F.slot_zip_next hT F.entry_zip_next (zipD_end D1 D2 Z gz gI gO g1 g2 (by omega) fun h' e tk hk he => ?_) (F.args_zip_next_1 _))))
  obtain ⟨o, ho, hc⟩ := he
  refine wpAny_bind (wpAny_isInstance (T := "StopIteration") (b := true) ⟨o, ho, hc⟩ isSubtype_stop (wpAny_pure ?_))
  exact hQ _ _ fun c o hc e => hk c o (fun x => hc (by simp [x])) (fun x => hc (by simp [x])) (fun x => hc (by simp [x])) (fun x => hc (by simp [x])) e
 self := fun i s Q E st hQ => wpAny_pyIter_zip st.1 hQ
end

noncomputable def IterB (b : Bool) (h : Heap) (it a : Addr) (i : Nat) : Prop := if b = true then h.IsListIter it a i else h.IsTupleIter it a i
noncomputable def SeqB (b : Bool) (h : Heap) (a : Addr) (its : Array Value) : Prop := if b = true then h.IsList a its else h.IsTuple a its
theorem drawsB {prog : Program} {w : World} {A : Around} (b : Bool) (hh : A.handled = none) (it l : Addr) (hne : l ≠ it) (its : Array Value) :
 Draws prog w A it [it, l] its.size (fun i v => its[i]? = some v) (fun i h => IterB b h it l i ∧ SeqB b h l its) := by
 cases b
 · exact drawsT hh it l hne its
 · exact Draws.list hh it l hne its
theorem Inv.seqB {X : Cx} {pins : List (Addr × Obj)} {σ : St} {H : Hp} {s : Shared} {b : Bool} {a : Addr} {xs : List V} (I : Inv X pins σ H s) (h : Sq b X.K H a xs) : ∃ its : List Value, Vals xs its ∧ SeqB b s.heap a its.toArray := by
 cases b
 · obtain ⟨its, r, p, _⟩ := I.tuple h; exact ⟨its, r, p⟩
 · obtain ⟨its, r, p, _⟩ := I.list h; exact ⟨its, r, p.isList⟩
theorem Inv.seqB_inj {X : Cx} {pins : List (Addr × Obj)} {σ : St} {H : Hp} {s : Shared} {b : Bool} {a : Addr} {xs ys : List V} (I : Inv X pins σ H s) (h : Sq b X.K H a xs) (h' : Sq b X.K H a ys) : xs = ys := by
 cases b
 · exact I.tuple_inj h h'
 · exact I.list_inj h h'
theorem IterB.at {b : Bool} {h h' : Heap} {it a : Addr} {i : Nat} (x : IterB b h it a i) (k : ∀ o, h.get? it = some o → h'.get? it = some o) : IterB b h' it a i := by
 cases b
 · obtain ⟨o, e, r⟩ := x; exact ⟨o, k o e, r⟩
 · obtain ⟨o, e, r⟩ := x; exact ⟨o, k o e, r⟩
theorem IterB.obj {b : Bool} {h : Heap} {it a : Addr} {i : Nat} (x : IterB b h it a i) : ∃ o, h.get? it = some o ∧ ∀ v, o.data ≠ .cell v := by
 cases b
 · obtain ⟨o, e, c, d⟩ := x; exact ⟨o, e, fun v z => by rw [d] at z; cases z⟩
 · obtain ⟨o, e, c, d⟩ := x; exact ⟨o, e, fun v z => by rw [d] at z; cases z⟩
noncomputable def ItZS (b1 b2 : Bool) (K : PySem.W.Frag) (a b : Addr) : It := ItP (fun i H => ∃ xs ys x y, Sq b1 K H a xs ∧ Sq b2 K H b ys ∧ xs[i]? = some x ∧ ys[i]? = some y) (fun i H u v => (∀ xs, Sq b1 K H a xs → xs[i]? = some u) ∧ ∀ ys, Sq b2 K H b ys → ys[i]? = some v) (fun i H => ∃ xs ys, Sq b1 K H a xs ∧ Sq b2 K H b ys ∧ min xs.length ys.length = i)
noncomputable def ZApart (z TI TO i1 i2 l1 l2 : Addr) : Prop := ZFar z TI TO i1 i2 [i1, l1] [i2, l2] ∧ l1 ≠ i1 ∧ l2 ≠ i2
section
variable {P : Program} {w : World} {K : PySem.W.Frag} {elts : List Expr} {ek : Nat} {epos : Pos} {b1 b2 : Bool}
theorem turn_zipS {z TI TO i1 i2 l1 l2 : Addr} (Z : ZApart z TI TO i1 i2 l1 l2) : Turn P w K (.Tuple elts ek epos) (ItZS b1 b2 K l1 l2) [z, TI, TO, i1, i2] z (fun i h => IsZip h z TI TO .none ∧ IsPair h TI (.ref i1) (.ref i2) ∧ (∃ a b, IsPair h TO a b) ∧ IterB b1 h i1 l1 i ∧ IterB b2 h i2 l2 i) := by
 obtain ⟨Z, n1, n2⟩ := Z
 refine turn_pairs (wr := [z, TO, i1, i2]) (by simp) (fun b hb => ?_) (fun i h st b hb => ?_) (fun i h h' st k => ?_) (fun A i s Q E st q => ?_) ?_ ?_
 · simp at hb ⊢
   rcases hb with y | y | y | y <;> simp [y]
 · obtain ⟨g1, g2, ⟨x, y, g3⟩, g4, g5⟩ := st
   simp at hb
   rcases hb with y | y | y | y | y
   · exact ⟨_, y ▸ g1, fun v z => by cases z⟩
   · exact ⟨_, y ▸ g2, fun v z => by cases z⟩
   · exact ⟨_, y ▸ g3, fun v z => by cases z⟩
   · rw [y]; exact g4.obj
   · rw [y]; exact g5.obj
 · obtain ⟨g1, g2, ⟨x, y, g3⟩, g4, g5⟩ := st
   exact ⟨k z (by simp) _ g1, k TI (by simp) _ g2, ⟨x, y, k TO (by simp) _ g3⟩, g4.at fun o e => k i1 (by simp) o e, g5.at fun o e => k i2 (by simp) o e⟩
 · exact wpAny_pyIter_zip st.1 q
 · intro X hP hw' hK hc i pins s σ H I0 hf st hg
   obtain ⟨xs, ys, x, y, hq, hq', hx, hy⟩ := hg
   rw [← hK] at hq hq'
   obtain ⟨its, rv, p⟩ := I0.seqB hq
   obtain ⟨its', rv', p'⟩ := I0.seqB hq'
   obtain ⟨u, hu, ru⟩ := rv.get hx
   obtain ⟨u', hu', ru'⟩ := rv'.get hy
   have hl := rv.length
   have hl' := rv'.length
   have hix : i < xs.length := (List.getElem?_eq_some_iff.mp hx).1
   have hiy : i < ys.length := (List.getElem?_eq_some_iff.mp hy).1
   obtain ⟨g1, g2, g3, g4, g5⟩ := st
   have D1 := drawsB (prog := P) (w := w) (A := X.A.in1) b1 (I0.ok.hd hc) i1 l1 n1 its.toArray
   have D2 := drawsB (prog := P) (w := w) (A := X.A.in1) b2 (I0.ok.hd hc) i2 l2 n2 its'.toArray
   refine ⟨_, _, _, _, _, ⟨walkZ D1 D2 Z, itemZ D1 D2 Z⟩, by rw [List.size_toArray, List.size_toArray]; omega, ⟨g1, g2, g3, ⟨g4, p⟩, ⟨g5, p'⟩⟩, fun h' q => ⟨q.1, q.2.1, q.2.2.1, q.2.2.2.1.1, q.2.2.2.2.1⟩, ?_⟩
   rintro vals ⟨v, v', hv, hv', rfl⟩
   have e1 : its[i]? = some v := by simpa using hv
   have e2 : its'[i]? = some v' := by simpa using hv'
   rw [hu] at e1; rw [hu'] at e2; cases e1; cases e2
   exact ⟨x, y, _, _, rfl, ru, ru', fun ys hys => by rw [← hK] at hys; rw [I0.seqB_inj hys hq]; exact hx, fun ys hys => by rw [← hK] at hys; rw [I0.seqB_inj hys hq']; exact hy⟩
 · intro X hP hw' hK hc i pins s σ H I0 hf st hg
   obtain ⟨xs, ys, hq, hq', hx⟩ := hg
   rw [← hK] at hq hq'
   obtain ⟨its, rv, p⟩ := I0.seqB hq
   obtain ⟨its', rv', p'⟩ := I0.seqB hq'
   have hl := rv.length
   have hl' := rv'.length
   obtain ⟨g1, g2, g3, g4, g5⟩ := st
   have e1 : min its.toArray.size its'.toArray.size = i := by rw [List.size_toArray, List.size_toArray]; omega
   refine ⟨_, _, _, _, _, walkZ (drawsB (prog := P) (w := w) (A := X.A.in1) b1 (I0.ok.hd hc) i1 l1 n1 its.toArray) (drawsB (prog := P) (w := w) (A := X.A.in1) b2 (I0.ok.hd hc) i2 l2 n2 its'.toArray) Z, ?_⟩
   rw [e1]
   exact ⟨g1, g2, g3, ⟨g4, p⟩, ⟨g5, p'⟩⟩
end
noncomputable def itO (b : Bool) (l : Addr) : Obj := if b = true then { cls := .type "list_iterator", data := .fields #[.ref l, .int 0 0] } else { cls := .type "tuple_iterator", data := .fields #[.ref l, .int 0 0] }
noncomputable def zH (b1 b2 : Bool) (h : Heap) (l1 l2 : Addr) : Heap := ((((h.push (itO b1 l1)).push (itO b2 l2)).push { cls := .type "tuple", data := .seq #[.ref h.objs.size, .ref (h.objs.size + 1)] }).push { cls := .type "tuple", data := .seq #[.none, .none] }).push { cls := .type "zip", data := .fields #[.none, .bool false, .bool false, .ref (h.objs.size + 2), .ref (h.objs.size + 3)] }
theorem iter_seqB {prog : Program} {w : World} {A : Around} {E : Value → Shared → Prop} {s : Shared} {b : Bool} {l : Addr} {its : Array Value} {Q : Value → Shared → Prop} (hl : SeqB b s.heap l its) (q : Q (.ref s.heap.objs.size) { s with heap := s.heap.push (itO b l) }) : wpAny (model prog w) A (pyIter (.ref l)) Q E s := by
 cases b
 · exact wpAny_pyIter_tuple hl q
 · exact wpAny_pyIter_list hl q
theorem SeqB.push {b : Bool} {h : Heap} {l : Addr} {its : Array Value} (x : SeqB b h l its) (o : Obj) : SeqB b (h.push o) l its := by
 cases b
 · obtain ⟨u, e, r⟩ := x; exact ⟨u, Heap.get?_push_of_some _ e, r⟩
 · obtain ⟨u, e, r⟩ := x; exact ⟨u, Heap.get?_push_of_some _ e, r⟩
theorem zip_newS (b1 b2 : Bool) (l1 l2 : Addr) (xs ys : Array Value) :
 Meets (Builtin.«zip.__new__» ⟨[.type "zip", .ref l1, .ref l2], []⟩) (fun _ R s => SeqB b1 s.heap l1 xs ∧ SeqB b2 s.heap l2 ys ∧ R (.ok (.ret (.ref (s.heap.objs.size + 4)))) { s with heap := zH b1 b2 s.heap l1 l2 }) :=
 .of_wp fun prog w A R s h => by
  obtain ⟨hp, g, d, tk, os⟩ := s; obtain ⟨hl1, hl2, h⟩ := h; have hsub := sub_zip
  have hL1 : SeqB b1 (Shared.heap ⟨hp, g, d, tk, os⟩) l1 xs := hl1
  have hL2 : SeqB b2 (Shared.heap ⟨hp.push (itO b1 l1), g, d, tk, os⟩) l2 ys := hl2.push _
  wp_walk using iter_seqB hL1, iter_seqB hL2
  refine ⟨_, rfl, ?_⟩
  simp only [Heap.size_push]
  exact h
theorem call_zipS {prog : Program} {w : World} {A : Around} {E : Value → Shared → Prop} {s : Shared} {b1 b2 : Bool} {l1 l2 : Addr} {xs ys : Array Value} {Q : Value → Shared → Prop} (hl1 : SeqB b1 s.heap l1 xs) (hl2 : SeqB b2 s.heap l2 ys)
 (q : ∀ hp, IsZip hp (s.heap.objs.size + 4) (s.heap.objs.size + 2) (s.heap.objs.size + 3) .none → IsPair hp (s.heap.objs.size + 2) (.ref s.heap.objs.size) (.ref (s.heap.objs.size + 1)) → IsPair hp (s.heap.objs.size + 3) .none .none → IterB b1 hp s.heap.objs.size l1 0 → IterB b2 hp (s.heap.objs.size + 1) l2 0 →
  (∀ c o, s.heap.get? c = some o → hp.get? c = some o) → Q (.ref (s.heap.objs.size + 4)) { s with heap := hp }) : wpAny (model prog w) A (call (.type "zip") [.ref l1, .ref l2]) Q E s := by
 refine callType_new F.called_zip (by decide) (F.typeCall_zip_2 _ _) (F.newCall_zip_2 _ _) (fun obj => F.args_object_init_3 obj _ _) F.entry_zip_new (zip_newS b1 b2 l1 l2 xs ys) ⟨hl1, hl2, ?_⟩
 generalize hn : s.heap.objs.size = n at q
 have z1 : (s.heap.push (itO b1 l1)).objs.size = n + 1 := by rw [Heap.size_push, hn]
 have z2 : ((s.heap.push (itO b1 l1)).push (itO b2 l2)).objs.size = n + 2 := by rw [Heap.size_push, z1]
 have z3 : (((s.heap.push (itO b1 l1)).push (itO b2 l2)).push { cls := .type "tuple", data := .seq #[.ref s.heap.objs.size, .ref (s.heap.objs.size + 1)] }).objs.size = n + 3 := by rw [Heap.size_push, z2]
 have z4 : ((((s.heap.push (itO b1 l1)).push (itO b2 l2)).push { cls := .type "tuple", data := .seq #[.ref s.heap.objs.size, .ref (s.heap.objs.size + 1)] }).push { cls := .type "tuple", data := .seq #[.none, .none] }).objs.size = n + 4 := by rw [Heap.size_push, z3]
 have itf : ∀ b l, (itO b l).isFreed = false := fun b l => by cases b <;> rfl
 have g5 : (zH b1 b2 s.heap l1 l2).get? (n + 4) = some { cls := .type "zip", data := .fields #[.none, .bool false, .bool false, .ref (s.heap.objs.size + 2), .ref (s.heap.objs.size + 3)] } := by rw [← z4]; exact Heap.get?_push_size _ rfl
 have g4 : (zH b1 b2 s.heap l1 l2).get? (n + 3) = some { cls := .type "tuple", data := .seq #[.none, .none] } := by rw [← z3]; exact Heap.get?_push_of_some _ (Heap.get?_push_size _ rfl)
 have g3 : (zH b1 b2 s.heap l1 l2).get? (n + 2) = some { cls := .type "tuple", data := .seq #[.ref s.heap.objs.size, .ref (s.heap.objs.size + 1)] } := by rw [← z2]; exact Heap.get?_push_of_some _ (Heap.get?_push_of_some _ (Heap.get?_push_size _ rfl))
 have g2 : (zH b1 b2 s.heap l1 l2).get? (n + 1) = some (itO b2 l2) := by rw [← z1]; exact Heap.get?_push_of_some _ (Heap.get?_push_of_some _ (Heap.get?_push_of_some _ (Heap.get?_push_size _ (itf _ _))))
 have g1 : (zH b1 b2 s.heap l1 l2).get? n = some (itO b1 l1) := by rw [← hn]; exact Heap.get?_push_of_some _ (Heap.get?_push_of_some _ (Heap.get?_push_of_some _ (Heap.get?_push_of_some _ (Heap.get?_push_size _ (itf _ _)))))
 rw [hn] at g5 g3
 have i1 : IterB b1 (zH b1 b2 s.heap l1 l2) n l1 0 := by
  cases b1
  · exact ⟨_, g1, rfl, rfl⟩
  · exact ⟨_, g1, rfl, rfl⟩
 have i2 : IterB b2 (zH b1 b2 s.heap l1 l2) (n + 1) l2 0 := by
  cases b2
  · exact ⟨_, g2, rfl, rfl⟩
  · exact ⟨_, g2, rfl, rfl⟩
 show _ ∧ _
 exact ⟨⟨_, g5, rfl⟩, q _ g5 g3 g4 i1 i2 fun c o x => Heap.get?_push_of_some _ (Heap.get?_push_of_some _ (Heap.get?_push_of_some _ (Heap.get?_push_of_some _ (Heap.get?_push_of_some _ x))))⟩
section
variable {X : Cx} {elts : List Expr} {ek : Nat} {epos : Pos}
noncomputable def iZipS (K : PySem.W.Frag) (ta : TA) : TI := fun σ H R => ta σ H fun vs H1 => ∃ b1 b2 a b xs ys, vs = [.ref a, .ref b] ∧ Sq b1 K H1 a xs ∧ Sq b2 K H1 b ys ∧ R (ItZS b1 b2 K a b) H1
theorem zApart_new {n l1 l2 : Addr} (h1 : l1 < n) (h2 : l2 < n) : ZApart (n + 4) (n + 2) (n + 3) n (n + 1) l1 l2 := by
 have m : ∀ c x y : Addr, c ≠ x → c ≠ y → c ∉ [x, y] := fun c x y a b h => by
  rcases List.mem_cons.mp h with h | h
  · exact a h
  · exact b (List.mem_singleton.mp h)
 have ne : ∀ n i j : Nat, i ≠ j → n + i ≠ n + j := fun n i j h e => h (Nat.add_left_cancel e)
 have nl : ∀ n l i : Nat, l < n → n + i ≠ l := fun n l i h e => by omega
 have nr : ∀ n l i : Nat, l < n → l ≠ n + i := fun n l i h e => by omega
 exact ⟨⟨ne n 2 4 (by decide), ne n 3 4 (by decide), ne n 0 4 (by decide), ne n 1 4 (by decide), ne n 2 3 (by decide), ne n 2 0 (by decide), ne n 2 1 (by decide), ne n 3 0 (by decide), ne n 3 1 (by decide), ne n 0 1 (by decide),
  m _ _ _ (ne n 4 0 (by decide)) (nl n l1 4 h1), m _ _ _ (ne n 4 1 (by decide)) (nl n l2 4 h2), m _ _ _ (ne n 3 0 (by decide)) (nl n l1 3 h1), m _ _ _ (ne n 3 1 (by decide)) (nl n l2 3 h2), m _ _ _ (ne n 1 0 (by decide)) (nl n l1 1 h1), m _ _ _ (ne n 0 1 (by decide)) (nl n l2 0 h2)⟩, nr n l1 0 h1, nr n l2 1 h2⟩
theorem pi_zipSK {K : PySem.W.Frag} {a b : Expr} {ta : TA} {p pos : Pos} (hg : Gl X "zip") (hs : starEach [a, b] X.env = [(false, eval a X.env), (false, eval b X.env)]) (hs2 : starEach [b] X.env = [(false, eval b X.env)]) (eK : X.K = K) (hm : X.mg "zip" = none) (ha : PA X [a, b] ta) :
 PI X (.Tuple elts ek epos) (.Call (.Name "zip" p) [a, b] [] pos) (iZipS K ta) := by
 subst eK
 intro pins s σ H R I h
 refine Call_ (ld_blt I hg hm boot_zip (PyProof.Rows.callWith_type1 (thn (ha pos pins s σ H _ I h) fun us s1 ⟨vs, H1, I1, r1, q1⟩ => ?_) (by rw [hs, hs2]) (by rw [hs2]; rfl)))
 obtain ⟨b1, b2, l, l', xs, ys, rfl, hl, hl', q⟩ := q1
 obtain ⟨u, v, rfl, ru, rv'⟩ := vals2 r1
 cases ru; cases rv'
 obtain ⟨its, rv, pl⟩ := I1.seqB hl
 obtain ⟨its', rv', pl'⟩ := I1.seqB hl'
 have lt : ∀ {b : Bool} {l : Addr} {its : Array Value}, SeqB b s1.heap l its → l < s1.heap.objs.size := fun {b l its} x => by
  cases b
  · obtain ⟨o, z, _⟩ := x; exact Heap.lt_size z
  · obtain ⟨o, z, _⟩ := x; exact Heap.lt_size z
 have hll := lt pl
 have hll' := lt pl'
 refine call_zipS pl pl' fun hp g1 g2 g3 g4 g5 hk => ?_
 have I2 : Inv X pins σ H1 { s1 with heap := hp } := I1.kept (t' := s1.toks) hk
 have nx : ∀ b, s1.heap.objs.size ≤ b → FpOk X pins H1 b := fun b hb => I1.fpOk hb (I1.hok.fresh hb)
 generalize s1.heap.objs.size = n at *
 refine wpAny_pyIter_zip g1 ⟨_, [n + 4, n + 2, n + 3, n, n + 1], _, _, H1, rfl, I2, turn_zipS (zApart_new hll hll'), ⟨g1, g2, ⟨_, _, g3⟩, g4, g5⟩, fun b hb => ?_, q⟩
 simp at hb
 rcases hb with rfl | rfl | rfl | rfl | rfl <;> exact nx _ (by first | exact Nat.le_add_right _ _ | exact Nat.le_refl _)
end
section
variable {K : PySem.W.Frag} {b1 b2 : Bool} {a b D : Addr} {xs zs : List V} {g : TG} {tt : TT} {te : TE} {σ0 : St} {H0 : Hp} {Q : VK}
end
end L2







open PySem PySem.Spec PyProof.Rows



open PySem PySem.Spec PyProof PyProof.Rows





open PySem PySem.Spec PyProof PyProof.Rows

open PySem PySem.Spec PyProof PyProof.Rows


open PySem PySem.Spec PyProof PyProof.Rows

open PySem PySem.Spec PyProof PyProof.Rows



open PySem PySem.Spec PyProof PyProof.Rows

open PySem PySem.Spec PyProof PyProof.Rows

open PySem PySem.Spec PyProof PyProof.Rows


open PySem PySem.Spec PyProof PyProof.Rows

open PySem PySem.Spec PyProof PyProof.Rows

open PySem PySem.Spec PyProof PyProof.Rows

open PySem PySem.Spec PyProof PyProof.Rows

open PySem PySem.Spec PyProof PyProof.Rows

open PySem PySem.Spec PyProof PyProof.Rows

open PySem PySem.Spec PyProof PyProof.Rows

open PySem PySem.Spec PyProof PyProof.Rows

open PySem PySem.Spec PyProof PyProof.Rows

open PySem PySem.Spec PyProof PyProof.Rows

open PySem PySem.Spec PyProof PyProof.Rows

open PySem PySem.Spec PyProof PyProof.Rows

open PySem PySem.Spec PyProof PyProof.Rows

open PySem PySem.Spec PyProof PyProof.Rows

open PySem PySem.Spec PyProof PyProof.Rows

open PySem PySem.Spec PyProof PyProof.Rows

open PySem PySem.Spec PyProof PyProof.Rows

open PySem PySem.Spec PyProof PyProof.Rows

open PySem PySem.Spec PyProof PyProof.Rows

open PySem PySem.Spec PyProof PyProof.Rows

open PySem PySem.Spec PyProof PyProof.Rows

open PySem PySem.Spec PyProof PyProof.Rows

open PySem PySem.Spec PyProof PyProof.Rows
namespace L2
noncomputable def FnAt (K : PySem.W.Frag) (n : Str) (st : Stmt) : Prop := ∃ f fd, PySem.W.nsIn K mainGlobals n = some (some (.ref f)) ∧ Fun K n n st f fd
theorem FnAt.of {K : PySem.W.Frag} {n : Str} {st : Stmt} {f : Addr} {oc : Value} {od an : Option Addr} {osl : Array (Option Value)} {kV doc pm cdv ct : Value} (a : PySem.W.nsIn K mainGlobals n = some (some (.ref f))) (l : K.lookup f = some ⟨oc, od, .func (PySem.W.fnOf n n (defArgs st) (defBody st) (defScope st) .none kV doc pm an cdv ct), osl⟩)
 (c : PySem.W.codeIn K cdv n = true) (k : PySem.W.keepIn K (.ref f) = true) : FnAt K n st := ⟨_, _, a, fun_mk l c k⟩
theorem FnAt.fnd {K : PySem.W.Frag} {h : Heap} {mg : Str → Option Value} {n : Str} {st : Stmt} (ps : List Str) (x : FnAt K n st) (XK : K.In h) (G : h.Ns mainGlobals mg)
 (b : ∀ (kV doc pm : Value) (an : Option Addr) (cdv ct : Value) (us : List Value), us.length = ps.length → bindArgs (PySem.W.fnOf n n (defArgs st) (defBody st) (defScope st) .none kV doc pm an cdv ct) ⟨us, []⟩ = pure (ps.zip us)) : Fnd K mg n st ps := by
 obtain ⟨f, fd, a, F⟩ := x
 exact ⟨f, fd, F, PySem.W.mg_of XK G a, F.binds b⟩
end L2

open PySem PySem.Spec PyProof PyProof.Rows

open PySem PySem.Spec PyProof PyProof.Rows

open PySem PySem.Spec PyProof PyProof.Rows

open PySem PySem.Spec PyProof PyProof.Rows

open PySem PySem.Spec PyProof PyProof.Rows

open PySem PySem.Spec PyProof PyProof.Rows

open PySem PySem.Spec PyProof PyProof.Rows



open PySem PySem.Spec PyProof PyProof.Rows









open PySem PySem.Spec PyProof PyProof.Rows

open PySem PySem.Spec PyProof PyProof.Rows













namespace L2
open PySem PySem.Spec PyProof PyProof.Rows PySem.W
noncomputable def InAt (K : PySem.W.Frag) (x : Str) (i : Int) : Prop := ∃ t, PySem.W.nsIn K mainGlobals x = some (some (.int i t))
theorem InAt.of {K : PySem.W.Frag} {x : Str} {i : Int} {t : Tok} (a : PySem.W.nsIn K mainGlobals x = some (some (.int i t))) : InAt K x i := ⟨t, a⟩
theorem InAt.mg {K : PySem.W.Frag} {h : Heap} {mg : Str → Option Value} {x : Str} {i : Int} (a : InAt K x i) (XK : K.In h) (G : h.Ns mainGlobals mg) : ∃ t, mg x = some (.int i t) := by
 obtain ⟨t, a⟩ := a
 exact ⟨t, PySem.W.mg_of XK G a⟩
end L2






namespace L2
open PySem PySem.Spec PyProof PyProof.Rows PySem.W
noncomputable def lexLe : List Int → List Int → Bool
 | [], _ => true
 | _ :: _, [] => false
 | x :: xs, y :: ys => if x = y then lexLe xs ys else decide (x ≤ y)
theorem lexLe_c (x y : Int) (xs ys : List Int) : lexLe (x :: xs) (y :: ys) = if x = y then lexLe xs ys else decide (x ≤ y) := rfl
section
open PySem.SeqAt
open PySem.AutoSeq1 (wpAny_loadPart')
open PySem.MeetsSeq PySem.MeetsSeq2 PySem.MeetsSeq3
theorem tup_le_ints (l b : Addr) (us vs : Array Value) (n m : Nat) (d1 d2 : Option Addr) (z1 z2 : Array (Option Value)) (ns ms : List Int) (hi : IntsAre us.toList ns) (hj : IntsAre vs.toList ms) :
 Meets (Builtin.«tuple.__le__» ⟨[.ref l, .ref b], []⟩) (fun _ R s => s.heap.get? l = some ⟨.type "tuple", d1, .seq us n, z1⟩ ∧ s.heap.get? b = some ⟨.type "tuple", d2, .seq vs m, z2⟩ ∧ R (.ok (.ret (.bool (lexLe ns ms)))) s) :=
 .of_wp fun prog w A R s h => by
  obtain ⟨hp, g, dr, tk, os⟩ := s
  obtain ⟨hl, hb, h⟩ := h
  have fsub := AutoSeq1.sub_tuple_tuple
  have c1 : us.size = ns.length := by rw [← hi.length]; simp
  have c2 : vs.size = ms.length := by rw [← hj.length]; simp
  wp_walk using wpAny_loadPart' hl, wpAny_loadPart' hb, wpAny_forIn_list _ (fun rest b s' => b.1 = none ∧ s' = ⟨hp, g, dr, tk, os⟩ ∧ ∃ (xs ys : List Value) (ns' ms' : List Int), rest = xs.zip ys ∧ IntsAre xs ns' ∧ IntsAre ys ms' ∧ ns'.length + vs.size = ms'.length + us.size ∧ R (.ok (.ret (.bool (lexLe ns' ms')))) ⟨hp, g, dr, tk, os⟩) _
  case turn =>
   rintro ⟨y, x⟩ rest b s' ⟨hb', rfl, xs, ys, ns', ms', hz, ix, iy, hln, hR⟩
   cases ix with
   | nil => cases hz
   | cons a t ix' =>
     cases iy with
     | nil => rw [List.zip_nil_right] at hz; cases hz
     | cons c u iy' =>
       rw [List.zip_cons_cons] at hz
       injection hz with q1 q2
       injection q1 with q3 q4
       subst q3 q4
       rw [lexLe_c] at hR
       rw [List.length_cons, List.length_cons] at hln
       obtain ⟨e, he, hif⟩ := HT.eqAt_int A.in1 ⟨hp, g, dr, tk, os⟩ a t c u
       refine wpAny_bind (he prog w _ _ ?_)
       cases e with
       | true =>
         rw [if_pos (hif.mp rfl)] at hR
         wp_walk
         exact ⟨rfl, rfl, _, _, _, _, q2, ix', iy', by omega, hR⟩
       | false =>
         rw [if_neg (fun q => Bool.false_ne_true (hif.mpr q))] at hR
         have hri : ∀ (E : Value → Shared → Prop) (Q : Value → Shared → Prop), Q (.bool (decide (a ≤ c))) ⟨hp, g, dr, tk, os⟩ → wpAny (model prog w) A.in1 (richCompare .LtE (.int a t) (.int c u)) Q E ⟨hp, g, dr, tk, os⟩ := fun E Q h => (PyProof.Rows.le_int h : wpAny (model prog w) A.in1 (compareOp .LtE (.int a t) (.int c u)) Q E _)
         wp_walk using hri
         exact ⟨_, rfl, by simpa using hR⟩
  case fin =>
   rintro ⟨b1, b2⟩ s' ⟨hb', rfl, xs, ys, ns', ms', hz, ix, iy, hln, hR⟩
   simp only at hb'
   subst hb'
   have hv : lexLe ns' ms' = decide (us.size ≤ vs.size) := by
    cases ix with
    | nil =>
      rw [List.length_nil] at hln
      exact (decide_eq_true (by omega)).symm
    | cons a t ix' =>
      cases iy with
      | nil =>
        rw [List.length_nil, List.length_cons] at hln
        exact (decide_eq_false (by omega)).symm
      | cons c u iy' => cases hz
   rw [hv] at hR
   wp_walk
   exact ⟨_, rfl, by simpa [Builtin.Tuple.tupleCompareSizes] using hR⟩
  case h =>
   exact ⟨rfl, rfl, us.toList, vs.toList, ns, ms, rfl, hi, hj, by omega, h⟩
end
section
variable {X : Cx}
noncomputable def rLeT (K : PySem.W.Frag) : R2 := fun x y H Q => ∃ a b ns ms, x = .ref a ∧ y = .ref b ∧ SqT K H a (ns.map V.int) ∧ SqT K H b (ms.map V.int) ∧ Q (.bl (lexLe ns ms)) H
theorem op_leT (hu : X.A.units < cLine) : OpR X (compareOp .LtE) (rLeT X.K) := by
 intro pins s σ H x y v u Q I rx ry h
 obtain ⟨a, b, ns, ms, rfl, rfl, ha, hb, q⟩ := h
 cases rx
 cases ry
 obtain ⟨is, r1, ⟨⟨c1, d1, e1, z1⟩, o1, hc1, n1, hd1⟩, _⟩ := I.tuple ha
 obtain ⟨js, r2, ⟨⟨c2, d2, e2, z2⟩, o2, hc2, n2, hd2⟩, _⟩ := I.tuple hb
 simp only at hc1 hd1 hc2 hd2
 subst hc1 hd1 hc2 hd2
 exact richCompare_meets_room (op := .LtE) ⟨_, o1, rfl⟩ ⟨_, o2, rfl⟩ PySem.F.slot_tuple_le PySem.F.entry_tuple_le (PySem.F.args_tuple_le_2 _ _) (tup_le_ints a b is.toArray js.toArray n1 n2 d1 d2 z1 z2 ns ms (by simpa using intsAre_of r1) (by simpa using intsAre_of r2))
  ⟨o1, o2, show Value.bool (lexLe ns ms) ≠ Value.notImplemented ∧ EP X pins σ Q (.bool (lexLe ns ms)) s from ⟨(fun x => nomatch x), ⟨.bl _, H, I, rfl, q⟩⟩⟩ hu
theorem op_leTK {K : PySem.W.Frag} (e : X.K = K) (hu : X.A.units < cLine) : OpR X (compareOp .LtE) (rLeT K) := e ▸ op_leT hu
noncomputable def rSl0 (K : PySem.W.Frag) : V → Option Int → Option Int → Hp → VK → Prop := fun x _ _ H Q => ∃ a, x = .ref a ∧ SqT K H a [] ∧ Q (.ref a) H
theorem item_none {prog : Program} {w : World} {A : Around} {E : Value → Shared → Prop} {s : Shared} {t sl : Addr} {vl vu : Value} {lo hi : Option Int} {Q : Value → Shared → Prop} (ht : IsTup s.heap t #[]) (hs : s.heap.IsSliceOf sl vl vu .none) (pl : IsPart vl lo) (pu : IsPart vu hi) (h : Q (.ref t) s) : wpAny (model prog w) A (getItem (.ref t) (.ref sl)) Q E s := by
 obtain ⟨os, hos, hcs, hds⟩ := id hs
 unfold getItem
 try with_reducible refine wpAny_holding ?_
 first | refine wpAny_bind (wpAny_pure ?_) | skip
 refine wpAny_bind (wpAny_sequenceKey ht.typeIs (by decide) ?_)
 refine wpAny_bind (wpAny_callSpecial?_slot (name := Str.ofString "__getitem__") ht.typeIs PyProof.Rows.slot_tuple_getitem (wpAny_call_entry PyProof.Rows.slot_tuple_getitem ht.typeIs entry_tuple_getitem ?_ (args_tuple_getitem _ _)))
 show wpAny _ _ (Builtin.Tuple.tupleItemsOf (.ref t) >>= _) _ _ s
 refine wpAny_bind (tupleItemsOf_ ht ?_)
 refine wpAny_bind (wpAny_typeOf (show s.TypeIs (.ref sl) "slice" from ⟨os, hos, hcs⟩) ?_)
 rw [if_pos (by decide)]
 refine wpAny_bind (HT.sliceApplied_gen hs pl pu ?_)
 have e1 : HT.sIx (#[] : Array Value).size 0 lo = 0 := Nat.le_zero.mp (HT.sIx_le 0 0 (Nat.le_refl _) lo)
 have e2 : HT.sIx (#[] : Array Value).size (#[] : Array Value).size hi = 0 := Nat.le_zero.mp (HT.sIx_le 0 0 (Nat.le_refl _) hi)
 rw [e1, e2]
 show wpAny _ _ (if (((0 : Nat) : Int) == 0 && (1 : Int) == 1 && (0 - 0 : Nat) == (#[] : Array Value).size) = true then _ else _) _ _ s
 rw [if_pos (show (((0 : Nat) : Int) == 0 && (1 : Int) == 1 && (0 - 0 : Nat) == (#[] : Array Value).size) = true from rfl)]
 unfold Builtin.Tuple.tupleIsExact
 have hT := ht.typeIs
 repeat (any_goals (first | assumption | wp_step))
 exact ⟨_, rfl, wpAny_pure h⟩
theorem sl_tup0 : SlR X (rSl0 X.K) := by
 intro pins s σ H x v vl vu lo hi sl Q I rx hs pl pu h
 obtain ⟨a, rfl, hx, q⟩ := h
 cases rx
 obtain ⟨its, r, ht, hz⟩ := I.tuple hx
 cases r
 exact ⟨"tuple", _, PyProof.Rows.slot_tuple_getitem.lookup, ht.typeIs, item_none ht hs pl pu ⟨.ref a, H, I, rfl, q⟩⟩
theorem sl_tupB : SlR X (fun x lo hi H Q => rSl0 X.K x lo hi H Q ∨ rSlTS X.K x lo hi H Q) := SlR.or sl_tup0 sl_tupS
end
end L2
namespace L2
open PySem PySem.Spec PyProof PyProof.Rows PySem.W
theorem comp_zipT {K : PySem.W.Frag} {b1 b2 : Bool} {a b D : Addr} {xs zs : List V} {g : TG} {tt : TT} {te : TE} {σ0 : St} {H0 : Hp} {Q : VK} (hlen : zs.length ≤ xs.length) (Pv : Nat → List V → St → Hp → Prop) (h0 : Pv 0 [] σ0 H0) (hl : ∀ i ys σ H, Pv i ys σ H → Sq b1 K H a xs ∧ Sq b2 K H b zs ∧ H D = some (.lst ys))
 (hs : ∀ i x z ys σ H T G, xs[i]? = some x → zs[i]? = some z → i < zs.length → Pv i ys σ H → H T = none → Same H G → G T = some (.tup [x, z]) → g (.ref T) σ G fun σ3 H3 => tt σ3 H3 fun b H4 => if b = true then
  te σ3 H4 fun y H5 => H5 D = some (.lst ys) ∧ ys.length < sizeLine ∧ ∃ m', m' < zs.length - i ∧ Wt Pv zs.length (i + 1) m' (ys ++ [y]) σ3 (upd H5 D (.lst (ys ++ [y]))) else ∃ m', m' < zs.length - i ∧ Wt Pv zs.length (i + 1) m' ys σ3 H4)
 (hd : ∀ ys σ H, Pv zs.length ys σ H → Q (.ref D) H) : CompW (ItZS b1 b2 K a b) D g tt te Q σ0 H0 := by
 refine ⟨Wt Pv zs.length, ⟨zs.length, rfl, Nat.zero_le _, h0⟩, ?_⟩
 rintro i m ys σ' H' ⟨rfl, hi, p⟩
 obtain ⟨hq, hq', hD⟩ := hl i ys σ' H' p
 refine ⟨hD, ?_⟩
 by_cases hlt : i < zs.length
 · have hlx : i < xs.length := by omega
   refine .inr ⟨⟨xs, zs, xs[i], zs[i], hq, hq', by simp [hlx], by simp [hlt]⟩, fun x H2 y => ?_⟩
   obtain ⟨T, u, v, rfl, hT, rfl, hu, hv⟩ := y
   exact hs i u v ys σ' H' T _ (hu xs hq) (hv zs hq') hlt p hT (Same.new hT) upd_same
 · have e : i = zs.length := by omega
   subst e
   exact .inl ⟨⟨xs, zs, hq, hq', Nat.min_eq_right hlen⟩, hd ys σ' H' p⟩
theorem sqf {K : PySem.W.Frag} {H : Hp} {t : Addr} {xs : List V} (h : SqT K H t xs) : Sq false K H t xs := by unfold Sq; rw [if_neg (by decide)]; exact h
end L2





namespace L2
open PySem PySem.Spec PyProof PyProof.Rows PySem.W
inductive Tg (K : PySem.W.Frag) (H : Hp) : V → Option Int → Prop where
 | int (i : Int) : Tg K H (.int i) (some i)
 | bl (b : Bool) : Tg K H (.bl b) none
 | oth {v : V} {t : Value} (ty : TyOf K H v t) (e : PySem.W.kitOne K t (.type "int") = some false) : Tg K H v none
theorem Tg.some {K : PySem.W.Frag} {H : Hp} {v : V} {i : Int} (h : Tg K H v (Option.some i)) : v = .int i := by cases h; rfl
noncomputable def spWholeT (K : PySem.W.Frag) : Sp := fun vs H Q _ => ∃ (v : V) (o : Option Int), vs = [v] ∧ Tg K H v o ∧ Q (.bl o.isSome) H
section
variable {K : PySem.W.Frag} {C : Addr} {pos : Pos} {G G' : Hp} {d tb p pd lp wa : Addr} {W W' : Wb} {Ws Ws' : List Wb} {W0 : Wb} {A : Int × Int}
end
end L2

















namespace Pw
open PySem PySem.NumText
end Pw


namespace L2
open PySem PySem.Spec PyProof PyProof.Rows PySem.W
noncomputable instance (p q : Int × Int) : Decidable (lexR p q) := by unfold lexR; infer_instance
noncomputable def spRisingB (K : PySem.W.Frag) : Sp := fun vs H Q _ => ∃ (t : Addr) (us : List V) (ps : List (Int × Int)), vs = [.ref t] ∧ H t = some (.tup us) ∧ Prs K H ps us ∧ ps.length ≤ 62 ∧ ∀ H', Same H H' → Q (.bl (decide (ps.Pairwise lexR))) H'
end L2

namespace L2
open PySem PySem.Spec PyProof PyProof.Rows PySem.W
theorem lexLe_iff (p q : Int × Int) : lexLe [p.1, p.2] [q.1, q.2] = decide (lexR p q) := by
 have h : lexR p q ↔ (p.1 < q.1 ∨ (p.1 = q.1 ∧ p.2 ≤ q.2)) := Iff.rfl
 rw [lexLe_c]
 split
 · rw [lexLe_c]
   split
   · exact (decide_eq_true (h.mpr (by omega))).symm
   · exact decide_eq_decide.mpr (by rw [h]; omega)
 · exact decide_eq_decide.mpr (by rw [h]; omega)
noncomputable def adj : List (Int × Int) → List Bool
 | p :: q :: r => lexLe [p.1, p.2] [q.1, q.2] :: adj (q :: r)
 | _ => []
theorem adj_all : ∀ ps : List (Int × Int), (adj ps).all id = decide (ps.Pairwise lexR)
 | [] => by simp [adj]
 | [p] => by simp [adj]
 | p :: q :: r => by
   rw [adj, List.all_cons, adj_all (q :: r), lexLe_iff]
   show (decide _ && decide _) = _
   rw [← Bool.decide_and, decide_eq_decide]
   constructor
   · rintro ⟨h1, h2⟩
     refine List.pairwise_cons.mpr ⟨fun z hz => ?_, h2⟩
     rcases List.mem_cons.mp hz with rfl | hz
     · exact h1
     · exact lexR_trans p q z h1 ((List.pairwise_cons.mp h2).1 z hz)
   · intro h
     exact ⟨(List.pairwise_cons.mp h).1 q (List.mem_cons_self ..), (List.pairwise_cons.mp h).2⟩
theorem adj_get : ∀ (ps : List (Int × Int)) (i : Nat) (p q : Int × Int), ps[i]? = some p → ps[i + 1]? = some q → (adj ps)[i]? = some (lexLe [p.1, p.2] [q.1, q.2])
 | [], _, _, _, h, _ => by simp at h
 | [_], i, _, _, _, h => by simp at h
 | a :: b :: r, 0, p, q, h1, h2 => by
   simp at h1 h2
   subst h1 h2
   rfl
 | a :: b :: r, i + 1, p, q, h1, h2 => by
   rw [adj, List.getElem?_cons_succ]
   exact adj_get (b :: r) i p q (by simpa using h1) (by simpa using h2)
theorem adj_len : ∀ ps : List (Int × Int), (adj ps).length = ps.length - 1
 | [] => rfl
 | [_] => rfl
 | a :: b :: r => by rw [adj, List.length_cons, adj_len (b :: r)]; simp
end L2




namespace Pw
open PySem PySem.NumText
noncomputable abbrev ns (n : Int) : Str := Str.ofString (toString n)
noncomputable def dgt (m : Nat) : List Nat := (Nat.toDigits 10 m).map Char.toNat
theorem dgt_step {m : Nat} (h : ¬ m < 10) : dgt m = dgt (m / 10) ++ [48 + m % 10] := by
 have hm : m % 10 < 10 := Nat.mod_lt m (by decide)
 have t : Nat.toDigits 10 (m / 10) ++ Nat.toDigits 10 (m % 10) = Nat.toDigits 10 (10 * (m / 10) + m % 10) := Nat.toDigits_append_toDigits (by decide) (by omega) hm
 rw [Nat.div_add_mod] at t
 unfold dgt
 rw [← t, List.map_append, Nat.toDigits_of_lt_base hm]
 have key : ∀ d, d < 10 → (Nat.digitChar d).toNat = 48 + d := by decide
 show _ ++ [(Nat.digitChar (m % 10)).toNat] = _
 rw [key _ hm]
theorem dgt_one {m : Nat} (h : m < 10) : dgt m = [48 + m] := by
 unfold dgt
 rw [Nat.toDigits_of_lt_base h]
 have key : ∀ d, d < 10 → (Nat.digitChar d).toNat = 48 + d := by decide
 show [(Nat.digitChar m).toNat] = _
 rw [key _ h]
theorem dgt_ok (m : Nat) : AllDigits (dgt m) ∧ dgt m ≠ [] ∧ (m ≠ 0 → (dgt m).head? ≠ some 48) ∧ ∀ k, 1 ≤ k → m < 10 ^ k → (dgt m).length ≤ k := by
 induction m using Nat.strongRecOn with
 | _ m ih =>
   by_cases h : m < 10
   · rw [dgt_one h]
     refine ⟨fun c hc => ?_, by simp, fun h0 e => ?_, fun k hk _ => by simpa using hk⟩
     · rw [List.mem_singleton.mp hc]; omega
     · have := Option.some.inj e
       omega
   · obtain ⟨a, b, c, d⟩ := ih (m / 10) (by omega)
     have hm : m % 10 < 10 := Nat.mod_lt m (by decide)
     rw [dgt_step h]
     refine ⟨fun x hx => ?_, by simp, fun _ e => ?_, fun k hk hlt => ?_⟩
     · rcases List.mem_append.mp hx with hx | hx
       · exact a x hx
       · rw [List.mem_singleton.mp hx]; omega
     · refine c (by omega) ?_
       cases hd : dgt (m / 10) with
       | nil => exact absurd hd b
       | cons x xs => rw [hd] at e; exact e
     · rw [List.length_append, List.length_singleton]
       have k2 : 2 ≤ k := by
        rcases Nat.lt_or_ge k 2 with hk2 | hk2
        · have : k = 1 := by omega
          subst this
          omega
        · exact hk2
       have := d (k - 1) (by omega) (by
        have e : 10 ^ k = 10 ^ (k - 1) * 10 := by rw [← Nat.pow_succ]; congr 1; omega
        rw [e] at hlt
        exact Nat.div_lt_of_lt_mul (by rw [Nat.mul_comm]; exact hlt))
       omega
theorem ns_nat (m : Nat) : (ns ((m : Nat) : Int)).cps.toList = dgt m := PySem.W.KIN.signs_num m
theorem ns_neg (m : Nat) : (ns (Int.negSucc m)).cps.toList = 45 :: dgt (m + 1) := by
 unfold ns dgt
 rw [PyProof.Rows.signs_ofString]
 show ("-" ++ Nat.repr (m + 1)).toList.map Char.toNat = _
 rw [String.toList_append, List.map_append, Nat.toList_repr]
 rfl
theorem ns_mem {n : Int} {c : Nat} (h : c ∈ (ns n).cps.toList) : c = 45 ∨ (48 ≤ c ∧ c ≤ 57) := by
 cases n with
 | ofNat m =>
   have e := ns_nat m
   change (ns (Int.ofNat m)).cps.toList = _ at e
   rw [e] at h
   exact .inr ((dgt_ok m).1 c h)
 | negSucc m =>
   rw [ns_neg m] at h
   rcases List.mem_cons.mp h with h | h
   · exact .inl h
   · exact .inr ((dgt_ok (m + 1)).1 c h)
end Pw


namespace L2
open PySem PySem.Spec PyProof PyProof.Rows PySem.W
inductive Nm : V → Int → Prop where
 | int (i : Int) : Nm (.int i) i
 | bl (b : Bool) : Nm (.bl b) (b2i b)
section
variable {X : Cx}
noncomputable def nmT : V → Str
 | .int i => toString i
 | .bl b => if b then "True" else "False"
 | _ => Str.empty
theorem call_strN : CallR X (.type "str") (fun xs H Q => ∃ x a, xs = [x] ∧ Nm x a ∧ a.natAbs.log2 < 1920 ∧ Q (.str (nmT x)) H) := by
 intro pins s σ H xs us Q I r h
 obtain ⟨x, a, rfl, hx, hz, q⟩ := h
 obtain ⟨u, rfl, ru⟩ := vals1 r
 cases hx with
 | int i => obtain ⟨t, rfl⟩ := ru; exact PySem.P.str_of_int hz ⟨.str _, H, I.tok _, ⟨_, rfl⟩, q⟩
 | bl b => cases (show u = Value.bool b from ru); exact PySem.P.str_of_bool ⟨.str _, H, I.tok _, ⟨_, rfl⟩, q⟩
end
section
variable {prog : Program} {w : World} {A : Around} {E : Value → Shared → Prop} {s : Shared}
theorem hash_bool {b : Bool} {Q : Int → Shared → Prop} (h : Q (hashInt (b2i b)) { s with toks := s.toks + 1 }) : wpAny (model prog w) A (pyHash (.bool b)) Q E s := by
 have hr := rawHash_range (b2i b)
 unfold pyHash
 have hv : [Value.bool b].any Value.onHeap = false := rfl
 refine wpAny_bind ?_
 rw [cRoomFor, if_neg (by rw [hv]; exact Bool.false_ne_true)]; refine wpAny_pure ?_
 refine wpAny_bind (wpAny_specialOf (PySem.typeIs_bool s b) F.slot_bool_hash.lookup ?_)
 show wpAny _ _ (if (some (Value.builtin "int.__hash__") == some Value.none) = true then _ else _) Q E s
 rw [if_neg (by rw [beq_builtin_none]; exact Bool.false_ne_true)]
 refine wpAny_bind (wpAny_specialOf (PySem.typeIs_bool s b) F.slot_bool_hash.lookup ?_)
 show wpAny _ _ (callSpecialIfBoundUnlessNone? (.bool b) "__hash__" _ >>= _) Q E s
 refine wpAny_bind (wpAny_callSpecialIfBoundUnlessNone?_slot (PySem.typeIs_bool s b) F.slot_bool_hash
  (wpAny_call_entry F.slot_bool_hash (PySem.typeIs_bool s b) entry_int_hash
   (show wpAny _ _ (do ret (← mkInt (rawHash (b2i b)))) _ _ s from wpAny_ret_mkInt ?_) (args_int_hash _)))
 show wpAny _ _ (if (decide (-(2 : Int) ^ 63 ≤ rawHash (b2i b)) && decide (rawHash (b2i b) < 2 ^ 63)) = true then _ else _) Q E _
 rw [if_pos (by rw [decide_eq_true hr.1, decide_eq_true hr.2]; rfl)]
 exact wpAny_pure h
end
end L2

namespace L2
open PySem PySem.Spec PyProof PyProof.Rows PySem.W
inductive Fl : V → PyData → Prop where
 | non : Fl .non .none
 | bl (b : Bool) : Fl (.bl b) (.bool b)
 | int (i : Int) (h : i.natAbs.log2 < 1920) : Fl (.int i) (.int i)
 | str (x : Str) (h : (reprText x).length ≤ 25000) : Fl (.str x) (.str x)
theorem Fl.d {v : V} {d : PyData} (h : Fl v d) : d.showable = true ∧ d.hasDict = false ∧ d.depth = 0 ∧ d.shown.length ≤ 25000 := by
 cases h with
 | non => exact ⟨rfl, rfl, rfl, by decide⟩
 | bl b => exact ⟨rfl, rfl, rfl, by cases b <;> decide⟩
 | int i h => exact ⟨decide_eq_true h, rfl, rfl, Nat.le_trans (int_text_len_1921 h) (by decide)⟩
 | str x h => exact ⟨rfl, rfl, rfl, h⟩
theorem Fl.rd {v : V} {u : Value} {d : PyData} {h : Heap} (f : Fl v d) (r : RelV v u) : Reads h u d [] := by
 cases f with
 | non => cases (show u = Value.none from r); exact .none
 | bl b => cases (show u = Value.bool b from r); exact .bool b
 | int i h => obtain ⟨t, rfl⟩ := r; exact .int _ _
 | str x h => obtain ⟨t, rfl⟩ := r; exact .str _ _
section
variable {X : Cx}
end
end L2


namespace L2
open PySem PySem.Spec PyProof PyProof.Rows PySem.W
noncomputable def o2 : Option Int → Option Int → Option (Int × Int)
 | some x, some y => some (x, y)
 | _, _ => none
theorem tup_kp {H H' : Hp} {h a : Addr} {xs : List V} (hh : HandAt H h) (k : Kp h H H') (e : H a = some (.tup xs)) : H' a = some (.tup xs) := by
 refine k _ _ e ?_
 rintro rfl
 obtain ⟨_, _, e', _⟩ := hh
 rw [e'] at e; cases e
end L2

namespace L2
open PySem PySem.Spec PyProof PyProof.Rows PySem.W
section
variable {K : PySem.W.Frag} {H H' : Hp} {h q : Addr} {n : Nat} {us : List V} {v : V}
theorem atI_mem {xs : List V} {i : Int} (h0 : 0 ≤ i) (h1 : i < xs.length) : ∃ v, atI xs i = some v ∧ v ∈ xs := by
 obtain ⟨j, rfl⟩ := Int.eq_ofNat_of_zero_le h0
 have hj : j < xs.length := by omega
 refine ⟨xs[j], atI_nat (by rw [List.getElem?_eq_getElem hj]), List.getElem_mem hj⟩
end
theorem atI_at {H : Hp} {p : Addr} {xs : List V} {i : Int} (e : H p = some (.lst xs)) (h0 : 0 ≤ i) (h1 : i < xs.length) : ∃ v, atI xs i = some v ∧ v ∈ xs := atI_mem h0 h1
end L2

namespace L2
open PySem PySem.Spec PyProof PyProof.Rows PySem.W
inductive Hk (h : Heap) : Nat → Value → Prop where
 | non {n : Nat} : Hk h n .none
 | bl {n : Nat} (b : Bool) : Hk h n (.bool b)
 | int {n : Nat} (i : Int) (t : Tok) : Hk h n (.int i t)
 | str {n : Nat} (x : Str) (t : Tok) : Hk h n (.str x t)
 | tup {n : Nat} {a : Addr} {o : Obj} {items : Array Value} {k : Nat} (ho : h.get? a = some o) (hc : o.cls = .type "tuple") (hd : o.data = .seq items k) (hi : ∀ v ∈ items.toList, Hk h n v) : Hk h (n + 1) (.ref a)
section
variable {prog : Program} {w : World} {E : Value → Shared → Prop}
theorem hash_none {A : Around} {s : Shared} {Q : Int → Shared → Prop} (h : ∀ i t, Q i { s with toks := t }) : wpAny (model prog w) A (pyHash .none) Q E s := by
 unfold pyHash
 unfold pyHashByItsType
 have hv : [Value.none].any Value.onHeap = false := rfl
 refine wpAny_bind (wpAny_cRoomFor_or (.inl hv) ?_)
 have hT : s.TypeIs .none "NoneType" := rfl
 refine wpAny_bind (wpAny_specialOf hT F.slot_NoneType_hash.lookup ?_)
 show wpAny _ _ (if (some (Value.builtin "NoneType.__hash__") == some Value.none) = true then _ else _) Q E s
 rw [if_neg (by rw [beq_builtin_none]; exact Bool.false_ne_true)]
 refine wpAny_bind (wpAny_specialOf hT F.slot_NoneType_hash.lookup ?_)
 show wpAny _ _ (callSpecialIfBoundUnlessNone? .none "__hash__" _ >>= _) Q E s
 refine wpAny_bind (wpAny_callSpecialIfBoundUnlessNone?_slot hT F.slot_NoneType_hash (wpAny_call_entry F.slot_NoneType_hash hT F.entry_NoneType_hash ?_ (F.args_NoneType_hash_1 _)))
 refine wpAny_ret_mkInt ?_
 show wpAny _ _ (if (decide (-(2 : Int) ^ 63 ≤ 0xFCA86420) && decide ((0xFCA86420 : Int) < 2 ^ 63)) = true then _ else _) Q E _
 rw [if_pos (by decide)]
 exact wpAny_pure (h _ _)
theorem hash_any : ∀ {n : Nat} {v : Value} {A : Around} {s : Shared} {Q : Int → Shared → Prop}, Hk s.heap n v → A.units + 8 * n < cLine → (∀ i t, Q i { s with toks := t }) → wpAny (model prog w) A (pyHash v) Q E s := by
 intro n
 induction n with
 | zero =>
   intro v A s Q hk hu h
   cases hk with
   | non => exact hash_none h
   | bl b => exact hash_bool (h _ _)
   | int i t => exact wpAny_pyHash_int (h _ _)
   | str x t => exact wpAny_pyHash_str (h _ _)
 | succ n ih =>
   intro v A s Q hk hu h
   cases hk with
   | non => exact hash_none h
   | bl b => exact hash_bool (h _ _)
   | int i t => exact wpAny_pyHash_int (h _ _)
   | str x t => exact wpAny_pyHash_str (h _ _)
   | @tup _ a o items m ho hc hd hi =>
     have hT : s.TypeIs (.ref a) "tuple" := ⟨o, ho, hc⟩
     unfold pyHash
     unfold pyHashByItsType
     refine wpAny_bind (wpAny_cRoomFor_or (.inr (by omega)) ?_)
     refine wpAny_bind (wpAny_specialOf hT F.slot_tuple_hash.lookup ?_)
     show wpAny _ _ (if (some (Value.builtin "tuple.__hash__") == some Value.none) = true then _ else _) Q E s
     rw [if_neg (by rw [beq_builtin_none]; exact Bool.false_ne_true)]
     refine wpAny_bind (wpAny_specialOf hT F.slot_tuple_hash.lookup ?_)
     show wpAny _ _ (callSpecialIfBoundUnlessNone? (.ref a) "__hash__" _ >>= _) Q E s
     refine wpAny_bind (wpAny_callSpecialIfBoundUnlessNone?_slot hT F.slot_tuple_hash (wpAny_call_entry F.slot_tuple_hash hT F.entry_tuple_hash ?_ (F.args_tuple_hash_1 _)))
     show wpAny _ _ (Builtin.Tuple.tupleItemsOf (.ref a) >>= _) _ _ s
     refine wpAny_bind (wpAny_tupleItemsOf ho hd ?_)
     refine wpAny_bind ?_
     rw [← Array.forIn_toList]
     refine wpAny_forIn_list _ (fun rest (b : Array Int) s' => (∀ v ∈ rest, Hk s.heap n v) ∧ ∃ t, s' = { s with toks := t }) _ ?_ ?_ _ _ ⟨hi, s.toks, rfl⟩
     · rintro x rest b s' ⟨hr, t, rfl⟩
       refine wpAny_bind (ih (s := { s with toks := t }) (hr x List.mem_cons_self) (show A.units + 1 + 8 * n < cLine by omega) fun i t' => ?_)
       first
        | exact wpAny_pure ⟨fun v hv => hr v (List.mem_cons_of_mem _ hv), t', rfl⟩
        | exact wpAny_bind (wpAny_pure (wpAny_pure ⟨fun v hv => hr v (List.mem_cons_of_mem _ hv), t', rfl⟩))
     · rintro b s' ⟨_, t, rfl⟩
       refine wpAny_ret_mkInt ?_
       show wpAny _ _ (if (decide (-(2 : Int) ^ 63 ≤ Builtin.Tuple.tupleHashOf b.toList) && decide (Builtin.Tuple.tupleHashOf b.toList < 2 ^ 63)) = true then _ else _) Q E _
       split
       · exact wpAny_pure (h _ _)
       · exact wpAny_bind (wpAny_rule (wpAny_pure (h _ _)))
theorem quiet_any : ∀ {n m : Nat} {v : Value} {A : Around} {s : Shared} {Q : Bool → Shared → Prop}, Hk s.heap n v → n ≤ m → Q true s → wpAny (model prog w) A (eqIsQuiet m v) Q E s := by
 intro n
 induction n with
 | zero =>
   intro m v A s Q hk hm h
   rw [eqIsQuiet_byValue m (by cases hk <;> rfl)]
   exact wpAny_pure h
 | succ n ih =>
   intro m v A s Q hk hm h
   cases hk with
   | non => rw [eqIsQuiet_byValue m rfl]; exact wpAny_pure h
   | bl b => rw [eqIsQuiet_byValue m rfl]; exact wpAny_pure h
   | int i t => rw [eqIsQuiet_byValue m rfl]; exact wpAny_pure h
   | str x t => rw [eqIsQuiet_byValue m rfl]; exact wpAny_pure h
   | @tup _ a o items k ho hc hd hi =>
     obtain ⟨m, rfl⟩ : ∃ j, m = j + 1 := ⟨m - 1, by omega⟩
     have hT : s.TypeIs (.ref a) "tuple" := ⟨o, ho, hc⟩
     unfold eqIsQuiet
     refine wpAny_bind (wpAny_specialOf hT F.slot_tuple_eq.lookup ?_)
     show wpAny _ _ (isInstance (.ref a) (.type "tuple") >>= _) _ _ s
     refine wpAny_bind (wpAny_isInstance hT isSubtype_tuple_tuple ?_)
     simp only [Bool.not_true, Bool.false_eq_true, if_false]
     refine wpAny_bind (wpAny_seqItems ho hd ?_)
     refine wpAny_bind ?_
     show wpAny _ _ (forIn items _ _) _ _ s
     rw [← Array.forIn_toList]
     refine wpAny_forIn_list _ (fun rest r s' => r.1 = none ∧ s' = s ∧ ∀ v ∈ rest, Hk s.heap n v) _ ?_ ?_ _ _ ⟨rfl, rfl, hi⟩
     · rintro v rest r s' ⟨hr, rfl, hall⟩
       refine wpAny_bind (ih (hall v List.mem_cons_self) (by omega) ?_)
       simp only [Bool.not_true, Bool.false_eq_true, if_false]
       exact wpAny_pure ⟨rfl, rfl, fun u hu' => hall u (List.mem_cons_of_mem _ hu')⟩
     · rintro ⟨r1, r2⟩ s' ⟨hr, rfl, _⟩
       simp only at hr
       subst hr
       exact wpAny_pure h
theorem eq_any {n : Nat} {u v : Value} {A : Around} {s : Shared} (hu : Hk s.heap 0 u) (hv : Hk s.heap n v) (ha : A.units < cLine) : ∃ b, SeqAt.EqAt A s u v b := by
 cases hu with
 | non =>
   cases hv with
   | non => exact ⟨_, .same _⟩
   | bl b => exact ⟨_, .none_bool b⟩
   | int i t => exact ⟨_, .none_int i t⟩
   | str x t => exact ⟨_, .none_str x t⟩
   | tup ho hc hd hi => exact ⟨_, .none_tuple (items := _) ⟨_, ho, hc, _, hd⟩ ha⟩
 | bl c =>
   cases hv with
   | non => exact ⟨_, .bool_none c⟩
   | bl b => exact ⟨_, .bool_bool c b⟩
   | int i t => exact ⟨_, .bool_int c i t⟩
   | str x t => exact ⟨_, .bool_str c x t⟩
   | tup ho hc hd hi => exact ⟨_, .bool_tuple (items := _) c ⟨_, ho, hc, _, hd⟩ ha⟩
 | int j u =>
   cases hv with
   | non => exact ⟨_, .int_none j u⟩
   | bl b => exact ⟨_, .int_bool j u b⟩
   | int i t => exact ⟨_, .int_int j u i t⟩
   | str x t => exact ⟨_, .int_str j u x t⟩
   | tup ho hc hd hi => exact ⟨_, .int_tuple (items := _) j u ⟨_, ho, hc, _, hd⟩ ha⟩
 | str y u =>
   cases hv with
   | non => exact ⟨_, .str_none y u⟩
   | bl b => exact ⟨_, .str_bool y u b⟩
   | int i t => exact ⟨_, .str_int y u i t⟩
   | str x t => exact ⟨_, .str_str y u x t⟩
   | tup ho hc hd hi => exact ⟨_, .str_tuple (items := _) y u ⟨_, ho, hc, _, hd⟩ ha⟩
theorem find0 {A : Around} {s : Shared} {d : Addr} {o : Obj} {ep : Nat} {key : Value} {h : Int} {Q : Option Nat → Shared → Prop} (ho : s.heap.get? d = some o) (hd : o.data = .dict #[] ep) (q : Q none s) : wpAny (model prog w) A (dictFind d key h) Q E s := by
 unfold dictFind
 try with_reducible refine wpAny_holding ?_
 refine wpAny_bind (wpAny_dictEntries ho hd ?_)
 dsimp only
 have walk : wpAny (model prog w) A (dictWalkPlain d key h #[] (placesWithHash (#[] : Array DictEntry).size (fun i => (#[] : Array DictEntry)[i]?.map (·.hash)) h)) Q E s := by
  unfold dictWalkPlain
  exact wpAny_bind (wpAny_pure (wpAny_pure q))
 cases key with
 | str x t =>
   dsimp only
   rw [if_pos (by simp)]
   unfold foundByValue
   rw [show Array.findIdx? (fun e : DictEntry => e.key.isStr x) #[] = none by simp]
   exact wpAny_pure q
 | ref a =>
   dsimp only
   rw [if_neg (by simp [carriedByValue])]
   rw [if_neg (by simp)]
   rw [if_neg (by simp [placesWithHash])]
   refine wpAny_bind ?_
   unfold tableMayTell
   rw [if_pos (by simp [placesWithHash])]
   refine wpAny_pure ?_
   rw [if_neg (by simp)]
   refine wpAny_bind ?_
   exact wpAny_pure (wpAny_pure q)
 | _ =>
   dsimp only
   rw [if_pos (by simp [carriedByValue, placesWithHash])]
   exact walk
theorem find1 {A : Around} {s : Shared} {n : Nat} {d : Addr} {o : Obj} {ep : Nat} {key : Value} {eh : Int} {ek ev : Value} {h : Int} {Q : Option Nat → Shared → Prop} (ho : s.heap.get? d = some o) (hd : o.data = .dict #[⟨eh, ek, ev⟩] ep) (he : Hk s.heap 0 ek) (hk : Hk s.heap n key) (hn : n ≤ 8) (hu : A.units < cLine) (q : ∀ r, (r = none ∨ r = some 0) → Q r s) : wpAny (model prog w) A (dictFind d key h) Q E s := by
 obtain ⟨b, eq⟩ := eq_any (A := A) he hk hu
 have walk : wpAny (model prog w) A (dictWalkPlain d key h #[⟨eh, ek, ev⟩] (placesWithHash (#[⟨eh, ek, ev⟩] : Array DictEntry).size (fun i => (#[⟨eh, ek, ev⟩] : Array DictEntry)[i]?.map (·.hash)) h)) Q E s := by
  unfold dictWalkPlain
  by_cases hh : eh = h
  · rw [show placesWithHash (#[⟨eh, ek, ev⟩] : Array DictEntry).size (fun i => (#[⟨eh, ek, ev⟩] : Array DictEntry)[i]?.map (·.hash)) h = [0] from by simp [placesWithHash, hh, List.range_succ]]
    refine wpAny_bind ?_
    refine wpAny_forIn_list _ (fun rest r s' => s' = s ∧ r = (none, ()) ∧ (rest = [0] ∨ rest = [])) _ ?_ ?_ _ _ ⟨rfl, rfl, .inl rfl⟩
    · rintro x rest r s' ⟨rfl, rfl, hr⟩
      obtain ⟨rfl, rfl⟩ : x = 0 ∧ rest = [] := by simpa using hr
      simp only [List.getElem?_toArray, List.getElem?_cons_zero]
      rw [if_pos (by rw [hh]; exact beq_self_eq_true _)]
      refine wpAny_bind (wpAny_dictEpoch ho hd (wpAny_bind (eq prog w E _ (wpAny_bind (wpAny_dictEpoch ho hd ?_)))))
      show wpAny _ _ (if (ep != ep) = true then _ else _) _ E _
      rw [if_neg (by simp)]
      cases b with
      | true => exact wpAny_bind (wpAny_rule (wpAny_pure (wpAny_pure (q _ (.inr rfl)))))
      | false => exact wpAny_bind (wpAny_rule (wpAny_pure ⟨rfl, rfl, by simp⟩))
    · rintro r s' ⟨rfl, rfl, _⟩
      exact wpAny_pure (q _ (.inl rfl))
  · rw [show placesWithHash (#[⟨eh, ek, ev⟩] : Array DictEntry).size (fun i => (#[⟨eh, ek, ev⟩] : Array DictEntry)[i]?.map (·.hash)) h = [] from by simp [placesWithHash, hh, List.range_succ]]
    exact wpAny_bind (wpAny_pure (wpAny_pure (q _ (.inl rfl))))
 have hcv : carriedByValue ek = true := by cases he <;> rfl
 have hall : carriedByValue key = true → ((key :: (placesWithHash (#[⟨eh, ek, ev⟩] : Array DictEntry).size (fun i => (#[⟨eh, ek, ev⟩] : Array DictEntry)[i]?.map (·.hash)) h).filterMap fun i => (#[⟨eh, ek, ev⟩] : Array DictEntry)[i]?.map (·.key)).all carriedByValue) = true := by
  intro hc
  rw [List.all_cons, hc, Bool.true_and]
  refine List.all_eq_true.mpr fun v hv => ?_
  obtain ⟨i, _, hi⟩ := List.mem_filterMap.mp hv
  match i, hi with
  | 0, hi => have : ek = v := by simpa using hi
             rw [← this]; exact hcv
  | j + 1, hi => simp at hi
 unfold dictFind
 try with_reducible refine wpAny_holding ?_
 refine wpAny_bind (wpAny_dictEntries ho hd ?_)
 dsimp only
 cases hk with
 | non => dsimp only; rw [if_pos (hall rfl)]; exact walk
 | bl c => dsimp only; rw [if_pos (hall rfl)]; exact walk
 | int i t => dsimp only; rw [if_pos (hall rfl)]; exact walk
 | str x t =>
   dsimp only
   by_cases hs : ((#[⟨eh, ek, ev⟩] : Array DictEntry).all fun e => isExactStrKey e.key) = true
   · rw [if_pos hs]
     unfold foundByValue
     cases he with
     | str y u =>
       by_cases hxy : y = x
       · subst hxy
         rw [show Array.findIdx? (fun e : DictEntry => e.key.isStr y) #[⟨eh, .str y u, ev⟩] = some 0 by simp [Value.isStr]]
         simp only [List.getElem?_toArray, List.getElem?_cons_zero]
         refine wpAny_bind (wpAny_dictEpoch ho hd (wpAny_bind (wpAny_eqBool_str (wpAny_bind (wpAny_dictEpoch ho hd ?_)))))
         show wpAny _ _ (if (ep != ep) = true then _ else _) _ E _
         rw [if_neg (by simp), decide_eq_true rfl]
         exact wpAny_bind (wpAny_rule (wpAny_pure (q _ (.inr rfl))))
       · rw [show Array.findIdx? (fun e : DictEntry => e.key.isStr x) #[⟨eh, .str y u, ev⟩] = none by simp [Value.isStr, hxy, Ne.symm hxy]]
         exact wpAny_pure (q _ (.inl rfl))
     | _ => simp [isExactStrKey] at hs
   · rw [if_neg hs, if_pos (hall rfl)]; exact walk
 | @tup m a o' items k ho' hc' hd' hi' =>
   have hk : Hk s.heap (m + 1) (.ref a) := .tup ho' hc' hd' hi'
   dsimp only
   rw [if_neg (by simp [carriedByValue])]
   rw [if_neg (by simp only [List.any_toArray, List.any_cons, List.any_nil, Bool.or_false]; cases he <;> simp)]
   by_cases hh : eh = h
   · rw [show placesWithHash (#[⟨eh, ek, ev⟩] : Array DictEntry).size (fun i => (#[⟨eh, ek, ev⟩] : Array DictEntry)[i]?.map (·.hash)) h = [0] from by simp [placesWithHash, hh, List.range_succ]]
     rw [show ([0].filterMap fun i => (#[⟨eh, ek, ev⟩] : Array DictEntry)[i]?.map (·.key)) = [ek] by simp]
     rw [if_neg (by cases he <;> simp)]
     refine wpAny_bind ?_
     unfold tableMayTell
     rw [if_neg (by simp)]
     refine wpAny_bind (quiet_any hk hn ?_)
     simp only [Bool.not_true, Bool.false_eq_true, if_false]
     refine wpAny_bind ?_
     refine wpAny_forIn_list _ (fun rest r s' => s' = s ∧ r = (none, ()) ∧ (rest = [ek] ∨ rest = [])) _ ?_ ?_ _ _ ⟨rfl, rfl, .inl rfl⟩
     · rintro x rest r s' ⟨rfl, rfl, hr⟩
       obtain ⟨rfl, rfl⟩ : x = ek ∧ rest = [] := by simpa using hr
       refine wpAny_bind (quiet_any he (Nat.zero_le _) ?_)
       simp only [Bool.not_true, Bool.false_eq_true, if_false]
       exact wpAny_pure ⟨rfl, rfl, by simp⟩
     · rintro r s' ⟨rfl, rfl, _⟩
       refine wpAny_pure ?_
       rw [if_neg (by simp)]
       refine wpAny_bind ?_
       refine wpAny_forIn_list _ (fun rest r s'' => s'' = s' ∧ r = (none, none) ∧ (rest = [0] ∨ rest = [])) _ ?_ ?_ _ _ ⟨rfl, rfl, .inl rfl⟩
       · rintro x rest r s'' ⟨rfl, rfl, hr⟩
         obtain ⟨rfl, rfl⟩ : x = 0 ∧ rest = [] := by simpa using hr
         simp only [List.getElem?_toArray, List.getElem?_cons_zero]
         rw [if_pos (by rw [hh]; exact beq_self_eq_true _)]
         refine wpAny_bind (wpAny_dictEpoch ho hd (wpAny_bind (eq prog w E _ (wpAny_bind (wpAny_dictEpoch ho hd ?_)))))
         show wpAny _ _ (if (ep != ep) = true then _ else _) _ E _
         rw [if_neg (by simp)]
         cases b with
         | true =>
           simp only [Option.isSome_none, Bool.false_eq_true, if_false, if_true]
           refine wpAny_bind (wpAny_rule ?_)
           rw [if_pos (by simp)]
           exact wpAny_pure (wpAny_pure (q _ (.inr rfl)))
         | false =>
           simp only [Bool.false_eq_true, if_false]
           refine wpAny_bind (wpAny_rule ?_)
           rw [if_neg (by simp)]
           exact wpAny_pure ⟨rfl, rfl, by simp⟩
       · rintro r s'' ⟨rfl, rfl, _⟩
         exact wpAny_pure (q _ (.inl rfl))
   · rw [show placesWithHash (#[⟨eh, ek, ev⟩] : Array DictEntry).size (fun i => (#[⟨eh, ek, ev⟩] : Array DictEntry)[i]?.map (·.hash)) h = [] from by simp [placesWithHash, hh, List.range_succ]]
     rw [if_neg (by simp)]
     refine wpAny_bind ?_
     unfold tableMayTell
     rw [if_pos (by simp)]
     refine wpAny_pure ?_
     rw [if_neg (by simp)]
     refine wpAny_bind ?_
     exact wpAny_pure (wpAny_pure (q _ (.inl rfl)))
noncomputable def DE (h : Heap) (d : Addr) (es : List DictEntry) : Prop := ∃ o ep, h.get? d = some o ∧ o.ExactDict ∧ o.data = .dict es.toArray ep
theorem Hk.keep {h h' : Heap} (kp : ∀ a o, h.get? a = some o → o.cls = .type "tuple" → h'.get? a = some o) : ∀ {n : Nat} {v : Value}, Hk h n v → Hk h' n v := by
 intro n
 induction n with
 | zero =>
   intro v hk
   cases hk with
   | non => exact .non
   | bl b => exact .bl b
   | int i t => exact .int i t
   | str x t => exact .str x t
 | succ n ih =>
   intro v hk
   cases hk with
   | non => exact .non
   | bl b => exact .bl b
   | int i t => exact .int i t
   | str x t => exact .str x t
   | tup ho hc hd hi => exact .tup (kp _ _ ho hc) hc hd fun v hv => ih (hi v hv)
theorem Hk.but {h h' : Heap} {d : Addr} {es : List DictEntry} {n : Nat} {v : Value} (hk : Hk h n v) (hd : DE h d es) (sb : Heap.SameBut d h h') : Hk h' n v := by
 refine hk.keep fun a o ho hc => ?_
 by_cases ha : a = d
 · subst ha
   obtain ⟨o', ep, ho', ex, _⟩ := hd
   rw [ho] at ho'; cases ho'
   have := ex.1
   rw [hc] at this; exact absurd this (by decide)
 · exact (sb.2 a ha).trans ho
theorem dset0 {A : Around} {s : Shared} {n : Nat} {d : Addr} {key v : Value} {Q : Unit → Shared → Prop} (hd : DE s.heap d []) (hk : Hk s.heap n key) (hu : A.units + 8 * n < cLine)
 (q : ∀ h' t hv, DE h' d [⟨hv, key, v⟩] → Heap.SameBut d s.heap h' → Q () { s with heap := h', toks := t }) : wpAny (model prog w) A (dictSet d key v) Q E s := by
 obtain ⟨o, ep, ho, ex, hd⟩ := hd
 unfold dictSet
 try with_reducible refine wpAny_holding ?_
 refine wpAny_bind (hash_any hk hu fun hv t => ?_)
 unfold dictSetHashed
 try with_reducible refine wpAny_holding ?_
 refine wpAny_bind (find0 (s := { s with toks := t }) ho hd ?_)
 refine wpAny_bind (wpAny_rule (wpAny_updateDictKeys (hz := by simp [sizeLine_eq]) (s := { s with toks := t }) ho hd (q _ _ hv ⟨_, ep + 1, Heap.get?_update_self _ ho (Obj.isFreed_of_dict (Obj.data_mapDictKeys hd _)), ex.mapDictKeys _, Obj.data_mapDictKeys hd _⟩ (Heap.SameBut.update ..))))
theorem dset1 {A : Around} {s : Shared} {n : Nat} {d : Addr} {eh : Int} {ek ev key v : Value} {Q : Unit → Shared → Prop} (hd : DE s.heap d [⟨eh, ek, ev⟩]) (he : Hk s.heap 0 ek) (hk : Hk s.heap n key) (hn : n ≤ 8) (hu : A.units + 8 * n < cLine)
 (q : ∀ h' t es, (es = [⟨eh, ek, v⟩] ∨ ∃ hv, es = [⟨eh, ek, ev⟩, ⟨hv, key, v⟩]) → DE h' d es → Heap.SameBut d s.heap h' → Q () { s with heap := h', toks := t }) : wpAny (model prog w) A (dictSet d key v) Q E s := by
 obtain ⟨o, ep, ho, ex, hd⟩ := hd
 unfold dictSet
 try with_reducible refine wpAny_holding ?_
 refine wpAny_bind (hash_any hk hu fun hv t => ?_)
 unfold dictSetHashed
 try with_reducible refine wpAny_holding ?_
 refine wpAny_bind (find1 (s := { s with toks := t }) ho hd he hk hn (by omega) fun r hr => ?_)
 rcases hr with rfl | rfl
 · refine wpAny_bind (wpAny_rule (wpAny_updateDictKeys (hz := by simp [sizeLine_eq]) (s := { s with toks := t }) ho hd (q _ _ [⟨eh, ek, ev⟩, ⟨hv, key, v⟩] (.inr ⟨hv, rfl⟩) ⟨_, ep + 1, Heap.get?_update_self _ ho (Obj.isFreed_of_dict (Obj.data_mapDictKeys hd _)), ex.mapDictKeys _, Obj.data_mapDictKeys hd _⟩ (Heap.SameBut.update ..))))
 · refine wpAny_bind (wpAny_rule (wpAny_bind (wpAny_updateDict (s := { s with toks := t }) ho hd (wpAny_point (q _ _ [⟨eh, ek, v⟩] (.inl rfl) ⟨_, ep, Heap.get?_update_self _ ho (Obj.isFreed_of_dict (Obj.data_mapDict hd _)), ex.mapDict _, ?_⟩ (Heap.SameBut.update ..))))))
   rw [Obj.data_mapDict hd _]
   simp
noncomputable def stored2 (vs : List (Value × Value)) (es : List DictEntry) : Prop := (∃ h k v, vs = [(k, v)] ∧ es = [⟨h, k, v⟩]) ∨ (∃ h k v k' v', vs = [(k, v), (k', v')] ∧ (es = [⟨h, k, v'⟩] ∨ ∃ h', es = [⟨h, k, v⟩, ⟨h', k', v'⟩]))
noncomputable def Keyed (h : Heap) (vs : List (Value × Value)) : Prop := (∃ n k v, vs = [(k, v)] ∧ Hk h n k ∧ n ≤ 8) ∨ (∃ n k v k' v', vs = [(k, v), (k', v')] ∧ Hk h 0 k ∧ Hk h n k' ∧ n ≤ 8)
theorem display_any {A : Around} {s : Shared} {env : Env} {keys : List (Option Expr)} {values : List Expr} {pos : Pos} {Q : Value → Shared → Prop}
 (hall : keys.all (·.isSome) = true) (hl : keys.length = values.length) (h0 : keys ≠ []) (hlen : keys.length ≤ 15) (hu : A.units + 64 < cLine)
 (h : wpAny (model prog w) A (evalPairs (pairTrees keys values env pos)) (fun vs s₁ => DE s₁.heap s.heap.objs.size [] ∧ Keyed s₁.heap vs ∧
  ∀ h' t es, stored2 vs es → DE h' s.heap.objs.size es → Heap.SameBut s.heap.objs.size s₁.heap h' → Q (.ref s.heap.objs.size) { s₁ with heap := h', toks := t }) E
  { s with heap := s.heap.push { cls := .type "dict", data := .dict #[] } }) :
 wpAny (model prog w) A (eval (.Dict keys values pos) env) Q E s := by
 have hn := pairTrees_length keys values env pos hall hl
 have hne : pairTrees keys values env pos ≠ [] := fun he => by
  rw [he] at hn
  exact h0 (List.length_eq_zero_iff.mp hn.symm)
 rw [arm_eval_Dict, zip_pairTrees keys values env pos hall hl, dictDisplay_pairs _ hne (by omega)]
 refine wpAny_bind (wpAny_standAt (wpAny_bind ?_))
 unfold subDict
 refine wpAny_bind (wpAny_alloc ?_)
 refine wpAny_bind (wpAny_holding ?_)
 rw [if_pos (by omega)]
 refine wpAny_bind (wpAny_mono h (fun vs s₁ h₁ => ?_) fun _ _ e => e)
 obtain ⟨hd, hk, q⟩ := h₁
 refine wpAny_holding ?_
 rcases hk with ⟨n, k, v, rfl, hk, hn8⟩ | ⟨n, k, v, k', v', rfl, hk, hk', hn8⟩
 · refine wpAny_bind ?_
   rw [List.forIn_cons]
   refine wpAny_bind (wpAny_bind (dset0 hd hk (by omega) fun h' t hv d' sb => wpAny_pure ?_))
   dsimp only
   rw [List.forIn_nil]
   exact wpAny_pure (wpAny_pure (wpAny_pure (wpAny_pure (q _ _ _ (.inl ⟨hv, k, v, rfl, rfl⟩) d' sb))))
 · refine wpAny_bind ?_
   rw [List.forIn_cons]
   refine wpAny_bind (wpAny_bind (dset0 hd hk (by omega) fun h' t hv d' sb => wpAny_pure ?_))
   dsimp only
   rw [List.forIn_cons]
   refine wpAny_bind (wpAny_bind (dset1 (s := { s₁ with heap := h', toks := t }) d' (hk.but hd sb) (hk'.but hd sb) hn8 (by omega) fun h2 t2 es hes d2 sb2 => wpAny_pure ?_))
   dsimp only
   rw [List.forIn_nil]
   refine wpAny_pure (wpAny_pure (wpAny_pure (wpAny_pure (q _ _ es (.inr ⟨hv, k, v, k', v', rfl, hes⟩) d2 (sb.trans sb2)))))
end
end L2

namespace L2
open PySem PySem.Spec PyProof PyProof.Rows PySem.W
inductive Hs (K : PySem.W.Frag) (H : Hp) : Nat → V → Prop where
 | non {n : Nat} : Hs K H n .non
 | bl {n : Nat} (b : Bool) : Hs K H n (.bl b)
 | int {n : Nat} (i : Int) : Hs K H n (.int i)
 | str {n : Nat} (x : Str) : Hs K H n (.str x)
 | tup {n : Nat} {a : Addr} {xs : List V} (e : SqT K H a xs) (f : ∀ x ∈ xs, Hs K H n x) : Hs K H (n + 1) (.ref a)
theorem vals_mem {xs : List V} {us : List Value} (r : Vals xs us) : ∀ u ∈ us, ∃ x ∈ xs, RelV x u := by
 induction r with
 | nil => intro u hu; cases hu
 | cons h t ih =>
   intro u hu
   rcases List.mem_cons.mp hu with rfl | hu
   · exact ⟨_, List.mem_cons_self, h⟩
   · obtain ⟨x, hx, r⟩ := ih u hu
     exact ⟨x, List.mem_cons_of_mem _ hx, r⟩
theorem Hs.hk {X : Cx} {pins : List (Addr × Obj)} {σ : St} {H : Hp} {s : Shared} (I : Inv X pins σ H s) : ∀ {n : Nat} {v : V} {u : Value}, Hs X.K H n v → RelV v u → Hk s.heap n u := by
 intro n
 induction n with
 | zero =>
   intro v u h r
   cases h with
   | non => cases (show u = Value.none from r); exact .non
   | bl b => cases (show u = Value.bool b from r); exact .bl b
   | int i => obtain ⟨t, rfl⟩ := r; exact .int i t
   | str x => obtain ⟨t, rfl⟩ := r; exact .str x t
 | succ n ih =>
   intro v u h r
   cases h with
   | non => cases (show u = Value.none from r); exact .non
   | bl b => cases (show u = Value.bool b from r); exact .bl b
   | int i => obtain ⟨t, rfl⟩ := r; exact .int i t
   | str x => obtain ⟨t, rfl⟩ := r; exact .str x t
   | @tup _ a xs e f =>
     cases (show u = Value.ref a from r)
     obtain ⟨its, rr, ⟨o, ho, hc, m, hd⟩, _⟩ := I.tuple e
     refine .tup ho hc hd fun v hv => ?_
     obtain ⟨x, hx, rx⟩ := vals_mem rr v (by simpa using hv)
     exact ih (f x hx) rx
noncomputable def DctV (a : Addr) (ks vs : List V) : HO := .ext fun h => ∃ (o : Obj) (es : Array DictEntry) (n : Nat), h.get? a = some o ∧ o.cls = .type "dict" ∧ o.data = .dict es n ∧ a ≠ sysModules ∧ Vals ks (es.toList.map (·.key)) ∧ Vals vs (es.toList.map (·.val))
theorem dctV_ok {P : Program} {w : World} {H : Hp} {h : Heap} {p : Addr} {es : List DictEntry} {ks vs : List V} (d : DE h p es) (hs : p ≠ sysModules) (rk : Vals ks (es.map (·.key))) (rv : Vals vs (es.map (·.val))) : ObjOk P w H h p (DctV p ks vs) := by
 obtain ⟨o, ep, ho, ex, hd⟩ := d
 refine ⟨⟨o, es.toArray, ep, ho, ex.1, hd, hs, by simpa using rk, by simpa using rv⟩, ⟨o, ho⟩, ?_⟩
 rintro h1 h2 ⟨o', es', n', ho', r⟩ k
 exact ⟨o', es', n', k _ ho', r⟩
noncomputable def GOk (K : PySem.W.Frag) (H : Hp) (ps : List (V × V)) : Prop := (∃ n k v, ps = [(k, v)] ∧ Hs K H n k ∧ n ≤ 8) ∨ (∃ n k v k' v', ps = [(k, v), (k', v')] ∧ Hs K H 0 k ∧ Hs K H n k' ∧ n ≤ 8)
noncomputable def tDispG (K : PySem.W.Frag) (trs : List (TE × TE)) : TE := fun σ H Q => ∀ p, H p = none → tPairs trs σ (upd H p (.dK [])) fun ps H2 => H2 p = some (.dK []) ∧ GOk K H2 ps ∧ ∀ ks vs : List V, (∀ k ∈ ks, k ∈ ps.map (·.1)) → (∀ v ∈ vs, v ∈ ps.map (·.2)) → ks.length = vs.length → ks.length ≤ 2 → Q (.ref p) (upd H2 p (DctV p ks vs))
theorem pe_dispG {X : Cx} {K : PySem.W.Frag} {k : Nat} {pos : Pos} {keys : List (Option Expr)} {values : List Expr} {trs : List (TE × TE)} (eK : X.K = K) (hr : Room k X.A) (h : PPs X pos keys values trs) (hall : keys.all (·.isSome) = true) (hl : keys.length = values.length) (h0 : keys ≠ [])
 (h15 : keys.length ≤ 15) : PE X (.Dict keys values pos) (tDispG K trs) := by
 subst eK
 intro pins s σ H Q I q
 have hn := I.hok.fresh (Nat.le_refl s.heap.objs.size)
 have I1 := I.laid (a := s.heap.objs.size) (o := .dK []) (h' := s.heap.push { cls := .type "dict", data := .dict #[] }) (t' := s.toks) (fun _ _ q => Heap.get?_push_of_some _ q) (Nat.le_refl _) (dk_empty s.heap I.big)
 have hu := hr.units
 refine display_any hall hl h0 h15 (by omega) (thn (h pins _ σ _ _ I1 (q _ hn)) fun ws s2 ⟨ps, H2, I2, rel, e, ok, q2⟩ => ?_)
 obtain ⟨z, hd, vs0, r0, dd⟩ := dk_of I2.hok e
 cases r0
 have dn : DE s2.heap s.heap.objs.size [] := by
  obtain ⟨o, es, ep, a1, a2, a3, a4, a5, a6⟩ := dd
  have ee : es = #[] := by
   cases hh : es.toList with
   | nil => exact Array.toList_eq_nil_iff.mp hh
   | cons x y => rw [hh] at a5; cases a5
  subst ee
  exact ⟨o, ep, a1, a2, a3⟩
 have hsm : s.heap.objs.size ≠ sysModules := beq_eq_false_iff_ne.mp hd
 refine ⟨dn, ?_, fun h' t es st d' sb => ?_⟩
 · rcases ok with ⟨n, k, v, rfl, hk, hn⟩ | ⟨n, k, v, k', v', rfl, hk, hk', hn⟩
   · cases rel with
     | @cons _ q1 _ _ h1 t1 =>
       cases t1
       exact .inl ⟨n, q1.1, q1.2, rfl, hk.hk I2 h1.1, hn⟩
   · cases rel with
     | @cons _ q1 _ _ h1 t1 =>
       cases t1 with
       | @cons _ q2 _ _ h2 t2 =>
         cases t2
         exact .inr ⟨n, q1.1, q1.2, q2.1, q2.2, rfl, hk.hk I2 h1.1, hk'.hk I2 h2.1, hn⟩
 · have key : ∃ ks vs : List V, (∀ k ∈ ks, k ∈ ps.map (·.1)) ∧ (∀ v ∈ vs, v ∈ ps.map (·.2)) ∧ ks.length = vs.length ∧ ks.length ≤ 2 ∧ Vals ks (es.map (·.key)) ∧ Vals vs (es.map (·.val)) := by
    rcases st with ⟨hv, k, v, rfl, rfl⟩ | ⟨hv, k, v, k', v', rfl, st⟩
    · cases rel with
      | @cons p1 _ _ _ h1 t1 =>
        cases t1
        exact ⟨[p1.1], [p1.2], by simp, by simp, rfl, by simp, .cons h1.1 .nil, .cons h1.2 .nil⟩
    · cases rel with
      | @cons p1 _ _ _ h1 t1 =>
        cases t1 with
        | @cons p2 _ _ _ h2 t2 =>
          cases t2
          rcases st with rfl | ⟨hv', rfl⟩
          · exact ⟨[p1.1], [p2.2], by simp, by simp, rfl, by simp, .cons h1.1 .nil, .cons h2.2 .nil⟩
          · exact ⟨[p1.1, p2.1], [p1.2, p2.2], by simp, by simp, rfl, by simp, .cons h1.1 (.cons h2.1 .nil), .cons h1.2 (.cons h2.2 .nil)⟩
   obtain ⟨ks, vs, m1, m2, l1, l2, rk, rv⟩ := key
   have he : ∃ q, h'.get? s.heap.objs.size = some q := let ⟨q, _, hq, _⟩ := d'; ⟨q, hq⟩
   exact ⟨.ref s.heap.objs.size, _, d_write I2 (by rw [e]; exact True.intro) sb he (dctV_ok d' hsm rk rv), rfl, q2 ks vs m1 m2 l1 l2⟩
noncomputable def tDNewG : TE := fun _ H Q => ∀ p, H p = none → Q (.ref p) (upd H p (DctV p [] []))
theorem pe_dnewG {X : Cx} {pos : Pos} : PE X (.Dict [] [] pos) tDNewG := fun pins s σ H Q I h =>
 wpAny_Dict_empty ⟨.ref s.heap.objs.size, _, I.laid (a := s.heap.objs.size) (o := DctV s.heap.objs.size [] []) (t' := s.toks) (fun _ _ q => Heap.get?_push_of_some _ q) (Nat.le_refl _) (dctV_ok (es := []) ⟨_, 0, Heap.get?_push_size _ rfl, ⟨rfl, rfl, rfl⟩, rfl⟩ (Ne.symm (Nat.ne_of_lt I.big)) .nil .nil), rfl, h _ (I.hok.fresh (Nat.le_refl _))⟩
mutual
inductive Rdg (h : Addr) (m : Bool) (K : PySem.W.Frag) (H : Hp) : V → PyData → Prop where
 | fl {v : V} {d : PyData} (f : Fl v d) : Rdg h m K H v d
 | tup {a : Addr} {xs : List V} {ds : List PyData} (e : SqT K H a xs) (f : Rdgs h m K H xs ds) : Rdg h m K H (.ref a) (.tuple ds)
 | lst {a : Addr} {xs : List V} {ds : List PyData} (hm : m = false) (ne : a ≠ h) (e : H a = some (.lst xs)) (f : Rdgs h m K H xs ds) : Rdg h m K H (.ref a) (.list ds)
 | dct {a : Addr} {ks vs : List V} {kvs : List (PyData × PyData)} (hm : m = true) (e : H a = some (DctV a ks vs)) (fk : Rdgs h m K H ks (kvs.map (·.1))) (fv : Rdgs h m K H vs (kvs.map (·.2))) : Rdg h m K H (.ref a) (.dict kvs)
inductive Rdgs (h : Addr) (m : Bool) (K : PySem.W.Frag) (H : Hp) : List V → List PyData → Prop where
 | nil : Rdgs h m K H [] []
 | cons {v : V} {d : PyData} {vs : List V} {ds : List PyData} (f : Rdg h m K H v d) (t : Rdgs h m K H vs ds) : Rdgs h m K H (v :: vs) (d :: ds)
end
mutual
theorem Rdg.kp {h : Addr} {m : Bool} {K : PySem.W.Frag} {H H' : Hp} (kt : ∀ a xs, SqT K H a xs → SqT K H' a xs) (kl : ∀ a xs, a ≠ h → H a = some (.lst xs) → H' a = some (.lst xs)) (kd : ∀ a ks vs, H a = some (DctV a ks vs) → H' a = some (DctV a ks vs)) : ∀ {v : V} {d : PyData}, Rdg h m K H v d → Rdg h m K H' v d
 | _, _, .fl f => .fl f
 | _, _, .tup e f => .tup (kt _ _ e) (Rdgs.kp kt kl kd f)
 | _, _, .lst hm ne e f => .lst hm ne (kl _ _ ne e) (Rdgs.kp kt kl kd f)
 | _, _, .dct hm e fk fv => .dct hm (kd _ _ _ e) (Rdgs.kp kt kl kd fk) (Rdgs.kp kt kl kd fv)
theorem Rdgs.kp {h : Addr} {m : Bool} {K : PySem.W.Frag} {H H' : Hp} (kt : ∀ a xs, SqT K H a xs → SqT K H' a xs) (kl : ∀ a xs, a ≠ h → H a = some (.lst xs) → H' a = some (.lst xs)) (kd : ∀ a ks vs, H a = some (DctV a ks vs) → H' a = some (DctV a ks vs)) : ∀ {vs : List V} {ds : List PyData}, Rdgs h m K H vs ds → Rdgs h m K H' vs ds
 | _, _, .nil => .nil
 | _, _, .cons f t => .cons (Rdg.kp kt kl kd f) (Rdgs.kp kt kl kd t)
end
section
variable {X : Cx} {pins : List (Addr × Obj)} {σ : St} {H : Hp} {s : Shared} {h : Addr} {m : Bool}
mutual
theorem Rdg.rd (I : Inv X pins σ H s) : ∀ {v : V} {u : Value} {d : PyData}, Rdg h m X.K H v d → RelV v u → ∃ as, Reads s.heap u d as ∧ (m = true → sysModules ∉ as)
 | _, _, _, .fl f, r => ⟨[], f.rd r, fun _ => by simp⟩
 | _, u, _, @Rdg.tup _ _ _ _ a xs ds e f, r => by
   cases (show u = Value.ref a from r)
   obtain ⟨its, rr, ⟨o, ho, hc, n, hd⟩, _⟩ := I.tuple e
   obtain ⟨as, ra, na⟩ := Rdgs.rd I f rr
   exact ⟨as, .tuple ho hc hd (by simpa using ra), na⟩
 | _, u, _, @Rdg.lst _ _ _ _ a xs ds hm ne e f, r => by
   cases (show u = Value.ref a from r)
   obtain ⟨_, its, n, rr, ho⟩ := (show ObjOk X.prog X.w H s.heap a (.lst xs) from I.hok a _ e)
   obtain ⟨as, ra, na⟩ := Rdgs.rd I f rr
   exact ⟨a :: as, .list ho rfl rfl (by simpa using ra), fun z => by rw [hm] at z; cases z⟩
 | _, u, _, @Rdg.dct _ _ _ _ a ks vs kvs hm e fk fv, r => by
   cases (show u = Value.ref a from r)
   obtain ⟨⟨o, es, n, ho, hc, hd, hs, rk, rv⟩, _⟩ := (show ObjOk X.prog X.w H s.heap a (DctV a ks vs) from I.hok a _ e)
   obtain ⟨as, ra, na⟩ := Rdgs.rd I fk rk
   obtain ⟨bs, rb, nb⟩ := Rdgs.rd I fv rv
   refine ⟨a :: as ++ bs, .dict ho hc hd ra rb, fun z => ?_⟩
   simp only [List.cons_append, List.mem_cons, List.mem_append, not_or]
   exact ⟨hs.symm, na z, nb z⟩
theorem Rdgs.rd (I : Inv X pins σ H s) : ∀ {vs : List V} {us : List Value} {ds : List PyData}, Rdgs h m X.K H vs ds → Vals vs us → ∃ as, ReadsAll s.heap us ds as ∧ (m = true → sysModules ∉ as)
 | _, _, _, .nil, r => by cases r; exact ⟨[], .nil, fun _ => by simp⟩
 | _, _, _, .cons f t, r => by
   cases r with
   | cons r1 rt =>
     obtain ⟨as, ra, na⟩ := Rdg.rd I f r1
     obtain ⟨bs, rb, nb⟩ := Rdgs.rd I t rt
     exact ⟨as ++ bs, .cons ra rb, fun z => by simp only [List.mem_append, not_or]; exact ⟨na z, nb z⟩⟩
end
end
noncomputable def Rz (h : Addr) (m : Bool) (K : PySem.W.Frag) (H : Hp) (n k : Nat) (v : V) : Prop := ∃ d, Rdg h m K H v d ∧ d.showable = true ∧ d.depth ≤ k ∧ d.shown.length ≤ n ∧ (m = false → d.hasDict = false)
theorem Rz.kp {h : Addr} {m : Bool} {K : PySem.W.Frag} {H H' : Hp} {n k : Nat} {v : V} (kt : ∀ a xs, SqT K H a xs → SqT K H' a xs) (kl : ∀ a xs, a ≠ h → H a = some (.lst xs) → H' a = some (.lst xs)) (kd : ∀ a ks vs, H a = some (DctV a ks vs) → H' a = some (DctV a ks vs)) (r : Rz h m K H n k v) : Rz h m K H' n k v := by
 obtain ⟨d, r, q⟩ := r
 exact ⟨d, r.kp kt kl kd, q⟩
theorem Rz.mono {h : Addr} {m : Bool} {K : PySem.W.Frag} {H : Hp} {n n' k k' : Nat} {v : V} (r : Rz h m K H n k v) (l1 : n ≤ n') (l2 : k ≤ k') : Rz h m K H n' k' v := by
 obtain ⟨d, r, a, b, c, q⟩ := r
 exact ⟨d, r, a, by omega, by omega, q⟩
theorem Rz.fl {h : Addr} {m : Bool} {K : PySem.W.Frag} {H : Hp} {n : Nat} {v : V} {d : PyData} (f : Fl v d) (l : d.shown.length ≤ n) : Rz h m K H n 0 v := by
 obtain ⟨a, b, c, _⟩ := f.d
 exact ⟨d, .fl f, a, by omega, l, fun _ => b⟩
theorem rzs {h : Addr} {m : Bool} {K : PySem.W.Frag} {H : Hp} {n k : Nat} : ∀ {xs : List V}, (∀ x ∈ xs, Rz h m K H n k x) → ∃ ds, Rdgs h m K H xs ds ∧ PyData.showableAll ds = true ∧ PyData.depthAll ds ≤ k ∧ ((PyData.shownAll ds).map (·.length)).sum ≤ n * xs.length ∧ (PyData.shownAll ds).length = xs.length ∧ ds.length = xs.length ∧ (m = false → PyData.hasDictAll ds = false)
 | [], _ => ⟨[], .nil, by simp only [PyData.showableAll], by simp only [PyData.depthAll]; exact Nat.zero_le _, by simp only [PyData.shownAll]; exact Nat.zero_le _, by simp only [PyData.shownAll]; rfl, rfl, fun _ => by simp only [PyData.hasDictAll]⟩
 | x :: xs, f => by
   obtain ⟨d, r, a1, a2, a3, a4⟩ := f x List.mem_cons_self
   obtain ⟨ds, t, b1, b2, b3, b4, b6, b5⟩ := rzs (xs := xs) fun y hy => f y (List.mem_cons_of_mem _ hy)
   refine ⟨d :: ds, .cons r t, by simp only [PyData.showableAll]; rw [a1, b1]; rfl, by simp only [PyData.depthAll]; exact Nat.max_le.mpr ⟨a2, b2⟩, ?_, by simp only [PyData.shownAll, List.length_cons]; omega, by simp only [List.length_cons]; omega, fun z => by simp only [PyData.hasDictAll]; rw [a4 z, b5 z]; rfl⟩
   simp only [PyData.shownAll, List.map_cons, List.sum_cons, List.length_cons, Nat.mul_succ]
   omega
theorem Rz.tup {h : Addr} {m : Bool} {K : PySem.W.Frag} {H : Hp} {n k L : Nat} {a : Addr} {xs : List V} (e : SqT K H a xs) (f : ∀ x ∈ xs, Rz h m K H n k x) (l : xs.length ≤ L) : Rz h m K H (n * L + 2 * L + 3) (k + 1) (.ref a) := by
 obtain ⟨ds, t, b1, b2, b3, b4, b6, b5⟩ := rzs f
 refine ⟨_, .tup e t, by simp only [PyData.showable]; exact b1, by simp only [PyData.depth]; omega, ?_, fun z => by simp only [PyData.hasDict]; exact b5 z⟩
 simp only [PyData.shown]
 refine Nat.le_trans (tupleText_len_le _) ?_
 have := Nat.mul_le_mul_left n l
 omega
theorem Rz.lst {h : Addr} {K : PySem.W.Frag} {H : Hp} {n k L : Nat} {a : Addr} {xs : List V} (ne : a ≠ h) (e : H a = some (.lst xs)) (f : ∀ x ∈ xs, Rz h false K H n k x) (l : xs.length ≤ L) : Rz h false K H (n * L + 2 * L + 3) (k + 1) (.ref a) := by
 obtain ⟨ds, t, b1, b2, b3, b4, b6, b5⟩ := rzs f
 refine ⟨_, .lst rfl ne e t, by simp only [PyData.showable]; exact b1, by simp only [PyData.depth]; omega, ?_, fun z => by simp only [PyData.hasDict]; exact b5 z⟩
 simp only [PyData.shown]
 refine Nat.le_trans (listText_len_le _) ?_
 have := Nat.mul_le_mul_left n l
 omega
theorem zipg_fst : ∀ {as bs : List PyData}, as.length = bs.length → (as.zip bs).map (·.1) = as
 | [], [], _ => rfl
 | a :: as, b :: bs, h => by simp only [List.zip_cons_cons, List.map_cons]; rw [zipg_fst (by simpa using h)]
theorem zipg_snd : ∀ {as bs : List PyData}, as.length = bs.length → (as.zip bs).map (·.2) = bs
 | [], [], _ => rfl
 | a :: as, b :: bs, h => by simp only [List.zip_cons_cons, List.map_cons]; rw [zipg_snd (by simpa using h)]
theorem kvz {n k : Nat} : ∀ {as bs : List PyData}, as.length = bs.length → PyData.showableAll as = true → PyData.showableAll bs = true → PyData.depthAll as ≤ k → PyData.depthAll bs ≤ k →
 PyData.showableKv (as.zip bs) = true ∧ PyData.depthKv (as.zip bs) ≤ k ∧ ((PyData.shownKv (as.zip bs)).map (·.length)).sum ≤ ((PyData.shownAll as).map (·.length)).sum + ((PyData.shownAll bs).map (·.length)).sum + 2 * as.length ∧ (PyData.shownKv (as.zip bs)).length = as.length
 | [], [], _, _, _, _, _ => ⟨by simp only [List.zip_nil_left, PyData.showableKv], by simp only [List.zip_nil_left, PyData.depthKv]; exact Nat.zero_le _, by simp only [List.zip_nil_left, PyData.shownKv]; exact Nat.zero_le _, by simp only [List.zip_nil_left, PyData.shownKv]; rfl⟩
 | a :: as, b :: bs, h, s1, s2, d1, d2 => by
   simp only [PyData.showableAll, Bool.and_eq_true] at s1 s2
   simp only [PyData.depthAll] at d1 d2
   obtain ⟨c1, c2, c3, c4⟩ := kvz (n := n) (k := k) (as := as) (bs := bs) (by simpa using h) s1.2 s2.2 (Nat.le_trans (Nat.le_max_right _ _) d1) (Nat.le_trans (Nat.le_max_right _ _) d2)
   have e2 : (a.shown ++ ": " ++ b.shown).length = a.shown.length + 2 + b.shown.length := by
    rw [strLen_append, strLen_append]; rfl
   simp only [List.zip_cons_cons, PyData.showableKv, PyData.depthKv, PyData.shownKv, PyData.shownAll, List.map_cons, List.sum_cons, List.length_cons]
   rw [s1.1, s2.1, c1, e2]
   exact ⟨rfl, Nat.max_le.mpr ⟨Nat.max_le.mpr ⟨Nat.le_trans (Nat.le_max_left _ _) d1, Nat.le_trans (Nat.le_max_left _ _) d2⟩, c2⟩, by omega, by omega⟩
theorem Rz.dct {h : Addr} {K : PySem.W.Frag} {H : Hp} {n k : Nat} {a : Addr} {ks vs : List V} (e : H a = some (DctV a ks vs)) (fk : ∀ x ∈ ks, Rz h true K H n k x) (fv : ∀ x ∈ vs, Rz h true K H n k x) (lv : ks.length = vs.length) (l : ks.length ≤ 2) : Rz h true K H (4 * n + 20) (k + 1) (.ref a) := by
 obtain ⟨ds, t, b1, b2, b3, b4, b6, b5⟩ := rzs fk
 obtain ⟨cs, u, c1, c2, c3, c4, c6, c5⟩ := rzs fv
 have hl : ds.length = cs.length := by omega
 obtain ⟨k1, k2, k3, k4⟩ := kvz (n := n) (k := k) hl b1 c1 b2 c2
 refine ⟨.dict (ds.zip cs), .dct rfl e (by rw [zipg_fst hl]; exact t) (by rw [zipg_snd hl]; exact u), by simp only [PyData.showable]; exact k1, by simp only [PyData.depth]; omega, ?_, fun z => by cases z⟩
 simp only [PyData.shown]
 refine Nat.le_trans (dictText_len_le _) ?_
 have h1 := Nat.mul_le_mul_left n l
 have h2 := Nat.mul_le_mul_left n (show vs.length ≤ 2 by omega)
 omega
section
variable {X : Cx}
noncomputable def rReprG (K : PySem.W.Frag) : List V → Hp → VK → Prop := fun xs H Q => ∃ (v : V) (d : PyData) (h : Addr) (m : Bool), xs = [v] ∧ Rdg h m K H v d ∧ d.showable = true ∧ d.depth ≤ 12 ∧ d.shown.length ≤ sizeLine ∧ (m = false → d.hasDict = false) ∧ Q (.str d.shown) H
theorem call_reprG {k : Nat} (hr : Room k X.A) : CallR X (.builtin "repr") (rReprG X.K) := by
 intro pins s σ H xs us Q I r h
 obtain ⟨v, d, hh, m, rfl, hv, sh, dp, sz, nd, q⟩ := h
 obtain ⟨u, rfl, ru⟩ := vals1 r
 have hu := hr.units
 have big : ∀ a, u = .ref a → wpAny (model X.prog X.w) X.A (call (.builtin "repr") [u]) (fun v s' => ∃ v' H', Inv X pins σ H' s' ∧ RelV v' v ∧ Q v' H') X.xe s := by
  rintro a rfl
  obtain ⟨as, ra, na⟩ := hv.rd I ru
  refine repr_of_reads' ra sh ?_ hr.gd (by omega) (fun _ _ e => e) (fun h' u tk hk => ⟨.str _, H, I.kept (t' := tk) hk, ⟨_, rfl⟩, q⟩) sz
  intro z
  cases m with
  | true => exact na rfl
  | false => rw [nd rfl] at z; cases z
 cases hv with
 | fl f =>
   cases f with
   | non => cases (show u = Value.none from ru); exact PySem.P.repr_of_none ⟨.str _, H, I.tok _, ⟨_, rfl⟩, q⟩
   | bl b => cases (show u = Value.bool b from ru); exact PySem.P.repr_of_bool ⟨.str _, H, I.tok _, ⟨_, rfl⟩, q⟩
   | int i hi => obtain ⟨t, rfl⟩ := ru; exact PySem.P.repr_of_int hi ⟨.str _, H, I.tok _, ⟨_, rfl⟩, q⟩
   | str x hx => obtain ⟨t, rfl⟩ := ru; exact PySem.P.repr_of_str ⟨.str _, H, I.tok _, ⟨_, rfl⟩, q⟩ (Nat.le_trans hx (by rw [sizeLine_eq]; decide))
 | tup e f => exact big _ ru
 | lst hm ne e f => exact big _ ru
 | dct hm e fk fv => exact big _ ru
noncomputable def TyG (K : PySem.W.Frag) (H : Hp) (v : V) (t : Value) : Prop := TyOf K H v t ∨ (∃ a ks vs, v = .ref a ∧ H a = some (DctV a ks vs) ∧ t = .type "dict") ∨ (∃ a xs, v = .ref a ∧ SqT K H a xs ∧ t = .type "tuple")
theorem call_isiG : CallR X (.builtin "isinstance") (fun xs H Q => ∃ (v : V) (t : Value) (T : String) (b : Bool), xs = [v, .ty T] ∧ TyG X.K H v t ∧ PySem.W.kitOne X.K t (.type T) = some b ∧ Q (.bl b) H) := by
 intro pins s σ H xs us Q I r h
 obtain ⟨v, t, T, b, rfl, ty, e, q⟩ := h
 obtain ⟨u, w', rfl, ru, rw'⟩ := vals2 r
 cases rw'
 rcases ty with ty | ⟨a, ks, vs, rfl, ea, rfl⟩ | ⟨a, xs, rfl, ea, rfl⟩
 · exact isinst_ok I ru ty e fun tk => ⟨.bl b, H, I.tok tk, rfl, q⟩
 · cases (show u = Value.ref a from ru)
   obtain ⟨⟨o, es, n, ho, hc, _⟩, _⟩ := (show ObjOk X.prog X.w H s.heap a (DctV a ks vs) from I.hok a _ ea)
   exact PySem.W.kia_one PySem.W.kitx_dict I.kIn ⟨o, ho, hc⟩ e (fun z => nomatch z) fun tk => ⟨.bl b, H, I.tok tk, rfl, q⟩
 · cases (show u = Value.ref a from ru)
   obtain ⟨_, _, ⟨o, h1, h2, _⟩, _⟩ := I.tuple ea
   exact PySem.W.kia_one PySem.W.kitx_tuple I.kIn ⟨o, h1, h2⟩ e (fun z => nomatch z) fun tk => ⟨.bl b, H, I.tok tk, rfl, q⟩
theorem call_isiGK {K : PySem.W.Frag} (e : X.K = K) : CallR X (.builtin "isinstance") (fun xs H Q => ∃ (v : V) (t : Value) (T : String) (b : Bool), xs = [v, .ty T] ∧ TyG K H v t ∧ PySem.W.kitOne K t (.type T) = some b ∧ Q (.bl b) H) := e ▸ call_isiG
end
end L2

namespace L2
open PySem PySem.Spec PyProof PyProof.Rows PySem.W
structure Kv (h : Addr) (K : PySem.W.Frag) (H H' : Hp) : Prop where
 sq : ∀ a xs, SqT K H a xs → SqT K H' a xs
 tp : ∀ a xs, H a = some (.tup xs) → H' a = some (.tup xs)
 ls : ∀ a xs, a ≠ h → H a = some (.lst xs) → H' a = some (.lst xs)
 dc : ∀ a ks vs, H a = some (DctV a ks vs) → H' a = some (DctV a ks vs)
 ty : KTy H H'
section
variable {K : PySem.W.Frag} {H H' H2 : Hp} {h : Addr} {m : Bool} {k : Nat} {v : V}
theorem Same.kv (s : Same H H') : Kv h K H H' := ⟨fun _ _ e => s.seqT e, fun _ _ e => s _ _ e, fun _ _ _ e => s _ _ e, fun _ _ _ e => s _ _ e, s.kt⟩
theorem HandAt.kv (hh : HandAt H h) (hh' : HandAt H' h) (k : Kp h H H') : Kv h K H H' := by
 refine ⟨fun _ _ e => (hh.kl k).seqT e, fun _ _ e => tup_kp hh k e, fun _ _ ne e => k _ _ e ne, fun a ks vs e => k _ _ e ?_, hh.kt hh' k⟩
 rintro rfl
 obtain ⟨_, _, e', _⟩ := hh
 rw [e'] at e; cases e
theorem KTy.trans' (a : KTy H H') (b : KTy H' H2) : KTy H H2 := fun x o e => by
 rcases a x o e with e | ⟨xs, ys, rfl, e2⟩
 · exact b x o e
 · rcases b x _ e2 with e | ⟨xs', ys', e1, e⟩
   · exact .inr ⟨_, _, rfl, e⟩
   · exact .inr ⟨_, _, rfl, e⟩
theorem Kv.trans (a : Kv h K H H') (b : Kv h K H' H2) : Kv h K H H2 := ⟨fun _ _ e => b.sq _ _ (a.sq _ _ e), fun _ _ e => b.tp _ _ (a.tp _ _ e), fun _ _ ne e => b.ls _ _ ne (a.ls _ _ ne e), fun _ _ _ e => b.dc _ _ _ (a.dc _ _ _ e), a.ty.trans' b.ty⟩
theorem TyG.kv {t : Value} (ty : TyG K H v t) (k : Kv h K H H') : TyG K H' v t := by
 rcases ty with ty | ⟨a, ks, vs, rfl, e, rfl⟩ | ⟨a, xs, rfl, e, rfl⟩
 · exact .inl (ty.kt k.ty)
 · exact .inr (.inl ⟨a, ks, vs, rfl, k.dc _ _ _ e, rfl⟩)
 · exact .inr (.inr ⟨a, xs, rfl, k.sq _ _ e, rfl⟩)
theorem TyG.tup {a : Addr} {xs : List V} (e : SqT K H a xs) : TyG K H (.ref a) (.type "tuple") := .inr (.inr ⟨a, xs, rfl, e, rfl⟩)
theorem Tg.kv {o : Option Int} (t : Tg K H v o) (k : Kv h K H H') : Tg K H' v o := by
 cases t with
 | int i => exact .int i
 | bl b => exact .bl b
 | oth ty e => exact .oth (ty.kt k.ty) e
theorem Rz.kv {n j : Nat} (r : Rz h m K H n j v) (k : Kv h K H H') : Rz h m K H' n j v := r.kp k.sq k.ls k.dc
end
inductive Tp2 (K : PySem.W.Frag) (H : Hp) : V → Option (Int × Int) → Prop where
 | no {v : V} {t : Value} (ty : TyG K H v t) (e : PySem.W.kitOne K t (.type "tuple") = some false) : Tp2 K H v none
 | len {a : Addr} {xs : List V} (e : SqT K H a xs) (l : xs.length ≠ 2) : Tp2 K H (.ref a) none
 | two {a : Addr} {x y : V} {ox oy : Option Int} (e : SqT K H a [x, y]) (hx : Tg K H x ox) (hy : Tg K H y oy) : Tp2 K H (.ref a) (o2 ox oy)
theorem Tp2.kv {K : PySem.W.Frag} {H H' : Hp} {h : Addr} {v : V} {o : Option (Int × Int)} (t : Tp2 K H v o) (k : Kv h K H H') : Tp2 K H' v o := by
 cases t with
 | no ty e => exact .no (ty.kv k) e
 | len e l => exact .len (k.sq _ _ e) l
 | two e hx hy => exact .two (k.sq _ _ e) (hx.kv k) (hy.kv k)
noncomputable def lkIn (n : Int) : Option (Int × Int) → Bool
 | none => false
 | some A => decide (0 ≤ A.1 ∧ A.1 < n ∧ 0 ≤ A.2 ∧ A.2 < n)
noncomputable def lkOk (n : Int) (os : List (Option (Int × Int))) : Bool := decide (os.length ≤ 60) && (os.all (lkIn n) && decide ((os.filterMap id).Pairwise lexR))
noncomputable def isWb : Option (Int × List (Option (Int × Int))) → Bool
 | none => false
 | some W => decide (1 ≤ W.1 ∧ W.1 ≤ 12) && lkOk W.1 W.2
noncomputable def okL (n : Int) : Int × Int → List (Option (Int × Int)) → Bool
 | _, [] => true
 | _, none :: _ => false
 | p, some q :: os => lkIn n (some q) && (!HT.lexLt [q.1, q.2] [p.1, p.2] && okL n q os)
theorem lexLt_R (p q : Int × Int) : (HT.lexLt [q.1, q.2] [p.1, p.2] = false) ↔ lexR p q := by
 unfold lexR
 rw [HT.lexLt_cons, HT.lexLt_cons, HT.lexLt_nil_nil]
 by_cases h1 : q.1 = p.1
 · rw [if_pos h1]
   by_cases h2 : q.2 = p.2
   · rw [if_pos h2]; simp; omega
   · rw [if_neg h2, decide_eq_false_iff_not]; omega
 · rw [if_neg h1, decide_eq_false_iff_not]; omega
theorem lexR_tr {p q r : Int × Int} (a : lexR p q) (b : lexR q r) : lexR p r := by unfold lexR at *; omega
theorem okL_iff (n : Int) : ∀ (p : Int × Int) (os : List (Option (Int × Int))), okL n p os = true ↔ (os.all (lkIn n) = true ∧ (p :: os.filterMap id).Pairwise lexR)
 | p, [] => by simp [okL]
 | p, none :: os => by simp [okL, lkIn]
 | p, some q :: os => by
   have ih := okL_iff n q os
   simp only [okL, Bool.and_eq_true, Bool.not_eq_true', List.all_cons, List.filterMap_cons, id]
   rw [ih, lexLt_R]
   constructor
   · rintro ⟨a, b, c, d⟩
     refine ⟨⟨a, c⟩, List.pairwise_cons.mpr ⟨fun x hx => ?_, d⟩⟩
     rcases List.mem_cons.mp hx with rfl | hx
     · exact b
     · exact lexR_tr b ((List.pairwise_cons.mp d).1 x hx)
   · rintro ⟨⟨a, c⟩, d⟩
     obtain ⟨d1, d2⟩ := List.pairwise_cons.mp d
     exact ⟨a, d1 q List.mem_cons_self, c, d2⟩
theorem okL_eq (n : Int) (os : List (Option (Int × Int))) : okL n (-1, -1) os = (os.all (lkIn n) && decide ((os.filterMap id).Pairwise lexR)) := by
 rw [Bool.eq_iff_iff, okL_iff, Bool.and_eq_true, decide_eq_true_iff]
 constructor
 · rintro ⟨a, b⟩
   exact ⟨a, (List.pairwise_cons.mp b).2⟩
 · rintro ⟨a, b⟩
   refine ⟨a, List.pairwise_cons.mpr ⟨fun x hx => ?_, b⟩⟩
   obtain ⟨o, ho, e⟩ := List.mem_filterMap.mp hx
   have e : o = some x := e
   subst e
   have := of_decide_eq_true (List.all_eq_true.mp a _ ho)
   unfold lexR
   dsimp only at this ⊢
   omega
inductive Ws (K : PySem.W.Frag) (H : Hp) : V → Option (Int × List (Option (Int × Int))) → Prop where
 | no {v : V} {t : Value} (ty : TyG K H v t) (e : PySem.W.kitOne K t (.type "tuple") = some false) : Ws K H v none
 | len {a : Addr} {xs : List V} (e : H a = some (.tup xs)) (l : xs.length ≠ 2) : Ws K H (.ref a) none
 | page {a : Addr} {p l : V} (e : H a = some (.tup [p, l])) (hp : Tg K H p none) : Ws K H (.ref a) none
 | nol {a : Addr} {p l : V} {i : Int} {t : Value} (e : H a = some (.tup [p, l])) (hp : Tg K H p (some i)) (ty : TyG K H l t) (et : PySem.W.kitOne K t (.type "tuple") = some false) : Ws K H (.ref a) none
 | two {a b : Addr} {p : V} {i : Int} {ys : List V} {os : List (Option (Int × Int))} (e : H a = some (.tup [p, .ref b])) (hp : Tg K H p (some i)) (eb : H b = some (.tup ys)) (f : Paired (Tp2 K H) ys os) : Ws K H (.ref a) (some (i, os))
theorem paired_len {α β : Type} {R : α → β → Prop} {xs : List α} {ys : List β} (p : Paired R xs ys) : xs.length = ys.length := by
 induction p with
 | nil => rfl
 | cons _ _ ih => rw [List.length_cons, List.length_cons, ih]
theorem paired_get {α β : Type} {R : α → β → Prop} {xs : List α} {ys : List β} (p : Paired R xs ys) : ∀ {i : Nat} {x : α}, xs[i]? = some x → ∃ y, ys[i]? = some y ∧ R x y := by
 induction p with
 | nil => intro i x h; simp at h
 | cons h t ih =>
   intro i x e
   match i, e with
   | 0, e => have := Option.some.inj e; subst this; exact ⟨_, rfl, h⟩
   | j + 1, e => exact ih (i := j) (by simpa using e)
theorem paired_map {α β : Type} {R S : α → β → Prop} {xs : List α} {ys : List β} (p : Paired R xs ys) (f : ∀ x y, R x y → S x y) : Paired S xs ys := by
 induction p with
 | nil => exact .nil
 | cons h t ih => exact .cons (f _ _ h) ih
theorem paired_ex {α β : Type} {R : α → β → Prop} : ∀ {xs : List α}, (∀ x ∈ xs, ∃ y, R x y) → ∃ ys, Paired R xs ys
 | [], _ => ⟨[], .nil⟩
 | x :: xs, f => by
   obtain ⟨y, hy⟩ := f x List.mem_cons_self
   obtain ⟨ys, t⟩ := paired_ex (xs := xs) fun z hz => f z (List.mem_cons_of_mem _ hz)
   exact ⟨y :: ys, .cons hy t⟩
theorem Ws.same {K : PySem.W.Frag} {H H' : Hp} {v : V} {c : Option (Int × List (Option (Int × Int)))} (w : Ws K H v c) (s : Same H H') : Ws K H' v c := by
 have k : Kv 0 K H H' := s.kv
 cases w with
 | no ty e => exact .no (ty.kv k) e
 | len e l => exact .len (s _ _ e) l
 | page e hp => exact .page (s _ _ e) (hp.kv k)
 | nol e hp ty et => exact .nol (s _ _ e) (hp.kv k) (ty.kv k) et
 | two e hp eb f => exact .two (s _ _ e) (hp.kv k) (s _ _ eb) (paired_map f fun _ _ t => t.kv k)
theorem tp2_prs {K : PySem.W.Frag} {H : Hp} {n : Int} {ys : List V} {os : List (Option (Int × Int))} (p : Paired (Tp2 K H) ys os) (a : os.all (lkIn n) = true) : Prs K H (os.filterMap id) ys := by
 induction p with
 | nil => exact prs_nil
 | cons h t ih =>
   rw [List.all_cons, Bool.and_eq_true] at a
   have r := ih a.2
   cases h with
   | no ty e => simp [lkIn] at a
   | len e l => simp [lkIn] at a
   | @two q x y ox oy e hx hy =>
     cases ox with
     | none => simp [lkIn, o2] at a
     | some i =>
     cases oy with
     | none => simp [lkIn, o2] at a
     | some j =>
       obtain rfl := hx.some
       obtain rfl := hy.some
       exact prs_cons e r
noncomputable def spPairG (K : PySem.W.Frag) : Sp := fun vs H Q _ => ∃ (v : V) (o : Option (Int × Int)), vs = [v] ∧ Tp2 K H v o ∧ Q (.bl o.isSome) H
noncomputable def spIsLinkG (K : PySem.W.Frag) : Sp := fun vs H Q _ => ∃ (n : Int) (v : V) (o : Option (Int × Int)), vs = [.int n, v] ∧ Tp2 K H v o ∧ Q (.bl (lkIn n o)) H
noncomputable def spAreLkG (K : PySem.W.Frag) : Sp := fun vs H Q _ => ∃ (n : Int) (v : V), ((∃ t, TyG K H v t ∧ PySem.W.kitOne K t (.type "tuple") = some false ∧ vs = [.int n, v] ∧ Q (.bl false) H) ∨ (∃ b ys os, v = .ref b ∧ H b = some (.tup ys) ∧ Paired (Tp2 K H) ys os ∧ vs = [.int n, v] ∧ ∀ H', Same H H' → Q (.bl (lkOk n os)) H'))
noncomputable def spIsWebG (K : PySem.W.Frag) : Sp := fun vs H Q _ => ∃ (v : V) (c : Option (Int × List (Option (Int × Int)))), vs = [v] ∧ Ws K H v c ∧ ∀ H', Same H H' → Q (.bl (isWb c)) H'
noncomputable def inO (l m : Int) : Option Int → Bool
 | none => false
 | some i => decide (l ≤ i ∧ i ≤ m)
noncomputable def spLWholeG (K : PySem.W.Frag) : Sp := fun vs H Q _ => ∃ (v : V) (o : Option Int) (l m : Int), vs = [v, .int l, .int m] ∧ Tg K H v o ∧ Q (.bl (inO l m o)) H
inductive Lf (H : Hp) : Nat → V → Prop where
 | fl {k : Nat} {v : V} {d : PyData} (f : Fl v d) (l : d.shown.length ≤ 2000) : Lf H k v
 | one {k : Nat} {a : Addr} {x : V} (e : H a = some (.tup [x])) (f : Lf H k x) : Lf H (k + 1) (.ref a)
noncomputable def Ns (v : V) : Prop := (∃ a, Nm v a ∧ Sz 110 a) ∨ (∃ x, v = .str x ∧ (reprText x).length ≤ 2000)
theorem int_short {i : Int} (s : Sz 110 i) : i.natAbs.log2 < 1920 ∧ (PyData.int i).shown.length ≤ 2000 := by
 have h : i.natAbs.log2 < 1920 := Nat.lt_of_lt_of_le ((s.mono (show 110 ≤ 1000 by decide)).log2 (by decide)) (by decide)
 exact ⟨h, Nat.le_trans (int_text_len_1921 h) (by decide)⟩
theorem Nm.lv {H : Hp} {k : Nat} {v : V} {a : Int} (h : Nm v a) (s : Sz 110 a) : Lf H k v := by
 cases h with
 | int i => exact .fl (.int _ (int_short s).1) (int_short s).2
 | bl b => exact .fl (.bl b) (by cases b <;> decide)
theorem Ns.lv {H : Hp} {k : Nat} {v : V} (h : Ns v) : Lf H k v := by
 rcases h with ⟨a, h, s⟩ | ⟨x, rfl, l⟩
 · exact h.lv s
 · exact .fl (.str x (Nat.le_trans l (by decide))) l
theorem Lf.mono {H : Hp} : ∀ {k j : Nat} {v : V}, Lf H k v → k ≤ j → Lf H j v
 | _, _, _, .fl f l, _ => .fl f l
 | k + 1, 0, _, .one e f, h => by omega
 | k + 1, j + 1, _, .one e f, h => .one e (Lf.mono f (by omega))
theorem Lf.kv {K : PySem.W.Frag} {H H' : Hp} {h : Addr} (k : Kv h K H H') : ∀ {j : Nat} {v : V}, Lf H j v → Lf H' j v
 | _, _, .fl f l => .fl f l
 | _, _, .one e f => .one (k.tp _ _ e) (Lf.kv k f)
theorem Lf.hs {K : PySem.W.Frag} {H : Hp} : ∀ {j : Nat} {v : V}, Lf H j v → Hs K H j v
 | _, _, .fl f l => by cases f with
   | non => exact .non
   | bl b => exact .bl b
   | int i h => exact .int i
   | str x h => exact .str x
 | _, _, .one e f => .tup (SqT.of e) fun x hx => by rw [List.mem_singleton.mp hx]; exact f.hs
theorem Lf.rz {K : PySem.W.Frag} {H : Hp} {h : Addr} {m : Bool} : ∀ {j : Nat} {v : V}, Lf H j v → Rz h m K H (2000 + 5 * j) j v
 | _, _, .fl f l => (Rz.fl f l).mono (by omega) (Nat.zero_le _)
 | _, _, .one e f => (Rz.tup (L := 1) (SqT.of e) (fun x hx => by rw [List.mem_singleton.mp hx]; exact f.rz) (by simp)).mono (by omega) (by omega)
theorem Lf.tg {K : PySem.W.Frag} {H : Hp} {j : Nat} {v : V} (h : Lf H j v) : ∃ o, Tg K H v o := by
 cases h with
 | fl f l => cases f with
   | non => exact ⟨_, .oth .non (ki_ni _)⟩
   | bl b => exact ⟨_, .bl b⟩
   | int i h => exact ⟨_, .int i⟩
   | str x h => exact ⟨_, .oth (.str x) (ki_si _)⟩
 | one e f => exact ⟨_, .oth (.tup e) (ki_ti _)⟩
noncomputable def LkT (K : PySem.W.Frag) (H : Hp) (k : Nat) (v : V) : Prop := ∃ a xs, v = .ref a ∧ SqT K H a xs ∧ xs.length ≤ 3 ∧ (∀ x ∈ xs, Lf H k x) ∧ (k ≤ 1 → ∀ x y, xs = [x, y] → Ns x)
noncomputable def NoT (h : Addr) (m : Bool) (K : PySem.W.Frag) (H : Hp) (v : V) : Prop := ∃ t, TyG K H v t ∧ PySem.W.kitOne K t (.type "tuple") = some false ∧ Rz h m K H 9000 3 v
noncomputable def ElG (h : Addr) (m : Bool) (K : PySem.W.Frag) (k : Nat) (H : Hp) (v : V) : Prop := LkT K H k v ∨ NoT h m K H v
noncomputable def Lk2 (K : PySem.W.Frag) (H : Hp) (k : Nat) (v : V) : Prop := ∃ a x y, v = .ref a ∧ SqT K H a [x, y] ∧ Ns x ∧ Lf H k y ∧ (k = 0 → Ns y)
section
variable {K : PySem.W.Frag} {H H' : Hp} {h : Addr} {m : Bool} {k : Nat} {v : V}
theorem LkT.kv (l : LkT K H k v) (kv : Kv h K H H') : LkT K H' k v := by
 obtain ⟨a, xs, rfl, e, l3, f, n⟩ := l
 exact ⟨a, xs, rfl, kv.sq _ _ e, l3, fun x hx => (f x hx).kv kv, n⟩
theorem LkT.up (l : LkT K H k v) : LkT K H (k + 1) v := by
 obtain ⟨a, xs, rfl, e, l3, f, n⟩ := l
 exact ⟨a, xs, rfl, e, l3, fun x hx => (f x hx).mono (by omega), fun z => n (by omega)⟩
theorem LkT.rz (l : LkT K H k v) (hk : k ≤ 2) : Rz h m K H 9000 3 v := by
 obtain ⟨a, xs, rfl, e, l3, f, n⟩ := l
 exact (Rz.tup (L := 3) e (fun x hx => (f x hx).rz) l3).mono (by omega) (by omega)
theorem LkT.hs (l : LkT K H k v) : Hs K H (k + 1) v := by
 obtain ⟨a, xs, rfl, e, l3, f, n⟩ := l
 exact .tup e fun x hx => (f x hx).hs
theorem LkT.tp2 (l : LkT K H k v) : ∃ o, Tp2 K H v o := by
 obtain ⟨a, xs, rfl, e, l3, f, n⟩ := l
 by_cases h2 : xs.length = 2
 · match xs, h2, e, f with
   | [x, y], _, e, f =>
     obtain ⟨ox, hx⟩ := (f x (by simp)).tg (K := K)
     obtain ⟨oy, hy⟩ := (f y (by simp)).tg (K := K)
     exact ⟨_, .two e hx hy⟩
 · exact ⟨_, .len e h2⟩
theorem NoT.kv (n : NoT h m K H v) (k : Kv h K H H') : NoT h m K H' v := by
 obtain ⟨t, a, b, c⟩ := n
 exact ⟨t, a.kv k, b, c.kv k⟩
theorem ElG.kv (e : ElG h m K k H v) (kv : Kv h K H H') : ElG h m K k H' v := e.imp (·.kv kv) (·.kv kv)
theorem ElG.up (e : ElG h m K k H v) : ElG h m K (k + 1) H v := e.imp (·.up) id
theorem ElG.rz (e : ElG h m K k H v) (hk : k ≤ 2) : Rz h m K H 9000 3 v := by
 rcases e with e | ⟨_, _, _, r⟩
 · exact e.rz hk
 · exact r
theorem ElG.tp2 (e : ElG h m K k H v) : ∃ o, Tp2 K H v o := by
 rcases e with e | ⟨t, a, b, _⟩
 · exact e.tp2
 · exact ⟨_, .no a b⟩
theorem Lk2.kv (l : Lk2 K H k v) (kv : Kv h K H H') : Lk2 K H' k v := by
 obtain ⟨a, x, y, rfl, e, nx, ly, q⟩ := l
 exact ⟨a, x, y, rfl, kv.sq _ _ e, nx, ly.kv kv, q⟩
theorem Lk2.lkt (l : Lk2 K H k v) : LkT K H k v := by
 obtain ⟨a, x, y, rfl, e, nx, ly, q⟩ := l
 refine ⟨a, _, rfl, e, by simp, fun z hz => ?_, fun _ x' y' z => ?_⟩
 · simp only [List.mem_cons, List.not_mem_nil, or_false] at hz
   rcases hz with rfl | rfl
   · exact nx.lv
   · exact ly
 · cases z; exact nx
end
inductive ThG (h : Addr) (K : PySem.W.Frag) (k : Nat) (H : Hp) : V → Prop where
 | no {v : V} {t : Value} (ty : TyG K H v t) (e : PySem.W.kitOne K t (.type "tuple") = some false) (r : ∃ m, Rz h m K H 4000000 8 v) : ThG h K k H v
 | len {a : Addr} {xs : List V} (e : H a = some (.tup xs)) (l : xs.length ≠ 2) (r : ∃ m, Rz h m K H 4000000 8 (.ref a)) : ThG h K k H (.ref a)
 | oth {a : Addr} {p l : V} {t : Value} (e : H a = some (.tup [p, l])) (tp : TyOf K H p t) (ep : PySem.W.kitOne K t (.type "int") = some false) (r : ∃ m, Rz h m K H 4000000 8 (.ref a)) : ThG h K k H (.ref a)
 | nol {a : Addr} {p l : V} {i : Int} {t : Value} (e : H a = some (.tup [p, l])) (np : Nm p i) (ty : TyG K H l t) (et : PySem.W.kitOne K t (.type "tuple") = some false) (r : ∃ m, Rz h m K H 4000000 8 (.ref a)) : ThG h K k H (.ref a)
 | web {m : Bool} {a b : Addr} {p : V} {i : Int} {ys : List V} (e : H a = some (.tup [p, .ref b])) (np : Nm p i) (si : Sz 110 i) (eb : H b = some (.tup ys)) (f : ∀ y ∈ ys, ElG h m K k H y) (len : ys.length ≤ 60 + k) : ThG h K k H (.ref a)
section
variable {K : PySem.W.Frag} {H H' : Hp} {h : Addr} {m : Bool} {k : Nat} {v : V}
theorem ThG.kv (t : ThG h K k H v) (kv : Kv h K H H') : ThG h K k H' v := by
 cases t with
 | no ty e r => exact .no (ty.kv kv) e (r.imp fun _ r => r.kv kv)
 | len e l r => exact .len (kv.tp _ _ e) l (r.imp fun _ r => r.kv kv)
 | oth e tp ep r => exact .oth (kv.tp _ _ e) (tp.kt kv.ty) ep (r.imp fun _ r => r.kv kv)
 | nol e np ty et r => exact .nol (kv.tp _ _ e) np (ty.kv kv) et (r.imp fun _ r => r.kv kv)
 | web e np si eb f len => exact .web (kv.tp _ _ e) np si (kv.tp _ _ eb) (fun y hy => (f y hy).kv kv) len
theorem ThG.up (t : ThG h K k H v) : ThG h K (k + 1) H v := by
 cases t with
 | no ty e r => exact .no ty e r
 | len e l r => exact .len e l r
 | oth e tp ep r => exact .oth e tp ep r
 | nol e np ty et r => exact .nol e np ty et r
 | web e np si eb f len => exact .web e np si eb (fun y hy => (f y hy).up) (by omega)
theorem links_rz {b : Addr} {ys : List V} (eb : H b = some (.tup ys)) (f : ∀ y ∈ ys, ElG h m K k H y) (hk : k ≤ 2) (len : ys.length ≤ 62) : Rz h m K H 558200 4 (.ref b) :=
 (Rz.tup (L := 62) (SqT.of eb) (fun y hy => (f y hy).rz hk) len).mono (by decide) (by decide)
theorem Nm.rz {v : V} {i : Int} {n : Nat} (h1 : Nm v i) (s : Sz 110 i) (hn : 2000 ≤ n) : Rz h m K H n 0 v := ((h1.lv (H := H) (k := 0) s).rz).mono hn (by decide)
theorem ThG.rz (t : ThG h K k H v) (hk : k ≤ 2) : ∃ m, Rz h m K H 4000000 8 v := by
 cases t with
 | no ty e r => exact r
 | len e l r => exact r
 | oth e tp ep r => exact r
 | nol e np ty et r => exact r
 | @web m a b p i ys e np si eb f len =>
   refine ⟨m, (Rz.tup (n := 558200) (k := 4) (L := 2) (SqT.of e) (fun y hy => ?_) (by simp)).mono (by decide) (by decide)⟩
   simp only [List.mem_cons, List.not_mem_nil, or_false] at hy
   rcases hy with rfl | rfl
   · exact (np.rz si (by decide)).mono (Nat.le_refl _) (by decide)
   · exact links_rz eb f hk (by omega)
theorem ThG.ws (t : ThG h K k H v) : ∃ c, Ws K H v c := by
 cases t with
 | no ty e r => exact ⟨_, .no ty e⟩
 | len e l r => exact ⟨_, .len e l⟩
 | oth e tp ep r => exact ⟨_, .page e (.oth tp ep)⟩
 | nol e np ty et r =>
   cases np with
   | int i => exact ⟨_, .nol e (.int _) ty et⟩
   | bl b => exact ⟨_, .page e (.bl b)⟩
 | web e np si eb f len =>
   cases np with
   | int i =>
     obtain ⟨os, p⟩ := paired_ex fun y hy => (f y hy).tp2
     exact ⟨_, .two e (.int _) eb p⟩
   | bl b => exact ⟨_, .page e (.bl b)⟩
end
noncomputable def WbK (K : PySem.W.Frag) (H : Hp) (k : Nat) (a : Addr) : Prop := ∃ (p : V) (i : Int) (b : Addr) (ys : List V), H a = some (.tup [p, .ref b]) ∧ Nm p i ∧ Sz 110 i ∧ H b = some (.tup ys) ∧ ys.length ≤ 60 + k ∧ ∀ y ∈ ys, Lk2 K H k y
theorem WbK.kv {K : PySem.W.Frag} {H H' : Hp} {h a : Addr} {k : Nat} (w : WbK K H k a) (kv : Kv h K H H') : WbK K H' k a := by
 obtain ⟨p, i, b, ys, e, np, si, eb, l, f⟩ := w
 exact ⟨p, i, b, ys, kv.tp _ _ e, np, si, kv.tp _ _ eb, l, fun y hy => (f y hy).kv kv⟩
theorem WbK.th {K : PySem.W.Frag} {H : Hp} {h a : Addr} {k : Nat} (w : WbK K H k a) : ThG h K k H (.ref a) := by
 obtain ⟨p, i, b, ys, e, np, si, eb, l, f⟩ := w
 exact .web (m := true) e np si eb (fun y hy => .inl (f y hy).lkt) l
noncomputable def spBadLk (K : PySem.W.Frag) : Sp := fun vs H Q _ => ∃ (h q : Addr) (p x y : V) (i : Int) (k : Nat), vs = [.ref h, .ref q, p] ∧ HandAt H h ∧ SqT K H q [x, y] ∧ Ns x ∧ Lf H k y ∧ (k = 0 → Ns y) ∧ k ≤ 1 ∧ Nm p i ∧ Sz 110 i ∧
 ∀ (v : V) (m : Bool) (H' : Hp), HandAt H' h → Kp h H H' → ElG h m K (k + 1) H' v → Q v H'
noncomputable def spSpoiltG (K : PySem.W.Frag) : Sp := fun vs H Q _ => ∃ (h a : Addr) (k : Nat), vs = [.ref h, .ref a] ∧ HandAt H h ∧ WbK K H k a ∧ k ≤ 1 ∧ ∀ (v : V) (H' : Hp), HandAt H' h → Kp h H H' → ThG h K (k + 1) H' v → Q v H'
noncomputable def spAgainG (K : PySem.W.Frag) : Sp := fun vs H Q _ => ∃ (h : Addr) (v : V), vs = [.ref h, v] ∧ HandAt H h ∧ ThG h K 1 H v ∧ ∀ (u : V) (H' : Hp), HandAt H' h → Kp h H H' → ThG h K 2 H' u → Q u H'
theorem call_strG {X : Cx} : CallR X (.type "str") (fun xs H Q => ∃ x, xs = [x] ∧ Ns x ∧ ∀ t, (reprText t).length ≤ 2000 → Q (.str t) H) := by
 intro pins s σ H xs us Q I r h
 obtain ⟨x, rfl, hx, q⟩ := h
 rcases hx with ⟨a, hx, sa⟩ | ⟨t, rfl, l⟩
 · refine call_strN pins s σ H _ us Q I r ⟨x, a, rfl, hx, (int_short sa).1, q _ ?_⟩
   cases hx with
   | int i =>
     have e := StrLaws.reprText_len (toString a : Str) fun c hc => by
      have := Pw.ns_mem (n := a) (show c ∈ (Pw.ns a).cps.toList from hc)
      omega
     have e2 : (toString a : Str).length ≤ 111 := by
      show (PySem.Str.ofString (toString a)).length ≤ 111
      rw [PySem.ofString_length]; exact PySem.int_text_length_le (k := 110) (by decide) (sa.log2 (by decide))
     show (reprText (toString a : Str)).length ≤ 2000
     omega
   | bl b => cases b <;> decide +kernel
 · obtain ⟨u, rfl, ru⟩ := vals1 r
   obtain ⟨tk, rfl⟩ := ru
   exact PySem.P.str_of_str ⟨.str t, H, I.tok _, ⟨_, rfl⟩, q t l⟩
end L2

namespace L2
open PySem PySem.Spec PyProof PyProof.Rows PySem.W
section
variable {K : PySem.W.Frag} {H H' : Hp} {h q : Addr} {m : Bool} {k : Nat} {v : V} {us : List V}
noncomputable def AllE (h : Addr) (K : PySem.W.Frag) (k : Nat) (H : Hp) (us : List V) : Prop := ∀ u ∈ us, ∃ m, ElG h m K k H u
theorem AllE.nil : AllE h K k H [] := fun _ z => by cases z
theorem AllE.same (A : AllE h K k H us) (s : Same H H') : AllE h K k H' us := fun u z => (A u z).imp fun _ e => e.kv s.kv
theorem AllE.add (A : AllE h K k H us) (t : ElG h m K k H v) : AllE h K k H (us ++ [v]) := fun u z => by
 rcases List.mem_append.mp z with z | z
 · exact A u z
 · rw [List.mem_singleton.mp z]; exact ⟨m, t⟩
theorem el_two {x y : V} (e : H q = some (.tup [x, y])) (nx : Ns x) (ly : Lf H k y) : ElG h true K k H (.ref q) := by
 refine .inl ⟨q, _, rfl, SqT.of e, by simp, fun z hz => ?_, fun _ x' y' z => by cases z; exact nx⟩
 simp only [List.mem_cons, List.not_mem_nil, or_false] at hz
 rcases hz with rfl | rfl
 · exact nx.lv
 · exact ly
theorem el_turn {x y : V} (e : H q = some (.tup [x, y])) (lx : Lf H (k + 1) x) (ly : Lf H (k + 1) y) (n : k = 0 → Ns x) : ElG h true K (k + 1) H (.ref q) := by
 refine .inl ⟨q, _, rfl, SqT.of e, by simp, fun z hz => ?_, fun l x' y' z => by cases z; exact n (by omega)⟩
 simp only [List.mem_cons, List.not_mem_nil, or_false] at hz
 rcases hz with rfl | rfl
 · exact lx
 · exact ly
theorem el_tup {xs : List V} (e : H q = some (.tup xs)) (f : ∀ x ∈ xs, Lf H k x) (l : xs.length ≤ 3) (l2 : xs.length ≠ 2) : ElG h true K k H (.ref q) :=
 .inl ⟨q, _, rfl, SqT.of e, l, f, fun _ x y z => by subst z; exact absurd rfl l2⟩
theorem el_lst {xs : List V} (e : H q = some (.lst xs)) (ne : q ≠ h) (f : ∀ x ∈ xs, Lf H k x) (l : xs.length ≤ 2) (hk : k ≤ 2) : ElG h false K k H (.ref q) :=
 .inr ⟨_, .inl (.lst e), ki_lt _, (Rz.lst (L := 2) ne e (fun x hx => (f x hx).rz) l).mono (by omega) (by omega)⟩
theorem el_dct {ks vs : List V} (e : H q = some (DctV q ks vs)) (fk : ∀ x ∈ ks, Lf H k x) (fv : ∀ x ∈ vs, Lf H k x) (l : ks.length = vs.length) (l2 : ks.length ≤ 2) (hk : k ≤ 2) : ElG h true K k H (.ref q) :=
 .inr ⟨_, .inr (.inl ⟨q, ks, vs, rfl, e, rfl⟩), ki_dt _, (Rz.dct e (fun x hx => (fk x hx).rz) (fun x hx => (fv x hx).rz) l l2).mono (by omega) (by omega)⟩
theorem fl_no {x : V} {d : PyData} (f : Fl x d) (l : d.shown.length ≤ 2000) : ∃ t, TyG K H x t ∧ PySem.W.kitOne K t (.type "tuple") = some false ∧ Rz h m K H 2000 0 x := by
 have r : Rz h m K H 2000 0 x := Rz.fl f l
 cases f with
 | non => exact ⟨_, .inl .non, ki_nt _, r⟩
 | bl b => exact ⟨_, .inl (.bl b), ki_bt _, r⟩
 | int i _ => exact ⟨_, .inl (.int i), isi_it _, r⟩
 | str t _ => exact ⟨_, .inl (.str t), ki_st _, r⟩
theorem el_flat {x : V} {d : PyData} (f : Fl x d) (l : d.shown.length ≤ 2000) : ElG h true K k H x := by
 obtain ⟨t, a, b, c⟩ := fl_no (K := K) (H := H) (h := h) (m := true) f l
 exact .inr ⟨t, a, b, c.mono (by decide) (by decide)⟩
theorem Ns.el {x : V} (n : Ns x) : ElG h true K k H x := by
 have r : Lf H 0 x := n.lv
 cases r with
 | fl f l => exact el_flat f l
end
theorem ns_int {i : Int} (h : Sz 110 i) : Ns (.int i) := .inl ⟨i, .int i, h⟩
theorem ns_bl (b : Bool) : Ns (.bl b) := .inl ⟨_, .bl b, Sz.mono (show Sz 1 (b2i b) by unfold Sz; cases b <;> decide) (by decide)⟩
theorem lf_non {H : Hp} {k : Nat} : Lf H k .non := .fl .non (by decide)
end L2

namespace L2
open PySem PySem.Spec PyProof PyProof.Rows PySem.W
theorem item_whole {prog : Program} {w : World} {A : Around} {E : Value → Shared → Prop} {s : Shared} {t sl : Addr} {items : Array Value} {vl vu : Value} {lo hi : Option Int} {Q : Value → Shared → Prop} (ht : IsTup s.heap t items) (hs : s.heap.IsSliceOf sl vl vu .none) (pl : IsPart vl lo) (pu : IsPart vu hi)
 (e1 : HT.sIx items.size 0 lo = 0) (e2 : HT.sIx items.size items.size hi = items.size) (h : Q (.ref t) s) : wpAny (model prog w) A (getItem (.ref t) (.ref sl)) Q E s := by
 obtain ⟨os, hos, hcs, hds⟩ := id hs
 unfold getItem
 try with_reducible refine wpAny_holding ?_
 first | refine wpAny_bind (wpAny_pure ?_) | skip
 refine wpAny_bind (wpAny_sequenceKey ht.typeIs (by decide) ?_)
 refine wpAny_bind (wpAny_callSpecial?_slot (name := Str.ofString "__getitem__") ht.typeIs PyProof.Rows.slot_tuple_getitem (wpAny_call_entry PyProof.Rows.slot_tuple_getitem ht.typeIs entry_tuple_getitem ?_ (args_tuple_getitem _ _)))
 show wpAny _ _ (Builtin.Tuple.tupleItemsOf (.ref t) >>= _) _ _ s
 refine wpAny_bind (tupleItemsOf_ ht ?_)
 refine wpAny_bind (wpAny_typeOf (show s.TypeIs (.ref sl) "slice" from ⟨os, hos, hcs⟩) ?_)
 rw [if_pos (by decide)]
 refine wpAny_bind (HT.sliceApplied_gen hs pl pu ?_)
 rw [e1, e2]
 show wpAny _ _ (if (((0 : Nat) : Int) == 0 && (1 : Int) == 1 && (items.size - 0 : Nat) == items.size) = true then _ else _) _ _ s
 rw [if_pos (show (((0 : Nat) : Int) == 0 && (1 : Int) == 1 && (items.size - 0 : Nat) == items.size) = true by rw [Nat.sub_zero]; simp)]
 unfold Builtin.Tuple.tupleIsExact
 have hT := ht.typeIs
 repeat (any_goals (first | assumption | wp_step))
 exact ⟨_, rfl, wpAny_pure h⟩
section
variable {X : Cx}
noncomputable def rSlA (K : PySem.W.Frag) : V → Option Int → Option Int → Hp → VK → Prop := fun x lo hi H Q => ∃ a xs, x = .ref a ∧ H a = some (.tup xs) ∧ ∀ (p : Addr) (H' : Hp), Same H H' → H' p = some (.tup (cutV xs lo hi)) → Q (.ref p) H'
theorem sl_tupA : SlR X (rSlA X.K) := by
 intro pins s σ H x v vl vu lo hi sl Q I rx hs pl pu h
 obtain ⟨a, xs, rfl, e, q⟩ := h
 by_cases hw : HT.sIx xs.length 0 lo = 0 ∧ HT.sIx xs.length xs.length hi = xs.length
 · cases rx
   obtain ⟨its, r, ht, hz⟩ := I.tuple (SqT.of e)
   have hlen : its.toArray.size = xs.length := by rw [List.size_toArray]; exact r.length.symm
   refine ⟨"tuple", _, PyProof.Rows.slot_tuple_getitem.lookup, ht.typeIs, item_whole ht hs pl pu (by rw [hlen]; exact hw.1) (by rw [hlen]; exact hw.2) ⟨.ref a, H, I, rfl, q a H (Same.refl _) ?_⟩⟩
   rw [e]
   unfold cutV
   rw [hw.1, hw.2, List.drop_zero, Nat.sub_zero, List.take_length]
 · exact sl_tupS pins s σ H _ v vl vu lo hi sl Q I rx hs pl pu ⟨a, xs, rfl, SqT.of e, hw, fun p H' s n e => q p H' s e⟩
end
theorem ifS_or {c : TT} {t u : TS} {D : Ends} {σ : St} {H : Hp} (P R : Hp → Prop) (hc : ∀ T U : Hp → Prop, (∀ H1, P H1 → T H1) → (∀ H1, R H1 → U H1) → c σ H fun b H1 => if b = true then T H1 else U H1) (ht : ∀ H1, P H1 → t D σ H1) (hu : ∀ H1, R H1 → u D σ H1) : tIfS c t u D σ H := hc (t D σ) (u D σ) ht hu
theorem mem_cut {xs : List V} {lo hi : Option Int} {u : V} (h : u ∈ cutV xs lo hi) : u ∈ xs := List.mem_of_mem_drop (List.mem_of_mem_take h)
section
variable {K : PySem.W.Frag} {H H' : Hp} {h q : Addr} {m : Bool} {k : Nat} {v : V} {us : List V}
noncomputable def AllG (h : Addr) (K : PySem.W.Frag) (k : Nat) (H : Hp) (us : List V) : Prop := ∀ u ∈ us, ThG h K k H u
theorem AllG.nil : AllG h K k H [] := fun _ z => by cases z
theorem AllG.same (A : AllG h K k H us) (s : Same H H') : AllG h K k H' us := fun u z => (A u z).kv s.kv
theorem AllG.add (A : AllG h K k H us) (t : ThG h K k H v) : AllG h K k H (us ++ [v]) := fun u z => by
 rcases List.mem_append.mp z with z | z
 · exact A u z
 · rw [List.mem_singleton.mp z]; exact t
theorem tg_flat {x : V} {d : PyData} (f : Fl x d) (l : d.shown.length ≤ 2000) : ThG h K k H x := by
 obtain ⟨t, a, b, c⟩ := fl_no (K := K) (H := H) (h := h) (m := true) f l
 exact .no a b ⟨true, c.mono (by decide) (by decide)⟩
theorem tg_nm {x : V} {i : Int} (n : Nm x i) (s : Sz 110 i) : ThG h K k H x := by
 have r : Lf H 0 x := n.lv s
 cases r with
 | fl f l => exact tg_flat f l
theorem tg_tup {xs : List V} (e : H q = some (.tup xs)) (l : xs.length ≠ 2) (l3 : xs.length ≤ 3) (f : ∀ x ∈ xs, Rz h m K H 1200000 6 x) : ThG h K k H (.ref q) :=
 .len e l ⟨m, (Rz.tup (L := 3) (SqT.of e) f l3).mono (by decide) (by decide)⟩
theorem tg_lst {xs : List V} (e : H q = some (.lst xs)) (ne : q ≠ h) (l3 : xs.length ≤ 2) (f : ∀ x ∈ xs, Rz h false K H 1200000 6 x) : ThG h K k H (.ref q) :=
 .no (.inl (.lst e)) (ki_lt _) ⟨false, (Rz.lst (L := 2) ne e f l3).mono (by decide) (by decide)⟩
theorem tg_dct {ks vs : List V} (e : H q = some (DctV q ks vs)) (fk : ∀ x ∈ ks, Rz h true K H 600000 6 x) (fv : ∀ x ∈ vs, Rz h true K H 600000 6 x) (l : ks.length = vs.length) (l2 : ks.length ≤ 2) : ThG h K k H (.ref q) :=
 .no (.inr (.inl ⟨q, ks, vs, rfl, e, rfl⟩)) (ki_dt _) ⟨true, (Rz.dct e fk fv l l2).mono (by decide) (by decide)⟩
noncomputable def LsE (h : Addr) (K : PySem.W.Frag) (k : Nat) (H : Hp) (v : V) : Prop := (∃ t m, TyG K H v t ∧ PySem.W.kitOne K t (.type "tuple") = some false ∧ Rz h m K H 600000 6 v) ∨ (∃ a ys, v = .ref a ∧ H a = some (.tup ys) ∧ ys.length ≤ 61 ∧ ∀ y ∈ ys, ElG h true K k H y)
theorem LsE.kv (l : LsE h K k H v) (kv : Kv h K H H') : LsE h K k H' v := by
 rcases l with ⟨t, m, a, b, c⟩ | ⟨a, ys, rfl, e, l, f⟩
 · exact .inl ⟨t, m, a.kv kv, b, c.kv kv⟩
 · exact .inr ⟨a, ys, rfl, kv.tp _ _ e, l, fun y hy => (f y hy).kv kv⟩
noncomputable def AllL (h : Addr) (K : PySem.W.Frag) (k : Nat) (H : Hp) (us : List V) : Prop := ∀ u ∈ us, LsE h K k H u
theorem AllL.nil : AllL h K k H [] := fun _ z => by cases z
theorem AllL.same (A : AllL h K k H us) (s : Same H H') : AllL h K k H' us := fun u z => (A u z).kv s.kv
theorem AllL.add (A : AllL h K k H us) (t : LsE h K k H v) : AllL h K k H (us ++ [v]) := fun u z => by
 rcases List.mem_append.mp z with z | z
 · exact A u z
 · rw [List.mem_singleton.mp z]; exact t
theorem ls_flat {x : V} {d : PyData} (f : Fl x d) (l : d.shown.length ≤ 2000) : LsE h K k H x := by
 obtain ⟨t, a, b, c⟩ := fl_no (K := K) (H := H) (h := h) (m := true) f l
 exact .inl ⟨t, true, a, b, c.mono (by decide) (by decide)⟩
theorem ls_th {p : V} {i : Int} (e : H q = some (.tup [p, v])) (n : Nm p i) (s : Sz 110 i) (l : LsE h K k H v) (hk : 1 ≤ k) : ThG h K k H (.ref q) := by
 rcases l with ⟨t, m, a, b, c⟩ | ⟨a, ys, rfl, eb, l, f⟩
 · refine .nol e n a b ⟨m, (Rz.tup (n := 600000) (k := 6) (L := 2) (SqT.of e) (fun x hx => ?_) (by simp)).mono (by decide) (by decide)⟩
   simp only [List.mem_cons, List.not_mem_nil, or_false] at hx
   rcases hx with rfl | rfl
   · exact (n.rz s (by decide)).mono (Nat.le_refl _) (by decide)
   · exact c
 · exact .web (m := true) e n s eb f (by omega)
noncomputable def PgE (h : Addr) (K : PySem.W.Frag) (H : Hp) (v : V) : Prop := (∃ i, Nm v i ∧ Sz 110 i) ∨ (∃ t, TyOf K H v t ∧ PySem.W.kitOne K t (.type "int") = some false ∧ ∀ m, Rz h m K H 600000 6 v)
theorem PgE.kv (l : PgE h K H v) (kv : Kv h K H H') : PgE h K H' v := l.imp id fun ⟨t, a, b, c⟩ => ⟨t, a.kt kv.ty, b, fun m => (c m).kv kv⟩
noncomputable def AllP (h : Addr) (K : PySem.W.Frag) (H : Hp) (us : List V) : Prop := ∀ u ∈ us, PgE h K H u
end
end L2
namespace L2
theorem cut_len (xs : List V) (lo hi : Option Int) : (cutV xs lo hi).length = HT.sIx xs.length xs.length hi - HT.sIx xs.length 0 lo := by
 unfold cutV
 rw [List.length_take, List.length_drop]
 have := HT.sIx_le xs.length xs.length (Nat.le_refl _) hi
 omega
end L2

namespace L2
open PySem PySem.Spec PyProof PyProof.Rows PySem.W
theorem WebAt.wbk {K : PySem.W.Frag} {H : Hp} {a : Addr} {n : Int} {ps : List (Int × Int)} (w : WebAt K H a n ps) (ok : Pw.WebOk n ps) : WbK K H 0 a := by
 obtain ⟨b, us, e, eb, hp⟩ := w
 have lo := ok.lo
 have hi := ok.hi
 have sm : ∀ i : Int, 0 ≤ i → i ≤ 12 → Sz 110 i := fun i h1 h2 => by
  have : i.natAbs < 2 ^ 4 := by omega
  exact Nat.lt_of_lt_of_le this (by decide)
 refine ⟨_, n, b, us, e, .int n, sm n (by omega) hi, eb, by rw [hp.len]; exact ok.few, fun y hy => ?_⟩
 obtain ⟨i, hi'⟩ := List.mem_iff_getElem?.mp hy
 obtain ⟨q, p, hq, rfl, sq⟩ := hp.get hi'
 have := ok.lk p (List.mem_of_getElem? hq)
 exact ⟨q, _, _, rfl, sq, ns_int (sm _ (by omega) (by omega)), (ns_int (sm _ (by omega) (by omega))).lv, fun _ => ns_int (sm _ (by omega) (by omega))⟩
end L2

set_option pp.maxSteps 800
namespace Lw
open PySem L2 PyProof.Rows
noncomputable def top (i : Nat) : Stmt := PySem.Challenge.pw_pagewalks_k05_what_is_a_web.main.body.getD i (.Pass ⟨0, 0, 0, 0⟩)
noncomputable abbrev sWhole : Stmt := top 1
noncomputable abbrev sPair : Stmt := top 2
noncomputable abbrev s_is_link : Stmt := top 6
noncomputable abbrev s_are_rising : Stmt := top 7
noncomputable abbrev s_are_links : Stmt := top 8
noncomputable abbrev s_is_web : Stmt := top 9
noncomputable abbrev sHand : Stmt := top 11
noncomputable abbrev sDraw : Stmt := top 12
noncomputable abbrev sCells : Stmt := top 13
noncomputable abbrev sGreat : Stmt := top 14
noncomputable abbrev sWeb : Stmt := top 18
noncomputable abbrev s_law_whole : Stmt := top 21
noncomputable abbrev s_law_is : Stmt := top 22
noncomputable abbrev s_law_bad_link : Stmt := top 23
noncomputable abbrev s_law_spoilt : Stmt := top 24
noncomputable abbrev s_law_again : Stmt := top 25
noncomputable abbrev sLaw : Stmt := top 26
section
variable {P : Program} {w : World} {K : PySem.W.Frag} {mg : Str → Option Value} {base : Heap}
theorem scHand : FnScope ["cell", "k", "digits"] ["cell", "k"] (defScope sHand) := ⟨rfl, rfl, rfl, by decide +kernel, rfl, by decide +kernel, by decide +kernel⟩
theorem ok_hand {f : Addr} {fd : FuncData} (F : Fun K "_law_hand" "_law_hand" sHand f fd) : FnOk P w K mg base CX0 1 f fd ["cell", "k"] spHand := by
 refine F.ok scHand (fun vs H Q E h => ?_) (fun cdv A outer s H vs Q E hr h => ?_)
 · obtain ⟨x, y, rfl, _⟩ := h
   rfl
 · obtain ⟨c, kk, rfl, h0, h1, k⟩ := h
   refine ⟨_, pss_cons (ps_set (i := 2) scHand.nd rfl (Or.inl rfl) pe_int)
    (pss_cons (ps_if (pt_cmpR op_ge (pv 0) (pe_op op_pow pe_int pe_int) (nomark _)) (pss_one (ps_set (i := 2) scHand.nd rfl (Or.inl rfl) (pv 0))) pss_nil)
    (pss_one (ps_ret (pe_lst (pa_cons (pv 2) (pa_cons (pe_op op_mod (pe_op op_mul (pe_op op_add (pe_op op_add (pe_op op_mod (pv 0) pe_int) (pe_op op_mul pe_int (pv 1))) pe_int) pe_int) pe_int) pa_nil)))))), ?_⟩
   refine ⟨_, rfl, _, _, rfl, rfl, ⟨by decide, by decide, by decide⟩, _, _, rfl, rfl, _, rfl, ?_⟩
   refine if2 (fun h => ?_) (fun h => ?_)
   · have h : (10 : Int) ^ (18 : Int).toNat ≤ c := of_decide_eq_true h
     have h2 : (0 : Int) ≤ c := by
      have : (10 : Int) ^ (18 : Int).toNat = 1000000000000000000 := by decide
      omega
     refine ⟨_, rfl, ?_⟩
     refine ⟨_, rfl, _, rfl, _, _, rfl, rfl, (by show (0 : Int) < 2147483587; decide), _, rfl, _, _, rfl, rfl, .inl ⟨by decide, by decide⟩, _, _, rfl, rfl, _, _, rfl, rfl, _, _, rfl, rfl, .inr ⟨by decide, by decide⟩, _, _, rfl, rfl, (by show (0 : Int) < 2147483587; decide),
      (by show 2 ≤ sizeLine; decide), fun p hp => ?_⟩
     exact k p _ hp ⟨_, _, upd_same, h2, Int.emod_nonneg _ (by decide), Int.emod_lt_of_pos _ (by decide)⟩ (Same.new hp)
   · refine ⟨_, rfl, _, rfl, _, _, rfl, rfl, (by show (0 : Int) < 2147483587; decide), _, rfl, _, _, rfl, rfl, .inl ⟨by decide, by decide⟩, _, _, rfl, rfl, _, _, rfl, rfl, _, _, rfl, rfl, .inr ⟨by decide, by decide⟩, _, _, rfl, rfl, (by show (0 : Int) < 2147483587; decide),
      (by show 2 ≤ sizeLine; decide), fun p hp => ?_⟩
     exact k p _ hp ⟨_, _, upd_same, by decide, Int.emod_nonneg _ (by decide), Int.emod_lt_of_pos _ (by decide)⟩ (Same.new hp)
theorem scDraw : FnScope ["hand", "limit", "got"] ["hand", "limit"] (defScope sDraw) := ⟨rfl, rfl, rfl, by decide +kernel, rfl, by decide +kernel, by decide +kernel⟩
theorem ok_draw {f : Addr} {fd : FuncData} (F : Fun K "_law_draw" "_law_draw" sDraw f fd) : FnOk P w K mg base CX0 1 f fd ["hand", "limit"] spDraw := by
 refine F.ok scDraw (fun vs H Q E h => ?_) (fun cdv A outer s H vs Q E hr h => ?_)
 · obtain ⟨x, y, rfl, _⟩ := h
   rfl
 · obtain ⟨p, lim, rfl, h0, h1, ⟨a, b, e, ha, hb, hb2⟩, k⟩ := h
   refine ⟨_, pss_cons (ps_if (pt_cmpR op_gt (pe_ix ix_list (pv 0) pe_int (fun _ _ => rfl)) pe_int (nomark _))
    (pss_cons (ps_set (i := 2) scDraw.nd rfl (Or.inl rfl) (pe_op op_mod (pe_ix ix_list (pv 0) pe_int (fun _ _ => rfl)) (pv 1)))
    (pss_cons (ps_asg (pe_op op_fdivB (pe_ix ix_list (pv 0) pe_int (fun _ _ => rfl)) (pv 1)) (pg_sub (pv 0) pe_int set_list))
    (pss_one (ps_ret (pv 2))))) pss_nil)
    (pss_cons (ps_asg (pe_op op_mod (pe_op op_add (pe_op op_add (pe_op op_mul (pe_ix ix_list (pv 0) pe_int (fun _ _ => rfl)) (pe_ix ix_list (pv 0) pe_int (fun _ _ => rfl))) (pe_op op_mul pe_int (pe_ix ix_list (pv 0) pe_int (fun _ _ => rfl)))) pe_int) pe_int) (pg_sub (pv 0) pe_int set_list))
    (pss_one (ps_ret (pe_op op_mod (pe_op op_fdiv (pe_ix ix_list (pv 0) pe_int (fun _ _ => rfl)) pe_int) (pv 1))))), ?_⟩
   refine ⟨_, rfl, p, _, _, _, rfl, rfl, SqL.of e, rfl, _, _, rfl, rfl, _, rfl, ?_⟩
   refine if2 (fun h => ?_) (fun h => ?_)
   · have h : 0 < a := of_decide_eq_true h
     refine ⟨_, rfl, p, _, _, _, rfl, rfl, SqL.of e, rfl, _, rfl, _, _, rfl, rfl, h0, ?_⟩
     have sl : Sz 9000 lim := sz_of 60 (by omega)
     refine ⟨_, rfl, p, _, _, _, rfl, rfl, SqL.of e, rfl, _, rfl, _, _, rfl, rfl, ⟨by omega, sl⟩, _, rfl, p, _, _, 0, rfl, rfl, e, rfl, ?_⟩
     refine ⟨_, rfl, ?_⟩
     refine k _ _ (Int.emod_nonneg _ (by omega)) (Int.emod_lt_of_pos _ h0) ⟨_, b, upd_same, ?_, hb, hb2⟩ Kp.set
     rw [Int.fdiv_eq_ediv_of_nonneg _ (by omega)]
     exact Int.ediv_nonneg (by omega) (by omega)
   · refine ⟨_, rfl, p, _, _, _, rfl, rfl, SqL.of e, rfl, _, rfl, p, _, _, _, rfl, rfl, SqL.of e, rfl, _, _, rfl, rfl, .inl ⟨by omega, by omega⟩, _, rfl, p, _, _, _, rfl, rfl, SqL.of e, rfl, _, _, rfl, rfl, .inl ⟨by decide, by decide⟩,
      _, _, rfl, rfl, _, _, rfl, rfl, _, _, rfl, rfl, (by show (0 : Int) < 2147483587; decide), _, rfl, p, _, _, 1, rfl, rfl, e, rfl, ?_⟩
     refine ⟨_, rfl, p, _, _, _, rfl, rfl, SqL.of upd_same, rfl, _, _, rfl, rfl, ⟨by decide, by decide⟩, _, rfl, _, _, rfl, rfl, h0, ?_⟩
     exact k _ _ (Int.emod_nonneg _ (by omega)) (Int.emod_lt_of_pos _ h0) ⟨a, _, upd_same, ha, Int.emod_nonneg _ (by decide), Int.emod_lt_of_pos _ (by decide)⟩ Kp.set
theorem scCells : FnScope ["script", "many"] ["script", "many"] (defScope sCells) := ⟨rfl, rfl, rfl, by decide +kernel, rfl, by decide +kernel, by decide +kernel⟩
theorem mem_int {xs : List V} (h : ∀ x ∈ xs, ∃ i : Int, x = .int i) : AllInt xs := fun j x e => h x (List.mem_of_getElem? e)
theorem ok_cells {f : Addr} {fd : FuncData} (F : Fun K "_law_cells" "_law_cells" sCells f fd) (zl : mg "list" = none) (ze : mg "enumerate" = none) (zi : mg "int" = none) : FnOk P w K mg base CX0 1 f fd ["script", "many"] (spCells K) := by
 refine F.ok scCells (fun vs H Q E h => ?_) (fun cdv A outer s H vs Q E hr h => ?_)
 · obtain ⟨x, y, ns, rfl, _⟩ := h
   rfl
 · obtain ⟨a, m, ns, rfl, hS, hlen, k⟩ := h
   refine ⟨_, pss_one (ps_ret (pe_lenum rfl rfl zl rfl ze (pa_cons (pe_op op_cat (pe_slice sl_list (pv 0) po_none (po_some (pv 1)))
    (pe_op op_rep (pe_lst (pa_cons pe_int pa_nil)) (pe_callTy call_int1 (by rfl) zi boot_int (pa_cons (pe_cmpR (op_eqD hr) (pv 0) (pe_lst pa_nil) (nomark _)) pa_nil)))) pa_nil))), ?_⟩
   refine ⟨_, rfl, _, rfl, _, rfl, a, _, rfl, hS, fun p1 hp1 => ?_⟩
   refine ⟨(by show 1 ≤ sizeLine; decide), fun p2 hp2 => ?_⟩
   have s1 : Same H (upd H p1 (.lst (cutV (ns.map V.int) none (some m)))) := Same.new hp1
   have s2 : Same (upd H p1 (.lst (cutV (ns.map V.int) none (some m)))) (upd (upd H p1 (.lst (cutV (ns.map V.int) none (some m)))) p2 (.lst [V.int 0])) := Same.new hp2
   refine ⟨_, rfl, (by show 0 ≤ sizeLine; decide), fun p3 hp3 => ?_⟩
   have s3 : Same (upd (upd H p1 (.lst (cutV (ns.map V.int) none (some m)))) p2 (.lst [V.int 0])) (upd (upd (upd H p1 (.lst (cutV (ns.map V.int) none (some m)))) p2 (.lst [V.int 0])) p3 (.lst [])) := Same.new hp3
   have sA := (s1.trans s2).trans s3
   refine ⟨a, p3, _, _, ns.map Dt.int, [], rfl, rfl, .inr ⟨sA.seq hS, SqL.of upd_same⟩, dens_ints _ _ ns, (by simp only [Dens]), (by rw [dep_ints]; decide), .inr ⟨_, rfl, ?_⟩⟩
   have hp2s : (upd (upd (upd H p1 (.lst (cutV (ns.map V.int) none (some m)))) p2 (.lst [V.int 0])) p3 (.lst [])) p2 = some (.lst [V.int 0]) := s3 _ _ upd_same
   generalize hkk : (if (if false = true then !eqDs (ns.map Dt.int) [] else eqDs (ns.map Dt.int) []) = true then (1 : Int) else 0) = kk
   have hk01 : kk = 0 ∨ kk = 1 := by rw [← hkk]; split <;> simp
   refine ⟨p2, kk, [V.int 0], rfl, rfl, hp2s, by omega, by omega, ?_, fun p4 hp4 => ?_⟩
   · have : (sizeLine : Nat) = 16777216 := sizeLine_eq
     rw [this]
     simp only [List.length_cons, List.length_nil]
     omega
   have s4 := Same.new (o := HO.lst (List.replicate kk.toNat [V.int 0]).flatten) hp4
   have hcut := cutV_length (ns.map V.int) none (some m)
   have hrl : (List.replicate kk.toNat [V.int 0]).flatten.length ≤ 1 := by rw [len_rep]; simp only [List.length_cons, List.length_nil]; omega
   rw [List.length_map] at hcut
   refine ⟨p1, p4, _, _, rfl, rfl, (s2.trans (s3.trans s4)) _ _ upd_same, upd_same, ?_, fun p5 hp5 => ?_⟩
   · have : (sizeLine : Nat) = 16777216 := sizeLine_eq
     omega
   have s5 := Same.new (o := HO.lst (cutV (ns.map V.int) none (some m) ++ (List.replicate kk.toNat [V.int 0]).flatten)) hp5
   refine ⟨p5, _, rfl, SqL.of upd_same, fun H' L ts sH hL hLl hts hT => ?_⟩
   refine k H' L _ ts (fun b o e => sH b o (s5 b o (s4 b o (sA b o e)))) ?_ hLl hts hT (mem_int fun x hx => ?_) (by rw [List.length_append]; omega)
   · exact (sA.trans (s4.trans s5)).free hL
   · rcases List.mem_append.mp hx with hx | hx
     · unfold cutV at hx
       obtain ⟨n, _, e⟩ := List.mem_map.mp (List.mem_of_mem_drop (List.mem_of_mem_take hx))
       exact ⟨n, e.symm⟩
     · obtain ⟨l, h1, h2⟩ := List.mem_flatten.mp hx
       rw [List.eq_of_mem_replicate h1] at h2
       exact ⟨0, by simpa using h2⟩
theorem scGreat : FnScope ["script"] ["script"] (defScope sGreat) := ⟨rfl, rfl, rfl, by decide +kernel, rfl, by decide +kernel, by decide +kernel⟩
theorem ok_great {f : Addr} {fd : FuncData} (F : Fun K "_law_great" "_law_great" sGreat f fd) (zs : mg "sum" = none) : FnOk P w K mg base CX0 1 f fd ["script"] (spGreat K) := by
 refine F.ok scGreat (fun vs H Q E h => ?_) (fun cdv A outer s H vs Q E hr h => ?_)
 · obtain ⟨x, ns, rfl, _⟩ := h
   rfl
 · obtain ⟨a, ns, rfl, hS, k⟩ := h
   refine ⟨_, pss_one (ps_ret (pe_cmpR op_eq (pe_op op_mod (pe_op op_fdiv (pe_callB (call_sum rfl) (by rfl) zs boot_sum (pa_cons (pv 0) pa_nil)) pe_int) pe_int) pe_int (nomark _))), ?_⟩
   refine ⟨_, rfl, a, ns, rfl, hS, _, _, rfl, rfl, ⟨by decide, by decide⟩, _, _, rfl, rfl, (by show (0 : Int) < 8; decide), rfl, ?_⟩
   exact k _
theorem scWeb : FnScope ["hand", "great", "pages", "many", "starts", "links", "k"] ["hand", "great"] (defScope sWeb) := ⟨rfl, rfl, rfl, by decide +kernel, rfl, by decide +kernel, by decide +kernel⟩
theorem ndP : (["page", "hand"] : List Str).Nodup := by decide +kernel
theorem ok_web {f fD : Addr} {fd fdD : FuncData} (F : Fun K "_law_web" "_law_web" sWeb f fd) (zr : mg "range" = none) (zl : mg "len" = none) (zt : mg "tuple" = none) (zs : mg "sorted" = none)
 (FD : Fun K "_law_draw" "_law_draw" sDraw fD fdD) (mD : mg "_law_draw" = some (.ref fD)) (bD : Binds K fdD ["hand", "limit"] []) : FnOk P w K mg base CX0 2 f fd ["hand", "great"] (spWeb K) := by
 have GD : FnOk P w K mg base CX0 1 fD fdD ["hand", "limit"] spDraw := ok_draw FD
 have nd := scWeb.nd
 refine F.ok scWeb (fun vs H Q E h => ?_) (fun cdv A outer s H vs Q E hr h => ?_)
 · obtain ⟨x, y, rfl, _⟩ := h
   rfl
 · obtain ⟨p, great, rfl, hh, k⟩ := h
   refine ⟨_, pss_cons (ps_set (i := 2) nd rfl (Or.inl rfl) (pe_op op_add pe_int (pe_call GD hr rfl mD FD.kp bD .nil pass0 (pa_cons (pv 0) (pa_cons (pe_ix ix_list (pe_lstS (pa_cons pe_int (pa_cons pe_int (pa_cons pe_int pa_nil)))) (pe_call GD hr rfl mD FD.kp bD .nil pass0 (pa_cons (pv 0) (pa_cons pe_int pa_nil))) (fun _ _ => rfl)) pa_nil)))))
    (pss_cons (ps_set (i := 3) nd rfl (Or.inl rfl) (pe_call GD hr rfl mD FD.kp bD .nil pass0 (pa_cons (pv 0) (pa_cons (pe_ix ix_list (pe_lstS (pa_cons pe_int (pa_cons (pe_op op_add (pe_op op_mul pe_int (pv 2)) pe_int) (pa_cons pe_int (pa_cons pe_int pa_nil))))) (pe_call GD hr rfl mD FD.kp bD .nil pass0 (pa_cons (pv 0) (pa_cons pe_int pa_nil))) (fun _ _ => rfl)) pa_nil))))
    (pss_mid (ps_if (pt_val (pv 1)) (pss_cons (ps_set (i := 2) nd rfl (Or.inl rfl) pe_int) (pss_one (ps_set (i := 3) nd rfl (Or.inl rfl) pe_int))) pss_nil)
    (pss_cons (ps_set (i := 4) nd rfl (Or.inl rfl) (pe_op op_catS (pe_compC ["page", "hand"] [none, some 0] rfl (pi_range1 rfl zr (pa_cons (pv 2) pa_nil))
     (by show ∀ y : Str × NameKind, y ∈ _ → y.2 = NameKind.free → (defScope sWeb).names.lookup y.1 = some .cell; decide +kernel) (by decide) rfl (by decide +kernel) ⟨⟨rfl, rfl, .inl rfl⟩, trivial⟩
     (fun cl C s H fp => pg_name (i := 0) ndP rfl (Or.inl rfl) (.inr rfl))
     (fun cl C s H fp => pts_one (pt_cmpR op_gt (pe_call GD hr rfl mD FD.kp bD .nil pass0 (pa_cons (pv 1) (pa_cons pe_int pa_nil))) pe_int (nomark _)))
     (fun cl C s H fp => pv 0)) (pe_lstS (pa_cons (pe_op op_sub (pv 2) pe_int) pa_nil))))
    (pss_cons (ps_set (i := 5) nd rfl (Or.inl rfl) (pe_lstS pa_nil))
    (pss_cons (ps_for PassesOwn.never rfl (pi_range1 rfl zr (pa_cons (pv 3) pa_nil)) (pg_name (i := 6) nd rfl (Or.inl rfl))
     (pss_one (ps_expr (pe_bm PySem.F.plainAttrs_list PySem.F.slot_list_append PySem.F.type_list_append mt_append (pv 5)
      (pa_cons (pe_tupS (pa_cons (pe_ix ix_list (pv 4) (pe_call GD hr rfl mD FD.kp bD .nil pass0 (pa_cons (pv 0) (pa_cons (pe_callB call_len_seq (by rfl) zl boot_len (pa_cons (pv 4) pa_nil)) pa_nil))) (fun _ _ => rfl))
       (pa_cons (pe_call GD hr rfl mD FD.kp bD .nil pass0 (pa_cons (pv 0) (pa_cons (pv 2) pa_nil))) pa_nil))) pa_nil)))))
    (pss_one (ps_ret (pe_tupS (pa_cons (pv 2) (pa_cons (pe_callTy call_tupOf (by rfl) zt boot_tuple (pa_cons (pe_callB call_sortedPS (by rfl) zs boot_sorted (pa_cons (pv 5) pa_nil)) pa_nil)) pa_nil)))))))))), ?_⟩
   -- pages
   refine ⟨_, rfl, (by show 3 ≤ sizeLine; decide), fun l1 H1 s1 n1 e1 => ?_⟩
   refine ⟨_, rfl, p, 3, rfl, by decide, by decide, hh.same s1, fun v1 H2 a1 b1 h2 k2 => ?_⟩
   have q1 : H2 l1 = _ := k2 l1 _ e1 (hh.ne n1)
   obtain ⟨lim, hm, hat⟩ := atI_ints (ns := [4, 8, 12]) a1 (by simpa using b1)
   have hlim : 4 ≤ lim ∧ lim ≤ 12 := by simp at hm; omega
   refine ⟨l1, _, v1, .int lim, rfl, rfl, SqL.of q1, hat, ?_⟩
   refine ⟨p, lim, rfl, by omega, by omega, h2, fun v2 H3 a2 b2 h3 k3 => ?_⟩
   have K3 : Kp p H H3 := (Same.kp s1).trans (k2.trans k3)
   refine ⟨_, _, rfl, rfl, ?_⟩
   -- many
   refine ⟨_, rfl, _, rfl, _, _, rfl, rfl, .inl ⟨by decide, by decide⟩, _, _, rfl, rfl, (by show 4 ≤ sizeLine; decide), fun l2 H4 s4 n4 e4 => ?_⟩
   refine ⟨_, rfl, p, 4, rfl, by decide, by decide, h3.same s4, fun v3 H5 a3 b3 h5 k5 => ?_⟩
   have q4 : H5 l2 = _ := k5 l2 _ e4 (h3.ne n4)
   obtain ⟨lim2, hm2, hat2⟩ := atI_ints (ns := [4, 2 * (1 + v2) + 1, 25, 61]) a3 (by simpa using b3)
   have hlim2 : 3 ≤ lim2 ∧ lim2 ≤ 61 := by simp at hm2; omega
   refine ⟨l2, _, v3, .int lim2, rfl, rfl, SqL.of q4, hat2, ?_⟩
   refine ⟨p, lim2, rfl, by omega, by omega, h5, fun v4 H6 a4 b4 h6 k6 => ?_⟩
   have K6 : Kp p H H6 := K3.trans ((Same.kp s4).trans (k5.trans k6))
   -- if great
   refine ⟨fun σ H' => H6 = H' ∧ ∃ pages many : Int, 1 ≤ pages ∧ pages ≤ 12 ∧ 0 ≤ many ∧ many ≤ 60 ∧ σ = [some (.ref p), some (.bl great), some (.int pages), some (.int many), none, none, none], ?_, ?_⟩
   · refine ⟨_, rfl, great, rfl, ?_⟩
     cases great with
     | true => exact iteT ⟨rfl, 12, 60, by decide, by decide, by decide, by decide, rfl⟩
     | false => exact iteF ⟨rfl, 1 + v2, v4, by omega, by omega, by omega, by omega, rfl⟩
   rintro σ H' ⟨rfl, pages, many, hp1, hp2, hm1, hm2', rfl⟩
   -- starts
   refine ⟨_, rfl, pages, rfl, by omega, by omega, fun D hD => ?_⟩
   have hDp := h6.ne hD
   refine comp_rng (lo := 0) (n := pages.toNat) (D := D) (fun i ys σ H' => HandAt H' p ∧ Kp p H6 H' ∧ H' D = some (.lst ys) ∧ (∃ ns : List Int, ys = ns.map V.int ∧ ns.length ≤ i ∧ ∀ n ∈ ns, 0 ≤ n ∧ n < pages) ∧ ∃ x, σ = [x, some (.ref p)]) ?_ ?_ ?_ ?_
   · exact ⟨h6.new hD, Kp.new hD, upd_same, ⟨[], rfl, Nat.le_refl _, fun n hn => by simp at hn⟩, none, rfl⟩
   · rintro i ys σ H' ⟨_, _, e, _⟩
     exact e
   · rintro i ys σ H' hi ⟨g1, g2, g3, ⟨ns, rfl, g4, g5⟩, x, rfl⟩
     refine ⟨_, rfl, p, 4, rfl, by decide, by decide, g1, fun v H7 a b h7 k7 => ?_⟩
     have g3' : H7 D = _ := k7 D _ g3 hDp
     refine ⟨_, _, rfl, rfl, _, rfl, ?_⟩
     refine if2 (fun _ => ?_) (fun _ => ?_)
     · refine ⟨_, rfl, g3', ?_, Wt.next hi ⟨h7.set (Ne.symm hDp), fun b o e n => ?_, upd_same, ⟨ns ++ [0 + (i : Int)], ?_, ?_, ?_⟩, _, rfl⟩⟩
       · rw [List.length_map]
         exact small1000 (by omega)
       · have hb : b ≠ D := ne_of_none e hD
         rw [upd_ne hb]; exact k7 b o (g2 b o e n) n
       · rw [List.map_append]; rfl
       · rw [List.length_append, List.length_singleton]; omega
       · intro n hn
         rcases List.mem_append.mp hn with hn | hn
         · exact g5 n hn
         · simp at hn
           omega
     · exact Wt.next hi ⟨h7, g2.trans k7, g3', ⟨ns, rfl, by omega, g5⟩, _, rfl⟩
   rintro ys σ H7 ⟨g1, g2, g3, ⟨ns, rfl, g4, g5⟩, _⟩
   refine ⟨_, rfl, _, _, rfl, rfl, (by show 1 ≤ sizeLine; decide), fun l3 H8 s8 n8 e8 => ?_⟩
   refine ⟨D, l3, ns.map V.int, [V.int (pages - 1)], rfl, rfl, s8 _ _ g3, e8, ?_, fun st H9 s9 n9 e9 => ?_⟩
   · rw [List.length_map]
     exact Nat.le_of_lt (small1000 (by simp; omega))
   have e9' : H9 st = some (.lst ((ns ++ [pages - 1]).map V.int)) := by rw [List.map_append]; exact e9
   have hst : ∀ n ∈ ns ++ [pages - 1], 0 ≤ n ∧ n < pages := fun n hn => by
    rcases List.mem_append.mp hn with hn | hn
    · exact g5 n hn
    · simp at hn
      omega
   generalize hss : ns ++ [pages - 1] = ss at e9' hst
   have hsl : 1 ≤ ss.length ∧ ss.length ≤ 13 := by rw [← hss, List.length_append, List.length_singleton]; omega
   have h9 : HandAt H9 p := (g1.same s8).same s9
   have K9 : Kp p H H9 := K6.trans (g2.trans ((Same.kp s8).trans (Same.kp s9)))
   -- links
   refine ⟨(by show 0 ≤ sizeLine; decide), fun lk HA sA nA eA => ?_⟩
   have hA := h9.same sA
   have KA : Kp p H HA := K9.trans (Same.kp sA)
   have lkn : H lk = none := K9.free h9 nA
   have stp : st ≠ p := (g1.same s8).ne n9
   have lkp : lk ≠ p := h9.ne nA
   have stlk : st ≠ lk := ne_of_none e9' nA
   refine ⟨_, rfl, many, rfl, by omega, by omega, ?_⟩
   refine for_range (lo := 0) (n := many.toNat) (fun i σ H' => HandAt H' p ∧ Kp p H H' ∧ H' st = some (.lst (ss.map V.int)) ∧ (∃ (vs : List V) (ps : List (Int × Int)), H' lk = some (.lst vs) ∧ Prs K H' ps vs ∧ ps.length = i ∧ ∀ q ∈ ps, 0 ≤ q.1 ∧ q.1 < pages ∧ 0 ≤ q.2 ∧ q.2 < pages) ∧
    ∃ kv, σ = [some (.ref p), some (.bl great), some (.int pages), some (.int many), some (.ref st), some (.ref lk), kv]) ?_ ?_ ?_
   · exact ⟨hA, KA, sA _ _ e9', ⟨[], [], eA, prs_nil, rfl, fun q hq => by simp at hq⟩, none, rfl⟩
   · rintro i σ H' hi ⟨c1, c2, c3, ⟨vs, ps, c4, c5, c6, c7⟩, kv, rfl⟩
     refine ⟨_, rfl, .inl ⟨rfl, _, SqL.of c4⟩, ?_⟩
     refine ⟨_, rfl, _, rfl, _, rfl, st, _, rfl, .inl (SqL.of c3), p, _, rfl, ?_, ?_, c1, fun v HB a b hB kB => ?_⟩
     · show (0 : Int) < ((ss.map V.int).length : Nat)
       rw [List.length_map]; omega
     · show (((ss.map V.int).length : Nat) : Int) < 2 ^ 60
       rw [List.length_map]; omega
     have b' : v < ss.length := by rw [List.length_map] at b; exact b
     obtain ⟨z, hz, hzat⟩ := atI_ints (ns := ss) a b'
     refine ⟨st, _, v, .int z, rfl, rfl, SqL.of (kB _ _ c3 stp), hzat, ?_⟩
     refine ⟨_, rfl, _, rfl, p, pages, rfl, by omega, by omega, hB, fun v' HC a' b'' hC kC => ?_⟩
     refine ⟨(by show 2 ≤ sizeLine; decide), fun t HE sE nE eE => ?_⟩
     have klE : KL H' HE := (c1.kl kB).trans ((hB.kl kC).trans sE.kl)
     have kpE : Kp p H' HE := kB.trans (kC.trans (Same.kp sE))
     have lkE : HE lk = some (.lst vs) := kpE _ _ c4 lkp
     have hE := hC.same sE
     have szz := hst z hz
     refine ⟨lk, vs, _, rfl, rfl, lkE, ?_, ?_⟩
     · rw [c5.len, c6]
       exact small1000 (by omega)
     have klF : KL HE (upd HE lk (.lst (vs ++ [.ref t]))) := KL.set lkE
     refine ⟨hE.set (Ne.symm lkp), fun x o e n => ?_, ?_, ⟨vs ++ [.ref t], ps ++ [(z, v')], upd_same, ?_, ?_, ?_⟩, _, rfl⟩
     · rw [upd_ne (ne_of_none e lkn)]
       exact kpE x o (c2 x o e n) n
     · rw [upd_ne stlk]
       exact kpE _ _ c3 stp
     · exact Prs.snoc (p := (z, v')) (klF.seqT (SqT.of eE)) ((c5.kl klE).kl klF)
     · rw [List.length_append, List.length_singleton]; omega
     · intro q hq
       rcases List.mem_append.mp hq with hq | hq
       · exact c7 q hq
       · simp at hq
         subst hq
         exact ⟨szz.1, szz.2, a', b''⟩
   · rintro σ H' ⟨c1, c2, c3, ⟨vs, ps, c4, c5, c6, c7⟩, kv, rfl⟩
     refine ⟨_, rfl, _, rfl, lk, vs, ps, rfl, SqL.of c4, c5, by omega, fun us ms D2 HD pm up hp2 sD hD2 eD2 => ?_⟩
     refine ⟨D2, us, rfl, SqL.of eD2, fun ws HF sF nF eF => ?_⟩
     refine ⟨(by show 2 ≤ sizeLine; decide), fun wa HG sG nG eG => ?_⟩
     have sAll : Same H' HG := sD.trans (sF.trans sG)
     refine k wa HG pages ms ⟨hp1, ‹pages ≤ 12›, ?_, up, fun q hq => c7 q (pm.mem_iff.mp hq)⟩ ⟨ws, us, eG, sG _ _ eF, (hp2.kl sF.kl).kl sG.kl⟩ (c1.same sAll) (c2.trans (Same.kp sAll))
     rw [pm.length_eq, c6]
     omega
theorem d_draw (S : Fnd K mg "_law_draw" sDraw ["hand", "limit"]) : Def P w K mg base 1 "_law_draw" ["hand", "limit"] spDraw := S.def fun f fd F => ok_draw F
theorem d_hand (S : Fnd K mg "_law_hand" sHand ["cell", "k"]) : Def P w K mg base 1 "_law_hand" ["cell", "k"] spHand := S.def fun f fd F => ok_hand F
theorem d_cells (S : Fnd K mg "_law_cells" sCells ["script", "many"]) (T : Txt mg) : Def P w K mg base 1 "_law_cells" ["script", "many"] (spCells K) := S.def fun f fd F => ok_cells F T.lst T.enu T.int
theorem d_great (S : Fnd K mg "_law_great" sGreat ["script"]) (T : Txt mg) : Def P w K mg base 1 "_law_great" ["script"] (spGreat K) := S.def fun f fd F => ok_great F T.sum
theorem d_web (S : Fnd K mg "_law_web" sWeb ["hand", "great"]) (T : Txt mg) (D : Fnd K mg "_law_draw" sDraw ["hand", "limit"]) : Def P w K mg base 2 "_law_web" ["hand", "great"] (spWeb K) := by
 obtain ⟨fD, fdD, FD, mD, bD⟩ := D
 exact S.def fun f fd F => ok_web F T.range T.len T.tup T.srt FD mD bD
theorem scWhole : FnScope ["thing"] ["thing"] (defScope sWhole) := ⟨rfl, rfl, rfl, by decide +kernel, rfl, by decide +kernel, by decide +kernel⟩
set_option maxHeartbeats 0 in
theorem d_is_whole (S : Fnd K mg "is_whole" sWhole ["thing"]) (T : Txt mg)  : Def P w K mg base 1 "is_whole" ["thing"] (spWholeT K) := S.def fun f fd F => by
 have nd := scWhole.nd
 refine F.ok scWhole (fun vs H Q E h => ?_) (fun cdv A' outer s H vs Q E hr h => ?_)
 · obtain ⟨_, _, rfl, _⟩ := h
   rfl
 · obtain ⟨v, o, rfl, h, k⟩ := h
   refine ⟨_, (@pss_one _ _ _ (@ps_ret _ _ _ _ (pe_and (pe_callB call_isi (by rfl) T.isi boot_isinstance (@pa_consX _ _ _ _ _ (by rfl) (pv 0) (@pa_consX _ _ _ _ _ (by rfl) (pe_bltn (v := .ty "int") (by rfl) T.int boot_int rfl) pa_nil))) (pe_one (pe_not (pe_callB call_isi (by rfl) T.isi boot_isinstance (@pa_consX _ _ _ _ _ (by rfl) (pv 0) (@pa_consX _ _ _ _ _ (by rfl) (pe_bltn (v := .ty "bool") (by rfl) T.bool boot_bool rfl) pa_nil)))))))), ?_⟩
   cases h with
   | int i => exact ⟨_, rfl, _, _, _, true, rfl, .int i, isi_ii _, _, rfl, ifT rfl ⟨_, rfl, _, _, _, false, rfl, .int i, isi_ib _, _, rfl, k⟩⟩
   | bl b => exact ⟨_, rfl, _, _, _, true, rfl, .bl b, isi_bi _, _, rfl, ifT rfl ⟨_, rfl, _, _, _, true, rfl, .bl b, isi_bb _, _, rfl, k⟩⟩
   | oth ty e => exact ⟨_, rfl, _, _, _, false, rfl, ty, e, _, rfl, ifF rfl k⟩
theorem scPair : FnScope ["thing"] ["thing"] (defScope sPair) := ⟨rfl, rfl, rfl, by decide +kernel, rfl, by decide +kernel, by decide +kernel⟩
set_option maxHeartbeats 0 in
theorem d_is_pair_of_wholes (S : Fnd K mg "is_pair_of_wholes" sPair ["thing"]) (T : Txt mg) (Wh : Def P w K mg base 1 "is_whole" ["thing"] (spWholeT K)) : Def P w K mg base 2 "is_pair_of_wholes" ["thing"] (spPairG K) := S.def fun f fd F => by
 have nd := scPair.nd
 refine F.ok scPair (fun vs H Q E h => ?_) (fun cdv A' outer s H vs Q E hr h => ?_)
 · obtain ⟨_, _, rfl, _⟩ := h
   rfl
 · obtain ⟨v, o, rfl, ht, k⟩ := h
   refine ⟨_, (@pss_one _ _ _ (@ps_ret _ _ _ _ (pe_and (pe_callB call_isiG (by rfl) T.isi boot_isinstance (@pa_consX _ _ _ _ _ (by rfl) (pv 0) (@pa_consX _ _ _ _ _ (by rfl) (pe_bltn (v := .ty "tuple") (by rfl) T.tup boot_tuple rfl) pa_nil))) (pe_and (pe_cmpR op_eq (pe_callB call_len_seq (by rfl) T.len PySem.boot_len (@pa_consX _ _ _ _ _ (by rfl) (pv 0) pa_nil)) pe_int (nomark _)) (pe_and (pe_def (by rfl) (by rfl) (by rfl) (by decide) Wh (hr.mono (by decide)) (@pa_consX _ _ _ _ _ (by rfl) (pe_ix ix_tup (pv 0) pe_int (fun _ _ => rfl)) pa_nil)) (pe_one (pe_def (by rfl) (by rfl) (by rfl) (by decide) Wh (hr.mono (by decide)) (@pa_consX _ _ _ _ _ (by rfl) (pe_ix ix_tup (pv 0) pe_int (fun _ _ => rfl)) pa_nil)))))))), ?_⟩
   cases ht with
   | no ty e => exact ⟨_, rfl, _, _, _, false, rfl, ty, e, _, rfl, ifF rfl k⟩
   | @len q xs e l =>
     refine ⟨_, rfl, _, _, _, true, rfl, TyG.tup e, isi_tt _, _, rfl, ifT rfl ?_⟩
     refine ⟨_, rfl, q, _, rfl, .inr e, rfl, _, rfl, ifF (decide_eq_false fun z => ?_) ?_⟩
     · have := V.int.inj z
       omega
     · exact k
   | @two q x y ox oy hq hx hy =>
     refine ⟨_, rfl, _, _, _, true, rfl, TyG.tup hq, isi_tt _, _, rfl, ifT rfl ?_⟩
     refine ⟨_, rfl, q, _, rfl, .inr hq, rfl, _, rfl, ifT rfl ?_⟩
     refine ⟨_, rfl, q, _, _, _, rfl, rfl, hq, rfl, _, _, rfl, hx, _, rfl, ?_⟩
     cases ox with
     | none => exact ifF rfl k
     | some i =>
       refine ifT rfl ⟨_, rfl, q, _, _, _, rfl, rfl, hq, rfl, _, _, rfl, hy, ?_⟩
       cases oy with
       | none => exact k
       | some j => exact k
end
end Lw

set_option pp.maxSteps 800
namespace Lw
open PySem L2 PyProof.Rows
section
variable {P : Program} {w : World} {K : PySem.W.Frag} {mg : Str → Option Value} {base : Heap}
theorem sc_is_link : FnScope ["pages", "thing"] ["pages", "thing"] (defScope s_is_link) := ⟨rfl, rfl, rfl, by decide +kernel, rfl, by decide +kernel, by decide +kernel⟩
set_option maxHeartbeats 0 in
theorem d_is_link (S : Fnd K mg "is_link" s_is_link ["pages", "thing"]) (T : Txt mg) (Pa : Def P w K mg base 2 "is_pair_of_wholes" ["thing"] (spPairG K)) : Def P w K mg base 3 "is_link" ["pages", "thing"] (spIsLinkG K) := S.def fun f fd F => by
 have nd := sc_is_link.nd
 refine F.ok sc_is_link (fun vs H Q E h => ?_) (fun cdv A' outer s H vs Q E hr h => ?_)
 · obtain ⟨_, _, _, rfl, _⟩ := h
   rfl
 · obtain ⟨n, v, o, rfl, ht, k⟩ := h
   refine ⟨_, (@pss_one _ _ _ (@ps_ret _ _ _ _ (pe_and (pe_def (by rfl) (by rfl) (by rfl) (by decide) Pa (hr.mono (by decide)) (@pa_consX _ _ _ _ _ (by rfl) (pv 1) pa_nil)) (pe_and (pe_chain op_le op_lt pe_int (pe_ix ix_tup (pv 1) pe_int (fun _ _ => rfl)) (pv 0) (by with_unfolding_all rfl)) (pe_one (pe_chain op_le op_lt pe_int (pe_ix ix_tup (pv 1) pe_int (fun _ _ => rfl)) (pv 0) (by with_unfolding_all rfl))))))), ?_⟩
   refine ⟨_, rfl, v, o, rfl, ht, _, rfl, ?_⟩
   cases ht with
   | no ty e => exact ifF rfl k
   | len e l => exact ifF rfl k
   | @two q x y ox oy hq hx hy =>
     cases ox with
     | none => exact ifF rfl k
     | some i =>
     cases oy with
     | none => exact ifF rfl k
     | some j =>
       obtain rfl := hx.some
       obtain rfl := hy.some
       have k : Q (.bl (decide (0 ≤ i ∧ i < n ∧ 0 ≤ j ∧ j < n))) H := k
       refine ifT rfl ?_
       refine ⟨_, rfl, q, _, _, _, rfl, rfl, hq, rfl, _, _, rfl, rfl, _, rfl, ?_⟩
       rcases (Decidable.em (0 ≤ i)).symm with h1 | h1
       · rw [decide_eq_false (fun z => h1 z.1)] at k
         rw [decide_eq_false h1]
         exact ifF rfl ⟨_, rfl, ifF rfl k⟩
       rw [decide_eq_true h1]
       refine ifT rfl ⟨_, rfl, _, _, rfl, rfl, _, rfl, ?_⟩
       rcases (Decidable.em (i < n)).symm with h2 | h2
       · rw [decide_eq_false (fun z => h2 z.2.1)] at k
         rw [decide_eq_false h2]
         exact ifF rfl k
       rw [decide_eq_true h2]
       refine ifT rfl ?_
       refine ⟨_, rfl, q, _, _, _, rfl, rfl, hq, rfl, _, _, rfl, rfl, _, rfl, ?_⟩
       rcases (Decidable.em (0 ≤ j)).symm with h3 | h3
       · rw [decide_eq_false (fun z => h3 z.2.2.1)] at k
         rw [decide_eq_false h3]
         exact ifF rfl k
       rw [decide_eq_true h3]
       refine ifT rfl ⟨_, rfl, _, _, rfl, rfl, ?_⟩
       rw [decide_eq_decide.mpr (show (0 ≤ i ∧ i < n ∧ 0 ≤ j ∧ j < n) ↔ j < n from ⟨fun z => z.2.2.2, fun z => ⟨h1, h2, h3, z⟩⟩)] at k
       exact k
theorem sc_are_rising : FnScope ["links"] ["links"] (defScope s_are_rising) := ⟨rfl, rfl, rfl, by decide +kernel, rfl, by decide +kernel, by decide +kernel⟩
set_option maxHeartbeats 0 in
theorem d_are_rising (S : Fnd K mg "are_rising" s_are_rising ["links"]) (T : Txt mg) (zall : mg "all" = none) : Def P w K mg base 1 "are_rising" ["links"] (spRisingB K) := S.def fun f fd F => by
 have nd := sc_are_rising.nd
 refine F.ok sc_are_rising (fun vs H Q E h => ?_) (fun cdv A' outer s H vs Q E hr h => ?_)
 · obtain ⟨_, _, _, rfl, _⟩ := h
   rfl
 · obtain ⟨t, us, ps, rfl, et, hp, few, k⟩ := h
   refine ⟨_, (@pss_one _ _ _ (@ps_ret _ _ _ _ (pe_callB (call_all rfl) (by rfl) zall boot_all (@pa_consX _ _ _ _ _ (by rfl) (pe_compC ["one", "other"] [none, none] rfl (pi_zipSK (by rfl) (by rfl) (by rfl) rfl T.zip (@pa_consX _ _ _ _ _ (by rfl) (pv 0) (@pa_consX _ _ _ _ _ (by rfl) (pe_slice sl_tupB (pv 0) (po_some pe_int) po_none) pa_nil))) (by show ∀ y : Str × NameKind, y ∈ _ → y.2 = NameKind.free → (defScope s_are_rising).names.lookup y.1 = some .cell; decide +kernel) (by decide) rfl (by decide +kernel) trivial
    (fun cl C s H fp => (pg_tupK (K := K) 2 rfl rfl (pgs_cons (pg_name (i := 0) (show (["one", "other"] : List Str).Nodup by decide +kernel) rfl (Or.inl rfl) (.inr rfl)) (pgs_cons (pg_name (i := 1) (show (["one", "other"] : List Str).Nodup by decide +kernel) rfl (Or.inl rfl) (.inr rfl)) pgs_nil))))
    (fun cl C s H fp => pts_nil)
    (fun cl C s H fp => (pe_cmpR (op_leTK (K := K) rfl hr.units0) (pv 0) (pv 1) (nomark _)))) pa_nil)))), ?_⟩
   have hl := hp.len
   refine ⟨_, rfl, _, rfl, _, rfl, ?_⟩
   cases us with
   | nil =>
     refine .inl ⟨t, rfl, SqT.of et, false, false, t, t, [], [], rfl, sqf (SqT.of et), sqf (SqT.of et), fun D hD => ?_⟩
     refine comp_zipT (K := K) (b1 := false) (b2 := false) (a := t) (b := t) (D := D) (xs := []) (zs := []) (Nat.le_refl _) (fun i ys σ G => Same H G ∧ G D = some (.lst ys) ∧ ys = []) ⟨Same.new hD, upd_same, rfl⟩ ?_ ?_ ?_
     · rintro i ys σ G ⟨s, e, _⟩
       exact ⟨sqf (SqT.of (s _ _ et)), sqf (SqT.of (s _ _ et)), e⟩
     · rintro i x z ys σ G T G' h1 _ hlt
       exact absurd hlt (Nat.not_lt_zero _)
     · rintro ys σ G ⟨s, e, rfl⟩
       refine ⟨D, [], rfl, SqL.of e, ?_⟩
       have := k G s
       rw [decide_eq_true (by rw [List.length_eq_zero_iff.mp hl.symm]; exact List.Pairwise.nil)] at this
       exact this
   | cons u us =>
     refine .inr ⟨t, _, rfl, SqT.of et, ?_, fun q G1 s1 m1 e1 => ?_⟩
     · rw [show (some (1 : Int)) = some ((1 : Nat) : Int) from rfl, HT.sIx_nat, HT.sIx_none, List.length_cons]; omega
     have ec : cutV (u :: us) (some 1) none = us := by
      unfold cutV
      rw [show (some (1 : Int)) = some ((1 : Nat) : Int) from rfl, HT.sIx_nat, HT.sIx_none, List.length_cons, Nat.min_eq_left (by omega)]
      show (us.take _) = us
      exact List.take_of_length_le (by omega)
     rw [ec] at e1
     rw [List.length_cons] at hl
     have hp1 := hp.kl s1.kl
     refine ⟨false, false, t, q, u :: us, us, rfl, sqf (SqT.of (s1 _ _ et)), sqf (SqT.of e1), fun D hD => ?_⟩
     refine comp_zipT (K := K) (b1 := false) (b2 := false) (a := t) (b := q) (D := D) (xs := u :: us) (zs := us) (by rw [List.length_cons]; omega) (fun i ys σ G => Same G1 G ∧ G D = some (.lst ys) ∧ ys = ((adj ps).take i).map V.bl ∧ ∃ v w, σ = [v, w]) ⟨Same.new hD, upd_same, rfl, none, none, rfl⟩ ?_ ?_ ?_
     · rintro i ys σ G ⟨s, e, _⟩
       exact ⟨sqf (SqT.of (s _ _ (s1 _ _ et))), sqf (SqT.of (s _ _ e1)), e⟩
     · rintro i x z ys σ G T G' hx hz hlt ⟨sG, eD, rfl, v, w, rfl⟩ hT sT eT
       have hpG := hp1.kl (sG.trans sT).kl
       obtain ⟨ax, px, ex, rfl, hqx⟩ := hpG.get hx
       obtain ⟨az, pz, ez, rfl, hqz⟩ := hpG.get (i := i + 1) (by simpa using hz)
       have lr := adj_get ps i px pz ex ez
       refine ⟨T, _, rfl, SqT.of eT, rfl, _, _, rfl, _, _, rfl, rfl, ?_⟩
       refine ifT rfl ?_
       refine ⟨_, rfl, _, rfl, ax, az, [px.1, px.2], [pz.1, pz.2], rfl, rfl, hqx, hqz, sT _ _ eD, (by rw [List.length_map, List.length_take, adj_len, sizeLine_eq]; omega), Wt.next hlt ⟨fun b o e => by rw [upd_ne (ne_of_none e hD)]; exact sT _ _ (sG _ _ e), upd_same, ?_, _, _, rfl⟩⟩
       rw [List.take_add_one, lr, List.map_append]
       rfl
     · rintro ys σ G ⟨s, e, rfl, _⟩
       refine ⟨D, _, rfl, SqL.of e, ?_⟩
       rw [List.take_of_length_le (by rw [adj_len]; omega), adj_all]
       exact k G (s1.trans s)
end
end Lw

set_option pp.maxSteps 800
namespace Lw
open PySem L2 PyProof.Rows
section
variable {P : Program} {w : World} {K : PySem.W.Frag} {mg : Str → Option Value} {base : Heap}
theorem sc_are_links : FnScope ["pages", "thing"] ["pages", "thing"] (defScope s_are_links) := ⟨rfl, rfl, rfl, by decide +kernel, rfl, by decide +kernel, by decide +kernel⟩
set_option maxHeartbeats 0 in
theorem d_are_links (S : Fnd K mg "are_links" s_are_links ["pages", "thing"]) (T : Txt mg) {tP tL : Tok} (mP : mg "MOST_PAGES" = some (.int 12 tP)) (mL : mg "MOST_LINKS" = some (.int 60 tL)) (zall : mg "all" = none) (Il : Def P w K mg base 3 "is_link" ["pages", "thing"] (spIsLinkG K)) (Ri : Def P w K mg base 1 "are_rising" ["links"] (spRisingB K)) : Def P w K mg base 4 "are_links" ["pages", "thing"] (spAreLkG K) := S.def fun f fd F => by
 have nd := sc_are_links.nd
 refine F.ok sc_are_links (fun vs H Q E h => ?_) (fun cdv A' outer s H vs Q E hr h => ?_)
 · obtain ⟨n, v, ⟨_, _, _, rfl, _⟩ | ⟨_, _, _, _, _, _, rfl, _⟩⟩ := h <;> rfl
 · have h' := h
   obtain ⟨n, v, h⟩ := h
   obtain rfl : vs = [.int n, v] := by rcases h with ⟨_, _, _, e, _⟩ | ⟨_, _, _, _, _, _, e, _⟩ <;> exact e
   refine ⟨_, (@pss_cons _ _ _ _ _ (@ps_if _ _ _ _ _ _ _ _ (PW.pt (pw_or (pt_not (pt_val (pe_callB call_isiG (by rfl) T.isi boot_isinstance (@pa_consX _ _ _ _ _ (by rfl) (pv 1) (@pa_consX _ _ _ _ _ (by rfl) (pe_bltn (v := .ty "tuple") (by rfl) T.tup boot_tuple rfl) pa_nil))))) (pw_or1 (pt_cmpR op_gt (pe_callB call_len_seq (by rfl) T.len PySem.boot_len (@pa_consX _ _ _ _ _ (by rfl) (pv 1) pa_nil)) (pe_glob (v := .int 60) (by rfl) mL ⟨_, rfl⟩) (nomark _)))))
    (@pss_one _ _ _ (@ps_ret _ _ _ _ pe_bl))
    pss_nil)
    (@pss_one _ _ _ (@ps_ret _ _ _ _ (pe_and (pe_callB (call_all rfl) (by rfl) zall boot_all (@pa_consX _ _ _ _ _ (by rfl) (pe_compC ["each", "pages"] [none, some 0] rfl (pi_tup (pv 1)) (by show ∀ y : Str × NameKind, y ∈ _ → y.2 = NameKind.free → (defScope s_are_links).names.lookup y.1 = some .cell; decide +kernel) (by decide) rfl (by decide +kernel) ⟨⟨rfl, rfl, .inl rfl⟩, trivial⟩
     (fun cl C s H fp => (pg_name (i := 0) (show (["each", "pages"] : List Str).Nodup by decide +kernel) rfl (Or.inl rfl) (.inr rfl)))
     (fun cl C s H fp => pts_nil)
     (fun cl C s H fp => (pe_def (by rfl) (by rfl) (by rfl) (by decide) Il (hr.mono (by decide)) (@pa_consX _ _ _ _ _ (by rfl) (pv 1) (@pa_consX _ _ _ _ _ (by rfl) (pv 0) pa_nil))))) pa_nil)) (pe_one (pe_def (by rfl) (by rfl) (by rfl) (by decide) Ri (hr.mono (by decide)) (@pa_consX _ _ _ _ _ (by rfl) (pv 1) pa_nil))))))), ?_⟩
   rcases h with ⟨tv, ty, et, _, k⟩ | ⟨t, us, os, rfl, et, hp, _, k⟩
   · exact ⟨_, rfl, _, _, _, false, rfl, ty, et, _, rfl, ifT rfl k⟩
   have hl := paired_len hp
   refine ⟨_, rfl, _, _, _, true, rfl, TyG.tup (SqT.of et), isi_tt _, _, rfl, ifF rfl ?_⟩
   have no : ∀ H', Same H H' → lkOk n os = false → Q (.bl false) H' := fun H' s h => by
    have := k H' s
    rwa [h] at this
   refine ⟨_, rfl, t, _, rfl, .inr (SqT.of et), _, _, rfl, rfl, _, rfl, ?_⟩
   by_cases h60 : us.length ≤ 60
   case neg => exact ifT (decide_eq_true (show (60 : Int) < ((us.length : Nat) : Int) by omega)) (no H (Same.refl H) (by unfold lkOk; rw [decide_eq_false (by omega)]; rfl))
   refine ifF (decide_eq_false (show ¬ (60 : Int) < ((us.length : Nat) : Int) by omega)) ?_
   refine ⟨_, rfl, t, rfl, ⟨_, SqT.of et⟩, fun D hD => ?_⟩
   refine comp_tup (K := K) (a := t) (D := D) (xs := us) (fun i ys σ G => Same H G ∧ G D = some (.lst ys) ∧ ys = ((os.take i).map (lkIn n)).map V.bl ∧ ∃ v, σ = [v, some (.int n)]) ⟨Same.new hD, upd_same, rfl, none, rfl⟩ ?_ ?_ ?_
   · rintro i ys σ G ⟨s, e, _⟩
     exact ⟨SqT.of (s _ _ et), e⟩
   · rintro i x ys σ G hx hlt ⟨sG, eD, rfl, v, rfl⟩
     obtain ⟨o, ex, tx⟩ := paired_get hp hx
     dsimp only [gName]
     rw [if_pos rfl]
     refine ⟨_, rfl, _, rfl, n, _, o, rfl, tx.kv (h := 0) sG.kv, eD, (by rw [List.length_map, List.length_map, List.length_take, sizeLine_eq]; omega), Wt.next hlt ⟨fun b o e => by rw [upd_ne (ne_of_none e hD)]; exact sG _ _ e, upd_same, ?_, _, rfl⟩⟩
     rw [List.take_add_one, ex, List.map_append, List.map_append]
     rfl
   · rintro ys σ G ⟨s, e, rfl, _⟩
     refine ⟨D, _, rfl, SqL.of e, ?_⟩
     rw [List.take_of_length_le (by omega), List.all_map]
     have ea : os.all (id ∘ lkIn n) = os.all (lkIn n) := rfl
     rw [ea]
     cases rng : os.all (lkIn n) with
     | false => exact ⟨_, rfl, ifF rfl (no G s (by unfold lkOk; rw [rng]; simp))⟩
     | true =>
       have hl2 := (tp2_prs hp rng).len
       refine ⟨_, rfl, ifT rfl ⟨_, rfl, t, us, os.filterMap id, rfl, s _ _ et, (tp2_prs hp rng).kl s.kl, by omega, fun G' s' => ?_⟩⟩
       have := k G' (s.trans s')
       unfold lkOk at this
       rwa [rng, decide_eq_true (show os.length ≤ 60 by omega), Bool.true_and, Bool.true_and] at this
theorem sc_is_web : FnScope ["thing", "pages"] ["thing"] (defScope s_is_web) := ⟨rfl, rfl, rfl, by decide +kernel, rfl, by decide +kernel, by decide +kernel⟩
set_option maxHeartbeats 0 in
theorem d_is_web (S : Fnd K mg "is_web" s_is_web ["thing"]) (T : Txt mg) {tP tL : Tok} (mP : mg "MOST_PAGES" = some (.int 12 tP)) (mL : mg "MOST_LINKS" = some (.int 60 tL)) (Wh : Def P w K mg base 1 "is_whole" ["thing"] (spWholeT K)) (Al : Def P w K mg base 4 "are_links" ["pages", "thing"] (spAreLkG K)) : Def P w K mg base 5 "is_web" ["thing"] (spIsWebG K) := S.def fun f fd F => by
 have nd := sc_is_web.nd
 refine F.ok sc_is_web (fun vs H Q E h => ?_) (fun cdv A' outer s H vs Q E hr h => ?_)
 · obtain ⟨_, _, rfl, _⟩ := h
   rfl
 · obtain ⟨v, c, rfl, hw, k⟩ := h
   refine ⟨_, (@pss_cons _ _ _ _ _ (@ps_if _ _ _ _ _ _ _ _ (PW.pt (pw_or (pt_not (pt_val (pe_callB call_isiG (by rfl) T.isi boot_isinstance (@pa_consX _ _ _ _ _ (by rfl) (pv 0) (@pa_consX _ _ _ _ _ (by rfl) (pe_bltn (v := .ty "tuple") (by rfl) T.tup boot_tuple rfl) pa_nil))))) (pw_or1 (pt_cmpR op_ne (pe_callB call_len_seq (by rfl) T.len PySem.boot_len (@pa_consX _ _ _ _ _ (by rfl) (pv 0) pa_nil)) pe_int (nomark _)))))
    (@pss_one _ _ _ (@ps_ret _ _ _ _ pe_bl))
    pss_nil)
    (@pss_cons _ _ _ _ _ (@ps_setX _ _ 1 _ _ _ _ (by rfl) (Or.inl rfl) nd rfl (Or.inl rfl) (pe_ix ix_tup (pv 0) pe_int (fun _ _ => rfl)))
    (@pss_one _ _ _ (@ps_ret _ _ _ _ (pe_and (pe_def (by rfl) (by rfl) (by rfl) (by decide) Wh (hr.mono (by decide)) (@pa_consX _ _ _ _ _ (by rfl) (pv 1) pa_nil)) (pe_and (pe_chain op_le op_le pe_int (pv 1) (pe_glob (v := .int 12) (by rfl) mP ⟨_, rfl⟩) (by with_unfolding_all rfl)) (pe_one (pe_def (by rfl) (by rfl) (by rfl) (by decide) Al (hr.mono (by decide)) (@pa_consX _ _ _ _ _ (by rfl) (pv 1) (@pa_consX _ _ _ _ _ (by rfl) (pe_ix ix_tup (pv 0) pe_int (fun _ _ => rfl)) pa_nil)))))))))), ?_⟩
   cases hw with
   | no ty e => exact ⟨_, rfl, _, _, _, false, rfl, ty, e, _, rfl, ifT rfl (k _ (Same.refl _))⟩
   | @len q xs e l =>
     refine ⟨_, rfl, _, _, _, true, rfl, TyG.tup (SqT.of e), isi_tt _, _, rfl, ifF rfl ?_⟩
     exact ⟨_, rfl, q, _, rfl, .inr (SqT.of e), rfl, _, rfl, ifT (by rw [decide_eq_false fun z => by have := V.int.inj z; omega]; rfl) (k _ (Same.refl _))⟩
   | @page a p l e hp =>
     refine ⟨_, rfl, _, _, _, true, rfl, TyG.tup (SqT.of e), isi_tt _, _, rfl, ifF rfl ?_⟩
     refine ⟨_, rfl, a, _, rfl, .inr (SqT.of e), rfl, _, rfl, ifF rfl ?_⟩
     refine ⟨_, rfl, a, _, _, _, rfl, rfl, SqT.of e, rfl, ?_⟩
     exact ⟨_, rfl, _, _, rfl, hp, _, rfl, ifF rfl (k _ (Same.refl _))⟩
   | @nol a p l n t e hp ty et =>
     obtain rfl := hp.some
     refine ⟨_, rfl, _, _, _, true, rfl, TyG.tup (SqT.of e), isi_tt _, _, rfl, ifF rfl ?_⟩
     refine ⟨_, rfl, a, _, rfl, .inr (SqT.of e), rfl, _, rfl, ifF rfl ?_⟩
     refine ⟨_, rfl, a, _, _, _, rfl, rfl, SqT.of e, rfl, ?_⟩
     refine ⟨_, rfl, _, _, rfl, hp, _, rfl, ifT rfl ?_⟩
     refine ⟨_, rfl, _, _, rfl, rfl, _, rfl, ?_⟩
     by_cases h1 : 1 ≤ n
     case neg =>
      rw [decide_eq_false h1]
      exact ifF rfl ⟨_, rfl, ifF rfl (k _ (Same.refl _))⟩
     rw [decide_eq_true h1]
     refine ifT rfl ⟨_, _, rfl, rfl, _, rfl, ?_⟩
     by_cases h2 : n ≤ 12
     case neg =>
      rw [decide_eq_false h2]
      exact ifF rfl (k _ (Same.refl _))
     rw [decide_eq_true h2]
     refine ifT rfl ?_
     exact ⟨_, rfl, _, rfl, a, _, _, _, rfl, rfl, SqT.of e, rfl, n, _, .inl ⟨t, ty, et, rfl, k _ (Same.refl _)⟩⟩
   | @two a b p n ys os e hp eb f =>
     obtain rfl := hp.some
     have no : ∀ H', Same H H' → ¬ (1 ≤ n ∧ n ≤ 12) → Q (.bl false) H' := fun H' s h => by
      have : Q (.bl (decide (1 ≤ n ∧ n ≤ 12) && lkOk n os)) H' := k H' s
      rwa [decide_eq_false h] at this
     refine ⟨_, rfl, _, _, _, true, rfl, TyG.tup (SqT.of e), isi_tt _, _, rfl, ifF rfl ?_⟩
     refine ⟨_, rfl, a, _, rfl, .inr (SqT.of e), rfl, _, rfl, ifF rfl ?_⟩
     refine ⟨_, rfl, a, _, _, _, rfl, rfl, SqT.of e, rfl, ?_⟩
     refine ⟨_, rfl, _, _, rfl, hp, _, rfl, ifT rfl ?_⟩
     refine ⟨_, rfl, _, _, rfl, rfl, _, rfl, ?_⟩
     by_cases h1 : 1 ≤ n
     case neg =>
      rw [decide_eq_false h1]
      exact ifF rfl ⟨_, rfl, ifF rfl (no H (Same.refl H) fun f => h1 f.1)⟩
     rw [decide_eq_true h1]
     refine ifT rfl ⟨_, _, rfl, rfl, _, rfl, ?_⟩
     by_cases h2 : n ≤ 12
     case neg =>
      rw [decide_eq_false h2]
      exact ifF rfl (no H (Same.refl H) fun f => h2 f.2)
     rw [decide_eq_true h2]
     refine ifT rfl ?_
     refine ⟨_, rfl, _, rfl, a, _, _, _, rfl, rfl, SqT.of e, rfl, n, _, .inr ⟨b, ys, os, rfl, eb, f, rfl, fun G s => ?_⟩⟩
     have : Q (.bl (decide (1 ≤ n ∧ n ≤ 12) && lkOk n os)) G := k G s
     rwa [decide_eq_true (show 1 ≤ n ∧ n ≤ 12 from ⟨h1, h2⟩), Bool.true_and] at this
end
end Lw

set_option pp.maxSteps 800
namespace Lw
open PySem L2 PyProof.Rows
section
variable {P : Program} {w : World} {K : PySem.W.Frag} {mg : Str → Option Value} {base : Heap}
theorem sc_law_whole : FnScope ["thing", "least", "most"] ["thing", "least", "most"] (defScope s_law_whole) := ⟨rfl, rfl, rfl, by decide +kernel, rfl, by decide +kernel, by decide +kernel⟩
set_option maxHeartbeats 0 in
theorem d_law_whole (S : Fnd K mg "_law_whole" s_law_whole ["thing", "least", "most"]) (T : Txt mg)  : Def P w K mg base 1 "_law_whole" ["thing", "least", "most"] (spLWholeG K) := S.def fun f fd F => by
 have nd := sc_law_whole.nd
 refine F.ok sc_law_whole (fun vs H Q E h => ?_) (fun cdv A' outer s H vs Q E hr h => ?_)
 · obtain ⟨_, _, _, _, rfl, _⟩ := h
   rfl
 · obtain ⟨v, o, l, m, rfl, ht, k⟩ := h
   refine ⟨_, (@pss_one _ _ _ (@ps_ret _ _ _ _ (pe_and (pe_callB call_isiG (by rfl) T.isi boot_isinstance (@pa_consX _ _ _ _ _ (by rfl) (pv 0) (@pa_consX _ _ _ _ _ (by rfl) (pe_bltn (v := .ty "int") (by rfl) T.int boot_int rfl) pa_nil))) (pe_and (pe_not (pe_callB call_isiG (by rfl) T.isi boot_isinstance (@pa_consX _ _ _ _ _ (by rfl) (pv 0) (@pa_consX _ _ _ _ _ (by rfl) (pe_bltn (v := .ty "bool") (by rfl) T.bool boot_bool rfl) pa_nil)))) (pe_one (pe_chain op_le op_le (pv 1) (pv 0) (pv 2) (by with_unfolding_all rfl))))))), ?_⟩
   cases ht with
   | oth ty e => exact ⟨_, rfl, _, _, _, false, rfl, .inl ty, e, _, rfl, ifF rfl k⟩
   | bl b => exact ⟨_, rfl, _, _, _, true, rfl, .inl (.bl b), isi_bi _, _, rfl, ifT rfl ⟨_, rfl, _, _, _, true, rfl, .inl (.bl b), isi_bb _, _, rfl, _, rfl, ifF rfl k⟩⟩
   | int i =>
     refine ⟨_, rfl, _, _, _, true, rfl, .inl (.int i), isi_ii _, _, rfl, ifT rfl ⟨_, rfl, _, _, _, false, rfl, .inl (.int i), isi_ib _, _, rfl, _, rfl, ifT rfl ?_⟩⟩
     have k : Q (.bl (decide (l ≤ i ∧ i ≤ m))) H := k
     refine ⟨_, rfl, _, rfl, _, _, rfl, rfl, _, rfl, ?_⟩
     by_cases h1 : l ≤ i
     case neg =>
      rw [decide_eq_false (fun z => h1 z.1)] at k
      rw [decide_eq_false h1]
      exact ifF rfl k
     rw [decide_eq_true h1]
     refine ifT rfl ⟨_, rfl, _, _, rfl, rfl, ?_⟩
     rw [decide_eq_decide.mpr (show (l ≤ i ∧ i ≤ m) ↔ i ≤ m from ⟨fun z => z.2, fun z => ⟨h1, z⟩⟩)] at k
     exact k
theorem sc_law_is : FnScope ["thing", "ahead", "link"] ["thing"] (defScope s_law_is) := ⟨rfl, rfl, rfl, by decide +kernel, rfl, by decide +kernel, by decide +kernel⟩
set_option maxHeartbeats 0 in
theorem d_law_is (S : Fnd K mg "_law_is" s_law_is ["thing"]) (T : Txt mg) (Lw : Def P w K mg base 1 "_law_whole" ["thing", "least", "most"] (spLWholeG K)) : Def P w K mg base 2 "_law_is" ["thing"] (spIsWebG K) := S.def fun f fd F => by
 have nd := sc_law_is.nd
 refine F.ok sc_law_is (fun vs H Q E h => ?_) (fun cdv A' outer s H vs Q E hr h => ?_)
 · obtain ⟨_, _, rfl, _⟩ := h
   rfl
 · obtain ⟨v, c, rfl, hw, k⟩ := h
   refine ⟨_, (@pss_cons _ _ _ _ _ (@ps_if _ _ _ _ _ _ _ _ (PW.pt (pw_or (pt_not (pt_val (pe_callB call_isiG (by rfl) T.isi boot_isinstance (@pa_consX _ _ _ _ _ (by rfl) (pv 0) (@pa_consX _ _ _ _ _ (by rfl) (pe_bltn (v := .ty "tuple") (by rfl) T.tup boot_tuple rfl) pa_nil))))) (pw_or (pt_cmpR op_ne (pe_callB call_len_seq (by rfl) T.len PySem.boot_len (@pa_consX _ _ _ _ _ (by rfl) (pv 0) pa_nil)) pe_int (nomark _)) (pw_or1 (pt_not (pt_val (pe_def (by rfl) (by rfl) (by rfl) (by decide) Lw (hr.mono (by decide)) (@pa_consX _ _ _ _ _ (by rfl) (pe_ix ix_tup (pv 0) pe_int (fun _ _ => rfl)) (@pa_consX _ _ _ _ _ (by rfl) pe_int (@pa_consX _ _ _ _ _ (by rfl) pe_int pa_nil))))))))))
    (@pss_one _ _ _ (@ps_ret _ _ _ _ pe_bl))
    pss_nil)
    (@pss_cons _ _ _ _ _ (@ps_if _ _ _ _ _ _ _ _ (PW.pt (pw_or (pt_not (pt_val (pe_callB call_isiG (by rfl) T.isi boot_isinstance (@pa_consX _ _ _ _ _ (by rfl) (pe_ix ix_tup (pv 0) pe_int (fun _ _ => rfl)) (@pa_consX _ _ _ _ _ (by rfl) (pe_bltn (v := .ty "tuple") (by rfl) T.tup boot_tuple rfl) pa_nil))))) (pw_or1 (pt_cmpR op_gt (pe_callB call_len_seq (by rfl) T.len PySem.boot_len (@pa_consX _ _ _ _ _ (by rfl) (pe_ix ix_tup (pv 0) pe_int (fun _ _ => rfl)) pa_nil)) pe_int (nomark _)))))
     (@pss_one _ _ _ (@ps_ret _ _ _ _ pe_bl))
     pss_nil)
    (@pss_cons _ _ _ _ _ (@ps_setX _ _ 1 _ _ _ _ (by rfl) (Or.inl rfl) nd rfl (Or.inl rfl) (@pe_tupS _ _ _ _ _ (@pa_consX _ _ _ _ _ (by rfl) pe_neg1 (@pa_consX _ _ _ _ _ (by rfl) pe_neg1 pa_nil))))
    (@pss_cons _ _ _ _ _ (@ps_forX _ _ _ _ _ _ _ _ (fun _ => rfl) PassesOwn.never rfl (pi_tup (pe_ix ix_tup (pv 0) pe_int (fun _ _ => rfl))) (pg_name (i := 2) nd rfl (Or.inl rfl))
     (@pss_cons _ _ _ _ _ (@ps_if _ _ _ _ _ _ _ _ (PW.pt (pw_or (pt_not (pt_val (pe_callB call_isiG (by rfl) T.isi boot_isinstance (@pa_consX _ _ _ _ _ (by rfl) (pv 2) (@pa_consX _ _ _ _ _ (by rfl) (pe_bltn (v := .ty "tuple") (by rfl) T.tup boot_tuple rfl) pa_nil))))) (pw_or1 (pt_cmpR op_ne (pe_callB call_len_seq (by rfl) T.len PySem.boot_len (@pa_consX _ _ _ _ _ (by rfl) (pv 2) pa_nil)) pe_int (nomark _)))))
     (@pss_one _ _ _ (@ps_ret _ _ _ _ pe_bl))
     pss_nil)
    (@pss_cons _ _ _ _ _ (@ps_if _ _ _ _ _ _ _ _ (PW.pt (pw_or (pt_not (pt_val (pe_def (by rfl) (by rfl) (by rfl) (by decide) Lw (hr.mono (by decide)) (@pa_consX _ _ _ _ _ (by rfl) (pe_ix ix_tup (pv 2) pe_int (fun _ _ => rfl)) (@pa_consX _ _ _ _ _ (by rfl) pe_int (@pa_consX _ _ _ _ _ (by rfl) (pe_op op_sub (pe_ix ix_tup (pv 0) pe_int (fun _ _ => rfl)) pe_int) pa_nil)))))) (pw_or (pt_not (pt_val (pe_def (by rfl) (by rfl) (by rfl) (by decide) Lw (hr.mono (by decide)) (@pa_consX _ _ _ _ _ (by rfl) (pe_ix ix_tup (pv 2) pe_int (fun _ _ => rfl)) (@pa_consX _ _ _ _ _ (by rfl) pe_int (@pa_consX _ _ _ _ _ (by rfl) (pe_op op_sub (pe_ix ix_tup (pv 0) pe_int (fun _ _ => rfl)) pe_int) pa_nil)))))) (pw_or1 (pt_cmpR (op_ltT hr.units0) (pv 2) (pv 1) (nomark _))))))
     (@pss_one _ _ _ (@ps_ret _ _ _ _ pe_bl))
     pss_nil)
    (@pss_one _ _ _ (@ps_setX _ _ 1 _ _ _ _ (by rfl) (Or.inl rfl) nd rfl (Or.inl rfl) (pv 2))))))
    (@pss_one _ _ _ (@ps_ret _ _ _ _ pe_bl)))))), ?_⟩
   cases hw with
   | no ty e => exact ⟨_, rfl, _, _, _, false, rfl, ty, e, _, rfl, ifT rfl (k _ (Same.refl _))⟩
   | @len q xs e l =>
     refine ⟨_, rfl, _, _, _, true, rfl, TyG.tup (SqT.of e), isi_tt _, _, rfl, ifF rfl ?_⟩
     exact ⟨_, rfl, q, _, rfl, .inr (SqT.of e), rfl, _, rfl, ifT (by rw [decide_eq_false fun z => by have := V.int.inj z; omega]; rfl) (k _ (Same.refl _))⟩
   | @page a p l e hp =>
     refine ⟨_, rfl, _, _, _, true, rfl, TyG.tup (SqT.of e), isi_tt _, _, rfl, ifF rfl ?_⟩
     refine ⟨_, rfl, a, _, rfl, .inr (SqT.of e), rfl, _, rfl, ifF rfl ?_⟩
     exact ⟨_, rfl, a, _, _, _, rfl, rfl, SqT.of e, rfl, _, _, _, _, rfl, hp, _, rfl, ifT rfl (k _ (Same.refl _))⟩
   | @nol a p l n t e hp ty et =>
     refine ⟨_, rfl, _, _, _, true, rfl, TyG.tup (SqT.of e), isi_tt _, _, rfl, ifF rfl ?_⟩
     refine ⟨_, rfl, a, _, rfl, .inr (SqT.of e), rfl, _, rfl, ifF rfl ?_⟩
     refine ⟨_, rfl, a, _, _, _, rfl, rfl, SqT.of e, rfl, _, _, _, _, rfl, hp, _, rfl, ?_⟩
     cases inO 1 12 (some n) with
     | false => exact ifT rfl (k _ (Same.refl _))
     | true =>
       refine ifF rfl ?_
       exact ⟨_, rfl, a, _, _, _, rfl, rfl, SqT.of e, rfl, _, _, _, false, rfl, ty, et, _, rfl, ifT rfl (k _ (Same.refl _))⟩
   | @two a b p n ys os e hp eb f =>
     have hl := paired_len f
     have k : ∀ G, Same H G → Q (.bl (decide (1 ≤ n ∧ n ≤ 12) && lkOk n os)) G := k
     refine ⟨_, rfl, _, _, _, true, rfl, TyG.tup (SqT.of e), isi_tt _, _, rfl, ifF rfl ?_⟩
     refine ⟨_, rfl, a, _, rfl, .inr (SqT.of e), rfl, _, rfl, ifF rfl ?_⟩
     refine ⟨_, rfl, a, _, _, _, rfl, rfl, SqT.of e, rfl, _, _, _, _, rfl, hp, _, rfl, ?_⟩
     by_cases h1 : 1 ≤ n ∧ n ≤ 12
     case neg =>
      have k := k _ (Same.refl _)
      rw [decide_eq_false h1] at k
      exact ifT (by show (!decide (1 ≤ n ∧ n ≤ 12)) = true; rw [decide_eq_false h1]; rfl) k
     refine ifF (by show (!decide (1 ≤ n ∧ n ≤ 12)) = false; rw [decide_eq_true h1]; rfl) ?_
     refine ⟨_, rfl, a, _, _, _, rfl, rfl, SqT.of e, rfl, _, _, _, true, rfl, TyG.tup (SqT.of eb), isi_tt _, _, rfl, ifF rfl ?_⟩
     refine ⟨_, rfl, a, _, _, _, rfl, rfl, SqT.of e, rfl, b, _, rfl, .inr (SqT.of eb), _, _, rfl, rfl, _, rfl, ?_⟩
     by_cases h60 : ys.length ≤ 60
     case neg =>
      have k := k _ (Same.refl _)
      unfold lkOk at k
      rw [decide_eq_false (show ¬ os.length ≤ 60 by omega), Bool.false_and, Bool.and_false] at k
      exact ifT (decide_eq_true (show (60 : Int) < ((ys.length : Nat) : Int) by omega)) k
     refine ifF (decide_eq_false (show ¬ (60 : Int) < ((ys.length : Nat) : Int) by omega)) ?_
     have fin : ∀ G, Same H G → Q (.bl (okL n (-1, -1) os)) G := fun G s => by
      have k := k G s
      unfold lkOk at k
      rwa [decide_eq_true h1, decide_eq_true (show os.length ≤ 60 by omega), Bool.true_and, Bool.true_and, ← okL_eq] at k
     obtain rfl := hp.some
     refine ⟨(by show 2 ≤ sizeLine; decide), fun t0 G0 s0 m0 e0 => ?_⟩
     refine ⟨_, rfl, a, _, _, _, rfl, rfl, SqT.of (s0 _ _ e), rfl, b, rfl, ⟨_, SqT.of (s0 _ _ eb)⟩, ?_⟩
     refine for_tup (K := K) (a := b) (xs := ys) (fun i σ G => Same H G ∧ ∃ (pa : Addr) (pr : Int × Int) (v2 : Option V), SqT K G pa [.int pr.1, .int pr.2] ∧ okL n (-1, -1) os = okL n pr (os.drop i) ∧ σ = [some (.ref a), some (.ref pa), v2])
      ⟨s0, t0, (-1, -1), none, SqT.of e0, rfl, rfl⟩ (fun i σ G _ ⟨s, _⟩ => SqT.of (s _ _ eb)) ?_ ?_
     · rintro i x σ G hxi ⟨s, pa, pr, v2, hpa, ok, rfl⟩
       obtain ⟨o, ho, tx⟩ := paired_get f hxi
       have tx := tx.kv (h := 0) (H' := G) s.kv
       have ed : os.drop i = o :: os.drop (i + 1) := by
        obtain ⟨hi, hv⟩ := List.getElem?_eq_some_iff.mp ho
        rw [← hv]; exact List.drop_eq_getElem_cons hi
       rw [ed] at ok
       have fin := fin G s
       rw [ok] at fin
       have he := s _ _ e
       cases tx with
       | no ty et => exact ⟨_, rfl, _, _, _, false, rfl, ty, et, _, rfl, ifT rfl fin⟩
       | @len q xs e l =>
         refine ⟨_, rfl, _, _, _, true, rfl, TyG.tup e, isi_tt _, _, rfl, ifF rfl ?_⟩
         exact ⟨_, rfl, q, _, rfl, .inr e, rfl, _, rfl, ifT (by rw [decide_eq_false fun z => by have := V.int.inj z; omega]; rfl) fin⟩
       | @two q x0 y0 ox oy hq hx hy =>
         refine ⟨_, rfl, _, _, _, true, rfl, TyG.tup hq, isi_tt _, _, rfl, ifF rfl ?_⟩
         refine ⟨_, rfl, q, _, rfl, .inr hq, rfl, _, rfl, ifF rfl ?_⟩
         refine ⟨_, rfl, q, _, _, _, rfl, rfl, hq, rfl, _, rfl, a, _, _, _, rfl, rfl, SqT.of he, rfl, _, _, rfl, rfl, _, _, _, _, rfl, hx, _, rfl, ?_⟩
         cases ox with
         | none => exact ifT rfl fin
         | some i1 =>
         by_cases c1 : 0 ≤ i1 ∧ i1 ≤ n - 1
         case neg =>
          refine ifT (by show (!decide (0 ≤ i1 ∧ i1 ≤ n - 1)) = true; rw [decide_eq_false c1]; rfl) ?_
          cases oy with
          | none => exact fin
          | some j1 =>
            have fin : Q (.bl (decide (0 ≤ i1 ∧ i1 < n ∧ 0 ≤ j1 ∧ j1 < n) && _)) G := fin
            rw [decide_eq_false (show ¬ (0 ≤ i1 ∧ i1 < n ∧ 0 ≤ j1 ∧ j1 < n) by omega), Bool.false_and] at fin
            exact fin
         refine ifF (by show (!decide (0 ≤ i1 ∧ i1 ≤ n - 1)) = false; rw [decide_eq_true c1]; rfl) ?_
         refine ⟨_, rfl, q, _, _, _, rfl, rfl, hq, rfl, _, rfl, a, _, _, _, rfl, rfl, SqT.of he, rfl, _, _, rfl, rfl, _, _, _, _, rfl, hy, _, rfl, ?_⟩
         cases oy with
         | none => exact ifT rfl fin
         | some j1 =>
         have fin : Q (.bl (decide (0 ≤ i1 ∧ i1 < n ∧ 0 ≤ j1 ∧ j1 < n) && (!HT.lexLt [i1, j1] [pr.1, pr.2] && okL n (i1, j1) (os.drop (i + 1))))) G := fin
         have ok : okL n (-1, -1) os = (decide (0 ≤ i1 ∧ i1 < n ∧ 0 ≤ j1 ∧ j1 < n) && (!HT.lexLt [i1, j1] [pr.1, pr.2] && okL n (i1, j1) (os.drop (i + 1)))) := ok
         by_cases c2 : 0 ≤ j1 ∧ j1 ≤ n - 1
         case neg =>
          refine ifT (by show (!decide (0 ≤ j1 ∧ j1 ≤ n - 1)) = true; rw [decide_eq_false c2]; rfl) ?_
          rw [decide_eq_false (show ¬ (0 ≤ i1 ∧ i1 < n ∧ 0 ≤ j1 ∧ j1 < n) by omega), Bool.false_and] at fin
          exact fin
         refine ifF (by show (!decide (0 ≤ j1 ∧ j1 ≤ n - 1)) = false; rw [decide_eq_true c2]; rfl) ?_
         have c3 : 0 ≤ i1 ∧ i1 < n ∧ 0 ≤ j1 ∧ j1 < n := by omega
         rw [decide_eq_true c3, Bool.true_and] at fin ok
         obtain rfl := hx.some
         obtain rfl := hy.some
         refine ⟨_, rfl, _, rfl, q, pa, [i1, j1], [pr.1, pr.2], rfl, rfl, hq, hpa, _, rfl, ?_⟩
         cases lt : HT.lexLt [i1, j1] [pr.1, pr.2] with
         | true =>
           rw [lt] at fin
           exact ifT rfl fin
         | false =>
           rw [lt, Bool.not_false, Bool.true_and] at ok
           refine ifF rfl ⟨_, rfl, ?_⟩
           exact ⟨s, q, (i1, j1), _, hq, ok, rfl⟩
     · rintro σ G ⟨s, pa, pr, v2, hpa, ok, rfl⟩
       have fin := fin G s
       rw [ok, List.drop_eq_nil_of_le (by omega)] at fin
       exact fin
end
end Lw

set_option pp.maxSteps 800
namespace Lw
open PySem L2 PyProof.Rows
section
variable {P : Program} {w : World} {K : PySem.W.Frag} {mg : Str → Option Value} {base : Heap}
theorem sc_law_bad_link : FnScope ["hand", "link", "pages", "start", "to", "some"] ["hand", "link", "pages"] (defScope s_law_bad_link) := ⟨rfl, rfl, rfl, by decide +kernel, rfl, by decide +kernel, by decide +kernel⟩
set_option maxHeartbeats 0 in
theorem d_law_bad_link (S : Fnd K mg "_law_bad_link" s_law_bad_link ["hand", "link", "pages"]) (T : Txt mg) (zstr : mg "str" = none) (Dw : Def P w K mg base 1 "_law_draw" ["hand", "limit"] spDraw) : Def P w K mg base 2 "_law_bad_link" ["hand", "link", "pages"] (spBadLk K) := S.def fun f fd F => by
 have nd := sc_law_bad_link.nd
 refine F.ok sc_law_bad_link (fun vs H Q E h => ?_) (fun cdv A' outer s H vs Q E hr h => ?_)
 · obtain ⟨_, _, _, _, _, _, _, rfl, _⟩ := h
   rfl
 · obtain ⟨h, q, p, x, y, i, k, rfl, hh, hq, nx, ly, ny, k1, hp, si, ko⟩ := h
   refine ⟨_, (@pss_cons _ _ _ _ _ (ps_asg (pv 1) (pg_tup rfl (pgs_cons (pg_name (i := 3) nd rfl (Or.inl rfl)) (pgs_cons (pg_name (i := 4) nd rfl (Or.inl rfl)) pgs_nil))))
    (@pss_cons _ _ _ _ _ (@ps_setX _ _ 5 _ _ _ _ (by rfl) (Or.inl rfl) nd rfl (Or.inl rfl) (@pe_lstS _ _ _ _ (@pa_consX _ _ _ _ _ (by rfl) (@pe_tupS _ _ _ _ _ (@pa_consX _ _ _ _ _ (by rfl) (pv 3) (@pa_consX _ _ _ _ _ (by rfl) (pv 2) pa_nil))) (@pa_consX _ _ _ _ _ (by rfl) (@pe_tupS _ _ _ _ _ (@pa_consX _ _ _ _ _ (by rfl) (pv 2) (@pa_consX _ _ _ _ _ (by rfl) (pv 4) pa_nil))) (@pa_consX _ _ _ _ _ (by rfl) (@pe_tupS _ _ _ _ _ (@pa_consX _ _ _ _ _ (by rfl) pe_neg1 (@pa_consX _ _ _ _ _ (by rfl) (pv 4) pa_nil))) (@pa_consX _ _ _ _ _ (by rfl) (@pe_tupS _ _ _ _ _ (@pa_consX _ _ _ _ _ (by rfl) (pv 3) (@pa_consX _ _ _ _ _ (by rfl) pe_neg1 pa_nil))) (@pa_consX _ _ _ _ _ (by rfl) (@pe_tupS _ _ _ _ _ (@pa_consX _ _ _ _ _ (by rfl) pe_bl (@pa_consX _ _ _ _ _ (by rfl) (pv 4) pa_nil))) (@pa_consX _ _ _ _ _ (by rfl) (@pe_tupS _ _ _ _ _ (@pa_consX _ _ _ _ _ (by rfl) (pv 3) (@pa_consX _ _ _ _ _ (by rfl) pe_bl pa_nil))) (@pa_consX _ _ _ _ _ (by rfl) (@pe_tupS _ _ _ _ _ (@pa_consX _ _ _ _ _ (by rfl) (pv 3) (@pa_consX _ _ _ _ _ (by rfl) pe_bl pa_nil))) pa_nil)))))))))
    (@pss_cons _ _ _ _ _ (@ps_setX _ _ 5 _ _ _ _ (by rfl) (Or.inl rfl) nd rfl (Or.inl rfl) (pe_op op_catS (pv 5) (@pe_lstS _ _ _ _ (@pa_consX _ _ _ _ _ (by rfl) (@pe_tupS _ _ _ _ _ (@pa_consX _ _ _ _ _ (by rfl) (pe_callTy call_strG (by rfl) zstr boot_str (@pa_consX _ _ _ _ _ (by rfl) (pv 3) pa_nil)) (@pa_consX _ _ _ _ _ (by rfl) (pv 4) pa_nil))) (@pa_consX _ _ _ _ _ (by rfl) (@pe_tupS _ _ _ _ _ (@pa_consX _ _ _ _ _ (by rfl) (pv 3) (@pa_consX _ _ _ _ _ (by rfl) pe_non pa_nil))) (@pa_consX _ _ _ _ _ (by rfl) (@pe_tupS _ _ _ _ _ (@pa_consX _ _ _ _ _ (by rfl) (pv 3) pa_nil)) (@pa_consX _ _ _ _ _ (by rfl) (@pe_tupS _ _ _ _ _ (@pa_consX _ _ _ _ _ (by rfl) (pv 3) (@pa_consX _ _ _ _ _ (by rfl) (pv 4) (@pa_consX _ _ _ _ _ (by rfl) pe_int pa_nil)))) (@pa_consX _ _ _ _ _ (by rfl) (@pe_lstS _ _ _ _ (@pa_consX _ _ _ _ _ (by rfl) (pv 3) (@pa_consX _ _ _ _ _ (by rfl) (pv 4) pa_nil))) (@pa_consX _ _ _ _ _ (by rfl) pe_non (@pa_consX _ _ _ _ _ (by rfl) (@pe_tupS _ _ _ _ _ pa_nil) (@pa_consX _ _ _ _ _ (by rfl) (pv 3) pa_nil)))))))))))
    (@pss_cons _ _ _ _ _ (@ps_setX _ _ 5 _ _ _ _ (by rfl) (Or.inl rfl) nd rfl (Or.inl rfl) (pe_op op_catS (pv 5) (@pe_lstS _ _ _ _ (@pa_consX _ _ _ _ _ (by rfl) (@pe_tupS _ _ _ _ _ (@pa_consX _ _ _ _ _ (by rfl) (pv 3) (@pa_consX _ _ _ _ _ (by rfl) (@pe_tupS _ _ _ _ _ (@pa_consX _ _ _ _ _ (by rfl) (pv 4) pa_nil)) pa_nil))) (@pa_consX _ _ _ _ _ (by rfl) (@pe_tupS _ _ _ _ _ (@pa_consX _ _ _ _ _ (by rfl) (pv 4) (@pa_consX _ _ _ _ _ (by rfl) (pv 3) pa_nil))) (@pa_consX _ _ _ _ _ (by rfl) pe_dnewG (@pa_consX _ _ _ _ _ (by rfl) (pe_dispG (K := K) rfl hr (pps_cons pe_int (pv 3) (pps_cons pe_int (pv 4) pps_nil)) rfl rfl (by simp) (by decide)) (@pa_consX _ _ _ _ _ (by rfl) (pe_dispG (K := K) rfl hr (pps_cons (pv 3) pe_int (pps_cons (pv 4) pe_int pps_nil)) rfl rfl (by simp) (by decide)) pa_nil))))))))
    (@pss_one _ _ _ (@ps_ret _ _ _ _ (pe_ix ix_list (pv 5) (pe_def (by rfl) (by rfl) (by rfl) (by decide) Dw (hr.mono (by decide)) (@pa_consX _ _ _ _ _ (by rfl) (pv 0) (@pa_consX _ _ _ _ _ (by rfl) pe_int pa_nil))) (fun _ _ => rfl)))))))), ?_⟩
   refine ⟨_, rfl, q, _, rfl, hq, rfl, _, _, rfl, _, _, rfl, rfl, ?_⟩
   have k2 : k + 1 ≤ 2 := by omega
   have np : Ns p := .inl ⟨i, hp, si⟩
   have nm : Ns (.int (-1)) := ns_int (by unfold Sz; decide)
   have lx : ∀ {J : Hp} {j : Nat}, Lf J j x := nx.lv
   have lp : ∀ {J : Hp} {j : Nat}, Lf J j p := np.lv
   have l0 : ∀ {J : Hp} {j : Nat}, Lf J j (.int 0) := (ns_int (by unfold Sz; decide)).lv
   have l1 : ∀ {J : Hp} {j : Nat}, Lf J j (.int 1) := (ns_int (by unfold Sz; decide)).lv
   have lt : ∀ {J : Hp} {j : Nat} {b : Bool}, Lf J j (.bl b) := (ns_bl _).lv
   have lm : ∀ {J : Hp} {j : Nat}, Lf J j (.int (-1)) := nm.lv
   have S0 : Same H H := Same.refl _
   have A0 : AllE h K (k + 1) H [] := AllE.nil
   have y0 : Lf H (k + 1) y := ly.mono (by omega)
   refine ⟨_, rfl, _, rfl, (by show 2 ≤ sizeLine; decide), fun t1 J1 u1 w1 f1 => ?_⟩
   have S1 := S0.trans u1
   have y1 := y0.kv (K := K) (h := h) u1.kv
   have n1 : t1 ≠ h := (hh.same S0).ne w1
   have A1 := (A0.same u1).add (el_two f1 nx lp)
   refine ⟨_, rfl, _, rfl, (by show 2 ≤ sizeLine; decide), fun t2 J2 u2 w2 f2 => ?_⟩
   have S2 := S1.trans u2
   have y2 := y1.kv (K := K) (h := h) u2.kv
   have n2 : t2 ≠ h := (hh.same S1).ne w2
   have A2 := (A1.same u2).add (el_two f2 np y2)
   refine ⟨_, rfl, (by show 2 ≤ sizeLine; decide), fun t3 J3 u3 w3 f3 => ?_⟩
   have S3 := S2.trans u3
   have y3 := y2.kv (K := K) (h := h) u3.kv
   have n3 : t3 ≠ h := (hh.same S2).ne w3
   have A3 := (A2.same u3).add (el_two f3 nm y3)
   refine ⟨_, rfl, (by show 2 ≤ sizeLine; decide), fun t4 J4 u4 w4 f4 => ?_⟩
   have S4 := S3.trans u4
   have y4 := y3.kv (K := K) (h := h) u4.kv
   have n4 : t4 ≠ h := (hh.same S3).ne w4
   have A4 := (A3.same u4).add (el_two f4 nx lm)
   refine ⟨_, rfl, (by show 2 ≤ sizeLine; decide), fun t5 J5 u5 w5 f5 => ?_⟩
   have S5 := S4.trans u5
   have y5 := y4.kv (K := K) (h := h) u5.kv
   have n5 : t5 ≠ h := (hh.same S4).ne w5
   have A5 := (A4.same u5).add (el_two f5 (ns_bl true) y5)
   refine ⟨_, rfl, (by show 2 ≤ sizeLine; decide), fun t6 J6 u6 w6 f6 => ?_⟩
   have S6 := S5.trans u6
   have y6 := y5.kv (K := K) (h := h) u6.kv
   have n6 : t6 ≠ h := (hh.same S5).ne w6
   have A6 := (A5.same u6).add (el_two f6 nx lt)
   refine ⟨_, rfl, (by show 2 ≤ sizeLine; decide), fun t7 J7 u7 w7 f7 => ?_⟩
   have S7 := S6.trans u7
   have y7 := y6.kv (K := K) (h := h) u7.kv
   have n7 : t7 ≠ h := (hh.same S6).ne w7
   have A7 := (A6.same u7).add (el_two f7 nx lt)
   refine ⟨(by show 7 ≤ sizeLine; decide), fun t8 J8 u8 w8 f8 => ?_⟩
   have S8 := S7.trans u8
   have y8 := y7.kv (K := K) (h := h) u8.kv
   have n8 : t8 ≠ h := (hh.same S7).ne w8
   have A8 := A7.same u8
   refine ⟨_, rfl, ?_⟩
   refine ⟨_, rfl, x, rfl, nx, fun st hst => ?_⟩
   refine ⟨_, rfl, (by show 2 ≤ sizeLine; decide), fun t9 J9 u9 w9 f9 => ?_⟩
   have S9 := S8.trans u9
   have y9 := y8.kv (K := K) (h := h) u9.kv
   have n9 : t9 ≠ h := (hh.same S8).ne w9
   have A9 := (A8.same u9).add (el_two f9 (.inr ⟨st, rfl, hst⟩) y9)
   refine ⟨_, rfl, (by show 2 ≤ sizeLine; decide), fun t10 J10 u10 w10 f10 => ?_⟩
   have S10 := S9.trans u10
   have y10 := y9.kv (K := K) (h := h) u10.kv
   have n10 : t10 ≠ h := (hh.same S9).ne w10
   have A10 := (A9.same u10).add (el_two f10 nx lf_non)
   refine ⟨_, rfl, (by show 1 ≤ sizeLine; decide), fun t11 J11 u11 w11 f11 => ?_⟩
   have S11 := S10.trans u11
   have y11 := y10.kv (K := K) (h := h) u11.kv
   have n11 : t11 ≠ h := (hh.same S10).ne w11
   have A11 := (A10.same u11).add (el_tup f11 (by intro z hz; rw [List.mem_singleton.mp hz]; exact lx) (by simp) (by simp))
   refine ⟨_, rfl, _, rfl, (by show 3 ≤ sizeLine; decide), fun t12 J12 u12 w12 f12 => ?_⟩
   have S12 := S11.trans u12
   have y12 := y11.kv (K := K) (h := h) u12.kv
   have n12 : t12 ≠ h := (hh.same S11).ne w12
   have A12 := (A11.same u12).add (el_tup f12 (by intro z hz; simp only [List.mem_cons, List.not_mem_nil, or_false] at hz; rcases hz with rfl | rfl | rfl; exact lx; exact y12; exact l0) (by simp) (by simp))
   refine ⟨_, rfl, _, rfl, (by show 2 ≤ sizeLine; decide), fun t13 J13 u13 w13 f13 => ?_⟩
   have S13 := S12.trans u13
   have y13 := y12.kv (K := K) (h := h) u13.kv
   have n13 : t13 ≠ h := (hh.same S12).ne w13
   have A13 := (A12.same u13).add (el_lst f13 n13 (by intro z hz; simp only [List.mem_cons, List.not_mem_nil, or_false] at hz; rcases hz with rfl | rfl; exact lx; exact y13) (by simp) k2)
   have A13 := A13.add (el_flat .non (by decide))
   refine ⟨(by show 0 ≤ sizeLine; decide), fun t14 J14 u14 w14 f14 => ?_⟩
   have S14 := S13.trans u14
   have y14 := y13.kv (K := K) (h := h) u14.kv
   have n14 : t14 ≠ h := (hh.same S13).ne w14
   have A14 := (A13.same u14).add (el_tup f14 (by intro z hz; cases hz) (by decide) (by decide))
   have A14 := A14.add nx.el
   refine ⟨_, rfl, (by show 8 ≤ sizeLine; decide), fun t15 J15 u15 w15 f15 => ?_⟩
   have S15 := S14.trans u15
   have y15 := y14.kv (K := K) (h := h) u15.kv
   have n15 : t15 ≠ h := (hh.same S14).ne w15
   have A15 := A14.same u15
   refine ⟨t8, t15, _, _, rfl, rfl, (u9.trans ( u10.trans ( u11.trans ( u12.trans ( u13.trans ( u14.trans (u15))))))) _ _ f8, f15, (by show 15 ≤ sizeLine; decide), fun t16 J16 u16 w16 f16 => ?_⟩
   have S16 := S15.trans u16
   have y16 := y15.kv (K := K) (h := h) u16.kv
   have n16 : t16 ≠ h := (hh.same S15).ne w16
   have A16 := A15.same u16
   refine ⟨_, rfl, ?_⟩
   refine ⟨_, rfl, _, rfl, (by show 1 ≤ sizeLine; decide), fun t17 J17 u17 w17 f17 => ?_⟩
   have S17 := S16.trans u17
   have y17 := y16.kv (K := K) (h := h) u17.kv
   have n17 : t17 ≠ h := (hh.same S16).ne w17
   have A17 := A16.same u17
   have lo : Lf J17 (k + 1) (.ref t17) := .one f17 (((ly.kv (K := K) (h := h) S17.kv)))
   refine ⟨(by show 2 ≤ sizeLine; decide), fun t18 J18 u18 w18 f18 => ?_⟩
   have S18 := S17.trans u18
   have y18 := y17.kv (K := K) (h := h) u18.kv
   have n18 : t18 ≠ h := (hh.same S17).ne w18
   have A18 := (A17.same u18).add (el_two f18 nx (lo.kv (K := K) (h := h) u18.kv))
   refine ⟨_, rfl, _, rfl, (by show 2 ≤ sizeLine; decide), fun t19 J19 u19 w19 f19 => ?_⟩
   have S19 := S18.trans u19
   have y19 := y18.kv (K := K) (h := h) u19.kv
   have n19 : t19 ≠ h := (hh.same S18).ne w19
   have A19 := (A18.same u19).add (el_turn f19 y19 lx ny)
   intro t20 w20
   have u20 : Same J19 (upd J19 t20 (DctV t20 [] [])) := Same.new w20
   have f20 : upd J19 t20 (DctV t20 [] []) t20 = some (DctV t20 [] []) := upd_same
   generalize upd J19 t20 (DctV t20 [] []) = J20 at *
   have S20 := S19.trans u20
   have y20 := y19.kv (K := K) (h := h) u20.kv
   have n20 : t20 ≠ h := (hh.same S19).ne w20
   have A20 := (A19.same u20).add (el_dct f20 (by intro z hz; cases hz) (by intro z hz; cases hz) rfl (by decide) k2)
   intro t21 w21
   refine ⟨_, rfl, _, rfl, upd_same, .inr ⟨0, _, _, _, _, rfl, .int 0, .int 1, by decide⟩, fun ks21 vs21 a21 b21 l21 m21 => ?_⟩
   rw [upd_upd]
   have u21 : Same J20 (upd J20 t21 (DctV t21 ks21 vs21)) := Same.new w21
   have f21 : upd J20 t21 (DctV t21 ks21 vs21) t21 = some (DctV t21 ks21 vs21) := upd_same
   generalize upd J20 t21 (DctV t21 ks21 vs21) = J21 at *
   have S21 := S20.trans u21
   have y21 := y20.kv (K := K) (h := h) u21.kv
   have n21 : t21 ≠ h := (hh.same S20).ne w21
   have A21 := (A20.same u21).add (el_dct f21 (fun z hz => by have hz := a21 z hz; simp only [List.map_cons, List.map_nil, List.mem_cons, List.not_mem_nil, or_false] at hz; rcases hz with rfl | rfl; exact l0; exact l1) (fun z hz => by have hz := b21 z hz; simp only [List.map_cons, List.map_nil, List.mem_cons, List.not_mem_nil, or_false] at hz; rcases hz with rfl | rfl; exact lx; exact y21) l21 m21 k2)
   intro t22 w22
   refine ⟨_, rfl, _, rfl, upd_same, .inr ⟨k + 1, _, _, _, _, rfl, lx.hs, (y21.kv (K := K) (h := h) (Same.new w22).kv).hs, by omega⟩, fun ks22 vs22 a22 b22 l22 m22 => ?_⟩
   rw [upd_upd]
   have u22 : Same J21 (upd J21 t22 (DctV t22 ks22 vs22)) := Same.new w22
   have f22 : upd J21 t22 (DctV t22 ks22 vs22) t22 = some (DctV t22 ks22 vs22) := upd_same
   generalize upd J21 t22 (DctV t22 ks22 vs22) = J22 at *
   have S22 := S21.trans u22
   have y22 := y21.kv (K := K) (h := h) u22.kv
   have n22 : t22 ≠ h := (hh.same S21).ne w22
   have A22 := (A21.same u22).add (el_dct f22 (fun z hz => by have hz := a22 z hz; simp only [List.map_cons, List.map_nil, List.mem_cons, List.not_mem_nil, or_false] at hz; rcases hz with rfl | rfl; exact lx; exact y22) (fun z hz => by have hz := b22 z hz; simp only [List.map_cons, List.map_nil, List.mem_cons, List.not_mem_nil, or_false] at hz; rcases hz with rfl | rfl; exact l0; exact l1) l22 m22 k2)
   refine ⟨(by show 5 ≤ sizeLine; decide), fun t23 J23 u23 w23 f23 => ?_⟩
   have S23 := S22.trans u23
   have y23 := y22.kv (K := K) (h := h) u23.kv
   have n23 : t23 ≠ h := (hh.same S22).ne w23
   have A23 := A22.same u23
   refine ⟨t16, t23, _, _, rfl, rfl, (u17.trans ( u18.trans ( u19.trans ( u20.trans ( u21.trans ( u22.trans (u23))))))) _ _ f16, f23, (by show 20 ≤ sizeLine; decide), fun t24 J24 u24 w24 f24 => ?_⟩
   have S24 := S23.trans u24
   have y24 := y23.kv (K := K) (h := h) u24.kv
   have n24 : t24 ≠ h := (hh.same S23).ne w24
   have A24 := A23.same u24
   refine ⟨_, rfl, _, rfl, h, 20, rfl, by decide, by decide, hh.same S24, fun v9 G9 a9 b9 hh9 k9 => ?_⟩
   have f9 := k9 _ _ f24 n24
   obtain ⟨u9, e9, m9⟩ := atI_at f9 a9 (by show v9 < 20; exact b9)
   refine ⟨t24, _, _, _, rfl, rfl, SqL.of f9, e9, ?_⟩
   obtain ⟨m, e⟩ := A24 u9 (by simpa using m9)
   exact ko _ m _ hh9 (S24.kp.trans k9) (e.kv ((hh.same S24).kv hh9 k9))
end
end Lw

set_option pp.maxSteps 800
namespace Lw
open PySem L2 PyProof.Rows
section
variable {P : Program} {w : World} {K : PySem.W.Frag} {mg : Str → Option Value} {base : Heap}
theorem sc_law_spoilt : FnScope ["hand", "web", "pages", "links", "kind", "some", "at"] ["hand", "web"] (defScope s_law_spoilt) := ⟨rfl, rfl, rfl, by decide +kernel, rfl, by decide +kernel, by decide +kernel⟩
set_option maxHeartbeats 0 in
theorem d_law_spoilt (S : Fnd K mg "_law_spoilt" s_law_spoilt ["hand", "web"]) (T : Txt mg) (Dw : Def P w K mg base 1 "_law_draw" ["hand", "limit"] spDraw) (Bl : Def P w K mg base 2 "_law_bad_link" ["hand", "link", "pages"] (spBadLk K)) : Def P w K mg base 3 "_law_spoilt" ["hand", "web"] (spSpoiltG K) := S.def fun f fd F => by
 have nd := sc_law_spoilt.nd
 refine F.ok sc_law_spoilt (fun vs H Q E h => ?_) (fun cdv A' outer s H vs Q E hr h => ?_)
 · obtain ⟨_, _, _, rfl, _⟩ := h
   rfl
 · obtain ⟨h, a, k, rfl, hh, hw, k1, ko⟩ := h
   refine ⟨_, (@pss_cons _ _ _ _ _ (ps_asg (pv 1) (pg_tup rfl (pgs_cons (pg_name (i := 2) nd rfl (Or.inl rfl)) (pgs_cons (pg_name (i := 3) nd rfl (Or.inl rfl)) pgs_nil))))
    (@pss_cons _ _ _ _ _ (@ps_setX _ _ 4 _ _ _ _ (by rfl) (Or.inl rfl) nd rfl (Or.inl rfl) (pe_def (by rfl) (by rfl) (by rfl) (by decide) Dw (hr.mono (by decide)) (@pa_consX _ _ _ _ _ (by rfl) (pv 0) (@pa_consX _ _ _ _ _ (by rfl) pe_int pa_nil))))
    (@pss_cons _ _ _ _ _ (@ps_if _ _ _ _ _ _ _ _ (pt_cmpR op_eq (pv 4) pe_int (nomark _))
     (@pss_cons _ _ _ _ _ (@ps_setX _ _ 5 _ _ _ _ (by rfl) (Or.inl rfl) nd rfl (Or.inl rfl) (@pe_lstS _ _ _ _ (@pa_consX _ _ _ _ _ (by rfl) pe_non (@pa_consX _ _ _ _ _ (by rfl) pe_int (@pa_consX _ _ _ _ _ (by rfl) pe_bl (@pa_consX _ _ _ _ _ (by rfl) pe_str (@pa_consX _ _ _ _ _ (by rfl) (@pe_tupS _ _ _ _ _ pa_nil) (@pa_consX _ _ _ _ _ (by rfl) (@pe_lstS _ _ _ _ pa_nil) (@pa_consX _ _ _ _ _ (by rfl) (pe_callTy call_listS (by rfl) T.lst boot_list (@pa_consX _ _ _ _ _ (by rfl) (pv 1) pa_nil)) (@pa_consX _ _ _ _ _ (by rfl) (@pe_tupS _ _ _ _ _ (@pa_consX _ _ _ _ _ (by rfl) (pv 2) pa_nil)) (@pa_consX _ _ _ _ _ (by rfl) (@pe_tupS _ _ _ _ _ (@pa_consX _ _ _ _ _ (by rfl) (pv 2) (@pa_consX _ _ _ _ _ (by rfl) (pv 3) (@pa_consX _ _ _ _ _ (by rfl) (@pe_tupS _ _ _ _ _ pa_nil) pa_nil)))) (@pa_consX _ _ _ _ _ (by rfl) (@pe_tupS _ _ _ _ _ (@pa_consX _ _ _ _ _ (by rfl) (pv 3) (@pa_consX _ _ _ _ _ (by rfl) (pv 2) pa_nil))) (@pa_consX _ _ _ _ _ (by rfl) (@pe_tupS _ _ _ _ _ (@pa_consX _ _ _ _ _ (by rfl) (pv 1) pa_nil)) (@pa_consX _ _ _ _ _ (by rfl) pe_dnewG (@pa_consX _ _ _ _ _ (by rfl) (pv 2) pa_nil)))))))))))))))
    (@pss_cons _ _ _ _ _ (@ps_setX _ _ 5 _ _ _ _ (by rfl) (Or.inl rfl) nd rfl (Or.inl rfl) (pe_op op_catS (pv 5) (@pe_lstS _ _ _ _ (@pa_consX _ _ _ _ _ (by rfl) (pe_dispG (K := K) rfl hr (pps_cons pe_int (pv 2) (pps_cons pe_int (pv 3) pps_nil)) rfl rfl (by simp) (by decide)) (@pa_consX _ _ _ _ _ (by rfl) (pe_dispG (K := K) rfl hr (pps_cons (pv 2) pe_int (pps_cons (pv 3) pe_int pps_nil)) rfl rfl (by simp) (by decide)) pa_nil)))))
    (@pss_one _ _ _ (@ps_ret _ _ _ _ (pe_ix ix_list (pv 5) (pe_def (by rfl) (by rfl) (by rfl) (by decide) Dw (hr.mono (by decide)) (@pa_consX _ _ _ _ _ (by rfl) (pv 0) (@pa_consX _ _ _ _ _ (by rfl) pe_int pa_nil))) (fun _ _ => rfl))))))
     pss_nil)
    (@pss_cons _ _ _ _ _ (@ps_if _ _ _ _ _ _ _ _ (pt_cmpR op_eq (pv 4) pe_int (nomark _))
     (@pss_one _ _ _ (@ps_ret _ _ _ _ (@pe_tupS _ _ _ _ _ (@pa_consX _ _ _ _ _ (by rfl) (pe_ix ix_list (@pe_lstS _ _ _ _ (@pa_consX _ _ _ _ _ (by rfl) pe_int (@pa_consX _ _ _ _ _ (by rfl) pe_int (@pa_consX _ _ _ _ _ (by rfl) pe_int (@pa_consX _ _ _ _ _ (by rfl) pe_bl (@pa_consX _ _ _ _ _ (by rfl) pe_non (@pa_consX _ _ _ _ _ (by rfl) pe_str (@pa_consX _ _ _ _ _ (by rfl) pe_neg1 (@pa_consX _ _ _ _ _ (by rfl) (@pe_tupS _ _ _ _ _ (@pa_consX _ _ _ _ _ (by rfl) (pv 2) pa_nil)) (@pa_consX _ _ _ _ _ (by rfl) (pe_op op_pow pe_int pe_int) (@pa_consX _ _ _ _ _ (by rfl) pe_int pa_nil))))))))))) (pe_def (by rfl) (by rfl) (by rfl) (by decide) Dw (hr.mono (by decide)) (@pa_consX _ _ _ _ _ (by rfl) (pv 0) (@pa_consX _ _ _ _ _ (by rfl) pe_int pa_nil))) (fun _ _ => rfl)) (@pa_consX _ _ _ _ _ (by rfl) (pv 3) pa_nil)))))
     pss_nil)
    (@pss_cons _ _ _ _ _ (@ps_if _ _ _ _ _ _ _ _ (PW.pt (pw_or (pt_cmpR op_eq (pv 4) pe_int (nomark _)) (pw_or1 (pt_cmpR (op_eqNil hr) (pv 3) (@pe_tupS _ _ _ _ _ pa_nil) (nomark _)))))
     (@pss_cons _ _ _ _ _ (@ps_setX _ _ 5 _ _ _ _ (by rfl) (Or.inl rfl) nd rfl (Or.inl rfl) (@pe_lstS _ _ _ _ (@pa_consX _ _ _ _ _ (by rfl) (pe_callTy call_listS (by rfl) T.lst boot_list (@pa_consX _ _ _ _ _ (by rfl) (pv 3) pa_nil)) (@pa_consX _ _ _ _ _ (by rfl) pe_non (@pa_consX _ _ _ _ _ (by rfl) pe_dnewG (@pa_consX _ _ _ _ _ (by rfl) pe_str (@pa_consX _ _ _ _ _ (by rfl) (pe_op op_repT (@pe_tupS _ _ _ _ _ (@pa_consX _ _ _ _ _ (by rfl) (@pe_tupS _ _ _ _ _ (@pa_consX _ _ _ _ _ (by rfl) pe_int (@pa_consX _ _ _ _ _ (by rfl) pe_int pa_nil))) pa_nil)) pe_int) (@pa_consX _ _ _ _ _ (by rfl) (pe_op op_repT (@pe_tupS _ _ _ _ _ (@pa_consX _ _ _ _ _ (by rfl) (@pe_tupS _ _ _ _ _ (@pa_consX _ _ _ _ _ (by rfl) pe_int (@pa_consX _ _ _ _ _ (by rfl) pe_int pa_nil))) pa_nil)) pe_int) (@pa_consX _ _ _ _ _ (by rfl) (@pe_tupS _ _ _ _ _ (@pa_consX _ _ _ _ _ (by rfl) (@pe_tupS _ _ _ _ _ (@pa_consX _ _ _ _ _ (by rfl) pe_int (@pa_consX _ _ _ _ _ (by rfl) (pv 2) pa_nil))) pa_nil)) (@pa_consX _ _ _ _ _ (by rfl) (@pe_tupS _ _ _ _ _ (@pa_consX _ _ _ _ _ (by rfl) (@pe_tupS _ _ _ _ _ (@pa_consX _ _ _ _ _ (by rfl) pe_int (@pa_consX _ _ _ _ _ (by rfl) pe_bl pa_nil))) pa_nil)) (@pa_consX _ _ _ _ _ (by rfl) (pe_dispG (K := K) rfl hr (pps_cons (@pe_tupS _ _ _ _ _ (@pa_consX _ _ _ _ _ (by rfl) pe_int (@pa_consX _ _ _ _ _ (by rfl) pe_int pa_nil))) pe_int pps_nil) rfl rfl (by simp) (by decide)) pa_nil)))))))))))
    (@pss_one _ _ _ (@ps_ret _ _ _ _ (@pe_tupS _ _ _ _ _ (@pa_consX _ _ _ _ _ (by rfl) (pv 2) (@pa_consX _ _ _ _ _ (by rfl) (pe_ix ix_list (pv 5) (pe_def (by rfl) (by rfl) (by rfl) (by decide) Dw (hr.mono (by decide)) (@pa_consX _ _ _ _ _ (by rfl) (pv 0) (@pa_consX _ _ _ _ _ (by rfl) pe_int pa_nil))) (fun _ _ => rfl)) pa_nil))))))
     pss_nil)
    (@pss_cons _ _ _ _ _ (@ps_setX _ _ 6 _ _ _ _ (by rfl) (Or.inl rfl) nd rfl (Or.inl rfl) (pe_def (by rfl) (by rfl) (by rfl) (by decide) Dw (hr.mono (by decide)) (@pa_consX _ _ _ _ _ (by rfl) (pv 0) (@pa_consX _ _ _ _ _ (by rfl) (pe_callB call_len_seq (by rfl) T.len PySem.boot_len (@pa_consX _ _ _ _ _ (by rfl) (pv 3) pa_nil)) pa_nil))))
    (@pss_cons _ _ _ _ _ (@ps_if _ _ _ _ _ _ _ _ (pt_cmpR op_eq (pv 4) pe_int (nomark _))
     (@pss_one _ _ _ (@ps_ret _ _ _ _ (@pe_tupS _ _ _ _ _ (@pa_consX _ _ _ _ _ (by rfl) (pv 2) (@pa_consX _ _ _ _ _ (by rfl) (pe_op op_catTS (pe_op op_catTS (pe_slice sl_tupA (pv 3) po_none (po_some (pv 6))) (pe_slice sl_tupA (pv 3) (po_some (pv 6)) (po_some (pe_op op_add (pv 6) pe_int)))) (pe_slice sl_tupA (pv 3) (po_some (pv 6)) po_none)) pa_nil)))))
     pss_nil)
    (@pss_cons _ _ _ _ _ (@ps_if _ _ _ _ _ _ _ _ (pt_cmpR op_eq (pv 4) pe_int (nomark _))
     (@pss_one _ _ _ (@ps_ret _ _ _ _ (@pe_tupS _ _ _ _ _ (@pa_consX _ _ _ _ _ (by rfl) (pv 2) (@pa_consX _ _ _ _ _ (by rfl) (pe_op op_catTS (pe_op op_catTS (pe_slice sl_tupA (pv 3) po_none (po_some (pv 6))) (pe_rev (pe_slice sl_tupA (pv 3) (po_some (pv 6)) (po_some (pe_op op_add (pv 6) pe_int))) pe_neg1)) (pe_slice sl_tupA (pv 3) (po_some (pe_op op_add (pv 6) pe_int)) po_none)) pa_nil)))))
     pss_nil)
    (@pss_one _ _ _ (@ps_ret _ _ _ _ (@pe_tupS _ _ _ _ _ (@pa_consX _ _ _ _ _ (by rfl) (pv 2) (@pa_consX _ _ _ _ _ (by rfl) (pe_op op_catTS (pe_op op_catTS (pe_slice sl_tupA (pv 3) po_none (po_some (pv 6))) (@pe_tupS _ _ _ _ _ (@pa_consX _ _ _ _ _ (by rfl) (pe_def (by rfl) (by rfl) (by rfl) (by decide) Bl (hr.mono (by decide)) (@pa_consX _ _ _ _ _ (by rfl) (pv 0) (@pa_consX _ _ _ _ _ (by rfl) (pe_ix ix_tup (pv 3) (pv 6) (fun _ _ => rfl)) (@pa_consX _ _ _ _ _ (by rfl) (pv 2) pa_nil)))) pa_nil))) (pe_slice sl_tupA (pv 3) (po_some (pe_op op_add (pv 6) pe_int)) po_none)) pa_nil))))))))))))), ?_⟩
   obtain ⟨p, i, b, ys, e, hp, si, eb, ln, fy⟩ := hw
   refine ⟨_, rfl, a, _, rfl, SqT.of e, rfl, _, _, rfl, _, _, rfl, rfl, ?_⟩
   refine ⟨_, rfl, h, 8, rfl, by decide, by decide, hh, fun kd G0 d0 d1 hh0 k0 => ?_⟩
   have kv0 : Kv h K H G0 := hh.kv hh0 k0
   have eG := kv0.tp _ _ e
   have ebG := kv0.tp _ _ eb
   have fG : ∀ y ∈ ys, Lk2 K G0 k y := fun y hy => (fy y hy).kv kv0
   clear e eb fy kv0
   have k2 : k + 1 ≤ 2 := by omega
   have rl : ∀ {J : Hp} {m : Bool}, Same G0 J → Rz h m K J 558200 4 (.ref b) := fun S => links_rz (S _ _ ebG) (fun y hy => .inl ((fG y hy).kv (h := h) S.kv).lkt) (Nat.le_trans k1 (by decide)) (by omega)
   have rp : ∀ {J : Hp} {m : Bool} {n d : Nat}, 2000 ≤ n → Rz h m K J n d p := fun hn => (hp.rz si hn).mono (Nat.le_refl _) (Nat.zero_le _)
   have rw_ : ∀ {J : Hp} {m : Bool}, Same G0 J → Rz h m K J 1200000 6 (.ref a) := fun S => (Rz.tup (n := 558200) (k := 4) (L := 2) (SqT.of (S _ _ eG)) (fun y hy => by
    simp only [List.mem_cons, List.not_mem_nil, or_false] at hy
    rcases hy with rfl | rfl
    · exact rp (by decide)
    · exact rl S) (by simp)).mono (by decide) (by decide)
   have hl : ∀ {J : Hp}, Same G0 J → Hs K J (k + 2) (.ref b) := fun S => .tup (SqT.of (S _ _ ebG)) fun y hy => ((fG y hy).kv (h := h) S.kv).lkt.hs
   have lp : ∀ {J : Hp} {j : Nat}, Lf J j p := hp.lv si
   have r0 : ∀ {J : Hp} {m : Bool} {n d : Nat} {z : Int}, Sz 110 z → 2000 ≤ n → Rz h m K J n d (.int z) := fun hz hn => ((Nm.int _).rz hz hn).mono (Nat.le_refl _) (Nat.zero_le _)
   have s0 : Sz 110 0 := by unfold Sz; decide
   have s1 : Sz 110 1 := by unfold Sz; decide
   have up : ∀ {J : Hp} {m : Bool}, Same G0 J → ∀ y ∈ ys, ElG h m K (k + 1) J y := fun S y hy => .inl ((fG y hy).kv (h := h) S.kv).lkt.up
   by_cases c0 : kd = 0
   · subst c0
     refine ⟨_, rfl, rfl, _, rfl, ifT (decide_eq_true rfl) ?_⟩
     have S0 : Same G0 G0 := Same.refl _
     have A0 : AllG h K (k + 1) G0 [] := AllG.nil
     have A0 := A0.add (tg_flat .non (by decide))
     have A0 := A0.add (tg_nm (.int 0) s0)
     have A0 := A0.add (tg_flat (.bl true) (by decide))
     have A0 := A0.add (tg_flat (.str (Str.ofString "") (by decide +kernel)) (by decide +kernel))
     refine ⟨(by show 0 ≤ sizeLine; decide), fun t1 J1 u1 w1 f1 => ?_⟩
     have S1 := S0.trans u1
     have n1 : t1 ≠ h := (hh0.same S0).ne w1
     have A1 := (A0.same u1).add (tg_tup (m := true) f1 (by simp) (by simp) (by intro z hz; cases hz))
     refine ⟨(by show 0 ≤ sizeLine; decide), fun t2 J2 u2 w2 f2 => ?_⟩
     have S2 := S1.trans u2
     have n2 : t2 ≠ h := (hh0.same S1).ne w2
     have A2 := (A1.same u2).add (tg_lst f2 n2 (by simp) (by intro z hz; cases hz))
     refine ⟨_, rfl, a, _, rfl, .inr (SqT.of (S2 _ _ eG)), fun t3 J3 u3 w3 f3 => ?_⟩
     have S3 := S2.trans u3
     have n3 : t3 ≠ h := (hh0.same S2).ne w3
     have A3 := (A2.same u3).add (tg_lst f3 n3 (by simp) (by intro z hz; simp only [List.mem_cons, List.not_mem_nil, or_false] at hz; rcases hz with rfl | rfl; exact rp (by decide); exact (rl S3).mono (by decide) (by decide)))
     refine ⟨_, rfl, (by show 1 ≤ sizeLine; decide), fun t4 J4 u4 w4 f4 => ?_⟩
     have S4 := S3.trans u4
     have n4 : t4 ≠ h := (hh0.same S3).ne w4
     have A4 := (A3.same u4).add (tg_tup (m := true) f4 (by simp) (by simp) (by intro z hz; rw [List.mem_singleton.mp hz]; exact rp (by decide)))
     refine ⟨_, rfl, _, rfl, (by show 0 ≤ sizeLine; decide), fun t5 J5 u5 w5 f5 => ?_⟩
     have S5 := S4.trans u5
     have n5 : t5 ≠ h := (hh0.same S4).ne w5
     have A5 := A4.same u5
     refine ⟨(by show 3 ≤ sizeLine; decide), fun t6 J6 u6 w6 f6 => ?_⟩
     have S6 := S5.trans u6
     have n6 : t6 ≠ h := (hh0.same S5).ne w6
     have A6 := (A5.same u6).add (tg_tup (m := true) f6 (by simp) (by simp) (by intro z hz; simp only [List.mem_cons, List.not_mem_nil, or_false] at hz; rcases hz with rfl | rfl | rfl; exact rp (by decide); exact (rl S6).mono (by decide) (by decide); exact (Rz.tup (n := 0) (k := 0) (L := 0) (SqT.of (u6 _ _ f5)) (by intro z hz; cases hz) (by simp)).mono (by decide) (by decide)))
     refine ⟨_, rfl, _, rfl, (by show 2 ≤ sizeLine; decide), fun t7 J7 u7 w7 f7 => ?_⟩
     have S7 := S6.trans u7
     have n7 : t7 ≠ h := (hh0.same S6).ne w7
     have A7 := (A6.same u7).add (.oth f7 (.tup (S7 _ _ ebG)) (ki_ti _) ⟨true, (Rz.tup (n := 1200000) (k := 6) (L := 2) (SqT.of f7) (by intro z hz; simp only [List.mem_cons, List.not_mem_nil, or_false] at hz; rcases hz with rfl | rfl; exact (rl S7).mono (by decide) (by decide); exact rp (by decide)) (by simp)).mono (by decide) (by decide)⟩)
     refine ⟨_, rfl, (by show 1 ≤ sizeLine; decide), fun t8 J8 u8 w8 f8 => ?_⟩
     have S8 := S7.trans u8
     have n8 : t8 ≠ h := (hh0.same S7).ne w8
     have A8 := (A7.same u8).add (tg_tup (m := true) f8 (by simp) (by simp) (by intro z hz; rw [List.mem_singleton.mp hz]; exact rw_ S8))
     intro t9 w9
     have u9 : Same J8 (upd J8 t9 (DctV t9 [] [])) := Same.new w9
     have f9 : upd J8 t9 (DctV t9 [] []) t9 = some (DctV t9 [] []) := upd_same
     generalize upd J8 t9 (DctV t9 [] []) = J9 at *
     have S9 := S8.trans u9
     have n9 : t9 ≠ h := (hh0.same S8).ne w9
     have A9 := (A8.same u9).add (tg_dct f9 (by intro z hz; cases hz) (by intro z hz; cases hz) rfl (by decide))
     have A9 := A9.add (tg_nm hp si)
     refine ⟨_, rfl, (by show 13 ≤ sizeLine; decide), fun t10 J10 u10 w10 f10 => ?_⟩
     have S10 := S9.trans u10
     have n10 : t10 ≠ h := (hh0.same S9).ne w10
     have A10 := A9.same u10
     refine ⟨_, rfl, ?_⟩
     intro t11 w11
     refine ⟨_, rfl, _, rfl, upd_same, .inr ⟨0, _, _, _, _, rfl, .int 0, .int 1, by decide⟩, fun ks11 vs11 a11 b11 l11 m11 => ?_⟩
     rw [upd_upd]
     have u11 : Same J10 (upd J10 t11 (DctV t11 ks11 vs11)) := Same.new w11
     have f11 : upd J10 t11 (DctV t11 ks11 vs11) t11 = some (DctV t11 ks11 vs11) := upd_same
     generalize upd J10 t11 (DctV t11 ks11 vs11) = J11 at *
     have S11 := S10.trans u11
     have n11 : t11 ≠ h := (hh0.same S10).ne w11
     have A11 := (A10.same u11).add (tg_dct f11 (fun z hz => by have hz := a11 z hz; simp only [List.map_cons, List.map_nil, List.mem_cons, List.not_mem_nil, or_false] at hz; rcases hz with rfl | rfl; exact r0 s0 (by decide); exact r0 s1 (by decide)) (fun z hz => by have hz := b11 z hz; simp only [List.map_cons, List.map_nil, List.mem_cons, List.not_mem_nil, or_false] at hz; rcases hz with rfl | rfl; exact rp (by decide); exact (rl S11).mono (by decide) (by decide)) l11 m11)
     intro t12 w12
     refine ⟨_, rfl, _, rfl, upd_same, .inr ⟨k + 2, _, _, _, _, rfl, lp.hs, hl (S11.trans (Same.new w12)), by omega⟩, fun ks12 vs12 a12 b12 l12 m12 => ?_⟩
     rw [upd_upd]
     have u12 : Same J11 (upd J11 t12 (DctV t12 ks12 vs12)) := Same.new w12
     have f12 : upd J11 t12 (DctV t12 ks12 vs12) t12 = some (DctV t12 ks12 vs12) := upd_same
     generalize upd J11 t12 (DctV t12 ks12 vs12) = J12 at *
     have S12 := S11.trans u12
     have n12 : t12 ≠ h := (hh0.same S11).ne w12
     have A12 := (A11.same u12).add (tg_dct f12 (fun z hz => by have hz := a12 z hz; simp only [List.map_cons, List.map_nil, List.mem_cons, List.not_mem_nil, or_false] at hz; rcases hz with rfl | rfl; exact rp (by decide); exact (rl S12).mono (by decide) (by decide)) (fun z hz => by have hz := b12 z hz; simp only [List.map_cons, List.map_nil, List.mem_cons, List.not_mem_nil, or_false] at hz; rcases hz with rfl | rfl; exact r0 s0 (by decide); exact r0 s1 (by decide)) l12 m12)
     refine ⟨(by show 2 ≤ sizeLine; decide), fun t13 J13 u13 w13 f13 => ?_⟩
     have S13 := S12.trans u13
     have n13 : t13 ≠ h := (hh0.same S12).ne w13
     have A13 := A12.same u13
     refine ⟨t10, t13, _, _, rfl, rfl, (u11.trans ( u12.trans (u13))) _ _ f10, f13, (by show 15 ≤ sizeLine; decide), fun t14 J14 u14 w14 f14 => ?_⟩
     have S14 := S13.trans u14
     have n14 : t14 ≠ h := (hh0.same S13).ne w14
     have A14 := A13.same u14
     refine ⟨_, rfl, _, rfl, h, 15, rfl, by decide, by decide, hh0.same S14, fun v9 G9 a9 b9 hh9 k9 => ?_⟩
     have f9 := k9 _ _ f14 n14
     have kv9 : Kv h K J14 G9 := (hh0.same S14).kv hh9 k9
     obtain ⟨u9, e9, m9⟩ := atI_at f9 a9 (by show v9 < 15; exact b9)
     refine ⟨t14, _, _, _, rfl, rfl, SqL.of f9, e9, ?_⟩
     exact ko _ _ hh9 ((k0.trans S14.kp).trans k9) ((A14 u9 (by simpa using m9)).kv kv9)
   refine ⟨_, rfl, rfl, _, rfl, ifF (decide_eq_false fun z => c0 (V.int.inj z)) ?_⟩
   by_cases c1 : kd = 1
   · subst c1
     refine ⟨_, rfl, rfl, _, rfl, ifT (decide_eq_true rfl) ?_⟩
     have S0 : Same G0 G0 := Same.refl _
     refine ⟨_, rfl, (by show 1 ≤ sizeLine; decide), fun t1 J1 u1 w1 f1 => ?_⟩
     refine ⟨_, _, rfl, rfl, ⟨by decide, by decide, by decide⟩, (by show 10 ≤ sizeLine; decide), fun t2 J2 u2 w2 f2 => ?_⟩
     have S2 := u1.trans u2
     have n2 : t2 ≠ h := (hh0.same u1).ne w2
     have AP : AllP h K J2 [.int 0, .int 13, .int 12, .bl true, .non, .str "3", .int (-1), .ref t1, .int ((10 : Int) ^ (30 : Int).toNat), .int 1] := by
      intro u hu
      simp only [List.mem_cons, List.not_mem_nil, or_false] at hu
      rcases hu with rfl | rfl | rfl | rfl | rfl | rfl | rfl | rfl | rfl | rfl
      · exact .inl ⟨_, .int _, s0⟩
      · exact .inl ⟨_, .int _, by unfold Sz; decide⟩
      · exact .inl ⟨_, .int _, by unfold Sz; decide⟩
      · exact .inl ⟨_, .bl true, by unfold Sz; decide⟩
      · exact .inr ⟨_, .non, ki_ni _, fun m => (Rz.fl (n := 2000) .non (by decide)).mono (by decide) (by decide)⟩
      · exact .inr ⟨_, .str _, ki_si _, fun m => (Rz.fl (n := 2000) (.str "3" (by decide +kernel)) (by decide +kernel)).mono (by decide) (by decide)⟩
      · exact .inl ⟨_, .int _, by unfold Sz; decide⟩
      · exact .inr ⟨_, .tup (u2 _ _ f1), ki_ti _, fun m => (Rz.tup (n := 2000) (k := 0) (L := 1) (SqT.of (u2 _ _ f1)) (fun z hz => by rw [List.mem_singleton.mp hz]; exact rp (by decide)) (by simp)).mono (by decide) (by decide)⟩
      · exact .inl ⟨_, .int _, by unfold Sz; decide +kernel⟩
      · exact .inl ⟨_, .int _, s1⟩
     refine ⟨_, rfl, h, 10, rfl, by decide, by decide, hh0.same S2, fun v9 G9 a9 b9 hh9 k9 => ?_⟩
     have f9 := k9 _ _ f2 n2
     have kv9 : Kv h K J2 G9 := (hh0.same S2).kv hh9 k9
     obtain ⟨u9, e9, m9⟩ := atI_at f9 a9 (by show v9 < 10; exact b9)
     refine ⟨t2, _, _, _, rfl, rfl, SqL.of f9, e9, _, rfl, (by show 2 ≤ sizeLine; decide), fun tw Gw sw mw ew => ?_⟩
     have kvw : Kv h K G0 Gw := (Same.kv S2).trans (kv9.trans sw.kv)
     have hpg := ((AP u9 m9).kv kv9).kv (h := h) sw.kv
     refine ko _ _ (hh9.same sw) (((k0.trans S2.kp).trans k9).trans sw.kp) ?_
     rcases hpg with ⟨j, nj, sj⟩ | ⟨t, ty, et, rz⟩
     · exact .web (m := true) ew nj sj (kvw.tp _ _ ebG) (fun y hy => .inl ((fG y hy).kv kvw).lkt.up) (by omega)
     · exact .oth ew ty et ⟨true, (Rz.tup (n := 600000) (k := 6) (L := 2) (SqT.of ew) (fun z hz => by
        simp only [List.mem_cons, List.not_mem_nil, or_false] at hz
        rcases hz with rfl | rfl
        · exact rz _
        · exact (links_rz (kvw.tp _ _ ebG) (fun y hy => .inl ((fG y hy).kv kvw).lkt) (Nat.le_trans k1 (by decide)) (by omega)).mono (by decide) (by decide)) (by simp)).mono (by decide) (by decide)⟩
   refine ⟨_, rfl, rfl, _, rfl, ifF (decide_eq_false fun z => c1 (V.int.inj z)) ?_⟩
   show tIfS (tOr (tTest (tOp rEq (tVar 4) (tC (V.int 2)))) _) _ _ _ _ _
   refine ifS_or (fun H1 => Same G0 H1) (fun H1 => Same G0 H1 ∧ ys ≠ []) (fun TT UU hT hU => ?_) (fun HB SB => ?_) (fun HB ⟨SB, ny⟩ => ?_)
   · by_cases c2 : kd = 2
     · subst c2
       refine ⟨_, rfl, rfl, _, rfl, ifT (decide_eq_true rfl) ?_⟩
       exact hT _ (Same.refl _)
     refine ⟨_, rfl, rfl, _, rfl, ifF (decide_eq_false fun z => c2 (V.int.inj z)) ?_⟩
     refine ⟨_, rfl, (by show 0 ≤ sizeLine; decide), fun t1 J1 u1 w1 f1 => ⟨b, t1, ys, rfl, rfl, .inl ⟨SqT.of (u1 _ _ ebG), SqT.of f1⟩, _, rfl, ?_⟩⟩
     cases ys with
     | nil => exact hT _ u1
     | cons y0 y1 => exact hU _ ⟨u1, by simp⟩
   · have S0 : Same G0 HB := SB
     have hhB := hh0.same SB
     have T0 : Same HB HB := Same.refl _
     have A0 : AllL h K (k + 1) HB [] := AllL.nil
     refine ⟨_, rfl, b, _, rfl, .inr (SqT.of (S0 _ _ ebG)), fun t1 J1 u1 w1 f1 => ?_⟩
     have S1 := S0.trans u1
     have T1 := T0.trans u1
     have n1 : t1 ≠ h := (hhB.same T0).ne w1
     have A1 := (A0.same u1).add (.inl ⟨_, false, .inl (.lst f1), ki_lt _, (Rz.lst (n := 9000) (k := 3) (L := 62) n1 f1 (fun y hy => (up S1 y hy).rz k2) (by omega)).mono (by decide) (by decide)⟩)
     have A1 := A1.add (ls_flat .non (by decide))
     intro t2 w2
     have u2 : Same J1 (upd J1 t2 (DctV t2 [] [])) := Same.new w2
     have f2 : upd J1 t2 (DctV t2 [] []) t2 = some (DctV t2 [] []) := upd_same
     generalize upd J1 t2 (DctV t2 [] []) = J2 at *
     have S2 := S1.trans u2
     have T2 := T1.trans u2
     have n2 : t2 ≠ h := (hhB.same T1).ne w2
     have A2 := (A1.same u2).add (.inl ⟨_, true, .inr (.inl ⟨_, _, _, rfl, f2, rfl⟩), ki_dt _, (Rz.dct (n := 0) (k := 0) f2 (by intro z hz; cases hz) (by intro z hz; cases hz) rfl (by decide)).mono (by decide) (by decide)⟩)
     have A2 := A2.add (ls_flat (.str (Str.ofString "") (by decide +kernel)) (by decide +kernel))
     refine ⟨(by show 2 ≤ sizeLine; decide), fun t3 J3 u3 w3 f3 => ?_⟩
     have S3 := S2.trans u3
     have T3 := T2.trans u3
     have n3 : t3 ≠ h := (hhB.same T2).ne w3
     have A3 := A2.same u3
     refine ⟨(by show 1 ≤ sizeLine; decide), fun t4 J4 u4 w4 f4 => ?_⟩
     have S4 := S3.trans u4
     have T4 := T3.trans u4
     have n4 : t4 ≠ h := (hhB.same T3).ne w4
     have A4 := A3.same u4
     have lk4 : ∀ {J : Hp}, Same J3 J → ElG h true K (k + 1) J (.ref t3) := fun S => el_two (S _ _ f3) (ns_int s0) (ns_int s0).lv
     refine ⟨t4, 60, _, rfl, rfl, f4, (by simp), (by decide), (by decide), (by show 60 ≤ sizeLine; decide), fun t5 J5 u5 f5 => ?_⟩
     have S5 := S4.trans u5
     have T5 := T4.trans u5
     have A5 := (A4.same u5).add (.inr ⟨_, _, rfl, f5, (by simp), fun y hy => by obtain ⟨l, hl1, hl2⟩ := List.mem_flatten.mp hy; rw [List.eq_of_mem_replicate hl1] at hl2; rw [List.mem_singleton.mp hl2]; exact lk4 (u4.trans u5)⟩)
     refine ⟨(by show 2 ≤ sizeLine; decide), fun t6 J6 u6 w6 f6 => ?_⟩
     have S6 := S5.trans u6
     have T6 := T5.trans u6
     have n6 : t6 ≠ h := (hhB.same T5).ne w6
     have A6 := A5.same u6
     refine ⟨(by show 1 ≤ sizeLine; decide), fun t7 J7 u7 w7 f7 => ?_⟩
     have S7 := S6.trans u7
     have T7 := T6.trans u7
     have n7 : t7 ≠ h := (hhB.same T6).ne w7
     have A7 := A6.same u7
     have lk7 : ∀ {J : Hp}, Same J6 J → ElG h true K (k + 1) J (.ref t6) := fun S => el_two (S _ _ f6) (ns_int s0) (ns_int s0).lv
     refine ⟨t7, 61, _, rfl, rfl, f7, (by simp), (by decide), (by decide), (by show 61 ≤ sizeLine; decide), fun t8 J8 u8 f8 => ?_⟩
     have S8 := S7.trans u8
     have T8 := T7.trans u8
     have A8 := (A7.same u8).add (.inr ⟨_, _, rfl, f8, (by simp), fun y hy => by obtain ⟨l, hl1, hl2⟩ := List.mem_flatten.mp hy; rw [List.eq_of_mem_replicate hl1] at hl2; rw [List.mem_singleton.mp hl2]; exact lk7 (u7.trans u8)⟩)
     refine ⟨_, rfl, (by show 2 ≤ sizeLine; decide), fun t9 J9 u9 w9 f9 => ?_⟩
     have S9 := S8.trans u9
     have T9 := T8.trans u9
     have n9 : t9 ≠ h := (hhB.same T8).ne w9
     have A9 := A8.same u9
     refine ⟨(by show 1 ≤ sizeLine; decide), fun t10 J10 u10 w10 f10 => ?_⟩
     have S10 := S9.trans u10
     have T10 := T9.trans u10
     have n10 : t10 ≠ h := (hhB.same T9).ne w10
     have A10 := (A9.same u10).add (.inr ⟨_, _, rfl, f10, (by simp), fun y hy => by rw [List.mem_singleton.mp hy]; exact el_two (u10 _ _ f9) (ns_int s0) lp⟩)
     refine ⟨(by show 2 ≤ sizeLine; decide), fun t11 J11 u11 w11 f11 => ?_⟩
     have S11 := S10.trans u11
     have T11 := T10.trans u11
     have n11 : t11 ≠ h := (hhB.same T10).ne w11
     have A11 := A10.same u11
     refine ⟨(by show 1 ≤ sizeLine; decide), fun t12 J12 u12 w12 f12 => ?_⟩
     have S12 := S11.trans u12
     have T12 := T11.trans u12
     have n12 : t12 ≠ h := (hhB.same T11).ne w12
     have A12 := (A11.same u12).add (.inr ⟨_, _, rfl, f12, (by simp), fun y hy => by rw [List.mem_singleton.mp hy]; exact el_two (u12 _ _ f11) (ns_int s0) (ns_bl true).lv⟩)
     intro t13 w13
     refine ⟨(by show 2 ≤ sizeLine; decide), fun qk Gk sk mk ek => ⟨sk _ _ upd_same, .inl ⟨1, _, _, rfl, .tup (SqT.of ek) (fun z hz => ?_), by decide⟩, fun ks vs ak bk lk mk2 => ?_⟩⟩
     · simp only [List.mem_cons, List.not_mem_nil, or_false] at hz
       rcases hz with rfl | rfl <;> exact .int 0
     have u13 : Same J12 (upd Gk t13 (DctV t13 ks vs)) := fun x o ex => by rw [upd_ne (ne_of_none ex w13)]; exact sk _ _ (by rw [upd_ne (ne_of_none ex w13)]; exact ex)
     have nqt : qk ≠ t13 := fun z => by subst z; rw [upd_same] at mk; cases mk
     have ek2 : upd Gk t13 (DctV t13 ks vs) qk = some (.tup [.int 0, .int 0]) := by rw [upd_ne nqt]; exact ek
     have f13 : upd Gk t13 (DctV t13 ks vs) t13 = some (DctV t13 ks vs) := upd_same
     generalize upd Gk t13 (DctV t13 ks vs) = J13 at *
     have S13 := S12.trans u13
     have T13 := T12.trans u13
     have n13 : t13 ≠ h := (hhB.same T12).ne w13
     have A13 := (A12.same u13).add (.inl ⟨_, true, .inr (.inl ⟨_, _, _, rfl, f13, rfl⟩), ki_dt _, (Rz.dct (n := 6000) (k := 1) f13 (fun z hz => by have hz := ak z hz; simp only [List.map_cons, List.map_nil, List.mem_cons, List.not_mem_nil, or_false] at hz; subst hz; exact (Rz.tup (n := 2000) (k := 0) (L := 2) (SqT.of ek2) (fun z hz => by simp only [List.mem_cons, List.not_mem_nil, or_false] at hz; rcases hz with rfl | rfl <;> exact r0 s0 (by decide)) (by simp)).mono (by decide) (by decide)) (fun z hz => by have hz := bk z hz; simp only [List.map_cons, List.map_nil, List.mem_cons, List.not_mem_nil, or_false] at hz; subst hz; exact r0 s1 (by decide)) lk mk2).mono (by decide) (by decide)⟩)
     refine ⟨(by show 9 ≤ sizeLine; decide), fun t14 J14 u14 w14 f14 => ?_⟩
     have S14 := S13.trans u14
     have T14 := T13.trans u14
     have n14 : t14 ≠ h := (hhB.same T13).ne w14
     have A14 := A13.same u14
     refine ⟨_, rfl, _, rfl, _, rfl, h, 9, rfl, by decide, by decide, hhB.same T14, fun v9 G9 a9 b9 hh9 k9 => ?_⟩
     have f9 := k9 _ _ f14 n14
     have kv9 : Kv h K J14 G9 := (hhB.same T14).kv hh9 k9
     obtain ⟨u9, e9, m9⟩ := atI_at f9 a9 (by show v9 < 9; exact b9)
     refine ⟨t14, _, _, _, rfl, rfl, SqL.of f9, e9, (by show 2 ≤ sizeLine; decide), fun tw Gw sw mw ew => ?_⟩
     have hle := ((A14 u9 (by simpa using m9)).kv kv9).kv (h := h) sw.kv
     exact ko _ _ (hh9.same sw) (((k0.trans S14.kp).trans k9).trans sw.kp) (ls_th ew hp si hle (by omega))
   have nl : 0 < ys.length := List.length_pos_iff.mpr ny
   refine ⟨_, rfl, _, rfl, b, _, rfl, .inr (SqT.of (SB _ _ ebG)), h, _, rfl, (by omega), (by omega), hh0.same SB, fun at_ G1 a1 b1 hh1 k1' => ?_⟩
   obtain ⟨j, rfl⟩ := Int.eq_ofNat_of_zero_le a1
   have hj : j < ys.length := by omega
   have kv1 : Kv h K G0 G1 := (Same.kv SB).trans ((hh0.same SB).kv hh1 k1')
   have eb1 := kv1.tp _ _ ebG
   have f1 : ∀ y ∈ ys, Lk2 K G1 k y := fun y hy => (fG y hy).kv kv1
   have kp1 : Kp h H G1 := (k0.trans SB.kp).trans k1'
   have up1 : ∀ {J : Hp} {m : Bool}, Kv h K G1 J → ∀ y ∈ ys, ElG h m K (k + 1) J y := fun S y hy => .inl ((f1 y hy).kv S).lkt.up
   clear rl rp rw_ hl lp r0 up SB kv1 ebG eG fG
   by_cases c3 : kd = 3
   · subst c3
     refine ⟨_, rfl, rfl, _, rfl, ifT (decide_eq_true rfl) ?_⟩
     refine ⟨_, rfl, _, rfl, _, rfl, _, rfl, b, ys, rfl, eb1, fun t1 J1 u1 g1 => ?_⟩
     refine ⟨_, rfl, _, rfl, _, rfl, _, rfl, _, _, rfl, rfl, _, rfl, b, ys, rfl, u1 _ _ eb1, fun t2 J2 u2 g2 => ?_⟩
     have c1l := cut_len ys none (some (j : Int))
     have c2l := cut_len ys (some (j : Int)) (some ((j : Int) + 1))
     have c3l := cut_len ys (some (j : Int)) none
     rw [HT.sIx_nat] at c1l c3l
     rw [show ((j : Int) + 1) = ((j + 1 : Nat) : Int) from rfl, HT.sIx_nat, HT.sIx_nat] at c2l
     have c2l : (cutV ys (some (j : Int)) (some ((j : Int) + 1))).length = min (j + 1) ys.length - min j ys.length := c2l
     rw [HT.sIx_none] at c1l c3l
     refine ⟨t1, t2, _, _, rfl, rfl, u2 _ _ g1, g2, (by rw [sizeLine_eq]; omega), fun t3 J3 u3 g3 => ?_⟩
     refine ⟨_, rfl, _, rfl, _, rfl, b, ys, rfl, u3 _ _ (u2 _ _ (u1 _ _ eb1)), fun t4 J4 u4 g4 => ?_⟩
     refine ⟨t3, t4, _, _, rfl, rfl, u4 _ _ g3, g4, (by rw [List.length_append, sizeLine_eq]; omega), fun t5 J5 u5 g5 => ?_⟩
     refine ⟨(by show 2 ≤ sizeLine; decide), fun tw Gw sw mw ew => ?_⟩
     have S := u1.trans (u2.trans (u3.trans (u4.trans (u5.trans sw))))
     refine ko _ _ (hh1.same S) (kp1.trans S.kp) (.web (m := true) ew hp si (sw _ _ g5) (fun y hy => up1 S.kv y ?_) ?_)
     · rcases List.mem_append.mp hy with hy | hy
       · rcases List.mem_append.mp hy with hy | hy <;> exact mem_cut hy
       · exact mem_cut hy
     · rw [List.length_append, List.length_append]; omega
   refine ⟨_, rfl, rfl, _, rfl, ifF (decide_eq_false fun z => c3 (V.int.inj z)) ?_⟩
   by_cases c4 : kd = 4
   · subst c4
     refine ⟨_, rfl, rfl, _, rfl, ifT (decide_eq_true rfl) ?_⟩
     refine ⟨_, rfl, _, rfl, _, rfl, _, rfl, b, ys, rfl, eb1, fun t1 J1 u1 g1 => ?_⟩
     refine ⟨_, rfl, _, rfl, _, rfl, _, rfl, _, _, rfl, rfl, _, rfl, b, ys, rfl, u1 _ _ eb1, fun t2 J2 u2 g2 => ?_⟩
     refine ⟨t2, _, rfl, g2, fun t2' J2' u2' m2' g2' => ?_⟩
     have c1l := cut_len ys none (some (j : Int))
     have c2l := cut_len ys (some (j : Int)) (some ((j : Int) + 2))
     have c3l := cut_len ys (some ((j : Int) + 2)) none
     rw [show ((j : Int) + 2) = ((j + 2 : Nat) : Int) from rfl] at c2l c3l
     rw [HT.sIx_nat] at c1l c3l
     rw [HT.sIx_nat, HT.sIx_nat] at c2l
     rw [HT.sIx_none] at c1l c3l
     have c2r : (cutV ys (some (j : Int)) (some ((j : Int) + 2))).reverse.length = min (j + 2) ys.length - min j ys.length := by rw [List.length_reverse]; exact c2l
     refine ⟨t1, t2', _, _, rfl, rfl, u2' _ _ (u2 _ _ g1), g2', (by rw [sizeLine_eq]; omega), fun t3 J3 u3 g3 => ?_⟩
     refine ⟨_, rfl, _, rfl, _, _, rfl, rfl, _, rfl, b, ys, rfl, u3 _ _ (u2' _ _ (u2 _ _ (u1 _ _ eb1))), fun t4 J4 u4 g4 => ?_⟩
     have c3l : (cutV ys (some ((j : Int) + 2)) none).length = ys.length - min (j + 2) ys.length := c3l
     refine ⟨t3, t4, _, _, rfl, rfl, u4 _ _ g3, g4, (by rw [List.length_append, sizeLine_eq]; omega), fun t5 J5 u5 g5 => ?_⟩
     refine ⟨(by show 2 ≤ sizeLine; decide), fun tw Gw sw mw ew => ?_⟩
     have S := u1.trans (u2.trans (u2'.trans (u3.trans (u4.trans (u5.trans sw)))))
     refine ko _ _ (hh1.same S) (kp1.trans S.kp) (.web (m := true) ew hp si (sw _ _ g5) (fun y hy => up1 S.kv y ?_) ?_)
     · rcases List.mem_append.mp hy with hy | hy
       · rcases List.mem_append.mp hy with hy | hy
         · exact mem_cut hy
         · exact mem_cut (List.mem_reverse.mp hy)
       · exact mem_cut hy
     · rw [List.length_append, List.length_append]; omega
   refine ⟨_, rfl, rfl, _, rfl, ifF (decide_eq_false fun z => c4 (V.int.inj z)) ?_⟩
   refine ⟨_, rfl, _, rfl, _, rfl, _, rfl, b, ys, rfl, eb1, fun t1 J1 u1 g1 => ?_⟩
   obtain ⟨q, x, y, eq, hq, nx, ly, nyy⟩ := f1 ys[j] (List.getElem_mem hj)
   refine ⟨_, rfl, _, rfl, _, rfl, b, _, _, _, rfl, rfl, SqT.of (u1 _ _ eb1), atI_nat (by rw [List.getElem?_eq_getElem hj, eq]), _, rfl, h, q, p, x, y, i, k, rfl, hh1.same u1, u1.seqT hq, nx, ly.kv (K := K) (h := h) u1.kv, nyy, k1, hp, si, fun v m J2 hh2 kp2 el => ?_⟩
   have kv2 : Kv h K J1 J2 := (hh1.same u1).kv hh2 kp2
   refine ⟨(by show 1 ≤ sizeLine; decide), fun t3 J3 u3 w3 g3 => ?_⟩
   have c1l := cut_len ys none (some (j : Int))
   have c3l := cut_len ys (some ((j : Int) + 1)) none
   rw [show ((j : Int) + 1) = ((j + 1 : Nat) : Int) from rfl] at c3l
   rw [HT.sIx_nat] at c1l c3l
   rw [HT.sIx_none] at c1l c3l
   have c3l : (cutV ys (some ((j : Int) + 1)) none).length = ys.length - min (j + 1) ys.length := c3l
   refine ⟨t1, t3, _, _, rfl, rfl, u3 _ _ (kv2.tp _ _ g1), g3, (by rw [sizeLine_eq, List.length_singleton]; omega), fun t4 J4 u4 g4 => ?_⟩
   refine ⟨_, rfl, _, rfl, _, _, rfl, rfl, _, rfl, b, ys, rfl, u4 _ _ (u3 _ _ (kv2.tp _ _ (u1 _ _ eb1))), fun t5 J5 u5 g5 => ?_⟩
   refine ⟨t4, t5, _, _, rfl, rfl, u5 _ _ g4, g5, (by rw [List.length_append, List.length_singleton, sizeLine_eq]; omega), fun t6 J6 u6 g6 => ?_⟩
   refine ⟨(by show 2 ≤ sizeLine; decide), fun tw Gw sw mw ew => ?_⟩
   have S := u3.trans (u4.trans (u5.trans (u6.trans sw)))
   have kvE : Kv h K G1 Gw := (Same.kv u1).trans (kv2.trans S.kv)
   refine ko _ _ (hh2.same S) (kp1.trans (u1.kp.trans (kp2.trans S.kp))) (.web (m := m) ew hp si (sw _ _ g6) (fun z hz => ?_) ?_)
   · rcases List.mem_append.mp hz with hz | hz
     · rcases List.mem_append.mp hz with hz | hz
       · exact up1 kvE z (mem_cut hz)
       · rw [List.mem_singleton.mp hz]; exact el.kv S.kv
     · exact up1 kvE z (mem_cut hz)
   · rw [List.length_append, List.length_append, List.length_singleton]; omega
end
end Lw

set_option pp.maxSteps 800
namespace Lw
open PySem L2 PyProof.Rows
section
variable {P : Program} {w : World} {K : PySem.W.Frag} {mg : Str → Option Value} {base : Heap}
theorem sc_law_again : FnScope ["hand", "thing"] ["hand", "thing"] (defScope s_law_again) := ⟨rfl, rfl, rfl, by decide +kernel, rfl, by decide +kernel, by decide +kernel⟩
set_option maxHeartbeats 0 in
theorem d_law_again (S : Fnd K mg "_law_again" s_law_again ["hand", "thing"]) (T : Txt mg) (So : Def P w K mg base 3 "_law_spoilt" ["hand", "web"] (spSpoiltG K)) : Def P w K mg base 4 "_law_again" ["hand", "thing"] (spAgainG K) := S.def fun f fd F => by
 have nd := sc_law_again.nd
 refine F.ok sc_law_again (fun vs H Q E h => ?_) (fun cdv A' outer s H vs Q E hr h => ?_)
 · obtain ⟨_, _, rfl, _⟩ := h
   rfl
 · obtain ⟨h, v, rfl, hh, ht, ko⟩ := h
   refine ⟨_, (@pss_cons _ _ _ _ _ (@ps_if _ _ _ _ _ _ _ _ (PW.pt (pw_and (pt_val (pe_callB call_isiG (by rfl) T.isi boot_isinstance (@pa_consX _ _ _ _ _ (by rfl) (pv 1) (@pa_consX _ _ _ _ _ (by rfl) (pe_bltn (v := .ty "tuple") (by rfl) T.tup boot_tuple rfl) pa_nil)))) (pw_and (pt_cmpR op_eq (pe_callB call_len_seq (by rfl) T.len PySem.boot_len (@pa_consX _ _ _ _ _ (by rfl) (pv 1) pa_nil)) pe_int (nomark _)) (pw_and (pt_val (pe_callB call_isiG (by rfl) T.isi boot_isinstance (@pa_consX _ _ _ _ _ (by rfl) (pe_ix ix_tup (pv 1) pe_int (fun _ _ => rfl)) (@pa_consX _ _ _ _ _ (by rfl) (pe_bltn (v := .ty "int") (by rfl) T.int boot_int rfl) pa_nil)))) (pw_and1 (pt_val (pe_callB call_isiG (by rfl) T.isi boot_isinstance (@pa_consX _ _ _ _ _ (by rfl) (pe_ix ix_tup (pv 1) pe_int (fun _ _ => rfl)) (@pa_consX _ _ _ _ _ (by rfl) (pe_bltn (v := .ty "tuple") (by rfl) T.tup boot_tuple rfl) pa_nil)))))))))
    (@pss_one _ _ _ (@ps_if _ _ _ _ _ _ _ _ (pt_cmpR (op_eqNil hr) (pe_compC ["link"] [none] rfl (pi_tup (pe_ix ix_tup (pv 1) pe_int (fun _ _ => rfl))) (by show ∀ y : Str × NameKind, y ∈ _ → y.2 = NameKind.free → (defScope s_law_again).names.lookup y.1 = some .cell; decide +kernel) (by decide) rfl (by decide +kernel) trivial
     (fun cl C s H fp => (pg_name (i := 0) (show (["link"] : List Str).Nodup by decide +kernel) rfl (Or.inl rfl) (.inr rfl)))
     (fun cl C s H fp => (pts_one (PW.pt (pw_or (pt_not (pt_val (pe_callB (call_isiGK (K := K) rfl) (by rfl) T.isi boot_isinstance (@pa_consX _ _ _ _ _ (by rfl) (pv 0) (@pa_consX _ _ _ _ _ (by rfl) (pe_bltn (v := .ty "tuple") (by rfl) T.tup boot_tuple rfl) pa_nil))))) (pw_or1 (pt_cmpR op_ne (pe_callB (call_lenK (K := K) rfl) (by rfl) T.len PySem.boot_len (@pa_consX _ _ _ _ _ (by rfl) (pv 0) pa_nil)) pe_int (nomark _)))))))
     (fun cl C s H fp => (pv 0))) (@pe_lstS _ _ _ _ pa_nil) (nomark _))
    (@pss_one _ _ _ (@ps_ret _ _ _ _ (pe_def (by rfl) (by rfl) (by rfl) (by decide) So (hr.mono (by decide)) (@pa_consX _ _ _ _ _ (by rfl) (pv 0) (@pa_consX _ _ _ _ _ (by rfl) (pv 1) pa_nil)))))
    pss_nil))
    pss_nil)
    (@pss_one _ _ _ (@ps_ret _ _ _ _ (pv 1)))), ?_⟩
   have els : ∀ J, Same H J → Q v J := fun J s => ko v J (hh.same s) s.kp ((ht.kv s.kv).up)
   cases ht with
   | no ty e r => exact ⟨_, rfl, _, _, _, false, rfl, ty, e, _, rfl, ifF rfl ⟨_, rfl, els _ (Same.refl _)⟩⟩
   | @len q xs e l r =>
     refine ⟨_, rfl, _, _, _, true, rfl, TyG.tup (SqT.of e), isi_tt _, _, rfl, ifT rfl ?_⟩
     exact ⟨_, rfl, q, _, rfl, .inr (SqT.of e), rfl, _, rfl, ifF (decide_eq_false fun z => by have := V.int.inj z; omega) ⟨_, rfl, els _ (Same.refl _)⟩⟩
   | @oth q p l t e tp ep r =>
     refine ⟨_, rfl, _, _, _, true, rfl, TyG.tup (SqT.of e), isi_tt _, _, rfl, ifT rfl ?_⟩
     refine ⟨_, rfl, q, _, rfl, .inr (SqT.of e), rfl, _, rfl, ifT rfl ?_⟩
     exact ⟨_, rfl, q, _, _, _, rfl, rfl, SqT.of e, rfl, _, _, _, false, rfl, .inl tp, ep, _, rfl, ifF rfl ⟨_, rfl, els _ (Same.refl _)⟩⟩
   | @nol q p l i t e np ty et r =>
     refine ⟨_, rfl, _, _, _, true, rfl, TyG.tup (SqT.of e), isi_tt _, _, rfl, ifT rfl ?_⟩
     refine ⟨_, rfl, q, _, rfl, .inr (SqT.of e), rfl, _, rfl, ifT rfl ?_⟩
     obtain ⟨tp, hp1, hp2⟩ : ∃ tp, TyOf K H p tp ∧ PySem.W.kitOne K tp (.type "int") = some true := by
      cases np with
      | int i => exact ⟨_, .int _, isi_ii _⟩
      | bl b => exact ⟨_, .bl b, isi_bi _⟩
     refine ⟨_, rfl, q, _, _, _, rfl, rfl, SqT.of e, rfl, _, _, _, true, rfl, .inl hp1, hp2, _, rfl, ifT rfl ?_⟩
     exact ⟨_, rfl, q, _, _, _, rfl, rfl, SqT.of e, rfl, _, _, _, false, rfl, ty, et, _, rfl, ifF rfl ⟨_, rfl, els _ (Same.refl _)⟩⟩
   | @web m a b p i ys e np si eb f len =>
     refine ⟨_, rfl, _, _, _, true, rfl, TyG.tup (SqT.of e), isi_tt _, _, rfl, ifT rfl ?_⟩
     refine ⟨_, rfl, a, _, rfl, .inr (SqT.of e), rfl, _, rfl, ifT rfl ?_⟩
     obtain ⟨tp, hp1, hp2⟩ : ∃ tp, TyOf K H p tp ∧ PySem.W.kitOne K tp (.type "int") = some true := by
      cases np with
      | int i => exact ⟨_, .int _, isi_ii _⟩
      | bl b => exact ⟨_, .bl b, isi_bi _⟩
     refine ⟨_, rfl, a, _, _, _, rfl, rfl, SqT.of e, rfl, _, _, _, true, rfl, .inl hp1, hp2, _, rfl, ifT rfl ?_⟩
     refine ⟨_, rfl, a, _, _, _, rfl, rfl, SqT.of e, rfl, _, _, _, true, rfl, TyG.tup (SqT.of eb), isi_tt _, _, rfl, ifT rfl ?_⟩
     refine ⟨_, rfl, a, _, _, _, rfl, rfl, SqT.of e, rfl, b, rfl, ⟨_, SqT.of eb⟩, fun D hD => ?_⟩
     refine comp_tup (K := K) (a := b) (D := D) (xs := ys) (fun i zs σ H' => Same H H' ∧ H' D = some (.lst zs) ∧ zs.length ≤ i ∧ (zs = [] → ∀ y ∈ ys.take i, Lk2 K H 1 y) ∧ ∃ v, σ = [v]) ?_ ?_ ?_ ?_
     · exact ⟨Same.new hD, upd_same, Nat.le_refl _, fun _ y hy => by simp at hy, none, rfl⟩
     · rintro i zs σ H' ⟨s1, e1, _⟩
       exact ⟨SqT.of (s1 _ _ eb), e1⟩
     · rintro i u zs σ H' hi hlt ⟨s1, e1, lz, ez, v, rfl⟩
       have su : ∀ zs, Same H (upd H' D (.lst zs)) := fun zs b o e => by rw [upd_ne (ne_of_none e hD)]; exact s1 b o e
       have hz : zs.length < sizeLine := by rw [sizeLine_eq]; omega
       have hne : ∀ w : V, (zs ++ [w] = [] → ∀ y ∈ ys.take (i + 1), Lk2 K H 1 y) := fun w z => by simp at z
       rcases f u (List.mem_of_getElem? hi) with ⟨q, xs, rfl, eq, l3, fx, nx⟩ | ⟨t, ty, et, _⟩
       · refine ⟨_, rfl, _, _, _, true, rfl, TyG.tup (s1.seqT eq), isi_tt _, _, rfl, ifF rfl ?_⟩
         by_cases h2 : xs.length = 2
         · refine ⟨_, rfl, q, _, rfl, .inr (s1.seqT eq), rfl, _, rfl, ifF (by rw [decide_eq_true (by rw [h2]; rfl)]; rfl) ?_⟩
           refine Wt.next hlt ⟨s1, e1, by omega, fun z y hy => ?_, _, rfl⟩
           rw [List.take_add_one, hi] at hy
           rcases List.mem_append.mp hy with hy | hy
           · exact ez z y hy
           · have : y = .ref q := by simpa using hy
             subst this
             match xs, h2, eq, fx, nx with
             | [x, y], _, eq, fx, nx => exact ⟨q, x, y, rfl, eq, nx (Nat.le_refl _) x y rfl, fx y (by simp), fun z => by cases z⟩
         · refine ⟨_, rfl, q, _, rfl, .inr (s1.seqT eq), rfl, _, rfl, ifT (by rw [decide_eq_false fun z => by have := V.int.inj z; omega]; rfl) ?_⟩
           exact ⟨_, rfl, e1, hz, Wt.next hlt ⟨su _, upd_same, by rw [List.length_append, List.length_singleton]; omega, hne _, _, rfl⟩⟩
       · refine ⟨_, rfl, _, _, _, false, rfl, ty.kv (h := h) s1.kv, et, _, rfl, ifT rfl ?_⟩
         exact ⟨_, rfl, e1, hz, Wt.next hlt ⟨su _, upd_same, by rw [List.length_append, List.length_singleton]; omega, hne _, _, rfl⟩⟩
     · rintro zs σ H' ⟨s1, e1, lz, ez, _⟩
       refine ⟨(by show 0 ≤ sizeLine; decide), fun l H2 s2 _ hl2 => ?_⟩
       have s12 := s1.trans s2
       refine ⟨D, l, zs, rfl, rfl, .inr ⟨SqL.of (s2 _ _ e1), SqL.of hl2⟩, _, rfl, ?_⟩
       cases zs with
       | cons z zs => exact ifF rfl ⟨_, rfl, els _ s12⟩
       | nil =>
         refine ifT rfl ?_
         have all := ez rfl
         rw [List.take_length] at all
         refine ⟨_, rfl, _, rfl, h, a, 1, rfl, hh.same s12, ⟨p, i, b, ys, s12 _ _ e, np, si, s12 _ _ eb, len, fun y hy => (all y hy).kv (h := h) s12.kv⟩, Nat.le_refl _, fun v G hG kG th => ?_⟩
         exact ko _ _ hG (s12.kp.trans kG) th
end
end Lw

set_option pp.maxSteps 800
namespace Lw
open PySem L2 PyProof.Rows
section
variable {P : Program} {w : World} {K : PySem.W.Frag} {mg : Str → Option Value} {base : Heap}
theorem scLaw : FnScope ["script", "deep", "k", "thing", "cell", "hand", "web", "spoilt", "kept", "told"] ["script"] (defScope sLaw) := ⟨rfl, rfl, rfl, by decide +kernel, rfl, by decide +kernel, by decide +kernel⟩
set_option maxHeartbeats 0 in
theorem ok_law {f : Addr} {fd : FuncData} (F : Fun K "law" "law" sLaw f fd) (T : Txt mg) (zrepr : mg "repr" = none) (Is : Def P w K mg base 5 "is_web" ["thing"] (spIsWebG K)) (Li : Def P w K mg base 2 "_law_is" ["thing"] (spIsWebG K)) (Ce : Def P w K mg base 1 "_law_cells" ["script", "many"] (spCells K)) (Hd : Def P w K mg base 1 "_law_hand" ["cell", "k"] spHand) (Wb : Def P w K mg base 2 "_law_web" ["hand", "great"] (spWeb K)) (Gr : Def P w K mg base 1 "_law_great" ["script"] (spGreat K)) (So : Def P w K mg base 3 "_law_spoilt" ["hand", "web"] (spSpoiltG K)) (Ag : Def P w K mg base 4 "_law_again" ["hand", "thing"] (spAgainG K)) : FnOk P w K mg base CX0 6 f fd ["script"] (spLaw K) := by
 have nd := scLaw.nd
 refine F.ok scLaw (fun vs H Q E h => ?_) (fun cdv A' outer s H vs Q E hr h => ?_)
 · obtain ⟨_, _, rfl, _⟩ := h
   rfl
 · obtain ⟨a, ns, rfl, hS, hlen, k⟩ := h
   refine ⟨_, (@pss_cons _ _ _ _ _ (@ps_setX _ _ 1 _ _ _ _ (by rfl) (Or.inl rfl) nd rfl (Or.inl rfl) (@pe_lstS _ _ _ _ (@pa_consX _ _ _ _ _ (by rfl) (@pe_tupS _ _ _ _ _ pa_nil) (@pa_consX _ _ _ _ _ (by rfl) (@pe_lstS _ _ _ _ pa_nil) pa_nil))))
    (@pss_cons _ _ _ _ _ (@ps_forX _ _ _ _ _ _ _ _ (fun _ => rfl) PassesOwn.never rfl (pi_range1 rfl T.range (@pa_consX _ _ _ _ _ (by rfl) pe_int pa_nil)) (pg_name (i := 2) nd rfl (Or.inl rfl))
     (@pss_one _ _ _ (@ps_setX _ _ 1 _ _ _ _ (by rfl) (Or.inl rfl) nd rfl (Or.inl rfl) (@pe_lstS _ _ _ _ (@pa_consX _ _ _ _ _ (by rfl) (@pe_tupS _ _ _ _ _ (@pa_consX _ _ _ _ _ (by rfl) (pe_ix ix_list (pv 1) pe_int (fun _ _ => rfl)) pa_nil)) (@pa_consX _ _ _ _ _ (by rfl) (@pe_lstS _ _ _ _ (@pa_consX _ _ _ _ _ (by rfl) (pe_ix ix_list (pv 1) pe_int (fun _ _ => rfl)) pa_nil)) pa_nil))))))
    (@pss_cons _ _ _ _ _ (@ps_forX _ _ _ _ _ _ _ _ (fun _ => rfl) PassesOwn.never rfl (@pi_list _ _ _ _ (pe_op op_catS (pv 1) (@pe_lstS _ _ _ _ (@pa_consX _ _ _ _ _ (by rfl) (@pe_tupS _ _ _ _ _ (@pa_consX _ _ _ _ _ (by rfl) pe_int (@pa_consX _ _ _ _ _ (by rfl) (pe_ix ix_list (pv 1) pe_int (fun _ _ => rfl)) pa_nil))) (@pa_consX _ _ _ _ _ (by rfl) (@pe_tupS _ _ _ _ _ (@pa_consX _ _ _ _ _ (by rfl) (pe_ix ix_list (pv 1) pe_int (fun _ _ => rfl)) (@pa_consX _ _ _ _ _ (by rfl) (@pe_tupS _ _ _ _ _ pa_nil) pa_nil))) (@pa_consX _ _ _ _ _ (by rfl) (@pe_tupS _ _ _ _ _ (@pa_consX _ _ _ _ _ (by rfl) pe_int (@pa_consX _ _ _ _ _ (by rfl) (@pe_tupS _ _ _ _ _ (@pa_consX _ _ _ _ _ (by rfl) (pe_ix ix_list (pv 1) pe_int (fun _ _ => rfl)) pa_nil)) pa_nil))) (@pa_consX _ _ _ _ _ (by rfl) (@pe_tupS _ _ _ _ _ (@pa_consX _ _ _ _ _ (by rfl) pe_int (@pa_consX _ _ _ _ _ (by rfl) (@pe_tupS _ _ _ _ _ (@pa_consX _ _ _ _ _ (by rfl) (@pe_tupS _ _ _ _ _ (@pa_consX _ _ _ _ _ (by rfl) (pe_ix ix_list (pv 1) pe_int (fun _ _ => rfl)) (@pa_consX _ _ _ _ _ (by rfl) pe_int pa_nil))) pa_nil)) pa_nil))) pa_nil))))))) (pg_name (i := 3) nd rfl (Or.inl rfl))
     (@pss_one _ _ _ (@ps_if _ _ _ _ _ _ _ _ (pt_cmpR op_notB (pe_def (by rfl) (by rfl) (by rfl) (by decide) Is (hr.mono (by decide)) (@pa_consX _ _ _ _ _ (by rfl) (pv 3) pa_nil)) pe_bl (nomark _))
     (@pss_one _ _ _ (@ps_ret _ _ _ _ pe_bl))
     pss_nil)))
    (@pss_cons _ _ _ _ _ (@ps_forX _ _ _ _ _ _ _ _ (fun _ => rfl) PassesOwn.never rfl (@pi_list _ _ _ _ (pe_def (by rfl) (by rfl) (by rfl) (by decide) Ce (hr.mono (by decide)) (@pa_consX _ _ _ _ _ (by rfl) (pv 0) (@pa_consX _ _ _ _ _ (by rfl) pe_int pa_nil)))) (pg_tup rfl (pgs_cons (pg_name (i := 2) nd rfl (Or.inl rfl)) (pgs_cons (pg_name (i := 4) nd rfl (Or.inl rfl)) pgs_nil)))
     (@pss_cons _ _ _ _ _ (@ps_setX _ _ 5 _ _ _ _ (by rfl) (Or.inl rfl) nd rfl (Or.inl rfl) (pe_def (by rfl) (by rfl) (by rfl) (by decide) Hd (hr.mono (by decide)) (@pa_consX _ _ _ _ _ (by rfl) (pv 4) (@pa_consX _ _ _ _ _ (by rfl) (pv 2) pa_nil))))
    (@pss_mid _ _ _ _ _ (@ps_setX _ _ 6 _ _ _ _ (by rfl) (Or.inl rfl) nd rfl (Or.inl rfl) (pe_def (by rfl) (by rfl) (by rfl) (by decide) Wb (hr.mono (by decide)) (@pa_consX _ _ _ _ _ (by rfl) (pv 5) (@pa_consX _ _ _ _ _ (by rfl) (pe_and (pe_cmpR op_eq (pv 2) pe_int (nomark _)) (pe_one (pe_def (by rfl) (by rfl) (by rfl) (by decide) Gr (hr.mono (by decide)) (@pa_consX _ _ _ _ _ (by rfl) (pv 0) pa_nil)))) pa_nil))))
    (@pss_cons _ _ _ _ _ (@ps_setX _ _ 7 _ _ _ _ (by rfl) (Or.inl rfl) nd rfl (Or.inl rfl) (pe_def (by rfl) (by rfl) (by rfl) (by decide) So (hr.mono (by decide)) (@pa_consX _ _ _ _ _ (by rfl) (pv 5) (@pa_consX _ _ _ _ _ (by rfl) (pv 6) pa_nil))))
    (@pss_one _ _ _ (@ps_forX _ _ _ _ _ _ _ _ (fun _ => rfl) PassesOwn.never rfl (@pi_list _ _ _ _ (@pe_lstS _ _ _ _ (@pa_consX _ _ _ _ _ (by rfl) (pv 6) (@pa_consX _ _ _ _ _ (by rfl) (pv 7) (@pa_consX _ _ _ _ _ (by rfl) (pe_def (by rfl) (by rfl) (by rfl) (by decide) Ag (hr.mono (by decide)) (@pa_consX _ _ _ _ _ (by rfl) (pv 5) (@pa_consX _ _ _ _ _ (by rfl) (pv 7) pa_nil))) (@pa_consX _ _ _ _ _ (by rfl) (pe_def (by rfl) (by rfl) (by rfl) (by decide) So (hr.mono (by decide)) (@pa_consX _ _ _ _ _ (by rfl) (pv 5) (@pa_consX _ _ _ _ _ (by rfl) (pv 6) pa_nil))) pa_nil)))))) (pg_name (i := 3) nd rfl (Or.inl rfl))
     (@pss_cons _ _ _ _ _ (@ps_setX _ _ 8 _ _ _ _ (by rfl) (Or.inl rfl) nd rfl (Or.inl rfl) (pe_callB (call_reprG hr) (by rfl) zrepr boot_repr (@pa_consX _ _ _ _ _ (by rfl) (pv 3) pa_nil)))
    (@pss_cons _ _ _ _ _ (@ps_setX _ _ 9 _ _ _ _ (by rfl) (Or.inl rfl) nd rfl (Or.inl rfl) (pe_def (by rfl) (by rfl) (by rfl) (by decide) Is (hr.mono (by decide)) (@pa_consX _ _ _ _ _ (by rfl) (pv 3) pa_nil)))
    (@pss_one _ _ _ (@ps_if _ _ _ _ _ _ _ _ (PW.pt (pw_or (pt_not (pt_val (pe_callB call_isiG (by rfl) T.isi boot_isinstance (@pa_consX _ _ _ _ _ (by rfl) (pv 9) (@pa_consX _ _ _ _ _ (by rfl) (pe_bltn (v := .ty "bool") (by rfl) T.bool boot_bool rfl) pa_nil))))) (pw_or (pt_cmpR op_ne (pv 9) (pe_def (by rfl) (by rfl) (by rfl) (by decide) Li (hr.mono (by decide)) (@pa_consX _ _ _ _ _ (by rfl) (pv 3) pa_nil)) (nomark _)) (pw_or1 (pt_cmpR op_ne (pe_callB (call_reprG hr) (by rfl) zrepr boot_repr (@pa_consX _ _ _ _ _ (by rfl) (pv 3) pa_nil)) (pv 8) (nomark _))))))
     (@pss_one _ _ _ (@ps_ret _ _ _ _ pe_bl))
     pss_nil))))))))))
    (@pss_one _ _ _ (@ps_ret _ _ _ _ (pe_and (pe_cmpR op_isB (pe_def (by rfl) (by rfl) (by rfl) (by decide) Is (hr.mono (by decide)) (@pa_consX _ _ _ _ _ (by rfl) (@pe_tupS _ _ _ _ _ (@pa_consX _ _ _ _ _ (by rfl) pe_int (@pa_consX _ _ _ _ _ (by rfl) (@pe_tupS _ _ _ _ _ pa_nil) pa_nil))) pa_nil)) pe_bl (nomark _)) (pe_one (pe_cmpR op_isB (pe_def (by rfl) (by rfl) (by rfl) (by decide) Is (hr.mono (by decide)) (@pa_consX _ _ _ _ _ (by rfl) (@pe_tupS _ _ _ _ _ (@pa_consX _ _ _ _ _ (by rfl) pe_int (@pa_consX _ _ _ _ _ (by rfl) (@pe_tupS _ _ _ _ _ (@pa_consX _ _ _ _ _ (by rfl) (@pe_tupS _ _ _ _ _ (@pa_consX _ _ _ _ _ (by rfl) pe_int (@pa_consX _ _ _ _ _ (by rfl) pe_int pa_nil))) (@pa_consX _ _ _ _ _ (by rfl) (@pe_tupS _ _ _ _ _ (@pa_consX _ _ _ _ _ (by rfl) pe_int (@pa_consX _ _ _ _ _ (by rfl) pe_int pa_nil))) pa_nil))) pa_nil))) pa_nil)) pe_bl (nomark _)))))))))), ?_⟩
   refine ⟨(by show 0 ≤ sizeLine; decide), fun x0 G1 s1 m1 e1 => ⟨(by show 0 ≤ sizeLine; decide), fun y0 G2 s2 m2 e2 => ⟨(by show 2 ≤ sizeLine; decide), fun dp0 G3 s3 m3 e3 => ⟨2000, rfl, by decide, by decide, ?_⟩⟩⟩⟩
   refine for_range (lo := 0) (n := (2000 : Int).toNat) (fun i σ G => ∃ (dp x y : Addr) (xs ys : List V) (v2 : Option V), Same H G ∧ G dp = some (.lst [.ref x, .ref y]) ∧ G x = some (.tup xs) ∧ xs.length ≤ 1 ∧ (0 < i → xs ≠ []) ∧ (∀ u ∈ xs, ∃ q zs, u = .ref q ∧ G q = some (.tup zs) ∧ zs.length ≠ 2) ∧ G y = some (.lst ys) ∧ σ = [some (.ref a), some (.ref dp), v2, none, none, none, none, none, none, none]) ⟨dp0, x0, y0, _, _, none, s1.trans (s2.trans s3), e3, s3 _ _ (s2 _ _ e1), by simp, fun z => absurd z (by decide), by simp, s3 _ _ e2, rfl⟩ ?_ ?_
   · rintro i σ G hi ⟨dp, x, y, xs, ys, v2, sG, e, ex, lx, nx, cx, ey, rfl⟩
     refine ⟨_, rfl, dp, _, _, _, rfl, rfl, SqL.of e, rfl, (by show 1 ≤ sizeLine; decide), fun t1 J1 u1 w1 f1 => ⟨_, rfl, dp, _, _, _, rfl, rfl, SqL.of (u1 _ _ e), rfl, (by show 1 ≤ sizeLine; decide), fun t2 J2 u2 w2 f2 => ⟨(by show 2 ≤ sizeLine; decide), fun t3 J3 u3 w3 f3 => ?_⟩⟩⟩
     refine ⟨t3, t1, t2, _, _, _, sG.trans (u1.trans (u2.trans u3)), f3, u3 _ _ (u2 _ _ f1), by simp, fun _ => by simp, fun u hu => ?_, u3 _ _ f2, rfl⟩
     rw [List.mem_singleton.mp hu]
     exact ⟨x, xs, rfl, u3 _ _ (u2 _ _ (u1 _ _ ex)), by omega⟩
   rintro σ G ⟨dp, x, y, xs, ys, v2, sG, e, ex, lx, nx, cx, ey, rfl⟩
   have nx := nx (by decide)
   refine ⟨_, rfl, _, rfl, dp, _, _, _, rfl, rfl, SqL.of e, rfl, (by show 2 ≤ sizeLine; decide), fun t1 J1 u1 w1 f1 => ?_⟩
   refine ⟨_, rfl, dp, _, _, _, rfl, rfl, SqL.of (u1 _ _ e), rfl, (by show 0 ≤ sizeLine; decide), fun t2 J2 u2 w2 f2 => ⟨(by show 2 ≤ sizeLine; decide), fun t3 J3 u3 w3 f3 => ?_⟩⟩
   have v13 := u1.trans (u2.trans u3)
   refine ⟨_, rfl, dp, _, _, _, rfl, rfl, SqL.of (v13 _ _ e), rfl, (by show 1 ≤ sizeLine; decide), fun t4 J4 u4 w4 f4 => ⟨(by show 2 ≤ sizeLine; decide), fun t5 J5 u5 w5 f5 => ?_⟩⟩
   have v15 := v13.trans (u4.trans u5)
   refine ⟨_, rfl, dp, _, _, _, rfl, rfl, SqL.of (v15 _ _ e), rfl, (by show 2 ≤ sizeLine; decide), fun t6 J6 u6 w6 f6 => ⟨(by show 1 ≤ sizeLine; decide), fun t7 J7 u7 w7 f7 => ⟨(by show 2 ≤ sizeLine; decide), fun t8 J8 u8 w8 f8 => ⟨(by show 4 ≤ sizeLine; decide), fun t9 J9 u9 w9 f9 => ?_⟩⟩⟩⟩
   have v19 := v15.trans (u6.trans (u7.trans (u8.trans u9)))
   refine ⟨dp, t9, _, _, rfl, rfl, v19 _ _ e, f9, (by show 6 ≤ sizeLine; decide), fun L J u w f => ⟨L, rfl, ⟨_, SqL.of f⟩, ?_⟩⟩
   have vJ := v19.trans u
   have e6 : Same J6 J := u7.trans (u8.trans (u9.trans u))
   have e4 : Same J4 J := u5.trans (u6.trans e6)
   have e2 : Same J2 J := u3.trans (u4.trans e4)
   have ex := vJ _ _ ex
   have ey := vJ _ _ ey
   have cx : ∀ u ∈ xs, ∃ q zs, u = .ref q ∧ J q = some (.tup zs) ∧ zs.length ≠ 2 := fun u hu => by
    obtain ⟨q, zs, e, z, l⟩ := cx u hu
    exact ⟨q, zs, e, vJ _ _ z, l⟩
   have f1 := (u2.trans e2) _ _ f1
   have f3 := (u4.trans e4) _ _ f3
   have f4 := e4 _ _ f4
   have f5 := (u6.trans e6) _ _ f5
   have f6 := e6 _ _ f6
   have f7 := (u8.trans (u9.trans u)) _ _ f7
   have f8 := (u9.trans u) _ _ f8
   have ws : ∀ v ∈ ([.ref x, .ref y] ++ [.ref t1, .ref t3, .ref t5, .ref t8] : List V), ∃ c, Ws K J v c ∧ isWb c = false := by
    intro v hv
    simp only [List.cons_append, List.nil_append, List.mem_cons, List.not_mem_nil, or_false] at hv
    rcases hv with rfl | rfl | rfl | rfl | rfl | rfl
    · exact ⟨_, .len ex (by omega), rfl⟩
    · exact ⟨_, .no (.inl (.lst ey)) (ki_lt _), rfl⟩
    · match xs, lx, nx, ex, cx with
      | [u], _, _, ex, cx =>
        obtain ⟨q, zs, rfl, eq, l⟩ := cx u (by simp)
        exact ⟨_, .two f1 (.int 2) ex (.cons (.len (SqT.of eq) l) .nil), by decide⟩
    · exact ⟨_, .page f3 (.oth (.tup ex) (ki_ti _)), rfl⟩
    · exact ⟨_, .two f5 (.int 2) f4 (.cons (.len (SqT.of ex) (by omega)) .nil), by decide⟩
    · exact ⟨_, .two f8 (.int 2) f7 (.cons (.two (ox := none) (oy := some 0) (SqT.of f6) (.oth (.lst ey) (ki_li _)) (.int 0)) .nil), by decide⟩
   refine for_list (K := K) (a := L) (xs := [.ref x, .ref y] ++ [.ref t1, .ref t3, .ref t5, .ref t8]) (fun i σ G => Same J G ∧ ∃ v3 : Option V, σ = [some (.ref a), some (.ref dp), v2, v3, none, none, none, none, none, none])
    ⟨Same.refl _, none, rfl⟩ (fun i σ G _ ⟨k2, _⟩ => SqL.of (k2 _ _ f)) ?_ ?_
   · rintro i z σ G' hz ⟨s, v3, rfl⟩
     obtain ⟨c, hc, hf⟩ := ws z (List.mem_of_getElem? hz)
     refine ⟨_, rfl, z, c, rfl, hc.same s, fun G2 sg => ⟨_, _, rfl, rfl, _, rfl, ifF (by rw [hf]; rfl) ?_⟩⟩
     exact ⟨s.trans sg, _, rfl⟩
   rintro σ G' ⟨s, v3, rfl⟩
   have sH := sG.trans (vJ.trans s)
   clear ws s f8 f7 f6 f5 f4 f3 f1 cx ey ex e2 e4 e6 vJ f u v19 f9 u9 u8 u7 u6 v15 u5 u4 v13 u3 f2 u2 u1 e sG
   refine ⟨_, rfl, a, 30, ns, rfl, sH.seq hS, hlen, fun H1 L xs ts s1 hL hLl hts hT hAI hxl => ⟨L, rfl, ⟨_, SqL.of hLl⟩, ?_⟩⟩
   have hSa := s1.seq (sH.seq hS)
   refine for_list (K := K) (a := L) (xs := ts) (fun i σ G => Same H1 G ∧ ∃ v2 v3 v4 v5 v6 v7 v8 v9 : Option V, σ = [some (.ref a), some (.ref dp), v2, v3, v4, v5, v6, v7, v8, v9])
    ⟨Same.refl _, v2, v3, none, none, none, none, none, none, rfl⟩ (fun i σ G _ ⟨k2, _⟩ => SqL.of (k2 _ _ hLl)) ?_ ?_
   · rintro i t σ G0 hi ⟨s2, v2, v3, v4, v5, v6, v7, v8, v9, rfl⟩
     have hil : i < ts.length := (List.getElem?_eq_some_iff.mp hi).1
     obtain ⟨c0, T', hc, rfl, hTT⟩ := hT i t hi
     obtain ⟨c, rfl⟩ := hAI i c0 hc
     refine ⟨T', _, rfl, SqT.of (s2 _ _ hTT), rfl, _, _, rfl, _, _, rfl, rfl, ?_⟩
     refine ⟨_, rfl, _, rfl, c, i, rfl, by omega, by omega, fun h Ga hp hh s3 => ?_⟩
     have hSb := s3.seq (s2.seq hSa)
     refine ⟨fun σ G' => ∃ wa pages ps, Pw.WebOk pages ps ∧ WebAt K G' wa pages ps ∧ HandAt G' h ∧ Kp h Ga G' ∧ σ = [some (.ref a), some (.ref dp), some (.int i), v3, some (.int c), some (.ref h), some (.ref wa), v7, v8, v9], ?_, ?_⟩
     · refine ⟨_, rfl, _, rfl, rfl, _, rfl, ?_⟩
       refine if2 (fun _ => ?_) (fun _ => ?_)
       · exact ⟨_, rfl, a, ns, rfl, hSb, fun b => ⟨h, b, rfl, hh, fun wa H' pages ps ok hw hd' kp => ⟨wa, pages, ps, ok, hw, hd', kp, rfl⟩⟩⟩
       · exact ⟨h, false, rfl, hh, fun wa H' pages ps ok hw hd' kp => ⟨wa, pages, ps, ok, hw, hd', kp, rfl⟩⟩
     rintro σ Gb ⟨wa, pages, ps, ok, hw, hh1, k1, rfl⟩
     have wb := hw.wbk ok
     refine ⟨_, rfl, _, rfl, h, wa, 0, rfl, hh1, wb, by decide, fun u1 Gc hh2 k2 th1 => ?_⟩
     have kv2 : Kv h K Gb Gc := hh1.kv hh2 k2
     refine ⟨_, rfl, _, rfl, _, rfl, _, rfl, h, u1, rfl, hh2, th1, fun u2 Gd hh3 k3 th2 => ?_⟩
     have kv3 : Kv h K Gc Gd := hh2.kv hh3 k3
     refine ⟨_, rfl, _, rfl, h, wa, 0, rfl, hh3, wb.kv (kv2.trans kv3), by decide, fun u3 Ge hh4 k4 th3 => ⟨(by show 4 ≤ sizeLine; decide), fun L2 Gh s7 m7 e7 => ⟨L2, rfl, ⟨_, SqL.of e7⟩, ?_⟩⟩⟩
     have kv4 : Kv h K Gd Ge := hh3.kv hh4 k4
     have all : ∀ u ∈ ([.ref wa, u1, u2, u3] : List V), ThG h K 2 Gh u := by
      intro u hu
      simp only [List.mem_cons, List.not_mem_nil, or_false] at hu
      rcases hu with rfl | rfl | rfl | rfl
      · exact (((wb.kv (kv2.trans (kv3.trans (kv4.trans s7.kv)))).th).up).up
      · exact (th1.kv (kv3.trans (kv4.trans s7.kv))).up
      · exact th2.kv (kv4.trans s7.kv)
      · exact (th3.kv s7.kv).up
     have sEnd : Same H1 Gh := by
      have kE : Kp h Ga Gh := k1.trans (k2.trans (k3.trans (k4.trans s7.kp)))
      exact s2.trans (Kp.same hp (s3.kp.trans kE))
     refine for_list (K := K) (a := L2) (xs := [.ref wa, u1, u2, u3]) (fun j σ G' => Same Gh G' ∧ ∃ v3 v8 v9 : Option V, σ = [some (.ref a), some (.ref dp), some (.int i), v3, some (.int c), some (.ref h), some (.ref wa), some u1, v8, v9])
      ⟨Same.refl _, v3, v8, v9, rfl⟩ (fun j σ G' _ ⟨k2, _⟩ => SqL.of (k2 _ _ e7)) ?_ ?_
     · rintro j u σ G' hj ⟨sG, v3, v8, v9, rfl⟩
       have th := (all u (List.mem_of_getElem? hj)).kv (h := h) sG.kv
       obtain ⟨m, d, rd, sh, dp', ln, nd'⟩ := th.rz (by decide)
       obtain ⟨cw, ws⟩ := th.ws
       have ln : d.shown.length ≤ sizeLine := Nat.le_trans ln (by rw [sizeLine_eq]; decide)
       have dp' : d.depth ≤ 12 := Nat.le_trans dp' (by decide)
       refine ⟨_, rfl, u, d, h, m, rfl, rd, sh, dp', ln, nd', ?_⟩
       refine ⟨_, rfl, u, cw, rfl, ws, fun G2 sg => ?_⟩
       refine ⟨_, rfl, _, _, _, true, rfl, .inl (.bl _), isi_bb _, _, rfl, ifF rfl ?_⟩
       refine ⟨_, rfl, _, rfl, u, cw, rfl, ws.same sg, fun G3 sg3 => ⟨rfl, _, rfl, ifF (by simp) ?_⟩⟩
       have kv5 : Kv h K G' G3 := (Same.kv sg).trans sg3.kv
       refine ⟨_, rfl, u, d, h, m, rfl, rd.kp kv5.sq kv5.ls kv5.dc, sh, dp', ln, nd', _, rfl, rfl, _, rfl, ifF (by simp) ?_⟩
       exact ⟨sG.trans (sg.trans sg3), _, _, _, rfl⟩
     · rintro σ G' ⟨sG, w3, w8, w9, rfl⟩
       exact ⟨sEnd.trans sG, _, _, _, _, _, _, _, _, rfl⟩
   · rintro σ G ⟨_, _⟩
     refine ⟨(by show 0 ≤ sizeLine; decide), fun t1 J1 u1 w1 f1 => ⟨(by show 2 ≤ sizeLine; decide), fun t2 J2 u2 w2 f2 => ?_⟩⟩
     refine ⟨_, _, rfl, .two f2 (.int 1) (u2 _ _ f1) .nil, fun G2 sg => ⟨_, _, rfl, rfl, _, rfl, ifT (by decide) ?_⟩⟩
     refine ⟨(by show 2 ≤ sizeLine; decide), fun t3 J3 u3 w3 f3 => ⟨(by show 2 ≤ sizeLine; decide), fun t4 J4 u4 w4 f4 => ⟨(by show 2 ≤ sizeLine; decide), fun t5 J5 u5 w5 f5 => ⟨(by show 2 ≤ sizeLine; decide), fun t6 J6 u6 w6 f6 => ?_⟩⟩⟩⟩
     refine ⟨_, _, rfl, .two f6 (.int 1) (u6 _ _ f5) (.cons (.two (SqT.of (u6 _ _ (u5 _ _ (u4 _ _ f3)))) (.int 0) (.int 0)) (.cons (.two (SqT.of (u6 _ _ (u5 _ _ f4))) (.int 0) (.int 0)) .nil)), fun G4 sg4 => ⟨_, _, rfl, rfl, ?_⟩⟩
     rw [show isWb (some (1, [o2 (some 0) (some 0), o2 (some 0) (some 0)])) = true by decide]
     exact k _
end
end Lw

namespace Lw
open PySem L2 PyProof.Rows
set_option maxHeartbeats 0 in
theorem all_mk {l : PySem.W.OpenLaw} {w : World} {K : PySem.W.Frag} {h : Heap} {mg : Str → Option Value} {fa f26  : Addr} (XK : K.In h) (G : h.Ns mainGlobals mg) (hfa : mg "law" = some (.ref fa))
 {od an : Option Addr} {sl : Array (Option Value)} {oc kV dc pm cd ct : Value}
 (A1 : FnAt K "is_whole" sWhole)
 (A2 : FnAt K "is_pair_of_wholes" sPair)
 (A6 : FnAt K "is_link" s_is_link)
 (A7 : FnAt K "are_rising" s_are_rising)
 (A8 : FnAt K "are_links" s_are_links)
 (A9 : FnAt K "is_web" s_is_web)
 (A11 : FnAt K "_law_hand" sHand)
 (A12 : FnAt K "_law_draw" sDraw)
 (A13 : FnAt K "_law_cells" sCells)
 (A14 : FnAt K "_law_great" sGreat)
 (A18 : FnAt K "_law_web" sWeb)
 (A21 : FnAt K "_law_whole" s_law_whole)
 (A22 : FnAt K "_law_is" s_law_is)
 (A23 : FnAt K "_law_bad_link" s_law_bad_link)
 (A24 : FnAt K "_law_spoilt" s_law_spoilt)
 (A25 : FnAt K "_law_again" s_law_again)
 (aL : PySem.W.nsIn K mainGlobals "law" = some (some (.ref f26))) (lL : K.lookup f26 = some ⟨oc, od, .func (PySem.W.fnOf "law" "law" (defArgs sLaw) (defBody sLaw) (defScope sLaw) .none kV dc pm an cd ct), sl⟩) (cL : PySem.W.codeIn K cd "law" = true) (kL : PySem.W.keepIn K (.ref f26) = true)
 (zabs : PySem.W.nsIn K mainGlobals "abs" = some none)
 (zisi : PySem.W.nsIn K mainGlobals "isinstance" = some none)
 (ztup : PySem.W.nsIn K mainGlobals "tuple" = some none)
 (zint : PySem.W.nsIn K mainGlobals "int" = some none)
 (zbool : PySem.W.nsIn K mainGlobals "bool" = some none)
 (zlst : PySem.W.nsIn K mainGlobals "list" = some none)
 (zenu : PySem.W.nsIn K mainGlobals "enumerate" = some none)
 (zlen : PySem.W.nsIn K mainGlobals "len" = some none)
 (zrange : PySem.W.nsIn K mainGlobals "range" = some none)
 (zsrt : PySem.W.nsIn K mainGlobals "sorted" = some none)
 (zsum : PySem.W.nsIn K mainGlobals "sum" = some none)
 (zzip : PySem.W.nsIn K mainGlobals "zip" = some none)
 (zmax : PySem.W.nsIn K mainGlobals "max" = some none)
 (zall : PySem.W.nsIn K mainGlobals "all" = some none)
 (zstr : PySem.W.nsIn K mainGlobals "str" = some none)
 (zrepr : PySem.W.nsIn K mainGlobals "repr" = some none)
 (I_MOST_PAGES : InAt K "MOST_PAGES" 12)
 (I_MOST_LINKS : InAt K "MOST_LINKS" 60)
 : ∃ fd : FuncData, (∀ (s : Shared) (v : Value), BindsTo s fd ⟨[v], []⟩ [("script", v)]) ∧ ∀ base : Heap, K.In base → base.Ns mainGlobals mg → FnOk l.prog w K mg base CX0 6 fa fd ["script"] (spLaw K) := by
 have e := hfa.symm.trans (PySem.W.mg_of XK G aL)
 cases e
 have F26 := fun_mk (st := sLaw) lL cL kL
 have nWhole := A1.fnd ["thing"] XK G fun _ _ _ _ _ _ us hl => match us, hl with | [_], _ => rfl
 have nPair := A2.fnd ["thing"] XK G fun _ _ _ _ _ _ us hl => match us, hl with | [_], _ => rfl
 have n_is_link := A6.fnd ["pages", "thing"] XK G fun _ _ _ _ _ _ us hl => match us, hl with | [_, _], _ => rfl
 have n_are_rising := A7.fnd ["links"] XK G fun _ _ _ _ _ _ us hl => match us, hl with | [_], _ => rfl
 have n_are_links := A8.fnd ["pages", "thing"] XK G fun _ _ _ _ _ _ us hl => match us, hl with | [_, _], _ => rfl
 have n_is_web := A9.fnd ["thing"] XK G fun _ _ _ _ _ _ us hl => match us, hl with | [_], _ => rfl
 have nHand := A11.fnd ["cell", "k"] XK G fun _ _ _ _ _ _ us hl => match us, hl with | [_, _], _ => rfl
 have nDraw := A12.fnd ["hand", "limit"] XK G fun _ _ _ _ _ _ us hl => match us, hl with | [_, _], _ => rfl
 have nCells := A13.fnd ["script", "many"] XK G fun _ _ _ _ _ _ us hl => match us, hl with | [_, _], _ => rfl
 have nGreat := A14.fnd ["script"] XK G fun _ _ _ _ _ _ us hl => match us, hl with | [_], _ => rfl
 have nWeb := A18.fnd ["hand", "great"] XK G fun _ _ _ _ _ _ us hl => match us, hl with | [_, _], _ => rfl
 have n_law_whole := A21.fnd ["thing", "least", "most"] XK G fun _ _ _ _ _ _ us hl => match us, hl with | [_, _, _], _ => rfl
 have n_law_is := A22.fnd ["thing"] XK G fun _ _ _ _ _ _ us hl => match us, hl with | [_], _ => rfl
 have n_law_bad_link := A23.fnd ["hand", "link", "pages"] XK G fun _ _ _ _ _ _ us hl => match us, hl with | [_, _, _], _ => rfl
 have n_law_spoilt := A24.fnd ["hand", "web"] XK G fun _ _ _ _ _ _ us hl => match us, hl with | [_, _], _ => rfl
 have n_law_again := A25.fnd ["hand", "thing"] XK G fun _ _ _ _ _ _ us hl => match us, hl with | [_, _], _ => rfl
 obtain ⟨t_MOST_PAGES, i_MOST_PAGES⟩ := I_MOST_PAGES.mg XK G
 obtain ⟨t_MOST_LINKS, i_MOST_LINKS⟩ := I_MOST_LINKS.mg XK G
 have T : Txt mg := ⟨PySem.W.mg_none_of XK G zabs, PySem.W.mg_none_of XK G zisi, PySem.W.mg_none_of XK G ztup, PySem.W.mg_none_of XK G zint, PySem.W.mg_none_of XK G zbool, PySem.W.mg_none_of XK G zlst, PySem.W.mg_none_of XK G zenu, PySem.W.mg_none_of XK G zlen, PySem.W.mg_none_of XK G zrange, PySem.W.mg_none_of XK G zsrt, PySem.W.mg_none_of XK G zsum, PySem.W.mg_none_of XK G zzip, PySem.W.mg_none_of XK G zmax⟩
 have zall := PySem.W.mg_none_of XK G zall
 have zstr := PySem.W.mg_none_of XK G zstr
 have zrepr := PySem.W.mg_none_of XK G zrepr
 refine ⟨PySem.W.fnOf "law" "law" (defArgs sLaw) (defBody sLaw) (defScope sLaw) .none kV dc pm an cd ct, fun s v => .of_eq rfl, fun base _ _ => ?_⟩
 · skip
   have dDr : Def l.prog w K mg base 1 "_law_draw" ["hand", "limit"] spDraw := d_draw nDraw
   have dWh : Def l.prog w K mg base 1 "is_whole" ["thing"] (spWholeT K) := d_is_whole nWhole T
   have dPa := d_is_pair_of_wholes nPair T dWh
   have dIl := d_is_link n_is_link T dPa
   have dRi : Def l.prog w K mg base 1 "are_rising" ["links"] (spRisingB K) := d_are_rising n_are_rising T zall
   have dAl := d_are_links n_are_links T i_MOST_PAGES i_MOST_LINKS zall dIl dRi
   have dIw := d_is_web n_is_web T i_MOST_PAGES i_MOST_LINKS dWh dAl
   have dLw : Def l.prog w K mg base 1 "_law_whole" ["thing", "least", "most"] (spLWholeG K) := d_law_whole n_law_whole T
   have dLi := d_law_is n_law_is T dLw
   have dBl := d_law_bad_link n_law_bad_link T zstr dDr
   have dSo := d_law_spoilt n_law_spoilt T dDr dBl
   have dAg := d_law_again n_law_again T dSo
   exact ok_law F26 T zrepr dIw dLi (d_cells nCells T) (d_hand nHand) (d_web nWeb T nDraw) (d_great nGreat T) dSo dAg

theorem walk {l : PySem.W.OpenLaw} {q : Program} {loose : List Str} {XP : (Str → Option Value) → Heap → Prop} {YP : World → Heap → Prop} {d : DefRec} {K : Params → PySem.W.Frag} (hn : l.most = some 63) (hdf : d.params.defaults = [])
 (hY : ∀ (w : World) (h : Heap), YP w h → (K w.params).In h)
 (F : ∀ (w : World) (mg : Str → Option Value) (fa : Addr) (h : Heap), (K w.params).In h → h.Ns mainGlobals mg → mg d.name = some (.ref fa) →
  ∃ fd : FuncData, (∀ (s : Shared) (u : Value), BindsTo s fd ⟨[u], []⟩ [("script", u)]) ∧ ∀ base : Heap, (K w.params).In base → base.Ns mainGlobals mg → FnOk l.prog w (K w.params) mg base CX0 6 fa fd ["script"] (spLaw (K w.params))) :
 PySem.W.WalkO q loose XP YP l.row.toRowW d [] (fun f vs => PySem.call f vs) :=
 L2.walk_of (n := 63) (k := 6) (x := "script") (CX := fun _ => CX0) (sp := fun w => spLaw (K w.params)) hn (by decide) hdf ⟨rfl, by decide, by decide, rfl⟩ hY F (fun _ _ a ns hl _ hS => ⟨a, ns, rfl, hS, hl, fun _ => rfl⟩) fun _ _ _ _ _ z => z
end Lw

open PySem PySem.W PyProof.Rows
set_option maxRecDepth 100000 in
set_option maxHeartbeats 0 in
theorem PySem.Challenge.cw_pagewalks_k05_what_is_a_web_holds : PySem.Challenge.rw_pagewalks_k05_what_is_a_web.Holds := by
 w_on; o_law; (set_option synthInstance.maxSize 1 in k_head); (case hw => w_witness2)
 k_fill
 refine Lw.walk (l := PySem.Challenge.rw_pagewalks_k05_what_is_a_web) rfl rfl (fun w h Y => PySem.W.kIn_of Y) ?F
 case F =>
  intro w mg fa h KX G hmg
  refine' Lw.all_mk KX G hmg ?A1 ?A2 ?A6 ?A7 ?A8 ?A9 ?A11 ?A12 ?A13 ?A14 ?A18 ?A21 ?A22 ?A23 ?A24 ?A25 ?aL ?lL ?cL ?kL ?zabs ?zisi ?ztup ?zint ?zbool ?zlst ?zenu ?zlen ?zrange ?zsrt ?zsum ?zzip ?zmax ?zall ?zstr ?zrepr ?I_MOST_PAGES ?I_MOST_LINKS
  (case A1 => refine' L2.FnAt.of ?a ?l ?c ?k; (case a => k_is); (case l => k_is); (case c => k_is); (case k => k_is))
  (case A2 => refine' L2.FnAt.of ?a ?l ?c ?k; (case a => k_is); (case l => k_is); (case c => k_is); (case k => k_is))
  (case A6 => refine' L2.FnAt.of ?a ?l ?c ?k; (case a => k_is); (case l => k_is); (case c => k_is); (case k => k_is))
  (case A7 => refine' L2.FnAt.of ?a ?l ?c ?k; (case a => k_is); (case l => k_is); (case c => k_is); (case k => k_is))
  (case A8 => refine' L2.FnAt.of ?a ?l ?c ?k; (case a => k_is); (case l => k_is); (case c => k_is); (case k => k_is))
  (case A9 => refine' L2.FnAt.of ?a ?l ?c ?k; (case a => k_is); (case l => k_is); (case c => k_is); (case k => k_is))
  (case A11 => refine' L2.FnAt.of ?a ?l ?c ?k; (case a => k_is); (case l => k_is); (case c => k_is); (case k => k_is))
  (case A12 => refine' L2.FnAt.of ?a ?l ?c ?k; (case a => k_is); (case l => k_is); (case c => k_is); (case k => k_is))
  (case A13 => refine' L2.FnAt.of ?a ?l ?c ?k; (case a => k_is); (case l => k_is); (case c => k_is); (case k => k_is))
  (case A14 => refine' L2.FnAt.of ?a ?l ?c ?k; (case a => k_is); (case l => k_is); (case c => k_is); (case k => k_is))
  (case A18 => refine' L2.FnAt.of ?a ?l ?c ?k; (case a => k_is); (case l => k_is); (case c => k_is); (case k => k_is))
  (case A21 => refine' L2.FnAt.of ?a ?l ?c ?k; (case a => k_is); (case l => k_is); (case c => k_is); (case k => k_is))
  (case A22 => refine' L2.FnAt.of ?a ?l ?c ?k; (case a => k_is); (case l => k_is); (case c => k_is); (case k => k_is))
  (case A23 => refine' L2.FnAt.of ?a ?l ?c ?k; (case a => k_is); (case l => k_is); (case c => k_is); (case k => k_is))
  (case A24 => refine' L2.FnAt.of ?a ?l ?c ?k; (case a => k_is); (case l => k_is); (case c => k_is); (case k => k_is))
  (case A25 => refine' L2.FnAt.of ?a ?l ?c ?k; (case a => k_is); (case l => k_is); (case c => k_is); (case k => k_is))
  (case aL => k_is)
  (case lL => k_is)
  (case cL => k_is)
  (case kL => k_is)
  (case zabs => k_is)
  (case zisi => k_is)
  (case ztup => k_is)
  (case zint => k_is)
  (case zbool => k_is)
  (case zlst => k_is)
  (case zenu => k_is)
  (case zlen => k_is)
  (case zrange => k_is)
  (case zsrt => k_is)
  (case zsum => k_is)
  (case zzip => k_is)
  (case zmax => k_is)
  (case zall => k_is)
  (case zstr => k_is)
  (case zrepr => k_is)
  (case I_MOST_PAGES => refine' L2.InAt.of ?a; (case a => k_is))
  (case I_MOST_LINKS => refine' L2.InAt.of ?a; (case a => k_is))

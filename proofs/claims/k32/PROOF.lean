import PyProof.Rows.All
import Wide.All
import OpenK.AllK
import Wide.FinOn
import Lean
import PyProof.EqAt
import PyProof.EqKinds
import PyProof.TupleCall
import PyProof.NeKinds
import PyProof.EnumMake
import PyProof.Draws
import PyProof.ListNew
import PyProof.Rows.IntBool
import KE.LcSums
import PyProof.ListMulRoad
import PyProof.WalksT
import PyProof.ZipIter
import PyProof.Rows.ZipGen
import PyProof.SumWalk
import PyProof.Rows.CallKwBuiltin
import PyProof.AutoListH
import PyProof.WalkInts
import KE.KRevIter
import PyProof.ListStr
import PyProof.ListRange
import KE.KSortTup
import KE.KLam
import KE.KNestM
import KE.KFind
import KE.KTryDeep
import KE.KIsAll
import PyProof.ExcArgsOwn
import PySem.Challenge.RW_pagewalks_k32_live_webs_refused
set_option maxHeartbeats 1000000
set_option Elab.async false
set_option bootstrap.genMatcherCode false
set_option genSizeOfSpec false
set_option genSizeOf false
set_option linter.all false
set_option maxRecDepth 100000
namespace L2
open PySem PySem.Spec PyProof.Rows

noncomputable abbrev Key := Sum Int Str
noncomputable def keyIs : Key → Value → Bool
 | .inl k, v => Value.isInt k v
 | .inr x, v => Value.isStrOf x v
noncomputable def keyH (w : World) : Key → Int
 | .inl k => hashInt k
 | .inr x => hashStr w x
theorem keyIs_shape : ∀ {k : Key} {v : Value}, keyIs k v = true → (∃ i t, k = Sum.inl i ∧ v = Value.int i t) ∨ (∃ x t, k = Sum.inr x ∧ v = Value.str x t)
 | .inl i, v, h => by
   obtain ⟨t, e⟩ := Value.isInt_shape (k := i) (v := v) h
   exact .inl ⟨i, t, rfl, e⟩
 | .inr x, v, h => by
   obtain ⟨t, e⟩ := Value.isStrOf_shape (x := x) (v := v) h
   exact .inr ⟨x, t, rfl, e⟩
theorem key_ll (a b : Int) : decide ((Sum.inl a : Key) = Sum.inl b) = (a == b) := by
 by_cases e : a = b
 · subst e; simp
 · have h : ¬ (Sum.inl a : Key) = Sum.inl b := fun q => e (Sum.inl.inj q)
   rw [decide_eq_false h]
   exact (beq_eq_false_iff_ne.mpr e).symm
theorem key_rr (a b : Str) : decide ((Sum.inr a : Key) = Sum.inr b) = decide (a = b) := by
 by_cases e : a = b
 · subst e; simp
 · have h : ¬ (Sum.inr a : Key) = Sum.inr b := fun q => e (Sum.inr.inj q)
   rw [decide_eq_false h, decide_eq_false e]
theorem key_lr (a : Int) (b : Str) : decide ((Sum.inl a : Key) = Sum.inr b) = false := decide_eq_false (fun q => nomatch q)
theorem key_rl (a : Str) (b : Int) : decide ((Sum.inr a : Key) = Sum.inl b) = false := decide_eq_false (fun q => nomatch q)

noncomputable def mixKind (prog : Program) (w : World) : PySem.KeyKind prog w Key where
 is := keyIs
 hash := keyH w
 inj := fun v a b ha hb => by
  rcases keyIs_shape ha with ⟨i, t, rfl, rfl⟩ | ⟨x, t, rfl, rfl⟩
  · rcases keyIs_shape hb with ⟨j, u, rfl, e⟩ | ⟨y, u, rfl, e⟩
    · injection e with e1 _; rw [e1]
    · exact nomatch e
  · rcases keyIs_shape hb with ⟨j, u, rfl, e⟩ | ⟨y, u, rfl, e⟩
    · exact nomatch e
    · injection e with e1 _; rw [e1]
 byValue := fun k v h => by
  rcases keyIs_shape h with ⟨i, t, rfl, rfl⟩ | ⟨x, t, rfl, rfl⟩ <;> rfl
 pyHash := fun hv h => by
  rcases keyIs_shape hv with ⟨i, t, rfl, rfl⟩ | ⟨x, t, rfl, rfl⟩
  · exact wpAny_pyHash_int h
  · exact wpAny_pyHash_str h
 eqBool := fun hu hv h => by
  rcases keyIs_shape hu with ⟨i, t, rfl, rfl⟩ | ⟨x, t, rfl, rfl⟩
  · rcases keyIs_shape hv with ⟨j, u, rfl, rfl⟩ | ⟨y, u, rfl, rfl⟩
    · rw [key_ll] at h; exact wpAny_eqBool_int h
    · rw [key_lr] at h; exact SeqAt.EqAt.int_str i t y u _ _ _ _ h
  · rcases keyIs_shape hv with ⟨j, u, rfl, rfl⟩ | ⟨y, u, rfl, rfl⟩
    · rw [key_rl] at h; exact SeqAt.EqAt.str_int x t j u _ _ _ _ h
    · rw [key_rr] at h; exact wpAny_eqBool_str h
 «strs» := fun k x t v h => by
  rcases keyIs_shape h with ⟨i, u, rfl, e⟩ | ⟨y, u, rfl, e⟩
  · exact nomatch e
  · injection e with e1 _
    subst e1
    cases v <;> rfl

end L2

namespace L2
open PySem PySem.Spec PyProof.Rows

inductive V where
 | non | bl (b : Bool) | int (i : Int) | str (x : Str) | byt (b : Array UInt8) | flt (b : UInt64) | ref (a : Addr) | ty (n : String)
 deriving DecidableEq

noncomputable def RelV : V → Value → Prop
 | .non, u => u = Value.none
 | .bl b, u => u = Value.bool b
 | .int i, u => ∃ t, u = Value.int i t
 | .str x, u => ∃ t, u = Value.str x t
 | .byt b, u => ∃ t, u = Value.bytes b t
 | .flt b, u => ∃ t, u = Value.float b t
 | .ref a, u => u = Value.ref a
 | .ty n, u => u = Value.type n

noncomputable abbrev Vals : List V → List Value → Prop := Paired RelV
theorem Vals.length {xs : List V} {us : List Value} (r : Vals xs us) : xs.length = us.length := Paired.length r
theorem Vals.get : ∀ {xs : List V} {us : List Value} {i : Nat} {x : V}, Vals xs us → xs[i]? = some x → ∃ u, us[i]? = some u ∧ RelV x u
 | _, _, _, _, .nil, e => by simp at e
 | _, _, 0, _, .cons r _, e => by simp at e; subst e; exact ⟨_, rfl, r⟩
 | _, _, i + 1, x, .cons _ t, e => by
   obtain ⟨u, h1, h2⟩ := Vals.get (i := i) (x := x) t (by simpa using e)
   exact ⟨u, by simpa using h1, h2⟩
theorem Vals.set {x : V} {u : Value} (r : RelV x u) : ∀ {xs : List V} {us : List Value} (i : Nat), Vals xs us → Vals (xs.set i x) (us.set i u)
 | _, _, _, .nil => .nil
 | _, _, 0, .cons _ t => .cons r t
 | _, _, i + 1, .cons q t => .cons q (Vals.set r i t)
theorem Vals.append : ∀ {xs ys : List V} {us ws : List Value}, Vals xs us → Vals ys ws → Vals (xs ++ ys) (us ++ ws)
 | _, _, _, _, .nil, s => s
 | _, _, _, _, .cons r t, s => .cons r (Vals.append t s)
theorem Vals.take : ∀ {xs : List V} {us : List Value} (n : Nat), Vals xs us → Vals (xs.take n) (us.take n)
 | _, _, 0, _ => .nil
 | _, _, _ + 1, .nil => .nil
 | _, _, n + 1, .cons r t => .cons r (Vals.take n t)
theorem Vals.drop : ∀ {xs : List V} {us : List Value} (n : Nat), Vals xs us → Vals (xs.drop n) (us.drop n)
 | _, _, 0, r => r
 | _, _, _ + 1, .nil => .nil
 | _, _, n + 1, .cons _ t => Vals.drop n t
noncomputable def RelO : Option V → Option Value → Prop
 | some v, some u => RelV v u
 | none, none => True
 | _, _ => False
noncomputable def KV {κ : Type} : List (κ × V) → List (κ × Value) → Prop := Paired fun (p : κ × V) (q : κ × Value) => p.1 = q.1 ∧ RelV p.2 q.2

noncomputable def kV : Key → V
 | .inl i => .int i
 | .inr x => .str x

inductive HO where
 | lst (xs : List V)
 | tup (xs : List V)
 | dK (kvs : List (Key × V)) | dT (kvs : List (List Key × V))
 | set (S : Int → Bool) (n : Nat)
 | ins (C dx : Addr) (fs : List (Str × V))
 | own (x : Addr)
 | xd (fs : List (Str × V))
 | met (f x : Addr)
 | rng (lo hi : Int)
 | frz (o : Obj) (u : HO)
 | tbl (ps : Array Value)
 | ext (φ : Heap → Prop)

noncomputable abbrev Hp := Addr → Option HO
noncomputable def upd (H : Hp) (a : Addr) (o : HO) : Hp := fun b => if b = a then some o else H b
theorem upd_same {H : Hp} {a : Addr} {o : HO} : upd H a o a = some o := by unfold upd; rw [if_pos rfl]
theorem upd_ne {H : Hp} {a b : Addr} {o : HO} (h : b ≠ a) : upd H a o b = H b := by unfold upd; rw [if_neg h]
theorem ne_of {H : Hp} {a b : Addr} {o u : HO} (h : H a = some o) (h' : H b = some u) (d : o ≠ u) : a ≠ b := by
 intro e; subst e; rw [h] at h'; exact d (Option.some.inj h')
theorem ne_of_none {H : Hp} {a b : Addr} {o : HO} (h : H a = some o) (h' : H b = none) : a ≠ b := by
 intro e; subst e; rw [h] at h'; cases h'

noncomputable def IsTupN (h : Heap) (a : Addr) (items : Array Value) : Prop := ∃ o, h.get? a = some o ∧ (o.cls, o.dict) = (Value.type "tuple", (none : Option Addr)) ∧ ∃ n, o.data = .seq items n
theorem IsTupN.tup {h : Heap} {a : Addr} {items : Array Value} (p : IsTupN h a items) : PyProof.Rows.IsTup h a items := by
 obtain ⟨o, e, c, n, d⟩ := p
 exact ⟨o, e, congrArg Prod.fst c, n, d⟩
theorem IsTupN.new (h : Heap) (items : Array Value) : IsTupN (h.push { cls := .type "tuple", data := .seq items }) h.objs.size items := ⟨_, Heap.get?_push_size _ rfl, rfl, _, rfl⟩

section
variable (P : Program) (w : World)
noncomputable def ObjOk (H : Hp) (h : Heap) (a : Addr) : HO → Prop
 | .lst xs => xs.length ≤ sizeLine ∧ ∃ (its : List Value) (n : Nat), Vals xs its ∧ h.get? a = some { cls := .type "list", data := .seq its.toArray n }
 | .tup xs => xs.length ≤ sizeLine ∧ ∃ its : List Value, Vals xs its ∧ IsTupN h a its.toArray
 | .dK kvs => kvs.length ≤ sizeLine ∧ (a == sysModules) = false ∧ ∃ vs, KV kvs vs ∧ h.DictOf (mixKind P w) a vs
 | .dT kvs => kvs.length ≤ sizeLine ∧ (a == sysModules) = false ∧ ∃ xs : List (List Key × Addr × Value),
  Paired (fun (p : List Key × V) (q : List Key × Addr × Value) => p.1 = q.1 ∧ H q.2.1 = some (.tup (p.1.map kV)) ∧ RelV p.2 q.2.2) kvs xs ∧
  ∃ o es ep, h.get? a = some o ∧ o.ExactDict ∧ o.data = .dict es ep ∧ es.toList = xs.map (entryOfKey (tupleKind (mixKind P w))) ∧ (xs.map (·.1)).Nodup
 | .set S n => h.SetOf (intKind P w) a S n
 | .ins C dx fs => H dx = some (.own a) ∧ fs.length ≤ 1000 ∧ dx ≠ a ∧ h.get? a = some (PySem.W.instObj C dx) ∧
  ∃ mA, h.Ns1 dx mA ∧ (∀ f, RelO (fs.lookup f) (mA f)) ∧ PySem.Within mA (fs.map (·.1))
 | .own _ => ∃ o, h.get? a = some o
 | .xd fs => ∃ mA, h.Ns1 a mA ∧ ∀ f, RelO (fs.lookup f) (mA f)
 | .rng lo hi => ∃ t u v, h.get? a = some { cls := .type "range", data := .fields #[.int lo t, .int hi u, .int 1 v] }
 | .frz o u => h.get? a = some o ∧ ObjOk H h a u
 | .tbl ps => h.get? a = some { cls := .none, data := .fields ps }
 | .met f x => h.get? a = some (PySem.W.methodObj (.ref f) (.ref x))
 | .ext φ => φ h ∧ (∃ o, h.get? a = some o) ∧ ∀ h1 h2 : Heap, φ h1 → (∀ o, h1.get? a = some o → h2.get? a = some o) → φ h2
noncomputable def HOk (H : Hp) (h : Heap) : Prop := ∀ a o, H a = some o → ObjOk P w H h a o
end

section
variable {P : Program} {w : World} {H H' : Hp} {h h' : Heap} {a : Addr} {o : HO}
theorem ObjOk.lt (x : ObjOk P w H h a o) : a < h.objs.size := by
 cases o with
 | lst xs => obtain ⟨_, _, _, _, e⟩ := x; exact Heap.lt_size e
 | tup xs => obtain ⟨_, _, _, p⟩ := x; exact p.tup.lt
 | dK kvs => obtain ⟨_, _, _, _, o, _, _, e, _⟩ := x; exact Heap.lt_size e
 | dT kvs => obtain ⟨_, _, _, _, o, _, _, e, _⟩ := x; exact Heap.lt_size e
 | set S n => obtain ⟨o, _, _, _, e, _⟩ := x; exact Heap.lt_size e
 | ins C dx fs => obtain ⟨_, _, _, e, _⟩ := x; exact Heap.lt_size e
 | own y => obtain ⟨_, e⟩ := x; exact Heap.lt_size e
 | xd fs => obtain ⟨_, ⟨_, _, _, e, _⟩, _⟩ := x; exact Heap.lt_size e
 | rng lo hi => obtain ⟨_, _, _, e⟩ := x; exact Heap.lt_size e
 | frz ob u => obtain ⟨e, _⟩ := x; exact Heap.lt_size e
 | tbl ps => exact Heap.lt_size (show h.get? a = some _ from x)
 | met f y => exact Heap.lt_size (show h.get? a = some _ from x)
 | ext φ => obtain ⟨_, ⟨_, e⟩, _⟩ := x; exact Heap.lt_size e
theorem Paired.mapP {α β : Type} {F G : α → β → Prop} : ∀ {l₁ : List α} {l₂ : List β}, Paired F l₁ l₂ → (∀ a b, F a b → G a b) → Paired G l₁ l₂
 | _, _, .nil, _ => .nil
 | _, _, .cons r t, f => .cons (f _ _ r) (Paired.mapP t f)
theorem ObjOk.stay (x : ObjOk P w H h a o) (k : ∀ b u, (b = a ∨ H b = some (.own a)) → h.get? b = some u → h'.get? b = some u)
 (ho : ∀ b, H b = some (.own a) → H' b = some (.own a)) (ht : ∀ b xs, H b = some (.tup xs) → H' b = some (.tup xs)) : ObjOk P w H' h' a o := by
 induction o with
 | lst xs => obtain ⟨z, its, n, r, e⟩ := x; exact ⟨z, its, n, r, k _ _ (.inl rfl) e⟩
 | tup xs => obtain ⟨z, its, r, ob, e, c⟩ := x; exact ⟨z, its, r, ob, k _ _ (.inl rfl) e, c⟩
 | dK kvs => obtain ⟨z, y, vs, r, ob, es, ep, e, c⟩ := x; exact ⟨z, y, vs, r, ob, es, ep, k _ _ (.inl rfl) e, c⟩
 | dT kvs =>
   obtain ⟨z, y, xs, r, ob, es, ep, e, c⟩ := x
   exact ⟨z, y, xs, Paired.mapP r fun p q z => ⟨z.1, ht _ _ z.2.1, z.2.2⟩, ob, es, ep, k _ _ (.inl rfl) e, c⟩
 | set S n => obtain ⟨ob, es, ep, t, e, c⟩ := x; exact ⟨ob, es, ep, t, k _ _ (.inl rfl) e, c⟩
 | ins C dx fs =>
   obtain ⟨d, z, ne, e, mA, ⟨od, es, ep, e2, c⟩, r⟩ := x
   exact ⟨ho _ d, z, ne, k _ _ (.inl rfl) e, mA, ⟨od, es, ep, k _ _ (.inr d) e2, c⟩, r⟩
 | own y => obtain ⟨ob, e⟩ := x; exact ⟨ob, k _ _ (.inl rfl) e⟩
 | xd fs => obtain ⟨mA, ⟨od, es, ep, e, c⟩, r⟩ := x; exact ⟨mA, ⟨od, es, ep, k _ _ (.inl rfl) e, c⟩, r⟩
 | rng lo hi => obtain ⟨t, u, v, e⟩ := x; exact ⟨t, u, v, k _ _ (.inl rfl) e⟩
 | frz ob u ih => obtain ⟨e, q⟩ := x; exact ⟨k _ _ (.inl rfl) e, ih q⟩
 | tbl ps =>
   have e : h.get? a = some { cls := .none, data := .fields ps } := x
   show h'.get? a = some { cls := .none, data := .fields ps }
   exact k a _ (.inl rfl) e
 | met f y =>
   have e : h.get? a = some (PySem.W.methodObj (.ref f) (.ref y)) := x
   show h'.get? a = some (PySem.W.methodObj (.ref f) (.ref y))
   exact k a _ (.inl rfl) e
 | ext φ => obtain ⟨p, ⟨o, e⟩, st⟩ := x; exact ⟨st _ _ p fun o q => k _ _ (.inl rfl) q, ⟨o, k _ _ (.inl rfl) e⟩, st⟩
theorem HOk.lt (x : HOk P w H h) (e : H a = some o) : a < h.objs.size := (x a o e).lt
theorem HOk.fresh (x : HOk P w H h) (e : h.objs.size ≤ a) : H a = none := by
 cases q : H a with
 | none => rfl
 | some u => exact absurd (Nat.lt_of_lt_of_le (x.lt q) e) (Nat.lt_irrefl _)
theorem HOk.kept (x : HOk P w H h) (k : ∀ b u, h.get? b = some u → h'.get? b = some u) : HOk P w H h' := fun a o e =>
 (x a o e).stay (fun b u _ q => k b u q) (fun _ q => q) fun _ _ q => q
theorem HOk.laid (x : HOk P w H h) (k : ∀ b u, h.get? b = some u → h'.get? b = some u) (hp : h.objs.size ≤ a) (new : ObjOk P w (upd H a o) h' a o) : HOk P w (upd H a o) h' := fun b u e => by
 have hn := x.fresh hp
 by_cases hb : b = a
 · subst hb; rw [upd_same] at e; cases e; exact new
 · rw [upd_ne hb] at e
   exact (x b u e).stay (fun c v _ q => k c v q) (fun c q => by rw [upd_ne (ne_of_none q hn)]; exact q) fun c xs q => by rw [upd_ne (ne_of_none q hn)]; exact q
end

noncomputable def Rd (H : Hp) (a : Addr) (u : HO) : Prop := H a = some u ∨ ∃ o, H a = some (.frz o u)
theorem Rd.ok {P : Program} {w : World} {H : Hp} {h : Heap} {a : Addr} {u : HO} (r : Rd H a u) (x : HOk P w H h) : ObjOk P w H h a u := by
 rcases r with r | ⟨o, r⟩
 · exact x a u r
 · obtain ⟨_, q⟩ := x a _ r
   exact q
noncomputable def Mut : Option HO → Prop
 | some (.lst _) => True
 | some (.dK _) => True
 | some (.dT _) => True
 | some (.set _ _) => True
 | some (.ins _ _ _) => True
 | some (.ext _) => True
 | _ => False
section
variable {P : Program} {w : World} {H : Hp} {h h' : Heap} {x e : Addr} {o' : HO}
theorem HOk.write (ok : HOk P w H h) (mu : Mut (H x)) (he : e = x ∨ H e = some (.own x)) (k : ∀ b u, b ≠ e → h.get? b = some u → h'.get? b = some u) (heo : ∃ u, h'.get? e = some u)
 (new : ObjOk P w (upd H x o') h' x o') : HOk P w (upd H x o') h' := fun b u q => by
 have nown : ∀ c y, H c = some (.own y) → c ≠ x := fun c y r z => by subst z; rw [r] at mu; exact mu
 have ntup : ∀ c xs, H c = some (.tup xs) → c ≠ x := fun c xs r z => by subst z; rw [r] at mu; exact mu
 by_cases hb : b = x
 · subst hb; rw [upd_same] at q; cases q; exact new
 · rw [upd_ne hb] at q
   by_cases hbe : b = e
   · have q' : H b = some (.own x) := by
      rcases he with z | z
      · exact absurd (hbe.trans z) hb
      · rw [hbe]; exact z
     rw [q] at q'; cases q'
     obtain ⟨v, hv⟩ := heo
     exact ⟨v, by rw [hbe]; exact hv⟩
   · refine (ok b u q).stay (fun c v hc r => k c v ?_ r) (fun c r => by rw [upd_ne (nown c b r)]; exact r) fun c xs r => by rw [upd_ne (ntup c xs r)]; exact r
     rcases hc with rfl | hc
     · exact hbe
     · rintro rfl
       rcases he with z | z
       · exact nown c b hc z
       · rw [hc] at z; cases z; exact hb rfl
end

structure Un (fs ex : List Addr) (H H' : Hp) (h h' : Heap) : Prop where
 keep : ∀ b o, h.get? b = some o → H b = none → b ∉ fs → b ∉ ex → h'.get? b = some o
 slot : ∀ b o, h.get? b = some o → H b = none → b ∈ fs → b ∉ ex → ∃ sl, h'.get? b = some { o with slots := sl }
 free : ∀ b o, h.get? b = some o → H b = none → b ∉ ex → H' b = none
 there : ∀ b o, h.get? b = some o → b ∉ ex → ∃ o', h'.get? b = some o'
 tups : ∀ b xs, H b = some (.tup xs) → H' b = some (.tup xs)
 frzs : ∀ b o u, H b = some (.frz o u) → H' b = some (.frz o u)
 tbls : ∀ b ps, H b = some (.tbl ps) → ∃ more, H' b = some (.tbl (ps ++ more))
section
variable {fs fs' ex ex' : List Addr} {H H1 H2 : Hp} {h h1 h2 h' : Heap} {a x e : Addr} {o : HO}
theorem Un.any (u : Un fs ex H H1 h h1) {b : Addr} {ob : Obj} (q : h.get? b = some ob) (n : H b = none) (hx : b ∉ ex) : ∃ sl, h1.get? b = some { ob with slots := sl } := by
 by_cases hb : b ∈ fs
 · exact u.slot b ob q n hb hx
 · exact ⟨ob.slots, u.keep b ob q n hb hx⟩
theorem Un.kept (k : ∀ b u, h.get? b = some u → h'.get? b = some u) : Un fs ex H H h h' :=
 ⟨fun b ob q _ _ _ => k b ob q, fun b ob q _ _ _ => ⟨ob.slots, k b ob q⟩, fun _ _ _ n _ => n, fun b ob q _ => ⟨ob, k b ob q⟩, fun _ _ q => q, fun _ _ _ q => q, fun _ ps q => ⟨#[], by rw [q]; simp⟩⟩
theorem Un.refl : Un fs ex H H h h := Un.kept fun _ _ q => q
theorem Un.laid (k : ∀ b u, h.get? b = some u → h'.get? b = some u) (hp : h.objs.size ≤ a) (hn : H a = none) : Un fs ex H (upd H a o) h h' where
 keep := fun b u q _ _ _ => k b u q
 slot := fun b u q _ _ _ => ⟨u.slots, k b u q⟩
 free := fun b u q n _ => by rw [upd_ne (Nat.ne_of_lt (Nat.lt_of_lt_of_le (Heap.lt_size q) hp))]; exact n
 there := fun b u q _ => ⟨u, k b u q⟩
 tups := fun b xs q => by rw [upd_ne (ne_of_none q hn)]; exact q
 frzs := fun b u xs q => by rw [upd_ne (ne_of_none q hn)]; exact q
 tbls := fun b ps q => ⟨#[], by rw [upd_ne (ne_of_none q hn), q]; simp⟩
theorem Un.write (mu : Mut (H x)) (he : e = x ∨ H e = some (.own x)) (k : ∀ b u, b ≠ e → h.get? b = some u → h'.get? b = some u) (heo : ∃ u, h'.get? e = some u) : Un fs ex H (upd H x o) h h' := by
 have hx : ∀ b, H b = none → b ≠ x := fun b n z => by subst z; rw [n] at mu; exact mu
 have hb : ∀ b, H b = none → b ≠ e := fun b n z => by
  subst z
  rcases he with r | r
  · exact hx b n r
  · rw [n] at r; cases r
 have hm : ∀ b u, H b = some u → ¬ Mut (some u) → b ≠ x := fun b u q nm z => by subst z; rw [q] at mu; exact nm mu
 refine ⟨fun b u q n _ _ => k b u (hb b n) q, fun b u q n _ _ => ⟨u.slots, k b u (hb b n) q⟩, fun b u q n _ => by rw [upd_ne (hx b n)]; exact n, fun b u q _ => ?_,
  fun b xs q => by rw [upd_ne (hm b _ q fun z => z)]; exact q, fun b u xs q => by rw [upd_ne (hm b _ q fun z => z)]; exact q, fun b ps q => ⟨#[], by rw [upd_ne (hm b _ q fun z => z), q]; simp⟩⟩
 by_cases hbe : b = e
 · subst hbe; exact heo
 · exact ⟨u, k b u hbe q⟩
end

noncomputable def trk (h : Heap) (H : Hp) : List Addr := (List.range h.objs.size).filter fun a => (H a).isSome
noncomputable def hidT (h : Heap) (H : Hp) : Heap := PySem.W.hideAll h (trk h H)
theorem hidT_size (h : Heap) (H : Hp) : (hidT h H).objs.size = h.objs.size := PySem.W.hideAll_size _ _
theorem hidT_get {h : Heap} {H : Hp} {b : Addr} {o : Obj} (e : h.get? b = some o) (n : H b = none) : (hidT h H).get? b = some o :=
 PySem.W.hideAll_get _ e fun hm => by
  have q : (H b).isSome = true := (List.mem_filter.mp hm).2
  rw [n] at q; simp at q
theorem of_hidT {h : Heap} {H : Hp} {b : Addr} {o : Obj} (e : (hidT h H).get? b = some o) : h.get? b = some o ∧ H b = none := by
 have e' : h.get? b = some o := PySem.W.of_hideAll (trk h H) e
 refine ⟨e', ?_⟩
 cases q : H b with
 | none => rfl
 | some x =>
   have hm : b ∈ trk h H := List.mem_filter.mpr ⟨List.mem_range.mpr (Heap.lt_size e'), by simp [q]⟩
   have z : (hidT h H).get? b = none := PySem.W.hideAll_none (trk h H) hm
   rw [z] at e; cases e

noncomputable def allNews (g h : Heap) (L : Addr) : List (Addr × Obj) := (List.range h.objs.size).filterMap fun a => if a = L ∨ (g.get? a).isSome = true then none else (h.get? a).map fun o => (a, o)
theorem mem_allNews {g h : Heap} {L a : Addr} {o : Obj} (h1 : a ≠ L) (h2 : g.get? a = none) (h3 : h.get? a = some o) : (a, o) ∈ allNews g h L :=
 List.mem_filterMap.mpr ⟨a, List.mem_range.mpr (Heap.lt_size h3), by simp [h1, h2, h3]⟩
theorem of_mem_allNews {g h : Heap} {L : Addr} {p : Addr × Obj} (hp : p ∈ allNews g h L) : p.1 ≠ L ∧ g.get? p.1 = none ∧ h.get? p.1 = some p.2 := by
 obtain ⟨b, _, e⟩ := List.mem_filterMap.mp hp
 split at e
 · cases e
 · rename_i hn
   cases q : h.get? b with
   | none => rw [q] at e; simp at e
   | some u =>
     rw [q] at e
     simp only [Option.map_some, Option.some.injEq] at e
     subst e
     refine ⟨fun z => hn (.inl z), ?_, q⟩
     show g.get? b = none
     cases r : g.get? b with
     | none => rfl
     | some v => exact (hn (.inr (by simp [r]))).elim
theorem news_all {g h : Heap} {L : Addr} : News g L h (allNews g h L) := fun p hp => let ⟨a, b, c⟩ := of_mem_allNews hp; ⟨c, a, b⟩
end L2

namespace L2
open PySem PySem.Spec PyProof.Rows

structure Mod (K : PySem.W.Frag) (mg : Str → Option Value) (base : Heap) : Prop where
 kin : K.In base
 glob : base.Ns mainGlobals mg
 blt : ∃ mb, base.Ns builtinsNs mb ∧ ∀ x : Str, x ≠ "__name__" → mb x = bootBuiltins x
 nolimit : base.NoLimit

set_option genInjectivity false in
set_option genInjectivity false in
structure Cx where
 prog : Program
 w : World
 K : PySem.W.Frag
 mg : Str → Option Value
 base : Heap
 A : Around
 N : List Str
 s₀ : Shared
 H₀ : Hp
 env : Env
 outer : List Env
 stack : List Env
 ex : List Addr
 fn : Str → Bool
 calm : Bool
 pn : List (Addr × Obj)
 xe : Value → Shared → Prop
noncomputable def frs (l : List Env) : List Addr := l.filterMap (·.frame)
noncomputable abbrev Cx.fs (X : Cx) : List Addr := frs X.outer

noncomputable def Vis (sc : Scope) (x : Str) : Prop := sc.names.lookup x = some .local ∨ sc.names.lookup x = some .cell ∨ sc.names.lookup x = some .free
noncomputable def Loc (sc : Scope) (x : Str) : Prop := sc.names.lookup x = some .local ∨ sc.names.lookup x = some .cell
noncomputable def Look (env : Env) (h : Heap) (m : Str → Option Value) (x : Str) (u : Value) : Prop :=
 (env.kindOf x = some .local ∧ m x = some u) ∨ ((env.kindOf x = some .cell ∨ env.kindOf x = some .free) ∧ ∃ c, env.cells.lookup x = some c ∧ h.IsCell c (some u))

set_option genInjectivity false in
structure Cx.Ok (X : Cx) : Prop where
 mod : Mod X.K X.mg X.base
 kind : X.env.scope.kind = .function
 glob : X.env.globals = mainGlobals
 blt : X.env.builtins = builtinsNs
 above : X.s₀.heap.objs.size ≤ X.env.locals
 inj : ∀ x y c, X.env.cells.lookup x = some c → X.env.cells.lookup y = some c → x = y
 has : ∀ x, (X.env.kindOf x = some .cell ∨ X.env.kindOf x = some .free) → ∃ c, X.env.cells.lookup x = some c
 cab : ∀ x c, X.fn x = true → X.env.cells.lookup x = some c → X.s₀.heap.objs.size ≤ c
 hd : X.calm = true → X.A.handled = none
 frames : X.A.frames = some X.stack
 stk : X.stack = X.outer ∨ (X.stack = X.env :: X.outer ∧ X.env.frame = some X.env.locals)
 exf : ∀ b ∈ X.ex, b ≠ X.env.locals ∧ ∀ x c, X.env.cells.lookup x = some c → c ≠ b
 bs : ∀ b o, X.base.get? b = some o → X.s₀.heap.get? b = some o ∧ X.H₀ b = none
 bsz : X.base.objs.size ≤ X.s₀.heap.objs.size
 noex : ∀ b o, X.base.get? b = some o → b ∉ X.ex
 exfs : ∀ b ∈ X.ex, b ∉ X.fs
 funs : X.s₀.heap.FunFrames X.base X.outer
 frf : ∀ b ∈ X.fs, X.H₀ b = none

set_option genInjectivity false in
structure Inv (X : Cx) (pins : List (Addr × Obj)) (σ : List (Option V)) (H : Hp) (s : Shared) : Prop where
 ok : X.Ok
 os : s.os = X.s₀.os
 bare : AllBare s.gens
 base : Un X.fs X.ex X.H₀ H X.s₀.heap s.heap
 loc : ∃ m, s.heap.Ns X.env.locals m ∧ ∀ (i : Nat) (x : Str) (v : V), X.N[i]? = some x → σ[i]? = some (some v) → Vis X.env.scope x → ∃ u, RelV v u ∧ Look X.env s.heap m x u
 cell : ∀ x c, X.env.cells.lookup x = some c → ∃ v, s.heap.IsCell c v
 free : H X.env.locals = none
 freeC : ∀ x c, X.env.cells.lookup x = some c → H c = none
 pin : ∀ p ∈ X.pn ++ pins, s.heap.get? p.1 = some p.2 ∧ H p.1 = none ∧ p.1 ≠ X.env.locals ∧ p.1 ∉ X.fs ∧ ∀ v, p.2.data ≠ .cell v
 hok : HOk X.prog X.w H s.heap
 len : σ.length = X.N.length

section
variable {X : Cx} {pins : List (Addr × Obj)} {σ : List (Option V)} {H H' : Hp} {s : Shared} {h' : Heap}

theorem Cx.Ok.nofr (ok : X.Ok) {b : Addr} {o : Obj} (e : X.base.get? b = some o) : b ∉ X.fs := fun hb => by
 have := (ok.funs.mem hb).1
 rw [e] at this; cases this
theorem Inv.bs (I : Inv X pins σ H s) : ∀ b o, X.base.get? b = some o → s.heap.get? b = some o ∧ H b = none := fun b o e =>
 ⟨I.base.keep b o (I.ok.bs b o e).1 (I.ok.bs b o e).2 (I.ok.nofr e) (I.ok.noex b o e), I.base.free b o (I.ok.bs b o e).1 (I.ok.bs b o e).2 (I.ok.noex b o e)⟩
theorem Inv.bk (I : Inv X pins σ H s) : ∀ b o, X.base.get? b = some o → s.heap.get? b = some o := fun b o e => (I.bs b o e).1
theorem Inv.mod (I : Inv X pins σ H s) : Mod X.K X.mg X.base := I.ok.mod
theorem Inv.kIn (I : Inv X pins σ H s) : X.K.In s.heap := I.ok.mod.kin.keeps I.bk
theorem Inv.lt (I : Inv X pins σ H s) : X.env.locals < s.heap.objs.size := let ⟨_, hn, _⟩ := I.loc; hn.lt
theorem Inv.sz (I : Inv X pins σ H s) : X.s₀.heap.objs.size ≤ s.heap.objs.size := Nat.le_trans I.ok.above (Nat.le_of_lt I.lt)
theorem Inv.nofs (I : Inv X pins σ H s) {a : Addr} (h : s.heap.objs.size ≤ a) : a ∉ X.fs := fun hb => by
 obtain ⟨_, o, ho, _⟩ := I.ok.funs.mem hb
 exact absurd (Nat.lt_of_lt_of_le (Heap.lt_size ho) (Nat.le_trans I.sz h)) (Nat.lt_irrefl _)
theorem Inv.cne (I : Inv X pins σ H s) : ∀ x c, X.env.cells.lookup x = some c → c ≠ X.env.locals := fun x c e z => by
 obtain ⟨v, o, ho, hd⟩ := I.cell x c e
 obtain ⟨m, ⟨o', es, ep, ho', hd', _⟩, _⟩ := I.loc
 rw [z, ho'] at ho; cases ho; rw [hd'] at hd; cases hd
theorem Inv.funs (I : Inv X pins σ H s) : s.heap.FunFrames X.base X.outer := by
 have all : ∀ (l : List Env), (∀ b ∈ frs l, b ∈ X.fs) → X.s₀.heap.FunFrames X.base l → s.heap.FunFrames X.base l := by
  intro l
  induction l with
  | nil => intro _ _; trivial
  | cons env r ih =>
    intro hs hl
    obtain ⟨hk, ⟨L, o, hf, hn, ho, hd⟩, hr⟩ := hl
    have hL : L ∈ X.fs := hs L (by unfold frs; rw [List.filterMap_cons, hf]; exact List.mem_cons_self)
    obtain ⟨sl, e⟩ := I.base.slot L o ho (I.ok.frf L hL) hL fun z => I.ok.exfs L z hL
    exact ⟨hk, ⟨L, _, hf, hn, e, hd⟩, ih (fun b hb => hs b (by unfold frs; rw [List.filterMap_cons, hf]; exact List.mem_cons_of_mem _ hb)) hr⟩
 exact all X.outer (fun _ hb => hb) I.ok.funs

theorem Inv.stack (I : Inv X pins σ H s) : s.heap.FunFrames X.base X.stack := by
 rcases I.ok.stk with e | ⟨e, hf⟩
 · rw [e]; exact I.funs
 · rw [e]
   obtain ⟨m, hn, _⟩ := I.loc
   refine .cons (by rw [I.ok.kind]; decide) hf hn ?_ I.funs
   exact Heap.get?_none_of_le (Nat.le_trans I.ok.bsz I.ok.above)
theorem Inv.stkSub (I : Inv X pins σ H s) : ∀ b ∈ frs X.stack, b ∈ X.env.locals :: X.fs := fun b hb => by
 rcases I.ok.stk with e | ⟨e, hf⟩
 · rw [e] at hb; exact List.mem_cons_of_mem _ hb
 · rw [e] at hb
   unfold frs at hb
   rw [List.filterMap_cons, hf] at hb
   exact hb
theorem Inv.stkFree (I : Inv X pins σ H s) : ∀ b ∈ frs X.stack, H b = none := fun b hb => by
 rcases List.mem_cons.mp (I.stkSub b hb) with e | hb
 · rw [e]; exact I.free
 · obtain ⟨_, o, ho, _⟩ := I.ok.funs.mem hb
   exact I.base.free b o ho (I.ok.frf b hb) fun z => I.ok.exfs b z hb

theorem Inv.step {g' : Array GenState} {t' : Nat} {d' : Drawn} {ch : List Addr} (I : Inv X pins σ H s)
 (hch : ∀ b ∈ ch, (b ∈ X.ex ∨ X.s₀.heap.objs.size ≤ b) ∧ b ≠ X.env.locals ∧ (∀ x c, X.env.cells.lookup x = some c → c ≠ b) ∧ ∀ p ∈ X.pn ++ pins, p.1 ≠ b)
 (keep : ∀ b o, b ≠ X.env.locals → b ∉ X.fs → b ∉ ch → s.heap.get? b = some o → H b = none → h'.get? b = some o)
 (slot : ∀ b o, b ≠ X.env.locals → b ∈ X.fs → b ∉ ch → s.heap.get? b = some o → H b = none → ∃ sl, h'.get? b = some { o with slots := sl }) (free : ∀ b o, b ∉ ch → s.heap.get? b = some o → H b = none → H' b = none)
 (there : ∀ b o, b ∉ ch → s.heap.get? b = some o → ∃ o', h'.get? b = some o')
 (tups : ∀ b xs, H b = some (.tup xs) → H' b = some (.tup xs)) (frzs : ∀ b o u, H b = some (.frz o u) → H' b = some (.frz o u)) (tbls : ∀ b ps, H b = some (.tbl ps) → ∃ more, H' b = some (.tbl (ps ++ more)))
 (ns : ∀ m, s.heap.Ns X.env.locals m → h'.Ns X.env.locals m) (hok : HOk X.prog X.w H' h') (hg : AllBare g') :
 Inv X pins σ H' { s with heap := h', gens := g', drawn := d', toks := t' } := by
 have neL : ∀ b o, X.s₀.heap.get? b = some o → b ≠ X.env.locals := fun b o e => Nat.ne_of_lt (Nat.lt_of_lt_of_le (Heap.lt_size e) I.ok.above)
 have neC : ∀ b o, X.s₀.heap.get? b = some o → b ∉ X.ex → b ∉ ch := fun b o e hx hb => by
  rcases (hch b hb).1 with z | z
  · exact hx z
  · exact absurd (Nat.lt_of_lt_of_le (Heap.lt_size e) z) (Nat.lt_irrefl _)
 have cellK : ∀ x c, X.env.cells.lookup x = some c → ∀ v, s.heap.IsCell c v → h'.IsCell c v := fun x c e v ⟨o, ho, hd⟩ => by
  have nch : c ∉ ch := fun z => (hch c z).2.2.1 x c e rfl
  by_cases hc : c ∈ X.fs
  · obtain ⟨sl, q⟩ := slot c o (I.cne x c e) hc nch ho (I.freeC x c e)
    exact ⟨_, q, hd⟩
  · exact ⟨o, keep c o (I.cne x c e) hc nch ho (I.freeC x c e), hd⟩
 refine ⟨I.ok, I.os, hg, ⟨fun b o e n hb hx => ?_, fun b o e n hb hx => ?_, fun b o e n hx => ?_, fun b o e hx => ?_, fun b xs e => tups b xs (I.base.tups b xs e), fun b o xs e => frzs b o xs (I.base.frzs b o xs e), fun b ps e => ?_⟩, ?_, fun x c e => ?_, ?_, fun x c e => ?_, fun p hp => ?_, hok, I.len⟩
 · exact keep b o (neL b o e) hb (neC b o e hx) (I.base.keep b o e n hb hx) (I.base.free b o e n hx)
 · obtain ⟨sl, e1⟩ := I.base.slot b o e n hb hx
   obtain ⟨sl', e2⟩ := slot b _ (neL b o e) hb (neC b o e hx) e1 (I.base.free b o e n hx)
   exact ⟨sl', e2⟩
 · obtain ⟨o', e1⟩ := I.base.there b o e hx
   exact free b o' (neC b o e hx) e1 (I.base.free b o e n hx)
 · obtain ⟨o', e1⟩ := I.base.there b o e hx
   exact there b o' (neC b o e hx) e1
 · obtain ⟨m1, e1⟩ := I.base.tbls b ps e
   obtain ⟨m2, e2⟩ := tbls b _ e1
   exact ⟨m1 ++ m2, by rw [e2, Array.append_assoc]⟩
 · obtain ⟨m, hn, hl⟩ := I.loc
   refine ⟨m, ns m hn, fun i x v e1 e2 e3 => ?_⟩
   obtain ⟨u, r, l⟩ := hl i x v e1 e2 e3
   refine ⟨u, r, ?_⟩
   rcases l with l | ⟨k, c, e, z⟩
   · exact .inl l
   · exact .inr ⟨k, c, e, cellK x c e _ z⟩
 · obtain ⟨v, z⟩ := I.cell x c e
   exact ⟨v, cellK x c e v z⟩
 · obtain ⟨m, ⟨o, _, _, ho, _⟩, _⟩ := I.loc
   exact free _ o (fun z => (hch _ z).2.1 rfl) ho I.free
 · obtain ⟨v, o, ho, hd⟩ := I.cell x c e
   exact free c o (fun z => (hch c z).2.2.1 x c e rfl) ho (I.freeC x c e)
 · obtain ⟨e, n, ne, nf, d⟩ := I.pin p hp
   have nch : p.1 ∉ ch := fun z => (hch p.1 z).2.2.2 p hp rfl
   exact ⟨keep p.1 p.2 ne nf nch e n, free p.1 p.2 nch e n, ne, nf, d⟩
theorem Inv.un {t' : Nat} (I : Inv X pins σ H s) (u : Un X.fs [] H H' s.heap h') (hok : HOk X.prog X.w H' h') : Inv X pins σ H' { s with heap := h', toks := t' } := by
 obtain ⟨m, ⟨o, es, ep, ho, r⟩, _⟩ := id I.loc
 obtain ⟨sl, hL⟩ := u.any ho I.free (by simp)
 exact I.step (g' := s.gens) (d' := s.drawn) (ch := []) (fun _ z => nomatch z) (fun b o _ hb _ e n => u.keep b o e n hb (by simp)) (fun b o _ hb _ e n => u.slot b o e n hb (by simp)) (fun b o _ e n => u.free b o e n (by simp)) (fun b o _ e => u.there b o e (by simp)) u.tups u.frzs u.tbls (fun m' hm => by
  obtain ⟨o', es', ep', ho', r'⟩ := hm
  rw [ho] at ho'; cases ho'
  exact ⟨_, es', ep', hL, r'⟩) hok I.bare
theorem Inv.call {g' : Array GenState} {t' : Nat} {d' : Drawn} {ch : List Addr} (I : Inv X pins σ H s) (u : Un (frs X.stack) ch H H' s.heap h') (hok : HOk X.prog X.w H' h') (hg : AllBare g')
 (hch : ∀ b ∈ ch, (b ∈ X.ex ∨ X.s₀.heap.objs.size ≤ b) ∧ b ≠ X.env.locals ∧ (∀ x c, X.env.cells.lookup x = some c → c ≠ b) ∧ ∀ p ∈ X.pn ++ pins, p.1 ≠ b) :
 Inv X pins σ H' { s with heap := h', gens := g', drawn := d', toks := t' } := by
 obtain ⟨m, ⟨o, es, ep, ho, r⟩, _⟩ := id I.loc
 obtain ⟨sl, hL⟩ := u.any ho I.free fun z => (hch _ z).2.1 rfl
 exact I.step (ch := ch) hch (fun b o hL hb hc e n => u.keep b o e n (fun z => (List.mem_cons.mp (I.stkSub b z)).elim hL hb) hc) (fun b o _ _ hc e n => u.any e n hc) (fun b o hc e n => u.free b o e n hc) (fun b o hc e => u.there b o e hc) u.tups u.frzs u.tbls (fun m' hm => by
  obtain ⟨o', es', ep', ho', r'⟩ := hm
  rw [ho] at ho'; cases ho'
  exact ⟨_, es', ep', hL, r'⟩) hok hg
theorem Inv.turned {t' : Nat} {it : Addr} (I : Inv X pins σ H s) (k : ∀ b o, b ≠ it → s.heap.get? b = some o → h'.get? b = some o) (hn : H it = none) (hL : it ≠ X.env.locals)
 (h1 : it ∈ X.ex ∨ X.s₀.heap.objs.size ≤ it) (h2 : ∀ x c, X.env.cells.lookup x = some c → c ≠ it) (h3 : ∀ p ∈ X.pn ++ pins, p.1 ≠ it) : Inv X pins σ H { s with heap := h', toks := t' } := by
 have nit : ∀ b u, H b = some u → b ≠ it := fun b u e z => by rw [z, hn] at e; cases e
 refine I.step (g' := s.gens) (d' := s.drawn) (ch := [it]) (fun b hb => ?_) (fun b o _ _ hc e _ => k b o (fun z => hc (by simp [z])) e) (fun b o _ _ hc e _ => ⟨o.slots, k b o (fun z => hc (by simp [z])) e⟩) (fun _ _ _ _ n => n)
  (fun b o hc e => ⟨o, k b o (fun z => hc (by simp [z])) e⟩) (fun _ _ e => e) (fun _ _ _ e => e) (fun b ps e => ⟨#[], by rw [e]; simp⟩) (fun m hm => ?_) (fun b u e => ?_) I.bare
 · have e : b = it := by simpa using hb
   subst e
   exact ⟨h1, hL, h2, h3⟩
 · obtain ⟨o, es, ep, ho, r⟩ := hm
   exact ⟨o, es, ep, k _ o (Ne.symm hL) ho, r⟩
 · refine (I.hok b u e).stay (fun c v hc q => k c v ?_ q) (fun _ q => q) fun _ _ q => q
   rcases hc with z | z
   · rw [z]; exact nit b u e
   · exact nit c _ z
theorem Inv.tok (I : Inv X pins σ H s) (t : Nat) : Inv X pins σ H { s with toks := t } := I.un (h' := s.heap) (t' := t) Un.refl I.hok
theorem Inv.kept {t' : Nat} (I : Inv X pins σ H s) (k : ∀ b u, s.heap.get? b = some u → h'.get? b = some u) : Inv X pins σ H { s with heap := h', toks := t' } := I.un (Un.kept k) (I.hok.kept k)
theorem Inv.laid {a : Addr} {o : HO} {t' : Nat} (I : Inv X pins σ H s) (k : ∀ b u, s.heap.get? b = some u → h'.get? b = some u) (hp : s.heap.objs.size ≤ a) (new : ObjOk X.prog X.w (upd H a o) h' a o) :
 Inv X pins σ (upd H a o) { s with heap := h', toks := t' } := I.un (Un.laid k hp (I.hok.fresh hp)) (I.hok.laid k hp new)
theorem Inv.write {x e : Addr} {o : HO} {t' : Nat} (I : Inv X pins σ H s) (mu : Mut (H x)) (he : e = x ∨ H e = some (.own x)) (k : ∀ b u, b ≠ e → s.heap.get? b = some u → h'.get? b = some u) (heo : ∃ u, h'.get? e = some u)
 (new : ObjOk X.prog X.w (upd H x o) h' x o) : Inv X pins σ (upd H x o) { s with heap := h', toks := t' } := I.un (Un.write mu he k heo) (I.hok.write mu he k heo new)
theorem Inv.weak {σ' : List (Option V)} (I : Inv X pins σ H s) (hl : σ'.length = σ.length) (w : ∀ (i : Nat) v, σ'[i]? = some (some v) → σ[i]? = some (some v)) : Inv X pins σ' H s :=
 ⟨I.ok, I.os, I.bare, I.base, let ⟨m, hn, hl'⟩ := I.loc; ⟨m, hn, fun i x v e1 e2 e3 => hl' i x v e1 (w i v e2) e3⟩, I.cell, I.free, I.freeC, I.pin, I.hok, hl.trans I.len⟩
theorem Inv.pins_of {pins' : List (Addr × Obj)} (I : Inv X pins σ H s) (h : ∀ p ∈ pins', s.heap.get? p.1 = some p.2 ∧ H p.1 = none ∧ p.1 ≠ X.env.locals ∧ p.1 ∉ X.fs ∧ ∀ v, p.2.data ≠ .cell v) : Inv X pins' σ H s :=
 ⟨I.ok, I.os, I.bare, I.base, I.loc, I.cell, I.free, I.freeC, fun p hp => (List.mem_append.mp hp).elim (fun z => I.pin p (List.mem_append_left _ z)) (h p), I.hok, I.len⟩

theorem nodup_ix {N : List Str} (hN : N.Nodup) {i j : Nat} {x : Str} (a : N[i]? = some x) (b : N[j]? = some x) : i = j := by
 obtain ⟨h1, e1⟩ := List.getElem?_eq_some_iff.mp a
 obtain ⟨h2, e2⟩ := List.getElem?_eq_some_iff.mp b
 exact (List.getElem_inj hN).mp (e1.trans e2.symm)

theorem store_ok2 {M : Model} {A : Around} {E : Value → Shared → Prop} {i : Nat} {x : Str} {v : V} {u : Value} {Q : Unit → Shared → Prop} (I : Inv X pins σ H s) (hN : X.N.Nodup) (hi : X.N[i]? = some x) (hx : Loc X.env.scope x) (r : RelV v u)
 (h : ∀ s', Inv X pins (σ.set i (some v)) H s' → (∃ a, Heap.SameBut a s.heap s'.heap ∧ (a = X.env.locals ∨ X.env.cells.lookup x = some a)) → Q () s') (hf : X.fn x = true ∨ X.env.scope.names.lookup x = some .local := by first | exact .inl rfl | exact .inr rfl | assumption) : wpAny M A (storeName X.env x u) Q E s := by
 obtain ⟨m, hn, hl⟩ := id I.loc
 have hcls : (X.env.scope.kind == .class || (X.env.scope.kind == .module && X.env.locals != X.env.globals)) = false := by rw [I.ok.kind]; rfl
 have hiσ : i < σ.length := by rw [I.len]; exact (List.getElem?_eq_some_iff.mp hi).1
 have cne := I.cne
 have tracked : ∀ {a : Addr} {h' : Heap}, (∃ o, s.heap.get? a = some o ∧ H a = none) → Heap.SameBut a s.heap h' → HOk X.prog X.w H h' := fun {a h'} ha hs b ob e => by
  obtain ⟨_, _, hfree⟩ := ha
  refine (I.hok b ob e).stay (fun c w' hc q => (hs.2 c ?_).trans q) (fun _ q => q) fun _ _ q => q
  rintro rfl
  rcases hc with rfl | hc
  · rw [hfree] at e; cases e
  · rw [hfree] at hc; cases hc
 rcases hx with hk | hk
 · refine wpAny_storeName_local hk hn (fun h' hn' hs => ?_) hcls
   obtain ⟨oL, _, _, hoL, _⟩ := id hn
   refine h _ ⟨I.ok, I.os, I.bare, ⟨fun b o e n hb hx => ?_, fun b o e n hb hx => ?_, I.base.free, fun b o e hx => ?_, I.base.tups, I.base.frzs, I.base.tbls⟩, ⟨_, hn', fun j y v' e1 e2 e3 => ?_⟩, fun y c e => ?_, I.free, I.freeC, fun p hp => ?_, tracked ⟨oL, hoL, I.free⟩ hs, by simpa using I.len⟩ ⟨_, hs, .inl rfl⟩
   · exact (hs.2 b (Nat.ne_of_lt (Nat.lt_of_lt_of_le (Heap.lt_size e) I.ok.above))).trans (I.base.keep b o e n hb hx)
   · obtain ⟨sl, e1⟩ := I.base.slot b o e n hb hx
     exact ⟨sl, (hs.2 b (Nat.ne_of_lt (Nat.lt_of_lt_of_le (Heap.lt_size e) I.ok.above))).trans e1⟩
   · obtain ⟨o', e1⟩ := I.base.there b o e hx
     exact ⟨o', (hs.2 b (Nat.ne_of_lt (Nat.lt_of_lt_of_le (Heap.lt_size e) I.ok.above))).trans e1⟩
   · by_cases hj : j = i
     · subst hj
       rw [hi] at e1; cases e1
       rw [List.getElem?_set_self hiσ] at e2
       cases e2
       exact ⟨u, r, .inl ⟨hk, by simp⟩⟩
     · rw [List.getElem?_set_ne (Ne.symm hj)] at e2
       obtain ⟨u', r', q⟩ := hl j y v' e1 e2 e3
       refine ⟨u', r', ?_⟩
       rcases q with ⟨k, e⟩ | ⟨k, c, e, z⟩
       · refine .inl ⟨k, ?_⟩
         have : y ≠ x := fun e => hj (nodup_ix hN e1 (e ▸ hi))
         simp [this, e]
       · exact .inr ⟨k, c, e, z.sameBut hs (cne y c e)⟩
   · obtain ⟨w', z⟩ := I.cell y c e
     exact ⟨w', z.sameBut hs (cne y c e)⟩
   · obtain ⟨e, n, ne, nf, d⟩ := I.pin p hp
     exact ⟨(hs.2 p.1 ne).trans e, n, ne, nf, d⟩
 · have hfn : X.fn x = true := by
    rcases hf with z | z
    · exact z
    · rw [z] at hk; cases hk
   obtain ⟨c, hc⟩ := I.ok.has x (.inl hk)
   obtain ⟨w', z⟩ := I.cell x c hc
   refine wpAny_storeName_cell I.ok.kind hk hc z (fun h' hc' hs => ?_)
   obtain ⟨oc, hoc, hocd⟩ := id z
   refine h { s with heap := h' } ⟨I.ok, I.os, I.bare, ⟨fun b o e n hb hx => ?_, fun b o e n hb hx => ?_, I.base.free, fun b o e hx => ?_, I.base.tups, I.base.frzs, I.base.tbls⟩, ⟨m, hn.sameBut hs (Ne.symm (cne x c hc)), fun j y v' e1 e2 e3 => ?_⟩, fun y c' e => ?_, I.free, I.freeC, fun p hp => ?_, tracked ⟨oc, hoc, I.freeC x c hc⟩ hs, by simpa using I.len⟩ ⟨c, hs, .inr hc⟩
   · exact (hs.2 b (Nat.ne_of_lt (Nat.lt_of_lt_of_le (Heap.lt_size e) (I.ok.cab x c hfn hc)))).trans (I.base.keep b o e n hb hx)
   · obtain ⟨sl, e1⟩ := I.base.slot b o e n hb hx
     exact ⟨sl, (hs.2 b (Nat.ne_of_lt (Nat.lt_of_lt_of_le (Heap.lt_size e) (I.ok.cab x c hfn hc)))).trans e1⟩
   · obtain ⟨o', e1⟩ := I.base.there b o e hx
     exact ⟨o', (hs.2 b (Nat.ne_of_lt (Nat.lt_of_lt_of_le (Heap.lt_size e) (I.ok.cab x c hfn hc)))).trans e1⟩
   · by_cases hj : j = i
     · subst hj
       rw [hi] at e1; cases e1
       rw [List.getElem?_set_self hiσ] at e2
       cases e2
       exact ⟨u, r, .inr ⟨.inl hk, c, hc, hc'⟩⟩
     · rw [List.getElem?_set_ne (Ne.symm hj)] at e2
       obtain ⟨u', r', q⟩ := hl j y v' e1 e2 e3
       refine ⟨u', r', ?_⟩
       rcases q with q | ⟨k, c', e, z'⟩
       · exact .inl q
       · refine .inr ⟨k, c', e, z'.sameBut hs ?_⟩
         rintro rfl
         exact hj (nodup_ix hN e1 (I.ok.inj _ _ _ e hc ▸ hi))
   · by_cases hcc : c' = c
     · subst hcc; exact ⟨_, hc'⟩
     · obtain ⟨w2, z2⟩ := I.cell y c' e
       exact ⟨w2, z2.sameBut hs hcc⟩
   · obtain ⟨e, n, ne, nf, d⟩ := I.pin p hp
     refine ⟨(hs.2 p.1 ?_).trans e, n, ne, nf, d⟩
     intro q
     rw [q, hoc] at e
     have q' : oc = p.2 := Option.some.inj e
     exact d w' (by rw [← q']; exact hocd)
theorem store_ok {M : Model} {A : Around} {E : Value → Shared → Prop} {i : Nat} {x : Str} {v : V} {u : Value} {Q : Unit → Shared → Prop} (I : Inv X pins σ H s) (hN : X.N.Nodup) (hi : X.N[i]? = some x) (hx : Loc X.env.scope x) (r : RelV v u)
 (h : ∀ s', Inv X pins (σ.set i (some v)) H s' → Q () s') (hf : X.fn x = true ∨ X.env.scope.names.lookup x = some .local := by first | exact .inl rfl | exact .inr rfl | assumption) : wpAny M A (storeName X.env x u) Q E s :=
 store_ok2 I hN hi hx r (fun s' I' _ => h s' I') hf
theorem Inv.call' {s' : Shared} {ch : List Addr} (I : Inv X pins σ H s) (ho : s'.os = s.os) (u : Un (frs X.stack) ch H H' s.heap s'.heap) (hok : HOk X.prog X.w H' s'.heap) (hg : AllBare s'.gens)
 (hch : ∀ b ∈ ch, (b ∈ X.ex ∨ X.s₀.heap.objs.size ≤ b) ∧ b ≠ X.env.locals ∧ (∀ x c, X.env.cells.lookup x = some c → c ≠ b) ∧ ∀ p ∈ X.pn ++ pins, p.1 ≠ b) : Inv X pins σ H' s' := by
 obtain ⟨h', g', d', t', o'⟩ := s'
 have e : o' = s.os := ho
 subst e
 exact I.call (g' := g') (t' := t') (d' := d') u hok hg hch
end

noncomputable abbrev XK := Value → Option Addr → Hp → Prop
noncomputable abbrev St := List (Option V)
noncomputable abbrev VK := V → Hp → Prop
noncomputable abbrev TE := St → Hp → VK → Prop
noncomputable abbrev TT := St → Hp → (Bool → Hp → Prop) → Prop
noncomputable abbrev TA := St → Hp → (List V → Hp → Prop) → Prop
set_option genInjectivity false in
structure Ends where
 nx : St → Hp → Prop
 rt : VK
 bk : St → Hp → Prop := fun _ _ => False
 ct : St → Hp → Prop := fun _ _ => False
noncomputable abbrev TS := Ends → St → Hp → Prop

noncomputable def EP (X : Cx) (pins : List (Addr × Obj)) (σ : St) (Q : VK) (u : Value) (s' : Shared) : Prop := ∃ v H', Inv X pins σ H' s' ∧ RelV v u ∧ Q v H'
noncomputable def TP (X : Cx) (pins : List (Addr × Obj)) (σ : St) (Q : Bool → Hp → Prop) (b : Bool) (s' : Shared) : Prop := ∃ H', Inv X pins σ H' s' ∧ Q b H'
noncomputable def AP (X : Cx) (pins : List (Addr × Obj)) (σ : St) (Q : List V → Hp → Prop) (us : List Value) (s' : Shared) : Prop := ∃ vs H', Inv X pins σ H' s' ∧ Vals vs us ∧ Q vs H'
noncomputable def SP (X : Cx) (pins : List (Addr × Obj)) (D : Ends) (f : Flow) (s' : Shared) : Prop :=
 match f with
 | .next => ∃ σ' H', Inv X pins σ' H' s' ∧ D.nx σ' H'
 | .brk => ∃ σ' H', Inv X pins σ' H' s' ∧ D.bk σ' H'
 | .cont => ∃ σ' H', Inv X pins σ' H' s' ∧ D.ct σ' H'
 | .ret u => ∃ v σ' H', Inv X pins σ' H' s' ∧ RelV v u ∧ D.rt v H'

noncomputable def PE (X : Cx) (e : Expr) (t : TE) : Prop :=
 ∀ (pins : List (Addr × Obj)) (s : Shared) (σ : St) (H : Hp) (Q : VK), Inv X pins σ H s → t σ H Q → wpAny (model X.prog X.w) X.A (eval e X.env) (EP X pins σ Q) X.xe s
noncomputable def PT (X : Cx) (e : Expr) (t : TT) : Prop :=
 ∀ (pins : List (Addr × Obj)) (s : Shared) (σ : St) (H : Hp) (Q : Bool → Hp → Prop), Inv X pins σ H s → t σ H Q → wpAny (model X.prog X.w) X.A (isTrue e X.env (eval e X.env)) (TP X pins σ Q) X.xe s
noncomputable def PW (X : Cx) (e : Expr) (t : TT) : Prop :=
 ∀ (whole : Sem Value) (pins : List (Addr × Obj)) (s : Shared) (σ : St) (H : Hp) (Q : Bool → Hp → Prop), Inv X pins σ H s → t σ H Q → wpAny (model X.prog X.w) X.A (isTrue e X.env whole) (TP X pins σ Q) X.xe s
theorem PW.pt {X : Cx} {e : Expr} {t : TT} (h : PW X e t) : PT X e t := h _
noncomputable def PA (X : Cx) (es : List Expr) (t : TA) : Prop :=
 ∀ (pos : Pos) (pins : List (Addr × Obj)) (s : Shared) (σ : St) (H : Hp) (Q : List V → Hp → Prop), Inv X pins σ H s → t σ H Q → wpAny (model X.prog X.w) X.A (spliced (backTo pos (starEach es X.env))) (AP X pins σ Q) X.xe s
noncomputable def PS (X : Cx) (st : Stmt) (t : TS) : Prop :=
 ∀ (pins : List (Addr × Obj)) (s : Shared) (σ : St) (H : Hp) (D : Ends), Inv X pins σ H s → t D σ H → wpAny (model X.prog X.w) X.A (exec st X.env) (SP X pins D) X.xe s
noncomputable def PSs (X : Cx) (st : List Stmt) (t : TS) : Prop :=
 ∀ (pins : List (Addr × Obj)) (s : Shared) (σ : St) (H : Hp) (D : Ends), Inv X pins σ H s → t D σ H → wpAny (model X.prog X.w) X.A (execs st X.env) (SP X pins D) X.xe s
theorem thn {α : Type} {t : Sem α} {Q Q' : α → Shared → Prop} {M : Model} {A : Around} {E : Value → Shared → Prop} {s : Shared} (h : wpAny M A t Q E s) (hQ : ∀ a s, Q a s → Q' a s) : wpAny M A t Q' E s := wpAny_mono h hQ fun _ _ x => x
end L2

namespace L2
open PySem PySem.Spec PyProof.Rows
section
variable {X : Cx}

noncomputable def tVar (i : Nat) : TE := fun σ H Q => ∃ v, σ[i]? = some (some v) ∧ Q v H
noncomputable def tC (v : V) : TE := fun _ H Q => Q v H
theorem pe_var {i : Nat} {x : Str} {pos : Pos} (hN : X.N[i]? = some x) (hv : Vis X.env.scope x) (hd : (x == ("__debug__" : Str)) = false := by decide) (hcd : (x == ("__classdict__" : Str)) = false := by decide) : PE X (.Name x pos) (tVar i) := by
 intro pins s σ H Q I h
 obtain ⟨v, e, h⟩ := h
 obtain ⟨m, hn, hl⟩ := I.loc
 obtain ⟨u, r, l⟩ := hl i x v hN e hv
 have fin : EP X pins σ Q u s := ⟨v, H, I, r, h⟩
 rcases l with ⟨hk, hm⟩ | ⟨hk, c, hc, hcell⟩
 · exact wpAny_Name (wpAny_loadName_local I.ok.kind hk hn hm fin) hd
 · rcases hk with hk | hk
   · exact wpAny_Name (wpAny_loadName_cell I.ok.kind hk hc hcell fin) hd
   · exact wpAny_Name (wpAny_loadName_free I.ok.kind hk hc hcell fin hcd) hd
theorem pe_int {i j pos} : PE X (.Constant (.int i) j pos) (tC (.int i)) := fun _ _ _ H _ I h => wpAny_Constant_int ⟨.int i, H, I.tok _, ⟨_, rfl⟩, h⟩
theorem pe_bl {b j pos} : PE X (.Constant (.bool b) j pos) (tC (.bl b)) := fun _ _ _ H _ I h => Constant_bool ⟨.bl b, H, I, rfl, h⟩
theorem pe_non {j pos} : PE X (.Constant .none j pos) (tC .non) := fun _ _ _ H _ I h => Constant_none ⟨.non, H, I, rfl, h⟩
theorem pe_str {x j pos} : PE X (.Constant (.str x) j pos) (tC (.str x)) := fun _ _ _ H _ I h => Calls.Constant_str ⟨.str x, H, I.tok _, ⟨_, rfl⟩, h⟩

noncomputable def Gl (X : Cx) (x : Str) : Prop := X.env.kindOf x = some .globalImplicit
theorem ld_glob {E : Value → Shared → Prop} {pins : List (Addr × Obj)} {s : Shared} {σ : St} {H : Hp} {x : Str} {u : Value} {pos : Pos} {Q : Value → Shared → Prop} (I : Inv X pins σ H s) (hg : Gl X x) (hm : X.mg x = some u) (h : Q u s)
 (hd : (x == ("__debug__" : Str)) = false := by decide) : wpAny (model X.prog X.w) X.A (eval (.Name x pos) X.env) Q E s :=
 Calls.Name_function_global I.ok.kind hg (Calls.loadGlobal_global (by rw [I.ok.glob]; exact I.mod.glob.keeps I.bk) hm h) hd
theorem ld_blt {E : Value → Shared → Prop} {pins : List (Addr × Obj)} {s : Shared} {σ : St} {H : Hp} {x : Str} {u : Value} {pos : Pos} {Q : Value → Shared → Prop} (I : Inv X pins σ H s) (hg : Gl X x) (hm : X.mg x = none) (hv : bootBuiltins x = some u) (h : Q u s)
 (hn : x ≠ "__name__" := by decide) (hd : (x == ("__debug__" : Str)) = false := by decide) : wpAny (model X.prog X.w) X.A (eval (.Name x pos) X.env) Q E s := by
 obtain ⟨mb, h1, h2⟩ := I.mod.blt
 exact Calls.Name_function_global I.ok.kind hg (Calls.loadGlobal_builtin (by rw [I.ok.glob]; exact I.mod.glob.keeps I.bk) hm (by rw [I.ok.blt]; exact h1.keeps I.bk) ((h2 x hn).trans hv) h) hd
theorem pe_glob {x : Str} {v : V} {u : Value} {pos : Pos} (hg : Gl X x) (hm : X.mg x = some u) (r : RelV v u) (hd : (x == ("__debug__" : Str)) = false := by decide) : PE X (.Name x pos) (tC v) :=
 fun _ _ _ H _ I h => ld_glob I hg hm ⟨v, H, I, r, h⟩ hd
theorem pe_bltn {x : Str} {v : V} {u : Value} {pos : Pos} (hg : Gl X x) (hm : X.mg x = none) (hv : bootBuiltins x = some u) (r : RelV v u) (hn : x ≠ "__name__" := by decide) (hd : (x == ("__debug__" : Str)) = false := by decide) : PE X (.Name x pos) (tC v) :=
 fun _ _ _ H _ I h => ld_blt I hg hm hv ⟨v, H, I, r, h⟩ hn hd

variable {a b : Expr} {ta tb : TE} {pos : Pos}
noncomputable def tB (t : TE) : TT := fun σ H Q => t σ H fun x H1 => ∃ c, x = .bl c ∧ Q c H1
theorem pt_val {e : Expr} {t : TE} (h : PE X e t) (he : ∀ whole, isTrue e X.env whole = (do let v ← whole; standAt e.pos; holding [v] (truthy v)) := by intro _; rfl) : PT X e (tB t) := by
 intro pins s σ H Q I hw
 refine isTrue_plain (thn (h pins s σ H _ I hw) fun v s1 ⟨x, H1, I1, r1, q1⟩ => ?_) (he _)
 obtain ⟨d, rfl, q⟩ := q1
 cases r1
 exact wpAny_truthy_bool ⟨H1, I1, q⟩

variable {tA tB' : TT} {rest : List Expr}
noncomputable def tAnd (t u : TT) : TT := fun σ H Q => t σ H fun c H1 => if c = true then u σ H1 Q else Q false H1
noncomputable def tOr (t u : TT) : TT := fun σ H Q => t σ H fun c H1 => if c = true then Q true H1 else u σ H1 Q
noncomputable def tNot (t : TT) : TT := fun σ H Q => t σ H fun c H1 => Q (!c) H1
theorem pw_and1 (ha : PT X a tA) : PW X (.BoolOp .And [a] pos) tA := by
 intro wh pins s σ H Q I h
 refine isTrue_and (thn (ha pins s σ H Q I h) fun c s1 e => ?_)
 cases c with
 | true => exact isTrue_and_nil e
 | false => exact e
theorem pw_or1 (ha : PT X a tA) : PW X (.BoolOp .Or [a] pos) tA := by
 intro wh pins s σ H Q I h
 refine isTrue_or (thn (ha pins s σ H Q I h) fun c s1 e => ?_)
 cases c with
 | false => exact isTrue_or_nil e
 | true => exact e
theorem pw_and (ha : PT X a tA) (hb : PW X (.BoolOp .And (b :: rest) pos) tB') : PW X (.BoolOp .And (a :: b :: rest) pos) (tAnd tA tB') := by
 intro wh pins s σ H Q I h
 refine isTrue_and (thn (ha pins s σ H _ I h) fun c s1 ⟨H1, I1, q1⟩ => ?_)
 cases c with
 | true => exact hb wh pins s1 σ H1 Q I1 q1
 | false => exact ⟨H1, I1, q1⟩
theorem pw_or (ha : PT X a tA) (hb : PW X (.BoolOp .Or (b :: rest) pos) tB') : PW X (.BoolOp .Or (a :: b :: rest) pos) (tOr tA tB') := by
 intro wh pins s σ H Q I h
 refine isTrue_or (thn (ha pins s σ H _ I h) fun c s1 ⟨H1, I1, q1⟩ => ?_)
 cases c with
 | true => exact ⟨H1, I1, q1⟩
 | false => exact hb wh pins s1 σ H1 Q I1 q1
theorem pt_not (ha : PT X a tA) : PT X (.UnaryOp .Not a pos) (tNot tA) := by
 intro pins s σ H Q I h
 exact isTrue_not (ha pins s σ H (fun c H1 => Q (!c) H1) I h)
noncomputable def tAndV (ta tb : TE) : TE := fun σ H Q => ta σ H fun x H1 => ∃ c, x = .bl c ∧ if c = true then tb σ H1 Q else Q (.bl false) H1
noncomputable def tNotV (ta : TE) : TE := fun σ H Q => ta σ H fun x H1 => ∃ c, x = .bl c ∧ Q (.bl (!c)) H1
theorem pe_one {op} {t : TE} (h : PE X a t) : PE X (.BoolOp op [a] pos) t := fun pins s σ H Q I hw => BoolOp_one (h pins s σ H Q I hw)
theorem pe_and (ha : PE X a ta) (hb : PE X (.BoolOp .And (b :: rest) pos) tb) : PE X (.BoolOp .And (a :: b :: rest) pos) (tAndV ta tb) := by
 intro pins s σ H Q I h
 refine BoolOp_and (thn (ha pins s σ H _ I h) fun v s1 ⟨x, H1, I1, r1, q1⟩ => ?_)
 obtain ⟨c, rfl, q1⟩ := q1
 cases r1
 refine wpAny_truthy_bool ?_
 cases c with
 | true => exact hb pins s1 σ H1 Q I1 q1
 | false => exact ⟨.bl false, H1, I1, rfl, q1⟩
theorem pe_not (ha : PE X a ta) : PE X (.UnaryOp .Not a pos) (tNotV ta) := by
 intro pins s σ H Q I h
 refine UnaryOp_ (thn (ha pins s σ H _ I h) fun v s1 ⟨x, H1, I1, r1, q1⟩ => ?_)
 obtain ⟨c, rfl, q1⟩ := q1
 cases r1
 exact not_of (wpAny_truthy_bool ⟨.bl (!c), H1, I1, rfl, q1⟩)
noncomputable def tIf (t : TT) (ta tb : TE) : TE := fun σ H Q => t σ H fun c H1 => if c = true then ta σ H1 Q else tb σ H1 Q
theorem pe_ifExp {c : Expr} (hc : PT X c tA) (ha : PE X a ta) (hb : PE X b tb) : PE X (.IfExp c a b pos) (tIf tA ta tb) := by
 intro pins s σ H Q I h
 refine wpAny_IfExp (thn (hc pins s σ H _ I h) fun d s1 ⟨H1, I1, q1⟩ => ?_)
 cases d with
 | true => exact ha pins s1 σ H1 Q I1 q1
 | false => exact hb pins s1 σ H1 Q I1 q1
end
end L2

namespace L2
open PySem PySem.Spec PyProof.Rows

noncomputable def SqL (K : PySem.W.Frag) (H : Hp) (a : Addr) (xs : List V) : Prop :=
 Rd H a (.lst xs) ∨
  ∃ (o : Obj) (its : Array Value) (n : Nat), K.lookup a = some o ∧ o.cls = .type "list" ∧ o.dict = none ∧ o.data = .seq its n ∧ its.size ≤ sizeLine ∧ Vals xs its.toList
noncomputable def SqT (K : PySem.W.Frag) (H : Hp) (a : Addr) (xs : List V) : Prop :=
 Rd H a (.tup xs) ∨
  ∃ (o : Obj) (its : Array Value) (n : Nat), K.lookup a = some o ∧ o.cls = .type "tuple" ∧ o.data = .seq its n ∧ its.size ≤ sizeLine ∧ Vals xs its.toList
noncomputable def absV : Value → Option V
 | .none => some .non
 | .bool b => some (.bl b)
 | .int i _ => some (.int i)
 | .str x _ => some (.str x)
 | .bytes b _ => some (.byt b)
 | .float b _ => some (.flt b)
 | .ref a => some (.ref a)
 | .type n => some (.ty n)
 | _ => none
theorem RelV.abs {x : V} {u : Value} (r : RelV x u) : absV u = some x := by
 cases x with
 | non => cases r; rfl
 | bl _ => cases r; rfl
 | int _ => obtain ⟨t, rfl⟩ := r; rfl
 | str _ => obtain ⟨t, rfl⟩ := r; rfl
 | byt _ => obtain ⟨t, rfl⟩ := r; rfl
 | flt _ => obtain ⟨t, rfl⟩ := r; rfl
 | ref _ => cases r; rfl
 | ty _ => cases r; rfl
theorem RelV.inj {x y : V} {u : Value} (r : RelV x u) (q : RelV y u) : x = y := Option.some.inj (r.abs.symm.trans q.abs)
theorem Vals.inj : ∀ {xs ys : List V} {us : List Value}, Vals xs us → Vals ys us → xs = ys
 | _, _, _, .nil, .nil => rfl
 | _, _, _, .cons r t, .cons r' t' => by rw [r.inj r', Vals.inj t t']
section
variable {X : Cx} {pins : List (Addr × Obj)} {σ : St} {H : Hp} {s : Shared} {a : Addr} {xs ys : List V}
theorem SqL.of {K : PySem.W.Frag} (h : H a = some (.lst xs)) : SqL K H a xs := .inl (.inl h)
theorem SqT.of {K : PySem.W.Frag} (h : H a = some (.tup xs)) : SqT K H a xs := .inl (.inl h)
theorem Inv.list (I : Inv X pins σ H s) (h : SqL X.K H a xs) : ∃ its : List Value, Vals xs its ∧ PlainL s.heap a its.toArray ∧ xs.length ≤ sizeLine := by
 rcases h with h | ⟨o, its, n, hk, hc, hd, hs, hz, r⟩
 · obtain ⟨z, its, n, r, e⟩ := h.ok I.hok
   exact ⟨its, r, ⟨_, n, e, rfl, rfl, rfl⟩, z⟩
 · refine ⟨its.toList, r, ⟨o, n, I.kIn a o hk, hc, hd, by simpa using hs⟩, ?_⟩
   have e := r.length
   simp only [Array.length_toList] at e
   omega
theorem Inv.tuple (I : Inv X pins σ H s) (h : SqT X.K H a xs) : ∃ its : List Value, Vals xs its ∧ IsTup s.heap a its.toArray ∧ xs.length ≤ sizeLine := by
 rcases h with h | ⟨o, its, n, hk, hc, hs, hz, r⟩
 · obtain ⟨z, its, r, p⟩ := h.ok I.hok
   exact ⟨its, r, p.tup, z⟩
 · refine ⟨its.toList, r, ⟨o, I.kIn a o hk, hc, n, by simpa using hs⟩, ?_⟩
   have e := r.length
   simp only [Array.length_toList] at e
   omega
theorem Inv.list_inj (I : Inv X pins σ H s) (h : SqL X.K H a xs) (h' : SqL X.K H a ys) : xs = ys := by
 obtain ⟨its, r, ⟨o, n, e, _, _, d⟩, _⟩ := I.list h
 obtain ⟨its', r', ⟨o', n', e', _, _, d'⟩, _⟩ := I.list h'
 rw [e] at e'; cases e'
 rw [d] at d'
 injection d' with d1 _
 have : its = its' := by simpa using congrArg Array.toList d1
 subst this
 exact r.inj r'
theorem Inv.tuple_inj (I : Inv X pins σ H s) (h : SqT X.K H a xs) (h' : SqT X.K H a ys) : xs = ys := by
 obtain ⟨its, r, ⟨o, e, _, n, d⟩, _⟩ := I.tuple h
 obtain ⟨its', r', ⟨o', e', _, n', d'⟩, _⟩ := I.tuple h'
 rw [e] at e'; cases e'
 rw [d] at d'
 injection d' with d1 _
 have : its = its' := by simpa using congrArg Array.toList d1
 subst this
 exact r.inj r'
end

noncomputable abbrev Cx.wish (X : Cx) (E : Value → Shared → Prop) : Cx := { X with xe := E }
noncomputable abbrev Cx.nox (X : Cx) : Cx := X.wish fun _ _ => False
theorem Cx.Ok.wish {X : Cx} (ok : X.Ok) (E : Value → Shared → Prop) : (X.wish E).Ok :=
 ⟨ok.mod, ok.kind, ok.glob, ok.blt, ok.above, ok.inj, ok.has, ok.cab, ok.hd, ok.frames, ok.stk, ok.exf, ok.bs, ok.bsz, ok.noex, ok.exfs, ok.funs, ok.frf⟩
theorem Cx.Ok.unwish {X : Cx} {E : Value → Shared → Prop} (ok : (X.wish E).Ok) : X.Ok :=
 ⟨ok.mod, ok.kind, ok.glob, ok.blt, ok.above, ok.inj, ok.has, ok.cab, ok.hd, ok.frames, ok.stk, ok.exf, ok.bs, ok.bsz, ok.noex, ok.exfs, ok.funs, ok.frf⟩
section
variable {X : Cx} {pins : List (Addr × Obj)} {σ : St} {H : Hp} {s : Shared} {E : Value → Shared → Prop}
theorem Inv.wish (I : Inv X pins σ H s) (E : Value → Shared → Prop) : Inv (X.wish E) pins σ H s := ⟨I.ok.wish E, I.os, I.bare, I.base, I.loc, I.cell, I.free, I.freeC, I.pin, I.hok, I.len⟩
theorem Inv.unwish (I : Inv (X.wish E) pins σ H s) : Inv X pins σ H s := ⟨I.ok.unwish, I.os, I.bare, I.base, I.loc, I.cell, I.free, I.freeC, I.pin, I.hok, I.len⟩
theorem SP.unwish {D : Ends} {f : Flow} {s' : Shared} (h : SP (X.wish E) pins D f s') : SP X pins D f s' := by
 cases f with
 | next => obtain ⟨σ', H', I, q⟩ := h; exact ⟨σ', H', I.unwish, q⟩
 | brk => obtain ⟨σ', H', I, q⟩ := h; exact ⟨σ', H', I.unwish, q⟩
 | cont => obtain ⟨σ', H', I, q⟩ := h; exact ⟨σ', H', I.unwish, q⟩
 | ret u => obtain ⟨v, σ', H', I, r, q⟩ := h; exact ⟨v, σ', H', I.unwish, r, q⟩
theorem PSs.nox {st : List Stmt} {t : TS} (h : PSs X.nox st t) : PSs X st t := fun pins s σ H D I hw =>
 wpAny_mono (h pins s σ H D (I.wish _) hw) (fun _ _ q => q.unwish) fun _ _ z => False.elim z
end

section
variable {X : Cx} {st : Stmt} {rest : List Stmt} {t u : TS} {e : Expr} {te : TE} {pos : Pos}
noncomputable def tNext : TS := fun D σ H => D.nx σ H
noncomputable def tSeq (t u : TS) : TS := fun D σ H => t { D with nx := u D } σ H
theorem pss_nil : PSs X [] tNext := fun _ _ σ H _ I h => wpAny_execs_nil ⟨σ, H, I, h⟩
theorem pss_cons (h1 : PS X st t) (h2 : PSs X rest u) : PSs X (st :: rest) (tSeq t u) := by
 intro pins s σ H D I h
 refine wpAny_execs_cons (thn (h1 pins s σ H { D with nx := u D } I h) fun f s1 q => ?_)
 cases f with
 | next =>
   obtain ⟨σ', H', I', q⟩ := q
   exact h2 pins s1 σ' H' D I' q
 | ret v => exact q
 | brk => exact q
 | cont => exact q
theorem pss_one (h1 : PS X st t) : PSs X [st] t := by
 intro pins s σ H D I h
 refine wpAny_execs_cons (thn (h1 pins s σ H D I h) fun f s1 q => ?_)
 cases f with
 | next => exact wpAny_execs_nil q
 | ret v => exact q
 | brk => exact q
 | cont => exact q
theorem Inv.quiet {pins : List (Addr × Obj)} {σ : St} {H : Hp} {s : Shared} (I : Inv X pins σ H s) : interactive X.env = false := by simp [interactive, I.ok.kind]
noncomputable def tDrop (te : TE) : TS := fun D σ H => te σ H fun _ H1 => D.nx σ H1
theorem ps_expr (he : PE X e te) (hs : swapsWith e none pos.line X.env = pure false := by rfl) : PS X (.Expr e pos) (tDrop te) := by
 intro pins s σ H D I h
 exact wpAny_Expr_any (thn (he pins s σ H _ I h) fun v s1 ⟨x, H1, I1, r1, q1⟩ => ⟨σ, H1, I1, q1⟩) I.quiet hs
noncomputable def tRet (te : TE) : TS := fun D σ H => te σ H D.rt
theorem ps_ret (he : PE X e te) : PS X (.Return (some e) pos) (tRet te) := by
 intro pins s σ H D I h
 exact wpAny_Return_some (thn (he pins s σ H _ I h) fun v s1 ⟨x, H1, I1, r1, q1⟩ => ⟨x, σ, H1, I1, r1, q1⟩)
noncomputable def tIfS (c : TT) (t u : TS) : TS := fun D σ H => c σ H fun b H1 => if b = true then t D σ H1 else u D σ H1
theorem ps_if {c : Expr} {a b : List Stmt} {tc : TT} (hc : PT X c tc) (ha : PSs X a t) (hb : PSs X b u) : PS X (.If c a b pos) (tIfS tc t u) := by
 intro pins s σ H D I h
 refine wpAny_If (thn (hc pins s σ H _ I h) fun d s1 ⟨H1, I1, q1⟩ => ?_)
 cases d with
 | true => exact ha pins s1 σ H1 D I1 q1
 | false => exact hb pins s1 σ H1 D I1 q1
end

noncomputable abbrev TG := V → St → Hp → (St → Hp → Prop) → Prop
noncomputable abbrev TGs := List V → St → Hp → (St → Hp → Prop) → Prop
noncomputable def PG (X : Cx) (target : Expr) (t : TG) : Prop :=
 ∀ (pins : List (Addr × Obj)) (s : Shared) (σ : St) (H : Hp) (v : V) (u : Value) (Q : St → Hp → Prop), Inv X pins σ H s → RelV v u → t v σ H Q →
   wpAny (model X.prog X.w) X.A (assign target X.env u) (fun _ s' => ∃ σ' H', Inv X pins σ' H' s' ∧ Q σ' H') X.xe s
noncomputable def PGs (X : Cx) (ts : List Expr) (t : TGs) : Prop :=
 ∀ (pins : List (Addr × Obj)) (s : Shared) (σ : St) (H : Hp) (vs : List V) (us : List Value) (Q : St → Hp → Prop), Inv X pins σ H s → Vals vs us → t vs σ H Q →
   wpAny (model X.prog X.w) X.A (assignInOrder ((assignEach ts X.env).map (·.2)) us) (fun _ s' => ∃ σ' H', Inv X pins σ' H' s' ∧ Q σ' H') X.xe s
noncomputable abbrev TSet := V → V → V → Hp → (Hp → Prop) → Prop
noncomputable def PSet (X : Cx) (t : TSet) : Prop :=
 ∀ (pins : List (Addr × Obj)) (s : Shared) (σ : St) (H : Hp) (o i v : V) (ov iv u : Value) (Q : Hp → Prop), Inv X pins σ H s → RelV o ov → RelV i iv → RelV v u → t o i v H Q →
   wpAny (model X.prog X.w) X.A (setItem ov iv u) (fun _ s' => ∃ H', Inv X pins σ H' s' ∧ Q H') X.xe s
section
variable {X : Cx} {pos : Pos}
noncomputable def gName (i : Nat) : TG := fun v σ H Q => Q (σ.set i (some v)) H
theorem pg_name {i : Nat} {x : Str} (hN : X.N.Nodup) (hi : X.N[i]? = some x) (hx : Loc X.env.scope x) (hf : X.fn x = true ∨ X.env.scope.names.lookup x = some .local := by first | exact .inl rfl | exact .inr rfl | assumption) : PG X (.Name x pos) (gName i) := by
 intro pins s σ H v u Q I r h
 exact wpAny_assign_Name (store_ok I hN hi hx r (fun s' I' => ⟨_, H, I', h⟩) hf)
noncomputable def gNil : TGs := fun vs σ H Q => vs = [] ∧ Q σ H
noncomputable def gCons (t : TG) (u : TGs) : TGs := fun vs σ H Q => ∃ v r, vs = v :: r ∧ t v σ H fun σ' H' => u r σ' H' Q
theorem pgs_nil : PGs X [] gNil := by
 intro pins s σ H vs us Q I r h
 obtain ⟨e, h⟩ := h
 subst e
 cases r
 exact assignInOrder_nil ⟨σ, H, I, h⟩
theorem pgs_cons {e : Expr} {es : List Expr} {t : TG} {u : TGs} (h1 : PG X e t) (h2 : PGs X es u)
 (hs : (assignEach (e :: es) X.env).map (·.2) = assign e X.env :: (assignEach es X.env).map (·.2) := by rfl) : PGs X (e :: es) (gCons t u) := by
 intro pins s σ H vs us Q I r h
 obtain ⟨v, vr, e1, h⟩ := h
 subst e1
 cases r with
 | cons r rr =>
   rw [hs]
   refine assignInOrder_cons (thn (h1 pins s σ H _ _ _ I r h) fun _ s1 ⟨σ1, H1, I1, q1⟩ => ?_)
   exact h2 pins s1 σ1 H1 _ _ Q I1 rr q1
noncomputable def gTup (K : PySem.W.Frag) (n : Nat) (t : TGs) : TG := fun v σ H Q => ∃ a xs, v = .ref a ∧ SqT K H a xs ∧ xs.length = n ∧ t xs σ H Q
theorem pg_tup {es : List Expr} {k : Nat} {t : TGs} {n : Nat} (hc : X.calm = true) (h : PGs X es t)
 (hn : (assignEach es X.env).length = n := by rfl) (hst : (assignEach es X.env).findIdx? (·.1) = none := by rfl) : PG X (.Tuple es k pos) (gTup X.K n t) := by
 intro pins s σ H v u Q I r hw
 obtain ⟨a, xs, e1, hq, hl, hw⟩ := hw
 subst e1
 cases r
 obtain ⟨its, rv, ht, hz⟩ := I.tuple hq
 refine assign_Tuple_tuple (I.ok.hd hc) ht (by simp [hn, ← hl, rv.length]) hst fun h' hx => ?_
 have I1 : Inv X pins σ H { s with heap := h' } := I.kept (t' := s.toks) fun b o e => hx b o (Nat.ne_of_lt (Heap.lt_size e)) e
 exact h pins _ σ H xs _ Q I1 (by simpa using rv) hw
noncomputable def gSub (to ti : TE) (t : TSet) : TG := fun v σ H Q => to σ H fun o H1 => ti σ H1 fun i H2 => t o i v H2 fun H3 => Q σ H3
theorem pg_sub {o i : Expr} {to ti : TE} {t : TSet} (ho : PE X o to) (hi : PE X i ti) (hs : PSet X t)
 (ha : ∀ v, assign (.Subscript o i pos) X.env v = (do
  let ov ← holding [v] (eval o X.env)
  let iv ← holding [v, ov] (eval i X.env)
  standAt pos
  holding [v, ov, iv] (setItem ov iv v)
  release [v, ov, iv] []) := by intro _; rfl) : PG X (.Subscript o i pos) (gSub to ti t) := by
 intro pins s σ H v u Q I r h
 rw [ha]
 refine wpAny_bind (wpAny_holding (thn (ho pins s σ H _ I h) fun ov s1 ⟨x, H1, I1, r1, q1⟩ => ?_))
 refine wpAny_bind (wpAny_holding (thn (hi pins s1 σ H1 _ I1 q1) fun iv s2 ⟨y, H2, I2, r2, q2⟩ => ?_))
 refine wpAny_bind (wpAny_standAt (wpAny_bind (wpAny_holding (thn (hs pins s2 σ H2 x y v ov iv u _ I2 r1 r2 r q2) fun _ s3 ⟨H3, I3, q3⟩ => ?_))))
 exact wpAny_release ⟨σ, H3, I3, q3⟩
noncomputable def tAsg (te : TE) (g : TG) : TS := fun D σ H => te σ H fun x H1 => g x σ H1 D.nx
theorem ps_asg {tg e : Expr} {te : TE} {g : TG} (he : PE X e te) (hg : PG X tg g) (hs : swapsWithSole [tg] e pos.line X.env = pure false := by rfl) (hw : swappedStores [tg] e X.env = pure none := by rfl)
 (h1 : (assignEach [tg] X.env).map (·.2) = [assign tg X.env] := by rfl) : PS X (.Assign [tg] e pos) (tAsg te g) := by
 intro pins s σ H D I h
 refine wpAny_Assign_stores (thn (he pins s σ H _ I h) fun v s1 ⟨x, H1, I1, r1, q1⟩ => ?_) hs hw
 rw [h1]
 exact thn (hg pins s1 σ H1 x v _ I1 r1 q1) fun _ s2 q => q
theorem ps_set {i : Nat} {x : Str} {e : Expr} {te : TE} {pos' : Pos} (hN : X.N.Nodup) (hi : X.N[i]? = some x) (hx : Loc X.env.scope x) (he : PE X e te) (hs : swapsWith e (some (.Name x pos')) pos.line X.env = pure false := by rfl) (hf : X.fn x = true ∨ X.env.scope.names.lookup x = some .local := by first | exact .inl rfl | exact .inr rfl | assumption) :
 PS X (.Assign [.Name x pos'] e pos) (tAsg te (gName i)) := by
 intro pins s σ H D I h
 refine wpAny_Assign_Name (thn (he pins s σ H _ I h) fun v s1 ⟨y, H1, I1, r1, q1⟩ => ?_) hs
 exact store_ok I1 hN hi hx r1 (fun s2 I2 => ⟨_, H1, I2, q1⟩) hf
noncomputable def tPar (i j : Nat) (ta : TA) : TS := fun D σ H => ta σ H fun vs H1 => ∃ v w, vs = [v, w] ∧ D.nx ((σ.set i (some v)).set j (some w)) H1
theorem ps_par {i j : Nat} {x y : Str} {a b : Expr} {ta : TA} {px py pt : Pos} {kt k2 pt2} (hc : X.calm = true) (hN : X.N.Nodup) (hi : X.N[i]? = some x) (hj : X.N[j]? = some y) (hij : i ≠ j)
 (hx : X.env.scope.names.lookup x = some .local) (hy : X.env.scope.names.lookup y = some .local) (ha : PA X [a, b] ta)
 (hw : swappedStores [.Tuple [.Name x px, .Name y py] kt pt] (.Tuple [a, b] k2 pt2) X.env = pure (some [x, y]))
 (hs : swapsWithSole [.Tuple [.Name x px, .Name y py] kt pt] (.Tuple [a, b] k2 pt2) pos.line X.env = pure false := by rfl) :
 PS X (.Assign [.Tuple [.Name x px, .Name y py] kt pt] (.Tuple [a, b] k2 pt2) pos) (tPar i j ta) := by
 intro pins s σ H D I h
 rw [exec_Assign_arm]
 refine wpAny_bind (wpAny_standAt ?_)
 rw [hs]
 refine wpAny_bind (wpAny_pure ?_)
 rw [if_neg (by decide)]
 refine wpAny_bind (Tuple_ (thn (ha _ pins s σ H _ I h) fun us s1 ⟨vs, H1, I1, r1, q1⟩ => ?_))
 obtain ⟨v, w, e1, q1⟩ := q1
 subst e1
 obtain ⟨u1, u2, rfl, rv, rw'⟩ : ∃ u1 u2, us = [u1, u2] ∧ RelV v u1 ∧ RelV w u2 := by
  cases r1 with
  | cons p q =>
    cases q with
    | cons p' q' =>
      cases q'
      exact ⟨_, _, rfl, p, p'⟩
 refine wpAny_newObj_type ?_ (by show 2 ≤ sizeLine; decide)
 have I2 : Inv X pins σ H1 { s1 with heap := s1.heap.push { cls := .type "tuple", data := .seq [u1, u2].toArray } } := I1.kept (t' := s1.toks) fun b o e => Heap.get?_push_of_some _ e
 rw [hw]
 refine wpAny_bind (wpAny_pure ?_)
 show wpAny (model X.prog X.w) X.A (do rule "assign.swapped-stores"; let items ← unpackItems (.ref s1.heap.objs.size) 2 none; assignInOrder [fun v => bindName X.env y v, fun v => bindName X.env x v] items.reverse; pure Flow.next) _ _ _
 refine wpAny_bind (wpAny_rule (wpAny_bind (unpackItems_tuple (items := #[u1, u2]) (I.ok.hd hc) (IsTup.new s1.heap _) fun h' hx' => ?_)))
 have I3 := I2.kept (h' := h') (t' := s1.toks) fun b o e => hx' b o (Nat.ne_of_lt (Heap.lt_size e)) e
 show wpAny _ _ (assignInOrder [fun v => bindName X.env y v, fun v => bindName X.env x v] [u2, u1] >>= fun _ => pure Flow.next) _ _ _
 refine wpAny_bind (assignInOrder_cons (wpAny_bindName (store_ok I3 hN hj (.inl hy) rw' (fun s2 I4 => ?_) (.inr hy))))
 refine assignInOrder_cons (wpAny_bindName (store_ok I4 hN hi (.inl hx) rv (fun s3 I5 => assignInOrder_nil (wpAny_pure ?_)) (.inr hx)))
 rw [List.set_comm _ _ (Ne.symm hij)] at I5
 exact ⟨_, H1, I5, q1⟩
end

section
variable {X : Cx} {pos : Pos}
noncomputable def tWhile (c : TT) (tb : TS) : TS := fun D σ H => ∃ W : Nat → St → Hp → Prop, (∃ m, W m σ H) ∧ ∀ m σ H, W m σ H →
 c σ H fun b H1 => if b = true then ∃ N : St → Hp → Prop, (∀ σ' H', N σ' H' → ∃ m', m' < m ∧ W m' σ' H') ∧ tb { D with nx := N, ct := N, bk := D.nx } σ H1 else D.nx σ H1
theorem ps_while {c : Expr} {body : List Stmt} {tc : TT} {tb : TS} (hp : PassesOwn (model X.prog X.w) X.A X.env X.xe) (hc : PT X c tc) (hb : PSs X body tb) : PS X (.While c body [] pos) (tWhile tc tb) := by
 intro pins s σ H D I h
 obtain ⟨W, ⟨m0, w0⟩, turn⟩ := h
 refine wpAny_While (codeAny_whileLoop (fun n s' => ∃ σ' H', Inv X pins σ' H' s' ∧ W n σ' H') ?_ m0 ⟨σ, H, I, w0⟩)
 rintro n s1 ⟨σ1, H1, I1, w1⟩
 refine wpAny_passesOwn hp (thn (hc pins s1 σ1 H1 _ I1 (turn n σ1 H1 w1)) fun b s2 ⟨H2, I2, q2⟩ => ?_)
 cases b with
 | true =>
   obtain ⟨N, hN, q2⟩ := q2
   rw [if_pos rfl]
   refine wpAny_passesOwn hp (thn (hb pins s2 σ1 H2 _ I2 q2) fun f s3 q3 => ?_)
   cases f with
   | next =>
     obtain ⟨σ3, H3, I3, n3⟩ := q3
     obtain ⟨m', hm, w3⟩ := hN σ3 H3 n3
     exact ⟨m', hm, σ3, H3, I3, w3⟩
   | cont =>
     obtain ⟨σ3, H3, I3, n3⟩ := q3
     obtain ⟨m', hm, w3⟩ := hN σ3 H3 n3
     exact ⟨m', hm, σ3, H3, I3, w3⟩
   | brk => exact q3
   | ret v => exact q3
 | false =>
   rw [if_neg Bool.false_ne_true]
   exact wpAny_execs_nil ⟨σ1, H2, I2, q2⟩
end

set_option genInjectivity false in
structure It where
 go : Nat → Hp → Prop
 yld : Nat → Hp → V → Hp → Prop
 stop : Nat → Hp → Prop
noncomputable def FpOk (X : Cx) (pins : List (Addr × Obj)) (H : Hp) (b : Addr) : Prop :=
 H b = none ∧ b ≠ X.env.locals ∧ b ∉ X.fs ∧ (b ∈ X.ex ∨ X.s₀.heap.objs.size ≤ b) ∧ (∀ x c, X.env.cells.lookup x = some c → c ≠ b) ∧ ∀ p ∈ X.pn ++ pins, p.1 ≠ b
theorem Inv.fpOk {X : Cx} {pins : List (Addr × Obj)} {σ : St} {H H' : Hp} {s : Shared} {b : Addr} (I : Inv X pins σ H s) (hb : s.heap.objs.size ≤ b) (hn : H' b = none) : FpOk X pins H' b := by
 refine ⟨hn, Nat.ne_of_gt (Nat.lt_of_lt_of_le I.lt hb), I.nofs hb, .inr (Nat.le_trans I.sz hb), fun x c e z => ?_, fun p hp z => ?_⟩
 · obtain ⟨v, q⟩ := I.cell x c e
   exact absurd (Nat.lt_of_lt_of_le q.lt (by rw [z]; exact hb)) (Nat.lt_irrefl _)
 · exact absurd (Nat.lt_of_lt_of_le (Heap.lt_size (I.pin p hp).1) (by rw [z]; exact hb)) (Nat.lt_irrefl _)
structure Turn (P : Program) (w : World) (K : PySem.W.Frag) (tg : Expr) (J : It) (fp : List Addr) (it : Addr) (tn : Nat → Heap → Prop) : Prop where
 mem : it ∈ fp
 obj : ∀ i h, tn i h → ∀ b ∈ fp, ∃ o, h.get? b = some o ∧ ∀ v, o.data ≠ .cell v
 keep : ∀ i h h', tn i h → (∀ b ∈ fp, ∀ o, h.get? b = some o → h'.get? b = some o) → tn i h'
 item : ∀ (X : Cx), X.prog = P → X.w = w → X.K = K → X.calm = true → ∀ (i : Nat) (pins : List (Addr × Obj)) (s : Shared) (σ : St) (H : Hp) (E : Value → Shared → Prop), Inv X pins σ H s → (∀ b ∈ fp, FpOk X pins H b) → tn i s.heap → J.go i H →
  wpAny (model P w) X.A (pyNext (.ref it)) (fun r s1 => ∃ u, r = some u ∧
   wpAny (model P w) X.A (letOwnedTupleGo tg (.ref it) u) (fun _ s2 => ∃ x H', Inv X pins σ H' s2 ∧ RelV x u ∧ J.yld i H x H' ∧ tn (i + 1) s2.heap ∧ ∀ b ∈ fp, H' b = none) E s1) E s
 done : ∀ (X : Cx), X.prog = P → X.w = w → X.K = K → X.calm = true → ∀ (i : Nat) (pins : List (Addr × Obj)) (s : Shared) (σ : St) (H : Hp) (E : Value → Shared → Prop), Inv X pins σ H s → (∀ b ∈ fp, FpOk X pins H b) → tn i s.heap → J.stop i H →
  wpAny (model P w) X.A (pyNext (.ref it)) (fun r s1 => r = none ∧ Inv X pins σ H s1) E s
 self : ∀ (A : Around) (i : Nat) (s : Shared) (Q : Value → Shared → Prop) (E : Value → Shared → Prop), tn i s.heap → Q (.ref it) s → wpAny (model P w) A (pyIter (.ref it)) Q E s
noncomputable abbrev TI := St → Hp → (It → Hp → Prop) → Prop
noncomputable def PIE (X : Cx) (pins : List (Addr × Obj)) (σ : St) (tg : Expr) (R : It → Hp → Prop) (itv : Value) (s2 : Shared) : Prop :=
 ∃ (it : Addr) (fp : List Addr) (tn : Nat → Heap → Prop) (J : It) (H' : Hp), itv = .ref it ∧ Inv X pins σ H' s2 ∧ Turn X.prog X.w X.K tg J fp it tn ∧ tn 0 s2.heap ∧ (∀ b ∈ fp, FpOk X pins H' b) ∧ R J H'
noncomputable def PI (X : Cx) (tg iter : Expr) (wi : TI) : Prop :=
 ∀ (pins : List (Addr × Obj)) (s : Shared) (σ : St) (H : Hp) (R : It → Hp → Prop), Inv X pins σ H s → wi σ H R →
   wpAny (model X.prog X.w) X.A (eval iter X.env) (fun v s1 => wpAny (model X.prog X.w) X.A (pyIter v) (PIE X pins σ tg R) X.xe s1) X.xe s

theorem go_of {M : Model} {A : Around} {E : Value → Shared → Prop} {s : Shared} {tg : Expr} {it : Addr} {u : Value} {o : Obj} {n : String} {vs : Array Value} {Q : Unit → Shared → Prop} (ho : s.heap.get? it = some o) (hc : o.cls = .type n) (hd : o.data = .fields vs)
 (hn : ["enumerate", "zip", "dict_itemiterator", "dict_reverseitemiterator", "odict_iterator", "itertools.zip_longest", "itertools.pairwise"].contains n = false) (hQ : Q () s) : wpAny M A (letOwnedTupleGo tg (.ref it) u) Q E s := by
 unfold letOwnedTupleGo
 cases tg <;> first
  | exact wpAny_pure hQ
  | (cases u <;> first
   | exact wpAny_pure hQ
   | (refine wpAny_bind (wpAny_load ho ?_)
      rw [hc, hd]
      show wpAny M A (if (["enumerate", "zip", "dict_itemiterator", "dict_reverseitemiterator", "odict_iterator", "itertools.zip_longest", "itertools.pairwise"].contains n && vs[0]? == some (rawInt _)) = true then _ else _) Q E s
      rw [if_neg (by intro h; rw [hn, Bool.false_and] at h; cases h)]
      exact wpAny_pure hQ))

noncomputable def Itl (K : PySem.W.Frag) (a : Addr) : It :=
 ⟨fun i H => ∃ xs x, SqL K H a xs ∧ xs[i]? = some x, fun i H x H' => H' = H ∧ ∀ xs, SqL K H a xs → xs[i]? = some x, fun i H => ∃ xs, SqL K H a xs ∧ xs.length ≤ i⟩
noncomputable def Itt (K : PySem.W.Frag) (a : Addr) : It :=
 ⟨fun i H => ∃ xs x, SqT K H a xs ∧ xs[i]? = some x, fun i H x H' => H' = H ∧ ∀ xs, SqT K H a xs → xs[i]? = some x, fun i H => ∃ xs, SqT K H a xs ∧ xs.length ≤ i⟩
noncomputable def Itr (lo : Int) (n : Nat) : It := ⟨fun i _ => i < n, fun i H x H' => H' = H ∧ x = .int (lo + i), fun i _ => n ≤ i⟩
theorem turn_list {P : Program} {w : World} {K : PySem.W.Frag} {tg : Expr} (a it : Addr) : Turn P w K tg (Itl K a) [it] it (fun i h => h.IsListIter it a i) where
 mem := by simp
 obj := fun i h st b hb => by
  have e : b = it := by simpa using hb
  subst e
  obtain ⟨o, e, c, d⟩ := st
  exact ⟨o, e, fun v z => by rw [d] at z; cases z⟩
 keep := fun i h h' st k => st.at fun o e => k it (by simp) o e
 item := by
  intro X hP hw hK hc i pins s σ H E I hf st hg
  subst hP hw hK
  obtain ⟨xs, x, hq, hx⟩ := hg
  obtain ⟨its, rv, p, hz⟩ := I.list hq
  obtain ⟨u, hu, ru⟩ := rv.get hx
  obtain ⟨f0, f1, f2, f3, f4, f5⟩ := hf it (by simp)
  refine wpAny_pyNext_list_item st p.isList (x := u) (by simpa using hu) fun h' st' sb => ?_
  have I1 : Inv X pins σ H { s with heap := h' } := I.turned (t' := s.toks) (fun b o hb e => (sb.2 b hb).trans e) f0 f1 f3 f4 f5
  obtain ⟨o, e, c, d⟩ := id st'
  exact ⟨u, rfl, go_of (s := { s with heap := h' }) e c d (by decide) ⟨x, H, I1, ru, ⟨rfl, fun ys hy => by rw [I.list_inj hy hq]; exact hx⟩, st', fun b hb => (hf b hb).1⟩⟩
 done := by
  intro X hP hw hK hc i pins s σ H E I hf st hg
  subst hP hw hK
  obtain ⟨xs, hq, hx⟩ := hg
  obtain ⟨its, rv, p, hz⟩ := I.list hq
  obtain ⟨f0, f1, f2, f3, f4, f5⟩ := hf it (by simp)
  have hl := rv.length
  exact wpAny_pyNext_list_end (I.ok.hd hc) st p.isList (by simp; omega) fun h' eb => ⟨rfl, I.turned (t' := s.toks) (fun b o hb e => eb b o hb e) f0 f1 f3 f4 f5⟩
 self := fun _ _ _ _ _ st h => wpAny_pyIter_listiter st h
theorem turn_tuple {P : Program} {w : World} {K : PySem.W.Frag} {tg : Expr} (a it : Addr) : Turn P w K tg (Itt K a) [it] it (fun i h => h.IsTupleIter it a i) where
 mem := by simp
 obj := fun i h st b hb => by
  have e : b = it := by simpa using hb
  subst e
  obtain ⟨o, e, c, d⟩ := st
  exact ⟨o, e, fun v z => by rw [d] at z; cases z⟩
 keep := fun i h h' st k => st.at fun o e => k it (by simp) o e
 item := by
  intro X hP hw hK hc i pins s σ H E I hf st hg
  subst hP hw hK
  obtain ⟨xs, x, hq, hx⟩ := hg
  obtain ⟨its, rv, p, hz⟩ := I.tuple hq
  obtain ⟨u, hu, ru⟩ := rv.get hx
  obtain ⟨f0, f1, f2, f3, f4, f5⟩ := hf it (by simp)
  refine wpAny_pyNext_tuple_item st (show s.heap.IsTuple a its.toArray from p) (x := u) (by simpa using hu) fun h' st' sb => ?_
  have I1 : Inv X pins σ H { s with heap := h' } := I.turned (t' := s.toks) (fun b o hb e => (sb.2 b hb).trans e) f0 f1 f3 f4 f5
  obtain ⟨o, e, c, d⟩ := id st'
  exact ⟨u, rfl, go_of (s := { s with heap := h' }) e c d (by decide) ⟨x, H, I1, ru, ⟨rfl, fun ys hy => by rw [I.tuple_inj hy hq]; exact hx⟩, st', fun b hb => (hf b hb).1⟩⟩
 done := by
  intro X hP hw hK hc i pins s σ H E I hf st hg
  subst hP hw hK
  obtain ⟨xs, hq, hx⟩ := hg
  obtain ⟨its, rv, p, hz⟩ := I.tuple hq
  obtain ⟨f0, f1, f2, f3, f4, f5⟩ := hf it (by simp)
  have hl := rv.length
  exact wpAny_pyNext_tuple_end (I.ok.hd hc) st (show s.heap.IsTuple a its.toArray from p) (by simp; omega) fun h' eb => ⟨rfl, I.turned (t' := s.toks) (fun b o hb e => eb b o hb e) f0 f1 f3 f4 f5⟩
 self := fun _ _ _ _ _ st h => wpAny_pyIter_tupleiter st h
theorem turn_range {P : Program} {w : World} {K : PySem.W.Frag} {tg : Expr} (it : Addr) (lo : Int) (n : Nat) : Turn P w K tg (Itr lo n) [it] it (fun i h => IsRangeIter h it (lo + (i : Nat) * 1) ((n : Int) - (i : Nat)) 1) where
 mem := by simp
 obj := fun i h st b hb => by
  have e : b = it := by simpa using hb
  subst e
  exact ⟨_, st, fun v z => by
   have z' : Data.fields _ = Data.cell v := z
   cases z'⟩
 keep := fun i h h' st k => k it (by simp) _ st
 item := by
  intro X hP hw hK hc i pins s σ H E I hf st hg
  subst hP hw hK
  obtain ⟨f0, f1, f2, f3, f4, f5⟩ := hf it (by simp)
  have W := Walks.range (prog := X.prog) (w := X.w) (I.ok.hd hc) it lo 1 n
  refine W.item i s _ _ hg st fun v h' tk hv st' kk => ?_
  obtain ⟨t, rfl⟩ := hv
  have I1 : Inv X pins σ H { s with heap := h', toks := tk } := I.turned (fun b o hb e => kk b o (by simpa using hb) e) f0 f1 f3 f4 f5
  refine ⟨_, rfl, go_of (s := { s with heap := h', toks := tk }) (n := "range_iterator") st' rfl rfl (by decide) ⟨.int (lo + i), H, I1, ⟨t, ?_⟩, ⟨rfl, rfl⟩, st', fun b hb => (hf b hb).1⟩⟩
  rw [Int.mul_one]
 done := by
  intro X hP hw hK hc i pins s σ H E I hf st hg
  subst hP hw hK
  obtain ⟨f0, f1, f2, f3, f4, f5⟩ := hf it (by simp)
  exact wpAny_pyNext_range_end (I.ok.hd hc) st (by have : n ≤ i := hg; omega) fun h' eb => ⟨rfl, I.turned (t' := s.toks) (fun b o hb e => eb b o hb e) f0 f1 f3 f4 f5⟩
 self := fun _ _ _ _ _ st h => wpAny_pyIter_rangeiter st h
end L2

namespace L2
open PySem PySem.Spec PyProof.Rows
section
variable {X : Cx} {tg : Expr}
noncomputable def iList (K : PySem.W.Frag) (tl : TE) : TI := fun σ H R => tl σ H fun x H1 => ∃ a, x = .ref a ∧ (∃ xs, SqL K H1 a xs) ∧ R (Itl K a) H1
noncomputable def iTup (K : PySem.W.Frag) (tl : TE) : TI := fun σ H R => tl σ H fun x H1 => ∃ a, x = .ref a ∧ (∃ xs, SqT K H1 a xs) ∧ R (Itt K a) H1
theorem pi_list {l : Expr} {tl : TE} (hl : PE X l tl) : PI X tg l (iList X.K tl) := by
 intro pins s σ H R I h
 refine thn (hl pins s σ H _ I h) fun v s1 ⟨x, H1, I1, r1, q1⟩ => ?_
 obtain ⟨a, e, ⟨xs, hq⟩, q⟩ := q1
 subst e
 cases r1
 obtain ⟨its, rv, p, hz⟩ := I1.list hq
 refine wpAny_pyIter_list p.isList ?_
 refine ⟨s1.heap.objs.size, [s1.heap.objs.size], _, _, H1, rfl, I1.kept (t' := s1.toks) fun b o e => Heap.get?_push_of_some _ e, turn_list a _, ⟨_, Heap.get?_push_size _ rfl, rfl, rfl⟩, fun b hb => ?_, q⟩
 have e : b = s1.heap.objs.size := by simpa using hb
 subst e
 exact I1.fpOk (Nat.le_refl _) (I1.hok.fresh (Nat.le_refl _))
theorem pi_tup {l : Expr} {tl : TE} (hl : PE X l tl) : PI X tg l (iTup X.K tl) := by
 intro pins s σ H R I h
 refine thn (hl pins s σ H _ I h) fun v s1 ⟨x, H1, I1, r1, q1⟩ => ?_
 obtain ⟨a, e, ⟨xs, hq⟩, q⟩ := q1
 subst e
 cases r1
 obtain ⟨its, rv, p, hz⟩ := I1.tuple hq
 refine wpAny_pyIter_tuple (show s1.heap.IsTuple a its.toArray from p) ?_
 refine ⟨s1.heap.objs.size, [s1.heap.objs.size], _, _, H1, rfl, I1.kept (t' := s1.toks) fun b o e => Heap.get?_push_of_some _ e, turn_tuple a _, ⟨_, Heap.get?_push_size _ rfl, rfl, rfl⟩, fun b hb => ?_, q⟩
 have e : b = s1.heap.objs.size := by simpa using hb
 subst e
 exact I1.fpOk (Nat.le_refl _) (I1.hok.fresh (Nat.le_refl _))
theorem range_it {pins : List (Addr × Obj)} {σ : St} {H : Hp} {s : Shared} {R : It → Hp → Prop} {E : Value → Shared → Prop} {lo hi : Int} {t u v : Tok} {tk : Nat} (I : Inv X pins σ H s) (h1 : -(2 ^ 62) ≤ lo) (h2 : lo < 2 ^ 62) (h3 : -(2 ^ 62) ≤ hi) (h4 : hi < 2 ^ 62)
 (q : R (Itr lo (hi - lo).toNat) H) : wpAny (model X.prog X.w) X.A (pyIter (.ref s.heap.objs.size)) (PIE X pins σ tg R) E { s with heap := s.heap.push { cls := .type "range", data := .fields #[.int lo t, .int hi u, .int 1 v] }, toks := tk } := by
 refine wpAny_pyIter_range (IsRange.new ..) (small_one h1 h2 h3 h4) ?_
 have I1 : Inv X pins σ H { s with heap := s.heap.push { cls := .type "range", data := .fields #[.int lo t, .int hi u, .int 1 v] }, toks := tk } := I.kept fun b o e => Heap.get?_push_of_some _ e
 refine ⟨(s.heap.push { cls := .type "range", data := .fields #[.int lo t, .int hi u, .int 1 v] }).objs.size, [(s.heap.push { cls := .type "range", data := .fields #[.int lo t, .int hi u, .int 1 v] }).objs.size], _, _, H, rfl,
  I1.kept (t' := tk) fun b o e => Heap.get?_push_of_some _ e, turn_range _ lo (hi - lo).toNat, ?_, fun b hb => ?_, q⟩
 · have e1 : lo + ((0 : Nat) : Int) * 1 = lo := by simp
   have e2 : (((hi - lo).toNat : Nat) : Int) - ((0 : Nat) : Int) = Builtin.Range.rangeSize lo hi 1 := by rw [rangeSize_one]; split <;> omega
   show IsRangeIter _ _ (lo + ((0 : Nat) : Int) * 1) ((((hi - lo).toNat : Nat) : Int) - ((0 : Nat) : Int)) 1
   rw [e1, e2]
   exact Heap.get?_push_size _ rfl
 · have e : b = (s.heap.push { cls := .type "range", data := .fields #[.int lo t, .int hi u, .int 1 v] }).objs.size := by simpa using hb
   subst e
   exact I1.fpOk (Nat.le_refl _) (I1.hok.fresh (Nat.le_refl _))
noncomputable def iRng1 (ta : TA) : TI := fun σ H R => ta σ H fun vs H1 => ∃ j : Int, vs = [.int j] ∧ -(2 ^ 62) ≤ j ∧ j < 2 ^ 62 ∧ R (Itr 0 j.toNat) H1
theorem pi_range1 {a : Expr} {ta : TA} {p pos : Pos} (hg : Gl X "range") (hm : X.mg "range" = none) (ha : PA X [a] ta) (hs : starEach [a] X.env = [(false, eval a X.env)] := by rfl) : PI X tg (.Call (.Name "range" p) [a] [] pos) (iRng1 ta) := by
 intro pins s σ H R I h
 refine Call_ (ld_blt I hg hm boot_range (PyProof.Rows.callWith_type1 (thn (ha pos pins s σ H _ I h) fun us s1 ⟨vs, H1, I1, r1, q1⟩ => ?_) hs rfl))
 obtain ⟨j, e, q1, q2, q⟩ := q1
 subst e
 cases r1 with
 | cons r rr =>
   cases rr
   obtain ⟨t, rfl⟩ := r
   exact call_range_1 (range_it I1 (by omega) (by omega) q1 q2 (by simpa using q))
noncomputable def tFor (wi : TI) (g : TG) (tb : TS) : TS := fun D σ H => wi σ H fun J H1 => ∃ W : Nat → Nat → St → Hp → Prop, (∃ m, W 0 m σ H1) ∧ ∀ i m σ H, W i m σ H →
 (J.stop i H ∧ D.nx σ H) ∨ (J.go i H ∧ ∃ N : St → Hp → Prop, (∀ σ' H', N σ' H' → ∃ m', m' < m ∧ W (i + 1) m' σ' H') ∧ ∀ x H', J.yld i H x H' → g x σ H' fun σ2 H2 => tb { D with nx := N, ct := N, bk := D.nx } σ2 H2)
noncomputable def pinsAt (fp : List Addr) (h : Heap) : List (Addr × Obj) := fp.filterMap fun b => (h.get? b).map fun o => (b, o)
theorem mem_pinsAt {fp : List Addr} {h : Heap} {b : Addr} {o : Obj} (hb : b ∈ fp) (e : h.get? b = some o) : (b, o) ∈ pinsAt fp h := List.mem_filterMap.mpr ⟨b, hb, by rw [e]; rfl⟩
theorem of_pinsAt {fp : List Addr} {h : Heap} {p : Addr × Obj} (hp : p ∈ pinsAt fp h) : p.1 ∈ fp ∧ h.get? p.1 = some p.2 := by
 obtain ⟨b, hb, e⟩ := List.mem_filterMap.mp hp
 cases q : h.get? b with
 | none => rw [q] at e; cases e
 | some o =>
   rw [q] at e
   have e' : (b, o) = p := Option.some.inj e
   subst e'
   exact ⟨hb, q⟩
theorem Inv.pinned {pins : List (Addr × Obj)} {σ : St} {H : Hp} {s : Shared} {fp : List Addr} (I : Inv X pins σ H s) (hf : ∀ b ∈ fp, FpOk X pins H b) (ho : ∀ b ∈ fp, ∃ o, s.heap.get? b = some o ∧ ∀ v, o.data ≠ .cell v) : Inv X (pins ++ pinsAt fp s.heap) σ H s :=
 I.pins_of fun p hp => (List.mem_append.mp hp).elim (fun z => I.pin p (List.mem_append_right _ z)) fun z => by
  obtain ⟨hb, e⟩ := of_pinsAt z
  obtain ⟨f0, f1, f2, _⟩ := hf p.1 hb
  obtain ⟨o, e', d⟩ := ho p.1 hb
  rw [e] at e'; cases e'
  exact ⟨e, f0, f1, f2, d⟩
theorem Inv.unpinned {pins pl : List (Addr × Obj)} {σ : St} {H : Hp} {s : Shared} (I : Inv X (pins ++ pl) σ H s) : Inv X pins σ H s := I.pins_of fun p hp => I.pin p (List.mem_append_right _ (List.mem_append_left _ hp))
theorem ps_for {iter : Expr} {body : List Stmt} {wi : TI} {g : TG} {tb : TS} {pos : Pos} (hp : PassesOwn (model X.prog X.w) X.A X.env X.xe) (hc : X.calm = true) (hi : PI X tg iter wi) (hg : PG X tg g) (hb : PSs X body tb)
 (hs : ∀ x, foldedSetIterable iter X.env x = pure x := by intro _; rfl) : PS X (.For tg iter body [] pos) (tFor wi g tb) := by
 intro pins s σ H D I h
 refine wpAny_For (thn (hi pins s σ H _ I h) fun v s1 h1 => thn h1 fun itv s2 h2 => ?_) hs
 obtain ⟨it, fp, tn, J, H2, e, I2, T, st2, f2, W, ⟨m0, w0⟩, turn⟩ := h2
 subst e
 -- what stays true of the iterator's objects through the loop
 have stat : ∀ {H' : Hp}, (∀ b ∈ fp, H' b = none) → ∀ b ∈ fp, FpOk X pins H' b := fun hn b hb => ⟨hn b hb, (f2 b hb).2⟩
 refine codeAny_forLoop_any (fun n s' => ∃ i σ' H', Inv X pins σ' H' s' ∧ tn i s'.heap ∧ (∀ b ∈ fp, H' b = none) ∧ W i n σ' H') ?_ m0 ⟨0, σ, H2, I2, st2, fun b hb => (f2 b hb).1, w0⟩
 rintro n s3 ⟨i, σ3, H3, I3, st3, fr3, w3⟩
 rcases turn i n σ3 H3 w3 with ⟨stop, qn⟩ | ⟨go, N, hN, step⟩
 · refine wpAny_passesOwn hp (thn (T.done X rfl rfl rfl hc i pins s3 σ3 H3 X.xe I3 (stat fr3) st3 stop) fun r s4 ⟨hr, I4⟩ => ?_)
   subst hr
   exact wpAny_execs_nil ⟨σ3, H3, I4, qn⟩
 · refine wpAny_passesOwn hp (thn (T.item X rfl rfl rfl hc i pins s3 σ3 H3 X.xe I3 (stat fr3) st3 go) fun r s4 ⟨u, hr, h4⟩ => ?_)
   subst hr
   refine wpAny_passesOwn hp (thn h4 fun _ s5 ⟨x, H5, I5, r5, y5, st5, fr5⟩ => ?_)
   have I5' := I5.pinned (stat fr5) (T.obj _ _ st5)
   refine wpAny_passesOwn hp (thn (hg _ s5 σ3 H5 x u _ I5' r5 (step x H5 y5)) fun _ s6 ⟨σ6, H6, I6, q6⟩ => ?_)
   refine wpAny_passesOwn hp (thn (hb _ s6 σ6 H6 _ I6 q6) fun f s7 q7 => ?_)
   have again : ∀ {σ7 : St} {H7 : Hp}, Inv X (pins ++ pinsAt fp s5.heap) σ7 H7 s7 → N σ7 H7 → ∃ m, m < n ∧ ∃ i σ' H', Inv X pins σ' H' s7 ∧ tn i s7.heap ∧ (∀ b ∈ fp, H' b = none) ∧ W i m σ' H' := fun {σ7 H7} I7 n7 => by
    obtain ⟨m', hm, w7⟩ := hN σ7 H7 n7
    refine ⟨m', hm, i + 1, σ7, H7, I7.unpinned, T.keep _ _ _ st5 fun b hb o e => (I7.pin (b, o) (List.mem_append_right _ (List.mem_append_right _ (mem_pinsAt hb e)))).1, fun b hb => ?_, w7⟩
    obtain ⟨o, e, d⟩ := T.obj _ _ st5 b hb
    exact (I7.pin (b, o) (List.mem_append_right _ (List.mem_append_right _ (mem_pinsAt hb e)))).2.1
   cases f with
   | next => obtain ⟨σ7, H7, I7, n7⟩ := q7; exact again I7 n7
   | cont => obtain ⟨σ7, H7, I7, n7⟩ := q7; exact again I7 n7
   | brk => obtain ⟨σ7, H7, I7, q7⟩ := q7; exact ⟨σ7, H7, I7.unpinned, q7⟩
   | ret v => obtain ⟨x7, σ7, H7, I7, r7, q7⟩ := q7; exact ⟨x7, σ7, H7, I7.unpinned, r7, q7⟩
end

theorem for_list {K : PySem.W.Frag} {a : Addr} {xs : List V} {g : TG} {tb : TS} {D : Ends} {σ : St} {H : Hp} (Pv : Nat → St → Hp → Prop) (h0 : Pv 0 σ H) (hl : ∀ i σ H, i ≤ xs.length → Pv i σ H → SqL K H a xs)
 (hs : ∀ i x σ H, xs[i]? = some x → Pv i σ H → g x σ H fun σ2 H2 => tb { D with nx := Pv (i + 1), ct := Pv (i + 1), bk := D.nx } σ2 H2) (hd : ∀ σ H, Pv xs.length σ H → D.nx σ H) :
 ∃ W : Nat → Nat → St → Hp → Prop, (∃ m, W 0 m σ H) ∧ ∀ i m σ H, W i m σ H →
   ((Itl K a).stop i H ∧ D.nx σ H) ∨ ((Itl K a).go i H ∧ ∃ N : St → Hp → Prop, (∀ σ' H', N σ' H' → ∃ m', m' < m ∧ W (i + 1) m' σ' H') ∧ ∀ x H', (Itl K a).yld i H x H' → g x σ H' fun σ2 H2 => tb { D with nx := N, ct := N, bk := D.nx } σ2 H2) := by
 refine ⟨fun i m σ H => m = xs.length - i ∧ i ≤ xs.length ∧ Pv i σ H, ⟨xs.length, by simp, Nat.zero_le _, h0⟩, ?_⟩
 rintro i m σ H ⟨rfl, hi, p⟩
 have q := hl i σ H hi p
 by_cases hlt : i < xs.length
 · refine .inr ⟨⟨xs, xs[i], q, by simp [hlt]⟩, Pv (i + 1), fun σ' H' p' => ⟨xs.length - (i + 1), by omega, rfl, hlt, p'⟩, fun x H' y => ?_⟩
   obtain ⟨e, y⟩ := y
   subst e
   exact hs i x σ _ (y xs q) p
 · have e : i = xs.length := by omega
   subst e
   exact .inl ⟨⟨xs, q, Nat.le_refl _⟩, hd σ H p⟩
theorem for_tup {K : PySem.W.Frag} {a : Addr} {xs : List V} {g : TG} {tb : TS} {D : Ends} {σ : St} {H : Hp} (Pv : Nat → St → Hp → Prop) (h0 : Pv 0 σ H) (hl : ∀ i σ H, i ≤ xs.length → Pv i σ H → SqT K H a xs)
 (hs : ∀ i x σ H, xs[i]? = some x → Pv i σ H → g x σ H fun σ2 H2 => tb { D with nx := Pv (i + 1), ct := Pv (i + 1), bk := D.nx } σ2 H2) (hd : ∀ σ H, Pv xs.length σ H → D.nx σ H) :
 ∃ W : Nat → Nat → St → Hp → Prop, (∃ m, W 0 m σ H) ∧ ∀ i m σ H, W i m σ H →
   ((Itt K a).stop i H ∧ D.nx σ H) ∨ ((Itt K a).go i H ∧ ∃ N : St → Hp → Prop, (∀ σ' H', N σ' H' → ∃ m', m' < m ∧ W (i + 1) m' σ' H') ∧ ∀ x H', (Itt K a).yld i H x H' → g x σ H' fun σ2 H2 => tb { D with nx := N, ct := N, bk := D.nx } σ2 H2) := by
 refine ⟨fun i m σ H => m = xs.length - i ∧ i ≤ xs.length ∧ Pv i σ H, ⟨xs.length, by simp, Nat.zero_le _, h0⟩, ?_⟩
 rintro i m σ H ⟨rfl, hi, p⟩
 have q := hl i σ H hi p
 by_cases hlt : i < xs.length
 · refine .inr ⟨⟨xs, xs[i], q, by simp [hlt]⟩, Pv (i + 1), fun σ' H' p' => ⟨xs.length - (i + 1), by omega, rfl, hlt, p'⟩, fun x H' y => ?_⟩
   obtain ⟨e, y⟩ := y
   subst e
   exact hs i x σ _ (y xs q) p
 · have e : i = xs.length := by omega
   subst e
   exact .inl ⟨⟨xs, q, Nat.le_refl _⟩, hd σ H p⟩
theorem for_range {lo : Int} {n : Nat} {g : TG} {tb : TS} {D : Ends} {σ : St} {H : Hp} (Pv : Nat → St → Hp → Prop) (h0 : Pv 0 σ H)
 (hs : ∀ i σ H, i < n → Pv i σ H → g (.int (lo + i)) σ H fun σ2 H2 => tb { D with nx := Pv (i + 1), ct := Pv (i + 1), bk := D.nx } σ2 H2) (hd : ∀ σ H, Pv n σ H → D.nx σ H) :
 ∃ W : Nat → Nat → St → Hp → Prop, (∃ m, W 0 m σ H) ∧ ∀ i m σ H, W i m σ H →
   ((Itr lo n).stop i H ∧ D.nx σ H) ∨ ((Itr lo n).go i H ∧ ∃ N : St → Hp → Prop, (∀ σ' H', N σ' H' → ∃ m', m' < m ∧ W (i + 1) m' σ' H') ∧ ∀ x H', (Itr lo n).yld i H x H' → g x σ H' fun σ2 H2 => tb { D with nx := N, ct := N, bk := D.nx } σ2 H2) := by
 refine ⟨fun i m σ H => m = n - i ∧ i ≤ n ∧ Pv i σ H, ⟨n, by simp, Nat.zero_le _, h0⟩, ?_⟩
 rintro i m σ H ⟨rfl, hi, p⟩
 by_cases hlt : i < n
 · refine .inr ⟨hlt, Pv (i + 1), fun σ' H' p' => ⟨n - (i + 1), by omega, rfl, hlt, p'⟩, fun x H' y => ?_⟩
   obtain ⟨e, y⟩ := y
   subst e y
   exact hs i σ _ hlt p
 · have e : i = n := by omega
   subst e
   exact .inl ⟨Nat.le_refl _, hd σ H p⟩
theorem while_by {c : TT} {tb : TS} {D : Ends} {σ : St} {H : Hp} (Pv : St → Hp → Prop) (μ : St → Hp → Nat) (h0 : Pv σ H)
 (hs : ∀ σ H, Pv σ H → c σ H fun b H1 => if b = true then tb { D with nx := fun σ' H' => Pv σ' H' ∧ μ σ' H' < μ σ H, ct := fun σ' H' => Pv σ' H' ∧ μ σ' H' < μ σ H, bk := D.nx } σ H1 else D.nx σ H1)
 (mono : ∀ σ H Q Q', (∀ b H1, Q b H1 → Q' b H1) → c σ H Q → c σ H Q') : tWhile c tb D σ H := by
 refine ⟨fun m σ H => m = μ σ H ∧ Pv σ H, ⟨_, rfl, h0⟩, ?_⟩
 rintro m σ H ⟨rfl, p⟩
 refine mono σ H _ _ (fun b H1 q => ?_) (hs σ H p)
 cases b with
 | true => exact ⟨_, fun σ' H' ⟨p', l⟩ => ⟨_, l, rfl, p'⟩, q⟩
 | false => exact q
end L2

namespace L2
open PySem PySem.Spec PyProof.Rows

noncomputable abbrev R2 := V → V → Hp → VK → Prop
noncomputable def OpR (X : Cx) (f : Value → Value → Sem Value) (r : R2) : Prop :=
 ∀ (pins : List (Addr × Obj)) (s : Shared) (σ : St) (H : Hp) (x y : V) (v u : Value) (Q : VK), Inv X pins σ H s → RelV x v → RelV y u → r x y H Q →
   wpAny (model X.prog X.w) X.A (f v u) (EP X pins σ Q) X.xe s
noncomputable def UnR (X : Cx) (f : Value → Sem Value) (r : V → Hp → VK → Prop) : Prop :=
 ∀ (pins : List (Addr × Obj)) (s : Shared) (σ : St) (H : Hp) (x : V) (v : Value) (Q : VK), Inv X pins σ H s → RelV x v → r x H Q →
   wpAny (model X.prog X.w) X.A (f v) (EP X pins σ Q) X.xe s
noncomputable def CallR (X : Cx) (f : Value) (r : List V → Hp → VK → Prop) : Prop :=
 ∀ (pins : List (Addr × Obj)) (s : Shared) (σ : St) (H : Hp) (xs : List V) (us : List Value) (Q : VK), Inv X pins σ H s → Vals xs us → r xs H Q →
   wpAny (model X.prog X.w) X.A (call f us) (EP X pins σ Q) X.xe s
noncomputable def TruR (X : Cx) (r : V → Hp → (Bool → Hp → Prop) → Prop) : Prop :=
 ∀ (pins : List (Addr × Obj)) (s : Shared) (σ : St) (H : Hp) (x : V) (v : Value) (Q : Bool → Hp → Prop), Inv X pins σ H s → RelV x v → r x H Q →
   wpAny (model X.prog X.w) X.A (truthy v) (TP X pins σ Q) X.xe s

noncomputable def tOp (r : R2) (ta tb : TE) : TE := fun σ H Q => ta σ H fun x H1 => tb σ H1 fun y H2 => r x y H2 Q
noncomputable def tUn (r : V → Hp → VK → Prop) (ta : TE) : TE := fun σ H Q => ta σ H fun x H1 => r x H1 Q
noncomputable def rI (C : Int → Int → Prop) (g : Int → Int → V) : R2 := fun x y H Q => ∃ i j, x = .int i ∧ y = .int j ∧ C i j ∧ Q (g i j) H
noncomputable def rI0 (g : Int → Int → V) : R2 := fun x y H Q => ∃ i j, x = .int i ∧ y = .int j ∧ Q (g i j) H
noncomputable def rU (g : Int → V) : V → Hp → VK → Prop := fun x H Q => ∃ i, x = .int i ∧ Q (g i) H

section
variable {X : Cx} {a b c : Expr} {ta tb tc : TE} {pos : Pos}

theorem binT (ha : PE X a ta) (hb : PE X b tb) {pins : List (Addr × Obj)} {s : Shared} {σ : St} {H : Hp} {R : V → V → Hp → Prop} (I : Inv X pins σ H s)
 (h : ta σ H fun x H1 => tb σ H1 fun y H2 => R x y H2) {Q : Value → Shared → Prop} {f : Value → Value → Sem Value}
 (hf : ∀ v u s2 x y H2, Inv X pins σ H2 s2 → RelV x v → RelV y u → R x y H2 → wpAny (model X.prog X.w) X.A (f v u) Q X.xe s2) :
 wpAny (model X.prog X.w) X.A (eval a X.env) (fun v s₁ => wpAny (model X.prog X.w) X.A (eval b X.env) (fun u s₂ => wpAny (model X.prog X.w) X.A (f v u) Q X.xe s₂) X.xe s₁) X.xe s := by
 refine thn (ha pins s σ H _ I h) fun v s1 ⟨x, H1, I1, r1, q1⟩ => ?_
 refine thn (hb pins s1 σ H1 _ I1 q1) fun u s2 ⟨y, H2, I2, r2, q2⟩ => ?_
 exact hf v u s2 x y H2 I2 r1 r2 q2

theorem pe_op {op : Operator} {r : R2} (ho : OpR X (binaryOp op) r) (ha : PE X a ta) (hb : PE X b tb) : PE X (.BinOp a op b pos) (tOp r ta tb) := by
 intro pins s σ H Q I h
 exact wpAny_BinOp (binT ha hb I h fun v u s2 x y H2 I2 rx ry q => ho pins s2 σ H2 x y v u Q I2 rx ry q)
theorem pe_un {op : UnaryOp} {r : V → Hp → VK → Prop} (ho : UnR X (unaryOp op) r) (ha : PE X a ta) : PE X (.UnaryOp op a pos) (tUn r ta) := by
 intro pins s σ H Q I h
 exact UnaryOp_ (thn (ha pins s σ H _ I h) fun v s1 ⟨x, H1, I1, r1, q1⟩ => ho pins s1 σ H1 x v Q I1 r1 q1)
theorem opI {f : Value → Value → Sem Value} {C : Int → Int → Prop} {g : Int → Int → Int}
 (rule : ∀ (i j : Int) (t u : Tok) (s : Shared) (Q : Value → Shared → Prop) (E : Value → Shared → Prop), C i j → Q (.int (g i j) s.toks) { s with toks := s.toks + 1 } → wpAny (model X.prog X.w) X.A (f (.int i t) (.int j u)) Q E s) :
 OpR X f (rI C fun i j => .int (g i j)) := by
 intro pins s σ H x y v u Q I rx ry h
 obtain ⟨i, j, rfl, rfl, hc, q⟩ := h
 obtain ⟨t, rfl⟩ := rx
 obtain ⟨t', rfl⟩ := ry
 exact rule i j t t' s _ _ hc ⟨.int (g i j), H, I.tok _, ⟨_, rfl⟩, q⟩
theorem opI0 {f : Value → Value → Sem Value} {g : Int → Int → Int}
 (rule : ∀ (i j : Int) (t u : Tok) (s : Shared) (Q : Value → Shared → Prop) (E : Value → Shared → Prop), Q (.int (g i j) s.toks) { s with toks := s.toks + 1 } → wpAny (model X.prog X.w) X.A (f (.int i t) (.int j u)) Q E s) :
 OpR X f (rI0 fun i j => .int (g i j)) := by
 intro pins s σ H x y v u Q I rx ry h
 obtain ⟨i, j, rfl, rfl, q⟩ := h
 obtain ⟨t, rfl⟩ := rx
 obtain ⟨t', rfl⟩ := ry
 exact rule i j t t' s _ _ ⟨.int (g i j), H, I.tok _, ⟨_, rfl⟩, q⟩
theorem opB0 {f : Value → Value → Sem Value} {g : Int → Int → Bool}
 (rule : ∀ (i j : Int) (t u : Tok) (s : Shared) (Q : Value → Shared → Prop) (E : Value → Shared → Prop), Q (.bool (g i j)) s → wpAny (model X.prog X.w) X.A (f (.int i t) (.int j u)) Q E s) :
 OpR X f (rI0 fun i j => .bl (g i j)) := by
 intro pins s σ H x y v u Q I rx ry h
 obtain ⟨i, j, rfl, rfl, q⟩ := h
 obtain ⟨t, rfl⟩ := rx
 obtain ⟨t', rfl⟩ := ry
 exact rule i j t t' s _ _ ⟨.bl (g i j), H, I, rfl, q⟩

noncomputable def CDiv (i j : Int) : Prop := 0 < j ∧ j < 1073741824
noncomputable def CPow (i j : Int) : Prop := 0 ≤ j ∧ j ≤ 1000000 ∧ i.natAbs < 2 ^ 64
noncomputable def CMul (i j : Int) : Prop := (-(2 ^ 64) < i ∧ i < 2 ^ 64) ∨ (-(2 ^ 64) < j ∧ j < 2 ^ 64)
theorem CMul.ok {i j : Int} (h : CMul i j) : IntMulOk i j := by
 rcases h with ⟨h1, h2⟩ | ⟨h1, h2⟩
 · exact .of_left (intBits_le_64 h1 h2)
 · exact .of_right (intBits_le_64 h1 h2)
theorem op_add : OpR X (binaryOp .Add) (rI0 fun i j => .int (i + j)) := opI0 fun _ _ _ _ _ _ _ q => add_int q
theorem op_sub : OpR X (binaryOp .Sub) (rI0 fun i j => .int (i - j)) := opI0 fun _ _ _ _ _ _ _ q => sub_int q
theorem op_mul : OpR X (binaryOp .Mult) (rI CMul fun i j => .int (i * j)) := opI fun _ _ _ _ _ _ _ hc q => mul_int q hc.ok
theorem op_fdiv : OpR X (binaryOp .FloorDiv) (rI CDiv fun i j => .int (i / j)) := opI fun i j _ _ _ _ _ hc q => by
 have h1 : (0 : Int) < j := hc.1
 have h2 : j < 1073741824 := hc.2
 exact floordiv_int (by omega) (by rw [Int.fdiv_eq_ediv_of_nonneg i (by omega)]; exact q) (.inl (PyProof.noPylong_small (by omega)))
theorem op_mod : OpR X (binaryOp .Mod) (rI (fun _ j => 0 < j) fun i j => .int (i % j)) := opI fun i j _ _ _ _ _ hc q => by
 have h1 : (0 : Int) < j := hc
 exact mod_int' (by omega) (by rw [Int.fmod_eq_emod_of_nonneg i (by omega)]; exact q)
theorem op_pow : OpR X (binaryOp .Pow) (rI CPow fun i j => .int (i ^ j.toNat)) := opI fun _ _ _ _ _ _ _ hc q => pow_int_small hc.1 hc.2.1 hc.2.2 q
theorem unI {f : Value → Sem Value} {g : Int → Int}
 (rule : ∀ (i : Int) (t : Tok) (s : Shared) (Q : Value → Shared → Prop) (E : Value → Shared → Prop), Q (.int (g i) s.toks) { s with toks := s.toks + 1 } → wpAny (model X.prog X.w) X.A (f (.int i t)) Q E s) :
 UnR X f (rU fun i => .int (g i)) := by
 intro pins s σ H x v Q I rx h
 obtain ⟨i, rfl, q⟩ := h
 obtain ⟨t, rfl⟩ := rx
 exact rule i t s _ _ ⟨.int (g i), H, I.tok _, ⟨_, rfl⟩, q⟩
theorem un_neg : UnR X (unaryOp .USub) (rU fun i => .int (-i)) := unI fun _ _ _ _ _ q => neg_int q
end

noncomputable def scal : V → V → Bool
 | .non, .non => true | .non, .int _ => true | .int _, .non => true | .non, .bl _ => true | .bl _, .non => true | .non, .str _ => true | .str _, .non => true
 | .int _, .int _ => true | .bl _, .bl _ => true | .str _, .str _ => true | .byt _, .byt _ => true
 | .int _, .str _ => true | .str _, .int _ => true | .bl _, .str _ => true | .str _, .bl _ => true
 | _, _ => false
noncomputable def rEq : R2 := fun x y H Q => scal x y = true ∧ Q (.bl (decide (x = y))) H
noncomputable def rNe : R2 := fun x y H Q => scal x y = true ∧ Q (.bl (!decide (x = y))) H

theorem dec_int {i j : Int} : decide (V.int i = V.int j) = (i == j) := by
 rw [Bool.eq_iff_iff]
 simp
theorem dec_bl {i j : Bool} : decide (V.bl i = V.bl j) = (i == j) := by
 rw [Bool.eq_iff_iff]
 simp
theorem dec_str {i j : Str} : decide (V.str i = V.str j) = (i == j) := by
 rw [Bool.eq_iff_iff]
 simp
theorem dec_byt {i j : Array UInt8} : decide (V.byt i = V.byt j) = (i.toList == j.toList) := by
 rw [Bool.eq_iff_iff]
 cases i
 cases j
 simp

section
variable {X : Cx} {a b c : Expr} {ta tb tc : TE} {pos : Pos}
theorem fin_bl {pins : List (Addr × Obj)} {σ : St} {H : Hp} {s : Shared} {Q : VK} {k k' : Bool} (I : Inv X pins σ H s) (q : Q (.bl k) H) (e : k = k') : EP X pins σ Q (.bool k') s := by
 subst e
 exact ⟨.bl k, H, I, rfl, q⟩
theorem op_eq : OpR X (compareOp .Eq) rEq := by
 intro pins s σ H x y v u Q I rx ry h
 obtain ⟨hs, q⟩ := h
 cases x with
 | non =>
   cases rx
   cases y with
   | non => cases ry; exact PySem.EqNone.eq_none_none (fin_bl I q (by simp))
   | bl j => cases ry; exact PySem.EqNone.eq_none_bool (fin_bl I q (by simp))
   | int j => obtain ⟨t', rfl⟩ := ry; exact PySem.EqNone.eq_none_int (fin_bl I q (by simp))
   | str j => obtain ⟨t', rfl⟩ := ry; exact PySem.EqNone.eq_none_str (fin_bl I q (by simp))
   | _ => exact absurd (show false = true from hs) Bool.false_ne_true
 | bl i =>
   cases rx
   cases y with
   | non => cases ry; exact PySem.EqNone.eq_bool_none (fin_bl I q (by simp))
   | bl j => cases ry; exact eq_bool (fin_bl I q dec_bl)
   | str j => obtain ⟨t', rfl⟩ := ry; exact PySem.EqMixed.eq_bool_str (fin_bl I q (by simp))
   | _ => exact absurd (show false = true from hs) Bool.false_ne_true
 | int i =>
   obtain ⟨t, rfl⟩ := rx
   cases y with
   | non => cases ry; exact PySem.EqNone.eq_int_none (fin_bl I q (by simp))
   | int j => obtain ⟨t', rfl⟩ := ry; exact eq_int (fin_bl I q dec_int)
   | str j => obtain ⟨t', rfl⟩ := ry; exact PySem.EqMixed.eq_int_str (fin_bl I q (by simp))
   | _ => exact absurd (show false = true from hs) Bool.false_ne_true
 | str i =>
   obtain ⟨t, rfl⟩ := rx
   cases y with
   | non => cases ry; exact PySem.EqNone.eq_str_none (fin_bl I q (by simp))
   | bl j => cases ry; exact PySem.EqMixed.eq_str_bool (fin_bl I q (by simp))
   | int j => obtain ⟨t', rfl⟩ := ry; exact PySem.EqMixed.eq_str_int (fin_bl I q (by simp))
   | str j => obtain ⟨t', rfl⟩ := ry; exact eq_str (fin_bl I q dec_str)
   | _ => exact absurd (show false = true from hs) Bool.false_ne_true
 | byt i =>
   obtain ⟨t, rfl⟩ := rx
   cases y with
   | byt j => obtain ⟨t', rfl⟩ := ry; exact PySem.W.eq_bytes (fin_bl I q dec_byt)
   | _ => exact absurd (show false = true from hs) Bool.false_ne_true
 | _ => cases y <;> exact absurd (show false = true from hs) Bool.false_ne_true
theorem op_ne : OpR X (compareOp .NotEq) rNe := by
 intro pins s σ H x y v u Q I rx ry h
 obtain ⟨hs, q⟩ := h
 cases x with
 | non =>
   cases rx
   cases y with
   | non => cases ry; exact PySem.EqNone.ne_none_none (fin_bl I q (by simp))
   | bl j => cases ry; exact PySem.EqNone.ne_none_bool (fin_bl I q (by simp))
   | int j => obtain ⟨t', rfl⟩ := ry; exact PySem.EqNone.ne_none_int (fin_bl I q (by simp))
   | str j => obtain ⟨t', rfl⟩ := ry; exact PySem.EqNone.ne_none_str (fin_bl I q (by simp))
   | _ => exact absurd (show false = true from hs) Bool.false_ne_true
 | bl i =>
   cases rx
   cases y with
   | non => cases ry; exact PySem.EqNone.ne_bool_none (fin_bl I q (by simp))
   | bl j => cases ry; exact ne_bool (fin_bl I q (congrArg not dec_bl))
   | str j => obtain ⟨t', rfl⟩ := ry; exact PySem.EqMixed.ne_bool_str (fin_bl I q (by simp))
   | _ => exact absurd (show false = true from hs) Bool.false_ne_true
 | int i =>
   obtain ⟨t, rfl⟩ := rx
   cases y with
   | non => cases ry; exact PySem.EqNone.ne_int_none (fin_bl I q (by simp))
   | int j => obtain ⟨t', rfl⟩ := ry; exact ne_int (fin_bl I q (congrArg not dec_int))
   | str j => obtain ⟨t', rfl⟩ := ry; exact PySem.EqMixed.ne_int_str (fin_bl I q (by simp))
   | _ => exact absurd (show false = true from hs) Bool.false_ne_true
 | str i =>
   obtain ⟨t, rfl⟩ := rx
   cases y with
   | non => cases ry; exact PySem.EqNone.ne_str_none (fin_bl I q (by simp))
   | bl j => cases ry; exact PySem.EqMixed.ne_str_bool (fin_bl I q (by simp))
   | int j => obtain ⟨t', rfl⟩ := ry; exact PySem.EqMixed.ne_str_int (fin_bl I q (by simp))
   | str j => obtain ⟨t', rfl⟩ := ry; exact ne_str (fin_bl I q (congrArg not dec_str))
   | _ => exact absurd (show false = true from hs) Bool.false_ne_true
 | byt i =>
   obtain ⟨t, rfl⟩ := rx
   cases y with
   | byt j => obtain ⟨t', rfl⟩ := ry; exact PySem.W.ne_bytes (fin_bl I q (congrArg not dec_byt))
   | _ => exact absurd (show false = true from hs) Bool.false_ne_true
 | _ => cases y <;> exact absurd (show false = true from hs) Bool.false_ne_true

theorem op_lt : OpR X (compareOp .Lt) (rI0 fun i j => .bl (decide (i < j))) := opB0 fun _ _ _ _ _ _ _ q => lt_int q
theorem op_le : OpR X (compareOp .LtE) (rI0 fun i j => .bl (decide (i ≤ j))) := opB0 fun _ _ _ _ _ _ _ q => le_int q
theorem op_gt : OpR X (compareOp .Gt) (rI0 fun i j => .bl (decide (j < i))) := opB0 fun _ _ _ _ _ _ _ q => gt_int q
theorem op_ge : OpR X (compareOp .GtE) (rI0 fun i j => .bl (decide (j ≤ i))) := opB0 fun _ _ _ _ _ _ _ q => ge_int q
theorem op_isN : OpR X (compareOp .Is) (fun x y H Q => y = .non ∧ Q (.bl (decide (x = .non))) H) := by
 intro pins s σ H x y v u Q I rx ry h
 obtain ⟨rfl, q⟩ := h
 cases ry
 refine is_none_gen (fin_bl I q ?_)
 cases x <;> first
  | (cases rx; rfl)
  | (obtain ⟨t, rfl⟩ := rx; rfl)
theorem nomark (b : Expr) {op : CmpOp} (h : op ≠ .In := by decide) (h2 : op ≠ .NotIn := by decide) : behindInMarks op b = false := by
 have e1 : (op == CmpOp.In) = false := by cases op <;> first | rfl | exact absurd rfl h
 have e2 : (op == CmpOp.NotIn) = false := by cases op <;> first | rfl | exact absurd rfl h2
 cases b <;> simp [behindInMarks, e1, e2]
theorem pe_cmpR {op : CmpOp} {r : R2} (ho : OpR X (compareOp op) r) (ha : PE X a ta) (hb : PE X b tb) (hm : behindInMarks op b = false) : PE X (.Compare a [op] [b] pos) (tOp r ta tb) := by
 intro pins s σ H Q I h
 exact wpAny_Compare1 (binT ha hb I h fun v u s2 x y H2 I2 rx ry q => ho pins s2 σ H2 x y v u Q I2 rx ry q) hm
noncomputable def tTest (t : TE) : TT := fun σ H Q => t σ H fun x H' => ∃ k, x = .bl k ∧ Q k H'
theorem pt_cmpR {op : CmpOp} {r : R2} (ho : OpR X (compareOp op) r) (ha : PE X a ta) (hb : PE X b tb) (hm : behindInMarks op b = false) : PT X (.Compare a [op] [b] pos) (tTest (tOp r ta tb)) := by
 intro pins s σ H Q I h
 refine wpAny_isTrue_Compare1 (thn (ha pins s σ H _ I h) fun v s1 ⟨x, H1, I1, r1, q1⟩ => thn (hb pins s1 σ H1 _ I1 q1) fun u s2 ⟨y, H2, I2, r2, q2⟩ =>
  thn (ho pins s2 σ H2 x y v u _ I2 r1 r2 q2) fun c s3 ⟨z, H3, I3, r3, k, e, q3⟩ => ?_) hm
 subst e
 cases r3
 exact wpAny_truthy_bool ⟨H3, I3, q3⟩
noncomputable def tChain (r r' : R2) (ta tb tc : TE) : TE := fun σ H Q => ta σ H fun x H1 => tb σ H1 fun y H2 => r x y H2 fun z H3 => ∃ k, z = .bl k ∧
 (if k = true then tc σ H3 fun w' H4 => r' y w' H4 Q else Q (.bl false) H3)
theorem pe_chain {op op' : CmpOp} {r r' : R2} (ho : OpR X (compareOp op) r) (ho' : OpR X (compareOp op') r') (ha : PE X a ta) (hb : PE X b tb) (hc : PE X c tc)
 (hm : lastMarks [op, op'] [b, c] = false := by with_unfolding_all rfl) : PE X (.Compare a [op, op'] [b, c] pos) (tChain r r' ta tb tc) := by
 intro pins s σ H Q I h
 refine Compare_chain (thn (ha pins s σ H _ I h) fun v s1 ⟨x, H1, I1, r1, q1⟩ => chain_link (thn (hb pins s1 σ H1 _ I1 q1) fun u s2 ⟨y, H2, I2, r2, q2⟩ =>
  thn (ho pins s2 σ H2 x y v u _ I2 r1 r2 q2) fun d s3 ⟨z, H3, I3, r3, k, e, q3⟩ => ?_)) hm
 subst e
 cases r3
 refine wpAny_truthy_bool ?_
 cases k with
 | false => exact ite_ff ⟨.bl false, H3, I3, rfl, q3⟩
 | true => exact ite_tt (chain_last (thn (hc pins s3 σ H3 _ I3 q3) fun w' s4 ⟨z', H4, I4, r4, q4⟩ => ho' pins s4 σ H4 y z' u w' Q I4 r2 r4 q4))
noncomputable def TruV (K : PySem.W.Frag) (x : V) (H : Hp) (k : Bool) : Prop :=
 match x with
 | .non => k = false
 | .bl b => k = b
 | .int i => k = (i != 0)
 | .str y => y.length ≤ sizeLine ∧ k = ((y.length : Int) != 0)
 | .byt y => y.size ≤ sizeLine ∧ k = ((y.size : Int) != 0)
 | .ref p => (∃ xs, SqL K H p xs ∧ k = !xs.isEmpty) ∨ (∃ xs, SqT K H p xs ∧ k = !xs.isEmpty) ∨ ∃ kvs, H p = some (.dK kvs) ∧ k = !kvs.isEmpty
 | _ => False
theorem isEmpty_kv {κ : Type} {kvs : List (κ × V)} {vs : List (κ × Value)} (r : KV kvs vs) : (!vs.isEmpty) = !kvs.isEmpty := by
 cases r <;> rfl
theorem isEmpty_of {xs : List V} {its : List Value} (r : Vals xs its) : (!its.toArray.isEmpty) = !xs.isEmpty := by
 cases r <;> simp
theorem line63 : (sizeLine : Nat) < 2 ^ 63 := by rw [sizeLine_eq]; decide
theorem tru_ok : TruR X (fun x H Q => ∃ k, TruV X.K x H k ∧ Q k H) := by
 intro pins s σ H x v Q I rx h
 obtain ⟨k, e, q⟩ := h
 have hl := line63
 have hs : sizeLine = 16777216 := sizeLine_eq
 cases x with
 | non =>
   cases rx
   have e' : k = false := e
   subst e'
   exact truthy_none ⟨H, I, q⟩
 | bl b =>
   cases rx
   have e' : k = b := e
   subst e'
   exact wpAny_truthy_bool ⟨H, I, q⟩
 | int i =>
   obtain ⟨t, rfl⟩ := rx
   have e' : k = (i != 0) := e
   subst e'
   exact PySem.P.truthy_int ⟨H, I, q⟩
 | str y =>
   obtain ⟨t, rfl⟩ := rx
   obtain ⟨hy, e'⟩ : y.length ≤ sizeLine ∧ k = ((y.length : Int) != 0) := e
   subst e'
   exact PySem.P.truthy_str (by omega) ⟨H, I.tok _, q⟩
 | byt y =>
   obtain ⟨t, rfl⟩ := rx
   obtain ⟨hy, e'⟩ : y.size ≤ sizeLine ∧ k = ((y.size : Int) != 0) := e
   subst e'
   exact PySem.W.truthy_bytes (by omega) ⟨H, I.tok _, q⟩
 | ref p =>
   cases rx
   have e' : (∃ xs, SqL X.K H p xs ∧ k = !xs.isEmpty) ∨ (∃ xs, SqT X.K H p xs ∧ k = !xs.isEmpty) ∨ ∃ kvs, H p = some (.dK kvs) ∧ k = !kvs.isEmpty := e
   rcases e' with ⟨xs, hx, e'⟩ | ⟨xs, hx, e'⟩ | ⟨kvs, hx, e'⟩
   · subst e'
     obtain ⟨its, r, pl, hz⟩ := I.list hx
     have hlen := r.length
     exact wpAny_truthy_list pl.isList (by simp only [List.size_toArray]; omega) ⟨H, I.tok _, by rw [isEmpty_of r]; exact q⟩
   · subst e'
     obtain ⟨its, r, pl, hz⟩ := I.tuple hx
     have hlen := r.length
     exact truthy_tuple pl (by simp only [List.size_toArray]; omega) ⟨H, I.tok _, by rw [isEmpty_of r]; exact q⟩
   · subst e'
     obtain ⟨hz, hS, vs, r, m⟩ : kvs.length ≤ sizeLine ∧ (p == sysModules) = false ∧ ∃ vs, KV kvs vs ∧ s.heap.DictOf (mixKind X.prog X.w) p vs := I.hok p _ hx
     have hlen : kvs.length = vs.length := Paired.length r
     exact wpAny_truthy_dict hS m (by omega) ⟨H, I.tok _, by rw [isEmpty_kv r]; exact q⟩
 | _ => exact (show False from e).elim
theorem pt_truth (ha : PE X a ta) (he : ∀ whole, isTrue a X.env whole = (do let v ← whole; standAt a.pos; holding [v] (truthy v))) :
 PT X a (fun σ H Q => ta σ H fun x H' => ∃ k, TruV X.K x H' k ∧ Q k H') := by
 intro pins s σ H Q I h
 exact isTrue_plain (thn (ha pins s σ H _ I h) fun v s1 ⟨x, H1, I1, r1, q1⟩ => tru_ok pins s1 σ H1 x v Q I1 r1 q1) (he _)

theorem vals1 {x : V} {us : List Value} (r : Vals [x] us) : ∃ u, us = [u] ∧ RelV x u := by
 cases r with
 | cons r1 r2 => cases r2; exact ⟨_, rfl, r1⟩
theorem vals2 {x y : V} {us : List Value} (r : Vals [x, y] us) : ∃ u w', us = [u, w'] ∧ RelV x u ∧ RelV y w' := by
 cases r with
 | cons r1 r2 =>
   cases r2 with
   | cons r3 r4 => cases r4; exact ⟨_, _, rfl, r1, r3⟩
theorem call_abs : CallR X (.builtin "abs") (fun xs H Q => ∃ i, xs = [.int i] ∧ Q (.int (if i < 0 then -i else i)) H) := by
 intro pins s σ H xs us Q I r h
 obtain ⟨i, rfl, q⟩ := h
 obtain ⟨u, rfl, t, rfl⟩ := vals1 r
 exact call_abs_int fun u tk => ⟨.int (if i < 0 then -i else i), H, I.tok _, ⟨_, rfl⟩, q⟩
theorem call_max2 (hc : X.calm = true) : CallR X (.builtin "max") (fun xs H Q => ∃ i j, xs = [.int i, .int j] ∧ Q (.int (if j > i then j else i)) H) := by
 intro pins s σ H xs us Q I r h
 obtain ⟨i, j, rfl, q⟩ := h
 obtain ⟨u, w', rfl, ⟨t, rfl⟩, ⟨t', rfl⟩⟩ := vals2 r
 refine max_two_ints (I.ok.hd hc) fun h' tk k => ⟨_, H, I.kept k, ?_, q⟩
 by_cases hj : j > i
 · rw [if_pos hj, if_pos hj]; exact ⟨_, rfl⟩
 · rw [if_neg hj, if_neg hj]; exact ⟨_, rfl⟩
theorem call_int1 : CallR X (.type "int") (fun xs H Q => (∃ i, xs = [.int i] ∧ Q (.int i) H) ∨ ∃ k, xs = [.bl k] ∧ Q (.int (if k then 1 else 0)) H) := by
 intro pins s σ H xs us Q I r h
 rcases h with ⟨i, rfl, q⟩ | ⟨k, rfl, q⟩
 · obtain ⟨u, rfl, t, rfl⟩ := vals1 r
   exact call_int_int ⟨.int i, H, I, ⟨_, rfl⟩, q⟩
 · obtain ⟨u, rfl, r1⟩ := vals1 r
   cases r1
   exact call_int_bool ⟨.int (if k then 1 else 0), H, I.tok _, ⟨_, rfl⟩, q⟩
end
end L2

namespace L2
open PySem PySem.Spec PyProof.Rows

structure ObjM (h : Heap) (x dx C : Addr) (mA : Str → Option Value) : Prop where
 obj : h.get? x = some (PySem.W.instObj C dx)
 ns : h.Ns1 dx mA
 ne : dx ≠ x

theorem lookIn_ns {h : Heap} {dx : Addr} {mA : Str → Option Value} (n : h.Ns1 dx mA) : ∃ od, h.get? dx = some od ∧ ∀ name, PySem.W.lookIn name od = some (mA name) := by
 obtain ⟨o, es, ep, ho, hd, hk, _, hm⟩ := n
 refine ⟨o, ho, fun name => ?_⟩
 have e := hm name
 unfold nsFind findBy at e
 rw [← Array.find?_toList] at e
 unfold PySem.W.lookIn
 rw [hd]
 dsimp only
 split
 · rename_i y q
   rw [q] at e
   exact congrArg some e
 · rename_i q
   rw [q] at e
   have a : es.toList.any (·.refKey) = false := by
    rw [List.any_eq_false]
    intro y hy
    obtain ⟨z, t, hkey⟩ := hk y (Array.mem_toList_iff.mp hy)
    simp [DictEntry.refKey, hkey]
   have a' : ¬ es.toList.any (·.refKey) = true := by rw [a]; exact Bool.false_ne_true
   rw [if_neg a']
   exact congrArg some e

theorem ObjM.look {h : Heap} {x dx C : Addr} {mA : Str → Option Value} (I : ObjM h x dx C mA) : ∃ od, PySem.W.InstAt h x (PySem.W.instObj C dx) C (some od) ∧ ∀ name, PySem.W.lookIn name od = some (mA name) :=
 let ⟨od, ho, hl⟩ := lookIn_ns I.ns
 ⟨od, ⟨I.obj, rfl, rfl, ho⟩, hl⟩

section
variable {prog : Program} {w : World} {A : Around} {E : Value → Shared → Prop} {s : Shared} {K : PySem.W.Frag} {x dx C f : Addr} {mA : Str → Option Value} {name : Str} {v : Value}

theorem get_map {expr : Bool} {Q : Value → Shared → Prop} (X : K.In s.heap) (I : ObjM s.heap x dx C mA) (hg : PySem.W.plainGet K C name = true) (hh : PySem.W.hasDictIn K C = true)
 (ha : PySem.W.findIn K (.ref C) name = some none) (hv : mA name = some v) (hv' : PySem.W.handedIn v = true) (h : Q v { s with toks := s.toks + 1 }) :
 wpAny (model prog w) A (getAttr (.ref x) name expr) Q E s := by
 obtain ⟨od, J, hl⟩ := I.look
 exact PySem.W.get_value X J (PySem.W.plainGet_of hg).1 (PySem.W.findObj_own hh ha rfl (by rw [hl, hv])) hv' h

theorem get_meth {pl : Sem Bool} {Q : Value × List Value → Shared → Prop} (X : K.In s.heap) (I : ObjM s.heap x dx C mA) (hg : PySem.W.plainGet K C name = true)
 (hf : PySem.W.findIn K (.ref C) name = some (some (.ref f))) (ht : PySem.W.isFn K (.ref f) = true) (hv : mA name = none) (h : Q (.ref f, [.ref x]) s) :
 wpAny (model prog w) A (getMethod (.ref x) name pl) Q E s := by
 obtain ⟨od, J, hl⟩ := I.look
 exact PySem.W.method_fn X J (PySem.W.plainGet_of hg).1 (PySem.W.plainGet_of hg).2 hf (beq_iff_eq.mp ht) (by show (PySem.W.lookIn name od).map (·.isSome) = some false; rw [hl, hv]; rfl) h

theorem set_map {ns : List Str} {Q : Unit → Shared → Prop} (X : K.In s.heap) (I : ObjM s.heap x dx C mA)
 (hs : PySem.W.findIn K (.ref C) "__setattr__" = some (some (.builtin "object.__setattr__"))) (hp : PySem.W.plainOver K C = true) (ht : PySem.W.takerIn K C name = some none) (hh : PySem.W.hasDictIn K C = true)
 (hw : PySem.Within mA ns) (hsz : ns.length ≤ sizeLine)
 (h : ∀ h', ObjM h' x dx C (fun y => if y = name then some v else mA y) → Heap.SameBut dx s.heap h' → Q () { s with heap := h', toks := s.toks + 2 }) :
 wpAny (model prog w) A (setAttr (.ref x) name v) Q E s := by
 obtain ⟨od, J, hl⟩ := I.look
 refine PySem.W.set_plain X J hs (PySem.W.osa_open (s := { s with toks := s.toks + 1 }) (r := none) X J hp ht fun b => ?_)
 obtain ⟨cd, hc, hd'⟩ := PySem.W.any_some hh
 have hx : s.heap.get? x = some ⟨.ref C, some dx, .plain, #[]⟩ := I.obj
 refine wpAny_bind (wpAny_pure (wpAny_bind (wpAny_bind (wpAny_loadPart hx (wpAny_bind (PySem.W.Looks.here (s := { s with toks := s.toks + 1 }) (PySem.W.looks_clsIn X hc) ?_))))))
 rw [hd']
 refine wpAny_pure (a := some dx) (wpAny_bind (wpAny_pure (wpAny_bind ?_)))
 refine wpAny_nsSet1 (s := { s with toks := s.toks + 1 }) I.ns fun h' hn2 hs2 => ?_
 obtain ⟨oD, esD, epD, hoD, hdD, hcD⟩ := hn2.count (PySem.Within.cons name v hw)
 refine wpAny_bind (wpAny_lookBehind hoD (by rw [hdD]; exact pastItsLine_dict (Nat.le_trans hcD (by rw [List.length_cons]; omega))) ?_)
 exact wpAny_pure (h _ ⟨(hs2.2 _ (Ne.symm I.ne)).trans I.obj, hn2, I.ne⟩ hs2)

theorem make_map {R : Result → Shared → Prop} {vs : List Value} {kw : List (Str × Value)} (X : K.In s.heap) (hm : PySem.W.makesIn K C = true)
 (hi : PySem.W.findIn K (.ref C) "__init__" = some (some (.ref f))) (hf : PySem.W.typeIn K (.ref f) = some (.type "function"))
 (h : codeAny (model prog w) (A.under (.builtin "type.__call__" ⟨.ref C :: vs, kw⟩)) (.call (.ref f) ⟨.ref (s.heap.objs.size + 1) :: vs, kw⟩) (PySem.W.InitBack (s.heap.objs.size + 1) R)
  { s with heap := (s.heap.push PySem.W.emptyDict).push (PySem.W.instObj C s.heap.objs.size) }) :
 codeAny (model prog w) A (.call (.ref C) ⟨vs, kw⟩) R s := by
 obtain ⟨hh, g, d, t, os⟩ := s
 exact PySem.W.make_core (PySem.W.makes_of X hm) (PySem.W.looks_findIn X hi) (fun self => PySem.W.bind_fn X self hf) (.inl rfl) h
end

noncomputable def putF (f : Str) (v : V) : List (Str × V) → List (Str × V)
 | [] => [(f, v)]
 | (g, x) :: r => if g = f then (g, v) :: r else (g, x) :: putF f v r
theorem lookup_putF (f g : Str) (v : V) : ∀ fs : List (Str × V), (putF f v fs).lookup g = if g = f then some v else fs.lookup g
 | [] => by
   show List.lookup g [(f, v)] = _
   by_cases h : g = f
   · have hb : (g == f) = true := beq_iff_eq.mpr h
     simp only [List.lookup, hb, if_pos h]
   · have hb : (g == f) = false := beq_eq_false_iff_ne.mpr h
     simp only [List.lookup, hb, if_neg h]
 | (k, x) :: r => by
   have ih := lookup_putF f g v r
   rw [show putF f v ((k, x) :: r) = (if k = f then (k, v) :: r else (k, x) :: putF f v r) from rfl]
   by_cases hk : k = f
   · rw [if_pos hk]
     by_cases h : g = k
     · have hb : (g == k) = true := beq_iff_eq.mpr h
       simp only [List.lookup, hb, if_pos (h.trans hk)]
     · have hb : (g == k) = false := beq_eq_false_iff_ne.mpr h
       simp only [List.lookup, hb, if_neg (fun e : g = f => h (e.trans hk.symm))]
   · rw [if_neg hk]
     by_cases h : g = k
     · have hb : (g == k) = true := beq_iff_eq.mpr h
       simp only [List.lookup, hb, if_neg (fun e : g = f => hk (h.symm.trans e))]
     · have hb : (g == k) = false := beq_eq_false_iff_ne.mpr h
       simp only [List.lookup, hb]
       exact ih
theorem keys_putF (f : Str) (v : V) : ∀ fs : List (Str × V), f ∈ (putF f v fs).map (·.1) ∧ ∀ g, g ∈ fs.map (·.1) → g ∈ (putF f v fs).map (·.1)
 | [] => ⟨by simp [putF], fun g h => by simp at h⟩
 | (k, x) :: r => by
   obtain ⟨i1, i2⟩ := keys_putF f v r
   rw [show putF f v ((k, x) :: r) = (if k = f then (k, v) :: r else (k, x) :: putF f v r) from rfl]
   by_cases hk : k = f
   · rw [if_pos hk]
     subst hk
     exact ⟨by simp, fun g h => by simpa using h⟩
   · rw [if_neg hk]
     refine ⟨?_, fun g h => ?_⟩
     · rw [List.map_cons]
       exact List.mem_cons_of_mem _ i1
     · rw [List.map_cons] at h ⊢
       rcases List.mem_cons.mp h with e | e
       · exact List.mem_cons.mpr (.inl e)
       · exact List.mem_cons_of_mem _ (i2 g e)
theorem length_putF (f : Str) (v : V) : ∀ fs : List (Str × V), (putF f v fs).length ≤ fs.length + 1
 | [] => by simp [putF]
 | (k, x) :: r => by
   have ih := length_putF f v r
   rw [show putF f v ((k, x) :: r) = (if k = f then (k, v) :: r else (k, x) :: putF f v r) from rfl]
   by_cases hk : k = f
   · rw [if_pos hk, List.length_cons, List.length_cons]; omega
   · rw [if_neg hk, List.length_cons, List.length_cons]; omega

theorem RelO.some_of {v : V} {o : Option Value} (r : RelO (some v) o) : ∃ u, o = some u ∧ RelV v u := by
 cases o with
 | none => exact (show False from r).elim
 | some u => exact ⟨u, rfl, r⟩
theorem RelO.none_of {o : Option Value} (r : RelO none o) : o = none := by
 cases o with
 | none => rfl
 | some u => exact (show False from r).elim
theorem handed_of {v : V} {u : Value} (r : RelV v u) : PySem.W.handedIn u = true := by
 cases v with
 | non => cases (show u = Value.none from r); rfl
 | bl b => cases (show u = Value.bool b from r); rfl
 | int i => obtain ⟨t, e⟩ := (show ∃ t, u = Value.int i t from r); cases e; rfl
 | str x => obtain ⟨t, e⟩ := (show ∃ t, u = Value.str x t from r); cases e; rfl
 | byt b => obtain ⟨t, e⟩ := (show ∃ t, u = Value.bytes b t from r); cases e; rfl
 | flt b => obtain ⟨t, e⟩ := (show ∃ t, u = Value.float b t from r); cases e; rfl
 | ref a => cases (show u = Value.ref a from r); rfl
 | ty n => cases (show u = Value.type n from r); rfl

section
variable {P : Program} {w : World} {H H' : Hp} {h h' : Heap} {a C dx : Addr} {fs fs' : List (Str × V)}
theorem ins_get (hok : HOk P w H h) (e : H a = some (.ins C dx fs)) : ∃ mA, ObjM h a dx C mA ∧ (∀ f, RelO (fs.lookup f) (mA f)) ∧ PySem.Within mA (fs.map (·.1)) ∧ fs.length ≤ 1000 ∧ H dx = some (.own a) := by
 obtain ⟨d, z, ne, ob, mA, n, r, q⟩ := (show ObjOk P w H h a (.ins C dx fs) from hok a _ e)
 exact ⟨mA, ⟨ob, n, ne⟩, r, q, z, d⟩
end

structure Cls (K : PySem.W.Frag) (C : Addr) : Prop where
 pg : PySem.W.plainGet K C Str.empty = true
 hd : PySem.W.hasDictIn K C = true
 po : PySem.W.plainOver K C = true
 sa : PySem.W.findIn K (.ref C) "__setattr__" = some (some (.builtin "object.__setattr__"))
theorem Cls.get {K : PySem.W.Frag} {C : Addr} (c : Cls K C) (f : Str) : PySem.W.plainGet K C f = true := c.pg
noncomputable def NoAttr (K : PySem.W.Frag) (C : Addr) (f : Str) : Prop := PySem.W.findIn K (.ref C) f = some none
theorem NoAttr.taker {K : PySem.W.Frag} {C : Addr} {f : Str} (n : NoAttr K C f) : PySem.W.takerIn K C f = some none := by
 unfold PySem.W.takerIn
 rw [show PySem.W.findIn K (.ref C) f = some none from n]
 rfl
structure Meth (K : PySem.W.Frag) (C : Addr) (m : Str) (f : Addr) : Prop where
 at_ : PySem.W.findIn K (.ref C) m = some (some (.ref f))
 fn : PySem.W.isFn K (.ref f) = true
 kp : PySem.W.keepIn K (.ref f) = true

section
variable {X : Cx} {pins : List (Addr × Obj)} {σ : St} {H : Hp} {s : Shared} {a C dx : Addr} {fs : List (Str × V)} {f : Str} {v : V} {A : Around} {E : Value → Shared → Prop}

theorem getattr_ok {b : Bool} {Q : Value → Shared → Prop} (I : Inv X pins σ H s) (e : H a = some (.ins C dx fs)) (c : Cls X.K C) (n : NoAttr X.K C f) (l : fs.lookup f = some v)
 (h : ∀ u s', Inv X pins σ H s' → RelV v u → Q u s') : wpAny (model X.prog X.w) A (getAttr (.ref a) f b) Q E s := by
 obtain ⟨mA, O, r, _, _, _⟩ := ins_get I.hok e
 obtain ⟨u, hu, ru⟩ := RelO.some_of (v := v) (o := mA f) (by rw [← l]; exact r f)
 exact get_map I.kIn O (c.get f) c.hd n hu (handed_of ru) (h u _ (I.tok _) ru)

theorem getmeth_ok {m : Str} {g : Addr} {pl : Sem Bool} {Q : Value × List Value → Shared → Prop} (I : Inv X pins σ H s) (e : H a = some (.ins C dx fs)) (c : Cls X.K C) (k : Meth X.K C m g) (l : fs.lookup m = none)
 (h : Q (.ref g, [.ref a]) s) : wpAny (model X.prog X.w) A (getMethod (.ref a) m pl) Q E s := by
 obtain ⟨mA, O, r, _, _, _⟩ := ins_get I.hok e
 have hn : mA m = none := RelO.none_of (by rw [← l]; exact r m)
 exact get_meth I.kIn O (c.get m) k.at_ k.fn hn h

theorem setattr_ok {y : V} {u : Value} {Q : Unit → Shared → Prop} (I : Inv X pins σ H s) (e : H a = some (.ins C dx fs)) (c : Cls X.K C) (n : NoAttr X.K C f) (hl : fs.length < 1000) (ry : RelV y u)
 (h : ∀ s', Inv X pins σ (upd H a (.ins C dx (putF f y fs))) s' → Q () s') : wpAny (model X.prog X.w) A (setAttr (.ref a) f u) Q E s := by
 obtain ⟨mA, O, r, wi, _, ho⟩ := ins_get I.hok e
 have hz : (fs.map (·.1)).length ≤ sizeLine := by rw [List.length_map, sizeLine_eq]; omega
 refine set_map I.kIn O c.sa c.po n.taker c.hd wi hz fun h' O' sb => h _ ?_
 have hd : ∃ o, h'.get? dx = some o := let ⟨o, _, _, e', _⟩ := O'.ns; ⟨o, e'⟩
 refine I.write (x := a) (e := dx) (by rw [e]; exact True.intro) (.inr ho) (fun b q hb z => (sb.2 b hb).trans z) hd ?_
 refine ⟨by rw [upd_ne O.ne]; exact ho, ?_, O.ne, O'.obj, _, O'.ns, fun g => ?_, fun g hg => ?_⟩
 · have := length_putF f y fs; omega
 · show RelO ((putF f y fs).lookup g) (if g = f then some u else mA g)
   rw [lookup_putF]
   by_cases q : g = f
   · rw [if_pos q, if_pos q]; exact ry
   · rw [if_neg q, if_neg q]; exact r g
 · by_cases q : g = f
   · rw [q]; exact (keys_putF f y fs).1
   · refine (keys_putF f y fs).2 g (wi g fun z => hg ?_)
     show (if g = f then some u else mA g) = none
     rw [if_neg q]; exact z

theorem Inv.made (I : Inv X pins σ H s) : Inv X pins σ (upd (upd H s.heap.objs.size (.own (s.heap.objs.size + 1))) (s.heap.objs.size + 1) (.ins C s.heap.objs.size []))
 { s with heap := (s.heap.push PySem.W.emptyDict).push (PySem.W.instObj C s.heap.objs.size) } := by
 have e1 : (s.heap.push PySem.W.emptyDict).get? s.heap.objs.size = some PySem.W.emptyDict := Heap.get?_push_size s.heap rfl
 have e2 : ((s.heap.push PySem.W.emptyDict).push (PySem.W.instObj C s.heap.objs.size)).get? (s.heap.objs.size + 1) = some (PySem.W.instObj C s.heap.objs.size) := by
  have := Heap.get?_push_size (s.heap.push PySem.W.emptyDict) (o := PySem.W.instObj C s.heap.objs.size) rfl
  rwa [Heap.size_push] at this
 have e3 : (s.heap.push PySem.W.emptyDict).Ns s.heap.objs.size (fun _ => none) := ⟨PySem.W.emptyDict, #[], _, e1, rfl, (fun e he => absurd he (by simp)), fun _ => rfl⟩
 have I1 := I.laid (a := s.heap.objs.size) (o := .own (s.heap.objs.size + 1)) (h' := s.heap.push PySem.W.emptyDict) (t' := s.toks) (fun b u q => Heap.get?_push_of_some _ q) (Nat.le_refl _) ⟨_, e1⟩
 refine I1.laid (a := s.heap.objs.size + 1) (o := .ins C s.heap.objs.size []) (t' := s.toks) (fun b u q => Heap.get?_push_of_some _ q) (Nat.le_of_eq (Heap.size_push _ _)) ?_
 have ne : s.heap.objs.size ≠ s.heap.objs.size + 1 := Nat.ne_of_lt (Nat.lt_succ_self _)
 refine ⟨by rw [upd_ne ne, upd_same], Nat.zero_le _, ne, e2, fun _ => none, (Heap.Ns1.of_empty e3).at fun o q => Heap.get?_push_of_some _ q, fun _ => True.intro, fun y hy => absurd rfl hy⟩

theorem attr_of {prog : Program} {w : World} {env : Env} {e : Expr} {f : Str} {pos : Pos} {s : Shared} {Q : Value → Shared → Prop} (hb : attributeBase e f env (eval e env) = eval e env)
 (h : wpAny (model prog w) A (eval e env) (fun o s₁ => wpAny (model prog w) A (getAttr o f true) Q E s₁) E s) : wpAny (model prog w) A (eval (.Attribute e f pos) env) Q E s :=
 Attribute_any_ h (by rw [arm_eval_Attribute, hb])
end

noncomputable def tFld (K : PySem.W.Frag) (ta : TE) (f : Str) : TE := fun σ H Q => ta σ H fun x H1 => ∃ a C dx fs v, x = .ref a ∧ H1 a = some (.ins C dx fs) ∧ Cls K C ∧ NoAttr K C f ∧ fs.lookup f = some v ∧ Q v H1
noncomputable def sFld (K : PySem.W.Frag) (ta tv : TE) (f : Str) : TS := fun D σ H => tv σ H fun y H1 => ta σ H1 fun x H2 => ∃ a C dx fs, x = .ref a ∧ H2 a = some (.ins C dx fs) ∧ Cls K C ∧ NoAttr K C f ∧ fs.length < 1000 ∧
 D.nx σ (upd H2 a (.ins C dx (putF f y fs)))
section
variable {X : Cx} {o e value : Expr} {f : Str} {pos pos' tpos : Pos} {ta tv : TE}
theorem pe_fld (he : PE X e ta) (hb : attributeBase e f X.env (eval e X.env) = eval e X.env) : PE X (.Attribute e f pos) (tFld X.K ta f) := by
 intro pins s σ H Q I h
 refine attr_of hb (thn (he pins s σ H _ I h) fun u s1 ⟨x, H1, I1, rx, a, C, dx, fs, v, ex, ea, c, n, l, q⟩ => ?_)
 subst ex
 obtain rfl : u = Value.ref a := rx
 exact getattr_ok I1 ea c n l fun u' s2 I2 ru => ⟨v, H1, I2, ru, q⟩
theorem ps_fld (ha : PE X o ta) (hv : PE X value tv) (hs : swapsWith value (some (.Attribute o f pos')) pos.line X.env = pure false) : PS X (.Assign [.Attribute o f pos'] value pos) (sFld X.K ta tv f) := by
 intro pins s σ H D I h
 refine plainObj_wpAny_Assign_Attribute (thn (hv pins s σ H _ I h) fun u s1 ⟨y, H1, I1, ry, q⟩ => thn (ha pins s1 σ H1 _ I1 q) fun ov s2 ⟨x, H2, I2, rx, a, C, dx, fs, ex, ea, c, n, l, q2⟩ => ?_) hs
 subst ex
 obtain rfl : ov = Value.ref a := rx
 exact setattr_ok I2 ea c n l ry fun s3 I3 => ⟨σ, _, I3, q2⟩
end

section
variable {X : Cx} {pins : List (Addr × Obj)} {σ : St} {H : Hp} {s : Shared} {A : Around} {E : Value → Shared → Prop} {Q : Value → Shared → Prop} {c : Value} {b : Bool}
inductive TyOf (K : PySem.W.Frag) (H : Hp) : V → Value → Prop where
 | non : TyOf K H .non (.type "NoneType")
 | bl (x : Bool) : TyOf K H (.bl x) (.type "bool")
 | int (i : Int) : TyOf K H (.int i) (.type "int")
 | str (x : Str) : TyOf K H (.str x) (.type "str")
 | flt (x : UInt64) : TyOf K H (.flt x) (.type "float")
 | lst {a : Addr} {xs : List V} (e : H a = some (.lst xs)) : TyOf K H (.ref a) (.type "list")
 | frz {a : Addr} {o : Obj} {xs : List V} (e : H a = some (.frz o (.lst xs))) : TyOf K H (.ref a) (.type "list")
 | tup {a : Addr} {xs : List V} (e : H a = some (.tup xs)) : TyOf K H (.ref a) (.type "tuple")
 | dK {a : Addr} {kvs : List (Key × V)} (e : H a = some (.dK kvs)) : TyOf K H (.ref a) (.type "dict")
 | dT {a : Addr} {kvs : List (List Key × V)} (e : H a = some (.dT kvs)) : TyOf K H (.ref a) (.type "dict")
 | ins {a C dx : Addr} {fs : List (Str × V)} (e : H a = some (.ins C dx fs)) (cl : Cls K C) (ha : PySem.W.findIn K (.ref C) "__class__" = some (some (.builtin "object.__class__")))
  (hn : PySem.W.specialIn K (.builtin "object.__class__") "__get__" = some (some (.builtin "getset_descriptor.__get__"))) (htk : PySem.W.takesIn K (.builtin "object.__class__") = some true)
  (hm : PySem.W.mroIn K C (.type "object") = some true) : TyOf K H (.ref a) (.ref C)
theorem isinst_ok {x : V} {u t : Value} (I : Inv X pins σ H s) (rx : RelV x u) (ty : TyOf X.K H x t) (e : PySem.W.kitOne X.K t c = some b) (h : ∀ tk, Q (.bool b) { s with toks := tk }) :
 wpAny (model X.prog X.w) A (call (.builtin "isinstance") [u, c]) Q E s := by
 cases ty with
 | non => cases (show u = Value.none from rx); exact PySem.W.kia_one PySem.W.kitx_none I.kIn True.intro e (fun z => nomatch z) h
 | bl y => cases (show u = Value.bool y from rx); exact PySem.W.kia_one PySem.W.kitx_bool I.kIn True.intro e (fun z => nomatch z) h
 | int i => obtain ⟨t, q⟩ := (show ∃ t, u = Value.int i t from rx); cases q; exact PySem.W.kia_one PySem.W.kitx_int I.kIn True.intro e (fun z => nomatch z) h
 | str y => obtain ⟨t, q⟩ := (show ∃ t, u = Value.str y t from rx); cases q; exact PySem.W.kia_one PySem.W.kitx_str I.kIn True.intro e (fun z => nomatch z) h
 | flt y => obtain ⟨t, q⟩ := (show ∃ t, u = Value.float y t from rx); cases q; exact PySem.W.kia_one PySem.W.kitx_float I.kIn True.intro e (fun z => nomatch z) h
 | @lst a xs ea =>
   cases (show u = Value.ref a from rx)
   obtain ⟨_, _, n, _, h1⟩ := (show ObjOk X.prog X.w H s.heap a (.lst xs) from I.hok a _ ea)
   exact PySem.W.kia_one PySem.W.kitx_list I.kIn ⟨_, h1, rfl⟩ e (fun z => nomatch z) h
 | @frz a ob xs ea =>
   cases (show u = Value.ref a from rx)
   obtain ⟨_, _, _, n, _, h1⟩ := (show ObjOk X.prog X.w H s.heap a (.frz ob (.lst xs)) from I.hok a _ ea)
   exact PySem.W.kia_one PySem.W.kitx_list I.kIn ⟨_, h1, rfl⟩ e (fun z => nomatch z) h
 | @tup a xs ea =>
   cases (show u = Value.ref a from rx)
   obtain ⟨_, _, _, p⟩ := (show ObjOk X.prog X.w H s.heap a (.tup xs) from I.hok a _ ea)
   obtain ⟨o, h1, h2, _⟩ := p.tup
   exact PySem.W.kia_one PySem.W.kitx_tuple I.kIn ⟨o, h1, h2⟩ e (fun z => nomatch z) h
 | @dK a kvs ea =>
   cases (show u = Value.ref a from rx)
   obtain ⟨_, _, vs, _, p⟩ := (show ObjOk X.prog X.w H s.heap a (.dK kvs) from I.hok a _ ea)
   obtain ⟨o, es, ep, h1, h2, _⟩ := p
   exact PySem.W.kia_one PySem.W.kitx_dict I.kIn ⟨o, h1, h2.1⟩ e (fun z => nomatch z) h
 | @dT a kvs ea =>
   cases (show u = Value.ref a from rx)
   obtain ⟨_, _, xs, _, o, es, ep, h1, h2, _⟩ := (show ObjOk X.prog X.w H s.heap a (.dT kvs) from I.hok a _ ea)
   exact PySem.W.kia_one PySem.W.kitx_dict I.kIn ⟨o, h1, h2.1⟩ e (fun z => nomatch z) h
 | @ins a C dx fs ea cl ha hn htk hm =>
   cases (show u = Value.ref a from rx)
   obtain ⟨mA, O, _⟩ := ins_get I.hok ea
   obtain ⟨od, J, _⟩ := O.look
   exact PySem.W.kia_one (PySem.W.kitx_own (cl.get _) cl.hd ha hn htk hm) I.kIn J e (fun z => nomatch z) h
end
end L2

namespace L2
open PySem PySem.Spec PyProof.Rows

structure Room (k : Nat) (A : Around) : Prop where
 hd : A.handled = none
 dp : A.depth + 3 * k + 5 < recursionLimit
 un : A.units + 16 * k + 200 < cLine
 gd : A.guards = some []
theorem Room.mono {j k : Nat} {A : Around} (r : Room k A) (h : j ≤ k) : Room j A := ⟨r.hd, by have := r.dp; omega, by have := r.un; omega, r.gd⟩
theorem Room.deeper {k : Nat} {A : Around} (r : Room (k + 1) A) (env : Env) : Room k (A.deeper env) :=
 ⟨r.hd, by have := r.dp; show A.depth + 1 + 3 * k + 5 < _; omega, by have := r.un; show A.units + 3 + 16 * k + 200 < _; omega, r.gd⟩
theorem Room.in1 {k : Nat} {A : Around} (r : Room (k + 1) A) : Room k A.in1 :=
 ⟨r.hd, by have := r.dp; show A.depth + 3 * k + 5 < _; omega, by have := r.un; show A.units + 1 + 16 * k + 200 < _; omega, r.gd⟩
theorem make_depth {A : Around} {C : Addr} {us : List Value} {kw : List (Str × Value)} : (A.under (.builtin "type.__call__" ⟨.ref C :: us, kw⟩)).depth = A.depth + 1 := by
 first | rfl | simp [Around.under, Code.weight, Code.isCreation, Code.isGuard, Code.isCaller, Code.frames, Code.isFrame, guardIds]
theorem make_units {A : Around} {C : Addr} {us : List Value} {kw : List (Str × Value)} : (A.under (.builtin "type.__call__" ⟨.ref C :: us, kw⟩)).units = A.units + 1 := by
 first | rfl | simp [Around.under, Code.cUnits, Code.frames, Code.isFrame]
theorem make_guards {A : Around} {C : Addr} {us : List Value} {kw : List (Str × Value)} : (A.under (.builtin "type.__call__" ⟨.ref C :: us, kw⟩)).guards = A.guards := by
 cases h : A.guards <;> first | rfl | simp [Around.under, Code.guards, Code.isGuard, guardIds, pushGuards, h]
theorem Room.make {k : Nat} {A : Around} (r : Room (k + 1) A) (C : Addr) (us : List Value) (kw : List (Str × Value)) : Room k (A.under (.builtin "type.__call__" ⟨.ref C :: us, kw⟩)) :=
 ⟨r.hd, by have := r.dp; rw [make_depth]; omega, by have := r.un; rw [make_units]; omega, by rw [make_guards]; exact r.gd⟩
theorem Room.depth {k : Nat} {A : Around} (r : Room k A) : A.depth < recursionLimit := by have := r.dp; omega
theorem Room.units {k : Nat} {A : Around} (r : Room k A) : A.units + 64 < cLine := by have := r.un; omega
noncomputable def tNil : TA := fun _ H Q => Q [] H
noncomputable def tCons (ta : TE) (tr : TA) : TA := fun σ H Q => ta σ H fun x H1 => tr σ H1 fun xs H2 => Q (x :: xs) H2
section
variable {X : Cx} {e : Expr} {es : List Expr} {te : TE} {t : TA} {pos : Pos}
theorem pa_nil : PA X [] tNil := fun _ _ _ _ H Q I h => Calls.spliced_nil ⟨[], H, I, .nil, h⟩
theorem pa_cons (ha : PE X e te) (hr : PA X es t) (hs : starEach (e :: es) X.env = (false, eval e X.env) :: starEach es X.env := by rfl) : PA X (e :: es) (tCons te t) := by
 intro pos pins s σ H Q I h
 rw [hs]
 show wpAny _ _ (spliced ((false, eval e X.env) :: backTo pos (starEach es X.env))) _ _ s
 refine Calls.spliced_cons (thn (ha pins s σ H _ I h) fun u s1 ⟨x, H1, I1, r1, q1⟩ => ?_)
 exact thn (hr pos pins s1 σ H1 _ I1 q1) fun us s2 ⟨xs, H2, I2, r2, q2⟩ => ⟨x :: xs, H2, I2, .cons r1 r2, q2⟩

noncomputable def tTup (t : TA) : TE := fun σ H Q => t σ H fun xs H1 => xs.length ≤ sizeLine ∧ ∀ p, H1 p = none → Q (.ref p) (upd H1 p (.tup xs))
theorem pe_tup {x1} (h : PA X es t) : PE X (.Tuple es x1 pos) (tTup t) := by
 intro pins s σ H Q I hq
 refine wpAny_Tuple_spliced (thn (h pos pins s σ H _ I hq) fun us s1 ⟨xs, H1, I1, r, z, q⟩ => ⟨by rw [← r.length]; exact z, ?_⟩)
 have hf : H1 s1.heap.objs.size = none := I1.hok.fresh (Nat.le_refl _)
 refine ⟨.ref s1.heap.objs.size, upd H1 s1.heap.objs.size (.tup xs), I1.laid (t' := s1.toks) (fun b u e => Heap.get?_push_of_some _ e) (Nat.le_refl _) ?_, rfl, q _ hf⟩
 exact ⟨z, us, r, ⟨_, Heap.get?_push_size _ rfl, rfl, _, rfl⟩⟩
end

noncomputable abbrev Sp := List V → Hp → VK → XK → Prop
noncomputable abbrev CXT := List Env → Hp → Shared → XK → Value → Shared → Prop

structure Env0 (P : Program) (w : World) (K : PySem.W.Frag) (mg : Str → Option Value) (base : Heap) (A : Around) (outer : List Env) (s : Shared) (H : Hp) : Prop where
 frames : A.frames = some outer
 mod : Mod K mg base
 bs : ∀ b o, base.get? b = some o → s.heap.get? b = some o ∧ H b = none
 bsz : base.objs.size ≤ s.heap.objs.size
 funs : s.heap.FunFrames base outer
 frf : ∀ b ∈ frs outer, H b = none
 hok : HOk P w H s.heap
 bare : AllBare s.gens
noncomputable def CE (outer : List Env) (P : Program) (w : World) (H : Hp) (s : Shared) (Q : VK) (u : Value) (s' : Shared) : Prop :=
 ∃ v H', s'.os = s.os ∧ AllBare s'.gens ∧ Un (frs outer) [] H H' s.heap s'.heap ∧ HOk P w H' s'.heap ∧ RelV v u ∧ Q v H'
noncomputable def CR (CX : CXT) (outer : List Env) (P : Program) (w : World) (H : Hp) (s : Shared) (Q : VK) (E : XK) (r : Result) (s' : Shared) : Prop :=
 match r with
 | .ok (.ret u) => CE outer P w H s Q u s'
 | .ok _ => False
 | .error e => CX outer H s E e s'
structure FnOk (P : Program) (w : World) (K : PySem.W.Frag) (mg : Str → Option Value) (base : Heap) (CX : CXT) (k : Nat) (f : Addr) (fd : FuncData) (ps : List Str) (sp : Sp) : Prop where
 len : ∀ vs H Q E, sp vs H Q E → vs.length = ps.length
 run : ∀ (A : Around) (outer : List Env) (s : Shared) (H : Hp) (args : Args) (us : List Value) (vs : List V) (Q : VK) (E : XK), Room k A → Env0 P w K mg base A outer s H → BindsTo s fd args (ps.zip us) → Vals vs us → sp vs H Q E →
  codeAny (model P w) A (.call (.ref f) args) (CR CX outer P w H s Q E) s
theorem FnOk.imp {P : Program} {w : World} {K : PySem.W.Frag} {mg : Str → Option Value} {base : Heap} {CX : CXT} {k : Nat} {f : Addr} {fd : FuncData} {ps : List Str} {sp sp' : Sp} (F : FnOk P w K mg base CX k f fd ps sp)
 (h : ∀ vs H Q E, sp' vs H Q E → sp vs H Q E) : FnOk P w K mg base CX k f fd ps sp' :=
 ⟨fun vs H Q E q => F.len vs H Q E (h _ _ _ _ q), fun A outer s H args us vs Q E hr he hb hv hs => F.run A outer s H args us vs Q E hr he hb hv (h _ _ _ _ hs)⟩

theorem Env0.make {P : Program} {w : World} {K : PySem.W.Frag} {mg : Str → Option Value} {base : Heap} {A : Around} {outer : List Env} {s : Shared} {H : Hp} (e : Env0 P w K mg base A outer s H) (C : Addr) (us : List Value) (kw : List (Str × Value)) :
 Env0 P w K mg base (A.under (.builtin "type.__call__" ⟨.ref C :: us, kw⟩)) outer s H := ⟨by first | exact e.frames | (simpa [Around.under, Code.envs, Code.isFrame, pushEnvs] using e.frames), e.mod, e.bs, e.bsz, e.funs, e.frf, e.hok, e.bare⟩
section
variable {X : Cx} {pins : List (Addr × Obj)} {σ : St} {H : Hp} {s s' : Shared}
theorem Inv.env0 (I : Inv X pins σ H s) : Env0 X.prog X.w X.K X.mg X.base X.A X.stack s H :=
 ⟨I.ok.frames, I.ok.mod, I.bs, Nat.le_trans I.ok.bsz I.sz, I.stack, I.stkFree, I.hok, I.bare⟩
theorem Inv.after {Q : VK} {u : Value} (I : Inv X pins σ H s) (h : CE X.stack X.prog X.w H s Q u s') : EP X pins σ Q u s' := by
 obtain ⟨v, H', os, bare, un, hok, r, q⟩ := h
 obtain ⟨hh, g, d, t, os'⟩ := s'
 obtain rfl : os' = s.os := os
 exact ⟨v, H', I.call (h' := hh) (g' := g) (d' := d) (t' := t) (ch := []) un hok bare (fun b z => absurd z (by simp)), r, q⟩
end

noncomputable def tCall (sp : Sp) (dvs : List V) (E : XK) (t : TA) : TE := fun σ H Q => t σ H fun vs H1 => sp (vs ++ dvs) H1 Q E
noncomputable def tMeth (C : Addr) (m : Str) (sp : Sp) (dvs : List V) (E : XK) (ta : TE) (t : TA) : TE := fun σ H Q => ta σ H fun x H1 => ∃ a dx fs, x = .ref a ∧ H1 a = some (.ins C dx fs) ∧ fs.lookup m = none ∧
 t σ H1 fun vs H2 => sp (x :: (vs ++ dvs)) H2 Q E
noncomputable def tMake (C : Addr) (sp : Sp) (dvs : List V) (E : XK) (t : TA) : TE := fun σ H Q => t σ H fun vs H1 => ∀ x dx, H1 x = none → H1 dx = none → dx ≠ x →
 sp (.ref x :: (vs ++ dvs)) (upd (upd H1 dx (.own x)) x (.ins C dx [])) (fun v H2 => v = .non ∧ Q (.ref x) H2) E

noncomputable def Binds (K : PySem.W.Frag) (fd : FuncData) (ps : List Str) (ds : List Value) : Prop :=
 ∀ (s : Shared) (us : List Value), K.In s.heap → (us ++ ds).length = ps.length → BindsTo s fd ⟨us, []⟩ (ps.zip (us ++ ds))
theorem Binds.all {K : PySem.W.Frag} {fd : FuncData} {ps : List Str} (h : ∀ us : List Value, us.length = ps.length → bindArgs fd ⟨us, []⟩ = pure (ps.zip us)) : Binds K fd ps [] := fun s us _ hl => by
 rw [List.append_nil] at hl ⊢
 exact .of_eq (h us hl)

noncomputable def Passes (CX : CXT) (X : Cx) (E : XK) : Prop := ∀ (pins : List (Addr × Obj)) (σ : St) (H : Hp) (s : Shared) (e : Value) (s' : Shared), Inv X pins σ H s → CX X.stack H s E e s' → X.xe e s'

section
variable {X : Cx} {CX : CXT} {k : Nat} {f C : Addr} {fd : FuncData} {ps : List Str} {sp : Sp} {dvs : List V} {ds : List Value} {E : XK} {x m : Str} {p pos apos : Pos} {e o : Expr} {es : List Expr} {ta : TE} {t : TA}

theorem run_fn {pins : List (Addr × Obj)} {σ : St} {H : Hp} {s : Shared} {Q : VK} {us : List Value} {vs : List V} (F : FnOk X.prog X.w X.K X.mg X.base CX k f fd ps sp) (hr : Room k X.A) (hb : Binds X.K fd ps ds) (hd : Vals dvs ds) (hx : Passes CX X E)
 (I : Inv X pins σ H s) (r : Vals vs us) (h : sp (vs ++ dvs) H Q E) : wpAny (model X.prog X.w) X.A (call (.ref f) us) (EP X pins σ Q) X.xe s := by
 have r2 : Vals (vs ++ dvs) (us ++ ds) := r.append hd
 have hl : (us ++ ds).length = ps.length := by rw [← r2.length]; exact F.len _ _ _ _ h
 refine wpAny_call (codeAny_mono (F.run X.A X.stack s H ⟨us, []⟩ (us ++ ds) (vs ++ dvs) Q E hr I.env0 (hb s us I.kIn hl) r2 h) fun r s' hq => ?_)
 cases r with
 | error e => exact hx pins σ H s e s' I hq
 | ok fl =>
   cases fl with
   | ret u => exact I.after hq
   | next => exact False.elim hq
   | brk => exact False.elim hq
   | cont => exact False.elim hq

theorem pe_call (F : FnOk X.prog X.w X.K X.mg X.base CX k f fd ps sp) (hr : Room k X.A) (hg : Gl X x) (hm : X.mg x = some (.ref f)) (hk : PySem.W.keepIn X.K (.ref f) = true) (hb : Binds X.K fd ps ds) (hd : Vals dvs ds) (hx : Passes CX X E)
 (ha : PA X (e :: es) t) (hdb : (x == ("__debug__" : Str)) = false := by decide) (he : starEach (e :: es) X.env = (false, eval e X.env) :: starEach es X.env := by rfl) (hpl : (backTo pos (starEach es X.env)).any (·.1) = false := by rfl) :
 PE X (.Call (.Name x p) (e :: es) [] pos) (tCall sp dvs E t) := by
 intro pins s σ H Q I h
 refine wpAny_Call_Name_kw (ld_glob I hg hm ?_ hdb)
 refine PySem.W.callWith_K (h₀ := X.base) I.ok.mod.kin hk (thn (ha pos pins s σ H _ I h) fun us s1 ⟨vs, H1, I1, r, q⟩ => ⟨I1.kIn, ?_⟩) he hpl
 exact run_fn F hr hb hd hx I1 r q
theorem pe_meth {pl : Sem Bool} (he : PE X o ta) (c : Cls X.K C) (hm : Meth X.K C m f) (F : FnOk X.prog X.w X.K X.mg X.base CX k f fd ps sp) (hr : Room k X.A) (hb : Binds X.K fd ps ds) (hd : Vals dvs ds) (hx : Passes CX X E) (ha : PA X (e :: es) t)
 (hst : starEach (e :: es) X.env = (false, eval e X.env) :: starEach es X.env := by rfl) (hpl : (backTo pos (starEach es X.env)).any (·.1) = false := by rfl)
 (ht : eval (.Call (.Attribute o m apos) (e :: es) [] pos) X.env = (do
  let ov ← eval o X.env
  standAt apos.atName
  let (f, first) ← holding [ov] (getMethod ov m pl)
  callWith pos f first (backTo pos (starEach (e :: es) X.env)) (backToKw pos (keywordEach [] X.env))) := by rfl) :
 PE X (.Call (.Attribute o m apos) (e :: es) [] pos) (tMeth C m sp dvs E ta t) := by
 intro pins s σ H Q I h
 refine PySem.W.methodCall_KW (pl := pl) (thn (he pins s σ H _ I h) fun u s1 ⟨x, H1, I1, rx, a, dx, fs, ex, ea, l, q⟩ => ?_) ht
 subst ex
 obtain rfl : u = Value.ref a := rx
 refine getmeth_ok I1 ea c hm l ?_
 refine PySem.W.callWith_K (first := [.ref a]) (h₀ := X.base) I.ok.mod.kin hm.kp (thn (ha pos pins s1 σ H1 _ I1 q) fun us s2 ⟨vs, H2, I2, r, q2⟩ => ⟨I2.kIn, ?_⟩) hst hpl
 exact run_fn (us := .ref a :: us) (vs := .ref a :: vs) F hr hb hd hx I2 (.cons rfl r) q2
theorem pe_meth0 {pl : Sem Bool} (he : PE X o ta) (c : Cls X.K C) (hm : Meth X.K C m f) (F : FnOk X.prog X.w X.K X.mg X.base CX k f fd ps sp) (hr : Room k X.A) (hb : Binds X.K fd ps ds) (hd : Vals dvs ds) (hx : Passes CX X E)
 (ht : eval (.Call (.Attribute o m apos) [] [] pos) X.env = (do
  let ov ← eval o X.env
  standAt apos.atName
  let (f, first) ← holding [ov] (getMethod ov m pl)
  callWith pos f first (backTo pos (starEach [] X.env)) (backToKw pos (keywordEach [] X.env))) := by rfl) :
 PE X (.Call (.Attribute o m apos) [] [] pos) (tMeth C m sp dvs E ta tNil) := by
 intro pins s σ H Q I h
 refine PySem.W.methodCall_KW (pl := pl) (thn (he pins s σ H _ I h) fun u s1 ⟨x, H1, I1, rx, a, dx, fs, ex, ea, l, q⟩ => ?_) ht
 subst ex
 obtain rfl : u = Value.ref a := rx
 refine getmeth_ok I1 ea c hm l ?_
 exact PySem.W.callWith_K0 (first := [.ref a]) I1.kIn hm.kp (run_fn (us := [.ref a]) (vs := [.ref a]) F hr hb hd hx I1 (.cons rfl .nil) q)

structure Mk (K : PySem.W.Frag) (C f : Addr) : Prop where
 makes : PySem.W.makesIn K C = true
 init : PySem.W.findIn K (.ref C) "__init__" = some (some (.ref f))
 fn : PySem.W.isFn K (.ref f) = true
 kp : PySem.W.keepIn K (.ref C) = true

theorem run_make {pins : List (Addr × Obj)} {σ : St} {H : Hp} {s : Shared} {Q : VK} {us : List Value} {vs : List V} (M : Mk X.K C f) (F : FnOk X.prog X.w X.K X.mg X.base CX k f fd ps sp) (hr : Room (k + 1) X.A) (hb : Binds X.K fd ps ds) (hd : Vals dvs ds)
 (hx : Passes CX X E) (I : Inv X pins σ H s) (r : Vals vs us)
 (h : ∀ x dx, H x = none → H dx = none → dx ≠ x → sp (.ref x :: (vs ++ dvs)) (upd (upd H dx (.own x)) x (.ins C dx [])) (fun v H2 => v = .non ∧ Q (.ref x) H2) E) :
 wpAny (model X.prog X.w) X.A (call (.ref C) us) (EP X pins σ Q) X.xe s := by
 have hq := h (s.heap.objs.size + 1) s.heap.objs.size (I.hok.fresh (Nat.le_succ _)) (I.hok.fresh (Nat.le_refl _)) (Nat.ne_of_lt (Nat.lt_succ_self _))
 have I2 := Inv.made (C := C) I
 have r2 : Vals (V.ref (s.heap.objs.size + 1) :: (vs ++ dvs)) (Value.ref (s.heap.objs.size + 1) :: (us ++ ds)) := .cons rfl (r.append hd)
 have hl : (Value.ref (s.heap.objs.size + 1) :: us ++ ds).length = ps.length := by
  have e := r2.length
  rw [F.len _ _ _ _ hq] at e
  exact e.symm
 refine wpAny_call (make_map (f := f) I.kIn M.makes M.init (beq_iff_eq.mp M.fn) (codeAny_mono (F.run _ X.stack _ _ ⟨Value.ref (s.heap.objs.size + 1) :: us, []⟩ (Value.ref (s.heap.objs.size + 1) :: (us ++ ds)) _ _ E (hr.make C us [])
  (I2.env0.make C us []) (hb _ (Value.ref (s.heap.objs.size + 1) :: us) I2.kIn hl) r2 hq) fun r s' hq' => ?_))
 cases r with
 | error e => exact hx pins σ _ _ e s' I2 hq'
 | ok fl =>
   cases fl with
   | ret u =>
     obtain ⟨v, H', I3, rv, ev, q3⟩ := I2.after hq'
     subst ev
     exact ⟨rv, ⟨V.ref (s.heap.objs.size + 1), H', I3, rfl, q3⟩⟩
   | next => exact False.elim hq'
   | brk => exact False.elim hq'
   | cont => exact False.elim hq'
theorem pe_make (M : Mk X.K C f) (F : FnOk X.prog X.w X.K X.mg X.base CX k f fd ps sp) (hr : Room (k + 1) X.A) (hg : Gl X x) (hm : X.mg x = some (.ref C)) (hb : Binds X.K fd ps ds) (hd : Vals dvs ds) (hx : Passes CX X E)
 (ha : PA X (e :: es) t) (hdb : (x == ("__debug__" : Str)) = false := by decide) (he : starEach (e :: es) X.env = (false, eval e X.env) :: starEach es X.env := by rfl) (hpl : (backTo pos (starEach es X.env)).any (·.1) = false := by rfl) :
 PE X (.Call (.Name x p) (e :: es) [] pos) (tMake C sp dvs E t) := by
 intro pins s σ H Q I h
 refine wpAny_Call_Name_kw (ld_glob I hg hm ?_ hdb)
 refine PySem.W.callWith_K (h₀ := X.base) I.ok.mod.kin M.kp (thn (ha pos pins s σ H _ I h) fun us s1 ⟨vs, H1, I1, r, q⟩ => ⟨I1.kIn, ?_⟩) he hpl
 exact run_make M F hr hb hd hx I1 r q
end

section
variable {X : Cx} {CX : CXT} {k : Nat} {f C : Addr} {fd : FuncData} {ps ks : List Str} {sp : Sp} {E : XK} {x m : Str} {p pos apos kpos : Pos} {e o : Expr} {es : List Expr} {kws : List Keyword} {te ta : TE} {t tk : TA} {nm : Option Str}
variable {g : List Value → List Value → List Value} {gV : List V → List V → List V}
end

structure FnScope (N P : List Str) (sc : Scope) : Prop where
 kind : sc.kind = .function
 co : sc.isCoroutine = false
 gen : sc.isGenerator = false
 nd : N.Nodup
 pre : N.take P.length = P
 par : ∀ x ∈ P, sc.names.lookup x = some .local ∨ sc.names.lookup x = some .cell
 nofree : ∀ y ∈ sc.names, y.2 ≠ .free

theorem bindL_out {kindOf : Str → Option NameKind} {x : Str} : ∀ {binds : List (Str × Value)} {m : Str → Option Value}, (∀ v, (x, v) ∉ binds) → bindL kindOf binds m x = m x
 | [], _, _ => rfl
 | (n, v) :: r, m, h => by
   unfold bindL
   rw [bindL_out fun w hw => h w (List.mem_cons_of_mem _ hw)]
   split
   · have : x ≠ n := by rintro rfl; exact h v List.mem_cons_self
     simp [this]
   · rfl
theorem bindC_out {kindOf : Str → Option NameKind} {x : Str} : ∀ {binds : List (Str × Value)} {m : Str → Option Value}, (∀ v, (x, v) ∉ binds) → bindC kindOf binds m x = m x
 | [], _, _ => rfl
 | (n, v) :: r, m, h => by
   unfold bindC
   rw [bindC_out fun w hw => h w (List.mem_cons_of_mem _ hw)]
   split
   · rfl
   · have : x ≠ n := by rintro rfl; exact h v List.mem_cons_self
     simp [this]
theorem bindL_get {kindOf : Str → Option NameKind} {x : Str} {v : Value} : ∀ {P : List Str} {vs : List Value} {i : Nat} {m : Str → Option Value}, P.Nodup → P[i]? = some x → vs[i]? = some v → kindOf x = some .local →
 bindL kindOf (P.zip vs) m x = some v
 | [], _, _, _, _, h, _, _ => by simp at h
 | _ :: _, [], _, _, _, _, h, _ => by simp at h
 | p :: P, w :: vs, 0, m, nd, h1, h2, hk => by
   simp at h1 h2; subst h1; subst h2
   show bindL kindOf ((p, w) :: P.zip vs) m p = _
   unfold bindL
   rw [bindL_out fun v hv => (List.nodup_cons.mp nd).1 (List.of_mem_zip hv).1, if_pos hk]
   simp
 | p :: P, w :: vs, i + 1, m, nd, h1, h2, hk => by
   show bindL kindOf ((p, w) :: P.zip vs) m x = _
   unfold bindL
   exact bindL_get (i := i) (List.nodup_cons.mp nd).2 (by simpa using h1) (by simpa using h2) hk
theorem bindC_get {kindOf : Str → Option NameKind} {x : Str} {v : Value} : ∀ {P : List Str} {vs : List Value} {i : Nat} {m : Str → Option Value}, P.Nodup → P[i]? = some x → vs[i]? = some v → kindOf x ≠ some .local →
 bindC kindOf (P.zip vs) m x = some v
 | [], _, _, _, _, h, _, _ => by simp at h
 | _ :: _, [], _, _, _, _, h, _ => by simp at h
 | p :: P, w :: vs, 0, m, nd, h1, h2, hk => by
   simp at h1 h2; subst h1; subst h2
   show bindC kindOf ((p, w) :: P.zip vs) m p = _
   unfold bindC
   rw [bindC_out fun v hv => (List.nodup_cons.mp nd).1 (List.of_mem_zip hv).1, if_neg hk]
   simp
 | p :: P, w :: vs, i + 1, m, nd, h1, h2, hk => by
   show bindC kindOf ((p, w) :: P.zip vs) m x = _
   unfold bindC
   exact bindC_get (i := i) (List.nodup_cons.mp nd).2 (by simpa using h1) (by simpa using h2) hk

noncomputable def start (N : List Str) (vs : List V) : St := vs.map some ++ List.replicate (N.length - vs.length) none

noncomputable def cxOf (CX : CXT) (P : Program) (w : World) (K : PySem.W.Frag) (mg : Str → Option Value) (base : Heap) (N : List Str) (qual : Str) (scope : Scope) (f : Addr) (cd : Value) (A : Around) (outer : List Env) (s : Shared) (H : Hp) (E : XK) : Cx where
 prog := P
 w := w
 K := K
 mg := mg
 base := base
 A := A.deeper (envOfC qual scope s.heap.objs.size f cd)
 N := N
 s₀ := s
 H₀ := H
 env := envOfC qual scope s.heap.objs.size f cd
 outer := outer
 stack := envOfC qual scope s.heap.objs.size f cd :: outer
 ex := []
 calm := true
 fn := fun _ => true
 pn := []
 xe := fun e s' => wpAny (model P w) (A.deeper (envOfC qual scope s.heap.objs.size f cd)) (leaving (envOfC qual scope s.heap.objs.size f cd) e) (fun _ s'' => CX outer H s E e s'') (fun e' s'' => CX outer H s E e' s'') s'

theorem cell_has {sc : Scope} {n : Nat} {x : Str} (h : sc.names.lookup x = some .cell) : ∃ c, (cellsFrom n sc.names []).lookup x = some c := by
 have q := PySem.W.cellsFrom_some sc.names n [] (.inl h)
 exact Option.isSome_iff_exists.mp q

theorem inv_start {CX : CXT} {P : Program} {w : World} {K : PySem.W.Frag} {mg : Str → Option Value} {base : Heap} {N ps : List Str} {qual : Str} {scope : Scope} {f : Addr} {cd : Value} {A : Around} {outer : List Env} {s s1 : Shared} {H : Hp} {E : XK} {us : List Value} {vs : List V}
 (S : FnScope N ps scope) (hd : A.handled = none) (e0 : Env0 P w K mg base A outer s H) (hl : vs.length = ps.length) (r : Vals vs us)
 (x : InCallC s s.heap.objs.size (bindL (envOfC qual scope s.heap.objs.size f cd).kindOf (ps.zip us) fun _ => none) (cellsFrom (s.heap.objs.size + 1) scope.names []) (bindC (envOfC qual scope s.heap.objs.size f cd).kindOf (ps.zip us) fun _ => none) s1) :
 Inv (cxOf CX P w K mg base N qual scope f cd A outer s H E) [] (start N vs) H s1 := by
 have hpl : ps.length ≤ N.length := by have := congrArg List.length S.pre; rw [List.length_take] at this; omega
 obtain ⟨h1, tk, rfl, hk⟩ := x.done
 have noA : ∀ b : Addr, b ∉ (cxOf CX P w K mg base N qual scope f cd A outer s H E).ex := fun b z => absurd (show b ∈ ([] : List Addr) from z) (by simp)
 refine ⟨⟨e0.mod, S.kind, rfl, rfl, Nat.le_refl _, fun y z c h1 h2 => ?_, fun y hy => ?_, fun y c _ h => ?_, fun _ => hd, Around.frames_deeper e0.frames, .inr ⟨rfl, rfl⟩, fun b z => absurd z (noA b), e0.bs, e0.bsz, fun b _ _ => noA b, fun b z => absurd z (noA b), e0.funs, e0.frf⟩,
  rfl, e0.bare, Un.kept hk, ⟨_, x.toInCall.ns, fun i y v h1 h2 h3 => ?_⟩, fun y c h => ⟨_, x.cell y c h⟩, e0.hok.fresh (Nat.le_refl _), fun y c h => ?_, fun p hp => absurd (show p ∈ ([] : List (Addr × Obj)) from hp) (by simp), e0.hok.kept hk, ?_⟩
 · exact name_of_addr x.apart (PySem.mem_of_lookup h1) (PySem.mem_of_lookup h2)
 · have hy : scope.names.lookup y = some .cell ∨ scope.names.lookup y = some .free := hy
   rcases hy with hy | hy
   · exact cell_has hy
   · exact absurd rfl (S.nofree _ (PySem.mem_of_lookup hy))
 · exact Nat.le_of_lt (x.above y c (PySem.mem_of_lookup h))
 · have hi : i < vs.length := by
    unfold start at h2
    by_cases hi : i < vs.length
    · exact hi
    · rw [List.getElem?_append_right (by simpa using hi)] at h2
      rw [List.getElem?_replicate] at h2
      split at h2 <;> cases h2
   have ha : vs[i]? = some v := by
    unfold start at h2
    rw [List.getElem?_append_left (by simpa using hi), List.getElem?_map] at h2
    cases e : vs[i]? with
    | none => rw [e] at h2; cases h2
    | some a => rw [e] at h2; cases h2; rfl
   obtain ⟨u, hu, rv⟩ := r.get ha
   have hp : ps[i]? = some y := by
    rw [← S.pre, List.getElem?_take_of_lt (by omega)]; exact h1
   have ndP : ps.Nodup := by rw [← S.pre]; exact S.nd.sublist (List.take_sublist _ _)
   refine ⟨u, rv, ?_⟩
   rcases S.par y (List.mem_of_getElem? hp) with k | k
   · exact .inl ⟨k, bindL_get ndP hp hu k⟩
   · obtain ⟨c, e⟩ := cell_has (n := s.heap.objs.size + 1) k
     refine .inr ⟨.inl k, c, e, ?_⟩
     have q := x.cell y c e
     rw [bindC_get ndP hp hu (by show scope.names.lookup y ≠ _; rw [k]; decide)] at q
     exact q
 · exact e0.hok.fresh (Nat.le_of_lt (x.above y c (PySem.mem_of_lookup h)))
 · unfold start
   show _ = N.length
   rw [List.length_append, List.length_map, List.length_replicate]
   omega

theorem fn_of {CX : CXT} {P : Program} {w : World} {K : PySem.W.Frag} {mg : Str → Option Value} {base : Heap} {k : Nat} {f : Addr} {name qual : Str} {params : Arguments} {body : List Stmt} {scope : Scope} {dV kV doc pm cdv ct oc : Value} {an od : Option Addr}
 {osl : Array (Option Value)} {N ps : List Str} {sp : Sp} (lk : K.lookup f = some ⟨oc, od, .func (PySem.W.fnOf name qual params body scope dV kV doc pm an cdv ct), osl⟩) (hcd : PySem.W.codeIn K cdv qual = true) (S : FnScope N ps scope)
 (len : ∀ vs H Q E, sp vs H Q E → vs.length = ps.length)
 (hbody : ∀ (A : Around) (outer : List Env) (s : Shared) (H : Hp) (vs : List V) (Q : VK) (E : XK), Room k (A.deeper (envOfC qual scope s.heap.objs.size f cdv)) → sp vs H Q E →
  ∃ t, PSs (cxOf CX P w K mg base N qual scope f cdv A outer s H E) body t ∧ t { nx := fun _ H' => Q .non H', rt := Q } (start N vs) H) :
 FnOk P w K mg base CX (k + 1) f (PySem.W.fnOf name qual params body scope dV kV doc pm an cdv ct) ps sp := by
 refine ⟨len, fun A outer s H args us vs Q E hr e0 hb r hsp => ?_⟩
 have hl := len _ _ _ _ hsp
 have KX : K.In s.heap := e0.mod.kin.keeps fun b o e => (e0.bs b o e).1
 have lim : s.heap.NoLimit := e0.mod.nolimit.keeps fun b o e => (e0.bs b o e).1
 have hkind : ∀ y ∈ ps.zip us, scope.names.lookup y.1 = some .local ∨ (scope.names.lookup y.1 = some .cell ∧ ((cellsFrom (s.heap.objs.size + 1) scope.names []).lookup y.1).isSome = true) := fun ⟨n, v⟩ hy => by
  rcases S.par n (List.of_mem_zip hy).1 with q | q
  · exact .inl q
  · exact .inr ⟨q, PySem.W.cellsFrom_some _ _ _ (.inl q)⟩
 refine codeAny_call_function hr.depth (KX _ _ lk) rfl S.co S.gen rfl (PySem.W.codeRec_of KX hcd) (hb _ _ _ _ ?_)
 refine wpAny_newFunctionEnv_cells S.kind hkind fun env he s1 x => ?_
 subst he
 refine ⟨lim.keeps x.toInCall.keep, codeAny_func ?_⟩
 obtain ⟨t, ht, hq⟩ := hbody A outer s H vs Q E (hr.deeper _) hsp
 have I : Inv (cxOf CX P w K mg base N qual scope f cdv A outer s H E) [] (start N vs) H s1 := inv_start S hr.hd e0 hl r x
 refine wpAny_mono (ht [] s1 (start N vs) H _ I hq) (fun fl s' hs => ?_) fun e s' hs => hs
 have fin : ∀ {σ' : St} {H' : Hp} {v : V} {u : Value}, Inv (cxOf CX P w K mg base N qual scope f cdv A outer s H E) [] σ' H' s' → RelV v u → Q v H' → CE outer P w H s Q u s' :=
  fun {σ' H' v u} J rv q => ⟨v, H', J.os, J.bare, J.base, J.hok, rv, q⟩
 cases fl with
 | ret u =>
   obtain ⟨v, σ', H', J, rv, q⟩ := hs
   exact fin J rv q
 | next =>
   obtain ⟨σ', H', J, q⟩ := hs
   exact fin (v := V.non) (u := Value.none) J rfl q
 | brk =>
   obtain ⟨_, _, _, q⟩ := hs
   exact False.elim q
 | cont =>
   obtain ⟨_, _, _, q⟩ := hs
   exact False.elim q
end L2

namespace L2
open PySem PySem.Spec PyProof.Rows
section
variable {X : Cx} {x : Str} {p pos : Pos} {e : Expr} {es : List Expr} {t : TA} {id T : String} {r : List V → Hp → VK → Prop}

noncomputable def tCB (r : List V → Hp → VK → Prop) (t : TA) : TE := fun σ H Q => t σ H fun vs H1 => r vs H1 Q
theorem pe_callB (hc : CallR X (.builtin id) r) (hg : Gl X x) (hm : X.mg x = none) (hv : bootBuiltins x = some (.builtin id)) (ha : PA X (e :: es) t) (hn : x ≠ "__name__" := by decide) (hdb : (x == ("__debug__" : Str)) = false := by decide)
 (he : starEach (e :: es) X.env = (false, eval e X.env) :: starEach es X.env := by rfl) (hpl : (backTo pos (starEach es X.env)).any (·.1) = false := by rfl) : PE X (.Call (.Name x p) (e :: es) [] pos) (tCB r t) := by
 intro pins s σ H Q I h
 refine wpAny_Call_Name_kw (ld_blt I hg hm hv ?_ hn hdb)
 exact PyProof.Rows.callWith_builtin1 (thn (ha pos pins s σ H _ I h) fun us s1 ⟨vs, H1, I1, r1, q1⟩ => hc pins s1 σ H1 vs us Q I1 r1 q1) he hpl
theorem pe_callTy (hc : CallR X (.type T) r) (hg : Gl X x) (hm : X.mg x = none) (hv : bootBuiltins x = some (.type T)) (ha : PA X (e :: es) t) (hn : x ≠ "__name__" := by decide) (hdb : (x == ("__debug__" : Str)) = false := by decide)
 (he : starEach (e :: es) X.env = (false, eval e X.env) :: starEach es X.env := by rfl) (hpl : (backTo pos (starEach es X.env)).any (·.1) = false := by rfl) : PE X (.Call (.Name x p) (e :: es) [] pos) (tCB r t) := by
 intro pins s σ H Q I h
 refine wpAny_Call_Name_kw (ld_blt I hg hm hv ?_ hn hdb)
 exact PyProof.Rows.callWith_type1 (thn (ha pos pins s σ H _ I h) fun us s1 ⟨vs, H1, I1, r1, q1⟩ => hc pins s1 σ H1 vs us Q I1 r1 q1) he hpl
end
end L2

namespace HT
open PySem PyProof.Rows

section
open PySem.SeqAt
open PySem.AutoSeq1 (wpAny_loadPart')
open PySem.MeetsSeq PySem.MeetsSeq2 PySem.MeetsSeq3

end

section
variable {prog : Program} {w : World} {A : Around} {E : Value → Shared → Prop} {s : Shared}

theorem cat_tup {t b : Addr} {vs ws : List Value} {Q : Value → Shared → Prop} (ht : IsTup s.heap t vs.toArray) (hb : IsTup s.heap b ws.toArray) (hv : vs ≠ [])
 (h1 : ws = [] → Q (.ref t) s) (h2 : ws ≠ [] → Q (.ref s.heap.objs.size) { s with heap := s.heap.push { cls := .type "tuple", data := .seq (vs ++ ws).toArray } })
 (hsz : vs.length + ws.length ≤ sizeLine) : wpAny (model prog w) A (binaryOp .Add (.ref t) (.ref b)) Q E s := by
 obtain ⟨⟨cls, dd, data, sl⟩, ho, hc, n, hd⟩ := id ht
 obtain ⟨⟨cls2, dd2, data2, sl2⟩, ho2, hc2, n2, hd2⟩ := id hb
 simp only at hc hd hc2 hd2
 subst hc hd hc2 hd2
 have e : vs.toArray ++ ws.toArray = (vs ++ ws).toArray := by simp
 by_cases hw : ws = []
 · exact concat_meets ⟨_, ho, rfl⟩ ⟨_, ho2, rfl⟩ noFill_tuple_add seq_tuple_add PySem.F.slot_tuple_add PySem.F.entry_tuple_add (PySem.F.args_tuple_add_2 _ _)
    (tuple_addW1 t b vs.toArray ws.toArray n n2 dd dd2 sl sl2 (by simpa using hv) (by simp [hw])) ⟨ho, ho2, h1 hw⟩
 · refine concat_meets ⟨_, ho, rfl⟩ ⟨_, ho2, rfl⟩ noFill_tuple_add seq_tuple_add PySem.F.slot_tuple_add PySem.F.entry_tuple_add (PySem.F.args_tuple_add_2 _ _)
    (tuple_addW2 t b vs.toArray ws.toArray n n2 dd dd2 sl sl2 (by simpa using hv) (by simpa using hw) (by rw [List.size_toArray, List.size_toArray]; exact hsz)) ⟨ho, ho2, ?_⟩
   rw [e]
   exact h2 hw

noncomputable def sIx (n d : Nat) : Option Int → Nat
 | none => d
 | some v => if v < 0 then (v + (n : Int)).toNat else min v.toNat n
theorem sIx_none (n d : Nat) : sIx n d none = d := rfl
theorem sIx_nat (n d k : Nat) : sIx n d (some (k : Int)) = min k n := by
 show (if (k : Int) < 0 then ((k : Int) + (n : Int)).toNat else min (k : Int).toNat n) = min k n
 rw [if_neg (by omega), Int.toNat_natCast]
theorem sIx_le (n d : Nat) (hd : d ≤ n) (o : Option Int) : sIx n d o ≤ n := by
 cases o with
 | none => exact hd
 | some v =>
   show (if v < 0 then (v + (n : Int)).toNat else min v.toNat n) ≤ n
   by_cases hv : v < 0
   · rw [if_pos hv]; omega
   · rw [if_neg hv]; exact Nat.min_le_right _ _
theorem clip_eq (v : Int) (n d : Nat) : (if v < 0 then max (v + (n : Int)) 0 else min v (n : Int)) = ((sIx n d (some v) : Nat) : Int) := by
 show (if v < 0 then max (v + (n : Int)) 0 else min v (n : Int)) = (((if v < 0 then (v + (n : Int)).toNat else min v.toNat n) : Nat) : Int)
 by_cases hv : v < 0
 · simp only [if_pos hv]; omega
 · simp only [if_neg hv]; omega
theorem adjust_gen (lo hi : Option Int) (n : Nat) : Builtin.Slice.sliceAdjust lo hi 1 (n : Int) = (((sIx n 0 lo : Nat) : Int), ((sIx n n hi : Nat) : Int)) := by
 have h1 : ¬ ((1 : Int) < 0) := by omega
 unfold Builtin.Slice.sliceAdjust
 simp only [h1, if_false]
 refine Prod.ext ?_ ?_
 · cases lo with
   | none => rfl
   | some v => exact clip_eq v n 0
 · cases hi with
   | none => rfl
   | some v => exact clip_eq v n n
theorem places_gen (i j : Nat) : Builtin.Slice.slicePlaces (i : Int) (j : Int) 1 = j - i := by
 unfold Builtin.Slice.slicePlaces
 have h1 : (1 : Int) > 0 := by omega
 simp only [h1, if_true, Int.ediv_one]
 split <;> omega
theorem slicePart_ {v : Value} {o : Option Int} {Q : Option Int → Shared → Prop} (p : IsPart v o) (h : Q o s) : wpAny (model prog w) A (Builtin.Slice.slicePartIndex v) Q E s := by
 cases p with
 | none => exact slicePart_none h
 | int i t => exact slicePart_int h
theorem sliceApplied_gen {sl : Addr} {vl vu : Value} {lo hi : Option Int} {n : Nat} {Q : Int × Int × Nat → Shared → Prop} (hs : s.heap.IsSliceOf sl vl vu .none) (pl : IsPart vl lo) (pu : IsPart vu hi)
 (h : Q (((sIx n 0 lo : Nat) : Int), 1, sIx n n hi - sIx n 0 lo) s) : wpAny (model prog w) A (Builtin.Slice.sliceApplied (.ref sl) (pure (n : Int))) Q E s := by
 obtain ⟨os, hos, hcs, hds⟩ := id hs
 unfold Builtin.Slice.sliceApplied Builtin.Slice.sliceFields
 refine wpAny_bind (wpAny_bind (wpAny_field hos hds (x := vl) rfl (wpAny_bind (wpAny_field hos hds (x := vu) rfl (wpAny_bind (wpAny_field hos hds (x := .none) rfl (wpAny_pure ?_)))))))
 refine wpAny_bind (slicePart_none ?_)
 show wpAny _ _ (if ((1 : Int) == 0) = true then _ else _) _ _ s
 rw [if_neg (by decide)]
 refine wpAny_bind (slicePart_ pl (wpAny_bind (slicePart_ pu (wpAny_bind (wpAny_pure ?_)))))
 show wpAny _ _ (match Builtin.Slice.sliceAdjust lo hi 1 (n : Int) with | (lo, hi) => pure (lo, (1 : Int), Builtin.Slice.slicePlaces lo hi 1)) _ _ s
 rw [adjust_gen lo hi n]
 show wpAny _ _ (pure (((sIx n 0 lo : Nat) : Int), (1 : Int), Builtin.Slice.slicePlaces ((sIx n 0 lo : Nat) : Int) ((sIx n n hi : Nat) : Int) 1)) _ _ s
 rw [places_gen]
 exact wpAny_pure h
theorem pick_gen (xs : Array Value) (i k : Nat) : ((List.range k).filterMap fun (m : Nat) => xs[((i : Int) + (m : Int) * 1).toNat]?).toArray = ((xs.toList.drop i).take k).toArray := by
 have e : (fun (m : Nat) => xs[((i : Int) + (m : Int) * 1).toNat]?) = fun m => xs[i + m]? := by
  funext m
  have : ((i : Int) + (m : Int) * 1).toNat = i + m := by omega
  rw [this]
 rw [e]
 have := pick_run xs i k
 rw [List.filterMap_map] at this
 have e2 : ((fun x => xs[x]?) ∘ fun x => i + x) = fun m => xs[i + m]? := rfl
 rw [e2] at this
 rw [this]

theorem getItem_tuple_cut {t sl : Addr} {items : Array Value} {vl vu : Value} {lo hi : Option Int} {Q : Value → Shared → Prop} (ht : IsTup s.heap t items) (hs : s.heap.IsSliceOf sl vl vu .none) (pl : IsPart vl lo) (pu : IsPart vu hi)
 (hw : ¬ (sIx items.size 0 lo = 0 ∧ sIx items.size items.size hi = items.size))
 (h : Q (.ref s.heap.objs.size) { s with heap := s.heap.push { cls := .type "tuple", data := .seq ((items.toList.drop (sIx items.size 0 lo)).take (sIx items.size items.size hi - sIx items.size 0 lo)).toArray } })
 (hsz : items.size ≤ sizeLine) : wpAny (model prog w) A (getItem (.ref t) (.ref sl)) Q E s := by
 have htake : sizeOk (.seq ((items.toList.drop (sIx items.size 0 lo)).take (sIx items.size items.size hi - sIx items.size 0 lo)).toArray) := by
  show ((items.toList.drop (sIx items.size 0 lo)).take (sIx items.size items.size hi - sIx items.size 0 lo)).toArray.size ≤ sizeLine
  rw [List.size_toArray, List.length_take, List.length_drop, Array.length_toList]
  omega
 have hj : sIx items.size items.size hi ≤ items.size := sIx_le _ _ (Nat.le_refl _) hi
 obtain ⟨os, hos, hcs, hds⟩ := id hs
 have hTs : s.TypeIs (.ref sl) "slice" := ⟨os, hos, hcs⟩
 unfold getItem
 try with_reducible refine wpAny_holding ?_
 first | refine wpAny_bind (wpAny_pure ?_) | skip
 refine wpAny_bind (wpAny_sequenceKey ht.typeIs (by decide) ?_)
 refine wpAny_bind (wpAny_callSpecial?_slot (name := Str.ofString "__getitem__") ht.typeIs PyProof.Rows.slot_tuple_getitem
  (wpAny_call_entry PyProof.Rows.slot_tuple_getitem ht.typeIs entry_tuple_getitem ?_ (args_tuple_getitem _ _)))
 show wpAny _ _ (Builtin.Tuple.tupleItemsOf (.ref t) >>= _) _ _ s
 refine wpAny_bind (tupleItemsOf_ ht ?_)
 refine wpAny_bind (wpAny_typeOf hTs ?_)
 rw [if_pos (by decide)]
 refine wpAny_bind (sliceApplied_gen hs pl pu ?_)
 have hno : ¬ ((((sIx items.size 0 lo : Nat) : Int) == 0 && (1 : Int) == 1 && (sIx items.size items.size hi - sIx items.size 0 lo) == items.size) = true) := by
  intro q
  rw [Bool.and_eq_true, Bool.and_eq_true] at q
  have q1 : ((sIx items.size 0 lo : Nat) : Int) = 0 := eq_of_beq q.1.1
  have q2 : sIx items.size items.size hi - sIx items.size 0 lo = items.size := eq_of_beq q.2
  exact hw ⟨by omega, by omega⟩
 show wpAny _ _ (if (((sIx items.size 0 lo : Nat) : Int) == 0 && (1 : Int) == 1 && (sIx items.size items.size hi - sIx items.size 0 lo) == items.size) = true then _ else _) _ _ s
 rw [if_neg hno, pick_gen]
 first
  | exact wpAny_bind (m := Builtin.Tuple.tupleExact _) (wpAny_newObj_type (wpAny_pure ⟨_, rfl, wpAny_pure h⟩) htake)
  | exact wpAny_bind (m := Builtin.Tuple.tupleExact _) (wpAny_newObj_type (wpAny_bind (wpAny_pure (wpAny_pure ⟨_, rfl, wpAny_pure h⟩))) htake)
  | exact wpAny_bind (wpAny_bind (m := Builtin.Tuple.tupleExact _) (wpAny_newObj_type (wpAny_pure (wpAny_pure ⟨_, rfl, wpAny_pure h⟩)) htake))
  | exact wpAny_bind (wpAny_bind (m := Builtin.Tuple.tupleExact _) (wpAny_newObj_type (wpAny_pure ⟨_, rfl, wpAny_pure h⟩) htake))
end
end HT

namespace L2
open PySem PySem.Spec PyProof.Rows

noncomputable abbrev TO := St → Hp → (Option Int → Hp → Prop) → Prop
noncomputable def PO (X : Cx) (e : Option Expr) (t : TO) : Prop :=
 ∀ (pins : List (Addr × Obj)) (s : Shared) (σ : St) (H : Hp) (Q : Option Int → Hp → Prop), Inv X pins σ H s → t σ H Q →
   wpAny (model X.prog X.w) X.A (evalPart e X.env) (fun u s' => ∃ o H', Inv X pins σ H' s' ∧ IsPart u o ∧ Q o H') X.xe s
noncomputable def tNoPart : TO := fun _ H Q => Q none H
noncomputable def tPart (t : TE) : TO := fun σ H Q => t σ H fun x H1 => ∃ i, x = .int i ∧ Q (some i) H1

theorem intsAre_of {ns : List Int} : ∀ {us : List Value}, Vals (ns.map V.int) us → IntsAre us ns := by
 induction ns with
 | nil => intro us r; rw [List.map_nil] at r; cases r; exact .nil
 | cons n ns ih =>
   intro us r
   rw [List.map_cons] at r
   cases r with
   | cons r1 r2 =>
     obtain ⟨t, e⟩ := r1
     subst e
     exact .cons n t (ih r2)

section
variable {X : Cx} {e : Expr} {te : TE} {lo hi : Option Expr} {tl th : TO} {pos p2 : Pos}

theorem po_none : PO X none tNoPart := by
 intro pins s σ H Q I h
 rw [evalPart_none]
 exact wpAny_pure ⟨none, H, I, .none, h⟩
theorem po_some (h : PE X e te) : PO X (some e) (tPart te) := by
 intro pins s σ H Q I hw
 rw [evalPart_some]
 refine thn (h pins s σ H _ I hw) fun u s1 ⟨x, H1, I1, r1, q1⟩ => ?_
 obtain ⟨i, rfl, q⟩ := q1
 obtain ⟨t, rfl⟩ := r1
 exact ⟨some i, H1, I1, .int i t, q⟩

noncomputable def SlR (X : Cx) (r : V → Option Int → Option Int → Hp → VK → Prop) : Prop :=
 ∀ (pins : List (Addr × Obj)) (s : Shared) (σ : St) (H : Hp) (x : V) (v vl vu : Value) (lo hi : Option Int) (sl : Addr) (Q : VK), Inv X pins σ H s → RelV x v → s.heap.IsSliceOf sl vl vu .none → IsPart vl lo → IsPart vu hi → r x lo hi H Q →
   ∃ T id, typeLookup (.type T) "__getitem__" = pure (some (.builtin id)) ∧ s.TypeIs v T ∧ wpAny (model X.prog X.w) X.A (getItem v (.ref sl)) (EP X pins σ Q) X.xe s
noncomputable def tSl (r : V → Option Int → Option Int → Hp → VK → Prop) (te : TE) (tl th : TO) : TE := fun σ H Q => te σ H fun x H1 => tl σ H1 fun l H2 => th σ H2 fun u H3 => r x l u H3 Q
theorem pe_slice {r : V → Option Int → Option Int → Hp → VK → Prop} (hr : SlR X r) (he : PE X e te) (hl : PO X lo tl) (hu : PO X hi th) : PE X (.Subscript e (.Slice lo hi none p2) pos) (tSl r te tl th) := by
 intro pins s σ H Q I h
 refine Subscript_ (thn (he pins s σ H _ I h) fun v s1 ⟨x, H1, I1, r1, q1⟩ => ?_)
 refine wpAny_Slice (thn (hl pins s1 σ H1 _ I1 q1) fun vl s2 ⟨l, H2, I2, pl, q2⟩ => thn (hu pins s2 σ H2 _ I2 q2) fun vu s3 ⟨u, H3, I3, pu, q3⟩ => ?_)
 rw [evalPart_none]
 refine wpAny_pure ?_
 have I4 : Inv X pins σ H3 { s3 with heap := s3.heap.push { cls := .type "slice", data := .fields #[vl, vu, .none] } } := I3.kept (t' := s3.toks) fun b ob q => Heap.get?_push_of_some _ q
 obtain ⟨T, id, hT, ht, hg⟩ := hr pins { s3 with heap := s3.heap.push { cls := .type "slice", data := .fields #[vl, vu, .none] } } σ H3 x v vl vu l u s3.heap.objs.size Q I4 r1 (Heap.IsSliceOf.new ..) pl pu q3
 show wpAny (model X.prog X.w) X.A (subscriptTail e (.Slice lo hi none p2) v (.ref s3.heap.objs.size)) (EP X pins σ Q) X.xe { s3 with heap := s3.heap.push { cls := .type "slice", data := .fields #[vl, vu, .none] } }
 exact tail_any (ops := [.ref s3.heap.objs.size, v]) ht hT hg (by with_unfolding_all rfl)

noncomputable def cutV (xs : List V) (lo hi : Option Int) : List V := (xs.drop (HT.sIx xs.length 0 lo)).take (HT.sIx xs.length xs.length hi - HT.sIx xs.length 0 lo)
theorem cutV_length (xs : List V) (lo hi : Option Int) : (cutV xs lo hi).length ≤ xs.length := by
 unfold cutV
 rw [List.length_take, List.length_drop]
 omega
noncomputable def rSlT (K : PySem.W.Frag) : V → Option Int → Option Int → Hp → VK → Prop := fun x lo hi H Q => ∃ a xs, x = .ref a ∧ SqT K H a xs ∧
 ¬ (HT.sIx xs.length 0 lo = 0 ∧ HT.sIx xs.length xs.length hi = xs.length) ∧ ∀ p, H p = none → Q (.ref p) (upd H p (.tup (cutV xs lo hi)))
theorem sl_tup : SlR X (rSlT X.K) := by
 intro pins s σ H x v vl vu lo hi sl Q I rx hs pl pu h
 obtain ⟨a, xs, rfl, hx, hw, q⟩ := h
 cases rx
 obtain ⟨its, r, ht, hz⟩ := I.tuple hx
 have hlen : its.toArray.size = xs.length := by rw [List.size_toArray]; exact r.length.symm
 refine ⟨"tuple", _, PyProof.Rows.slot_tuple_getitem.lookup, ht.typeIs, ?_⟩
 refine HT.getItem_tuple_cut ht hs pl pu (by rw [hlen]; exact hw) ?_ (by rw [hlen]; exact hz)
 rw [hlen]
 refine ⟨.ref s.heap.objs.size, _, I.laid (t' := s.toks) (o := .tup (cutV xs lo hi)) (fun b ob q => Heap.get?_push_of_some _ q) (Nat.le_refl _) ?_, rfl, q _ (I.hok.fresh (Nat.le_refl _))⟩
 exact ⟨Nat.le_trans (cutV_length xs lo hi) hz, _, (r.drop (HT.sIx xs.length 0 lo)).take (HT.sIx xs.length xs.length hi - HT.sIx xs.length 0 lo), IsTupN.new _ _⟩

noncomputable def rCatT (K : PySem.W.Frag) : R2 := fun x y H Q => ∃ a b xs ys, x = .ref a ∧ y = .ref b ∧ SqT K H a xs ∧ SqT K H b ys ∧ xs ≠ [] ∧ xs.length + ys.length ≤ sizeLine ∧
 (ys = [] → Q (.ref a) H) ∧ (ys ≠ [] → ∀ p, H p = none → Q (.ref p) (upd H p (.tup (xs ++ ys))))
theorem Vals.nil_iff {xs : List V} {us : List Value} (r : Vals xs us) : us = [] ↔ xs = [] := by
 cases r with
 | nil => simp
 | cons _ _ => simp
theorem op_catT : OpR X (binaryOp .Add) (rCatT X.K) := by
 intro pins s σ H x y v u Q I rx ry h
 obtain ⟨a, b, xs, ys, rfl, rfl, ha, hb, hx, hz, q1, q2⟩ := h
 cases rx
 cases ry
 obtain ⟨its, r1, p1, _⟩ := I.tuple ha
 obtain ⟨its2, r2, p2, _⟩ := I.tuple hb
 refine HT.cat_tup p1 p2 (fun z => hx (r1.nil_iff.mp z)) (fun z => ⟨.ref a, H, I, rfl, q1 (r2.nil_iff.mp z)⟩) (fun z => ?_) (by rw [← r1.length, ← r2.length]; exact hz)
 refine ⟨.ref s.heap.objs.size, _, I.laid (t' := s.toks) (o := .tup (xs ++ ys)) (fun b ob q => Heap.get?_push_of_some _ q) (Nat.le_refl _) ?_, rfl, q2 (fun w => z (r2.nil_iff.mpr w)) _ (I.hok.fresh (Nat.le_refl _))⟩
 exact ⟨by rw [List.length_append]; exact hz, _, r1.append r2, IsTupN.new _ _⟩
end
end L2

namespace L2
open PySem PySem.Spec PyProof.Rows

noncomputable def ixN (n : Nat) (i : Int) : Option Nat := if 0 ≤ i then (if i < n then some i.toNat else none) else if -(n : Int) ≤ i then some (i + n).toNat else none
noncomputable def atI {α : Type} (xs : List α) (i : Int) : Option α := (ixN xs.length i).bind fun j => xs[j]?
theorem ixN_seq {n : Nat} {i : Int} {j : Nat} (h : ixN n i = some j) : seqIndex? i n = some j ∧ j < n ∧ -(n : Int) ≤ i ∧ i < n := by
 unfold ixN at h
 by_cases h0 : 0 ≤ i
 · rw [if_pos h0] at h
   by_cases h1 : i < n
   · rw [if_pos h1] at h
     have e : i.toNat = j := Option.some.inj h
     exact ⟨by rw [seqIndex_of h0 h1, e], by omega, by omega, h1⟩
   · rw [if_neg h1] at h; cases h
 · rw [if_neg h0] at h
   by_cases h1 : -(n : Int) ≤ i
   · rw [if_pos h1] at h
     have e : (i + n).toNat = j := Option.some.inj h
     exact ⟨by rw [seqIndex_neg (by omega) h1, e], by omega, h1, by omega⟩
   · rw [if_neg h1] at h; cases h
theorem atI_get {α : Type} {xs : List α} {i : Int} {v : α} (h : atI xs i = some v) : ∃ j, seqIndex? i xs.length = some j ∧ xs[j]? = some v ∧ j < xs.length ∧ -(xs.length : Int) ≤ i ∧ i < xs.length := by
 unfold atI at h
 cases e : ixN xs.length i with
 | none => rw [e] at h; cases h
 | some j =>
   rw [e] at h
   obtain ⟨h1, h2, h3, h4⟩ := ixN_seq e
   exact ⟨j, h1, h, h2, h3, h4⟩
theorem atI_nat {α : Type} {xs : List α} {j : Nat} {v : α} (h : xs[j]? = some v) : atI xs (j : Int) = some v := by
 have hj : j < xs.length := (List.getElem?_eq_some_iff.mp h).1
 have e : ixN xs.length (j : Int) = some j := by
  unfold ixN
  rw [if_pos (by omega), if_pos (by omega)]; simp
 unfold atI; rw [e]; exact h
theorem atI_last {α : Type} (xs : List α) (v : α) : atI (xs ++ [v]) (-1) = some v := by
 have hl : (xs ++ [v]).length = xs.length + 1 := by simp
 have e : ixN (xs ++ [v]).length (-1) = some xs.length := by
  unfold ixN
  rw [hl, if_neg (by decide), if_pos (by omega)]
  congr 1
  omega
 unfold atI
 rw [e]
 show (xs ++ [v])[xs.length]? = some v
 simp

noncomputable def PlainIx (b : Expr) : Prop := ∀ o i, subscripted b false o i = operate [o, i] (getItem o i)
noncomputable def IxR (X : Cx) (r : R2) : Prop :=
 ∀ (value slice : Expr) (pins : List (Addr × Obj)) (s : Shared) (σ : St) (H : Hp) (x y : V) (v u : Value) (Q : VK), Inv X pins σ H s → RelV x v → RelV y u → r x y H Q →
   subscripted slice false v u = operate [v, u] (getItem v u) → wpAny (model X.prog X.w) X.A (subscriptTail value slice v u) (EP X pins σ Q) X.xe s
noncomputable def MtR (X : Cx) (id : String) (r : V → List V → Hp → VK → Prop) : Prop :=
 ∀ (pins : List (Addr × Obj)) (s : Shared) (σ : St) (H : Hp) (x : V) (xs : List V) (v : Value) (us : List Value) (Q : VK), Inv X pins σ H s → RelV x v → Vals xs us → r x xs H Q →
   wpAny (model X.prog X.w) X.A (call (.builtin id) (v :: us)) (EP X pins σ Q) X.xe s
section
variable {X : Cx} {a b : Expr} {ta tb : TE} {pos : Pos}
theorem pe_ix {r : R2} (hr : IxR X r) (ha : PE X a ta) (hb : PE X b tb) (hs : PlainIx b) : PE X (.Subscript a b pos) (tOp r ta tb) := by
 intro pins s σ H Q I h
 exact Subscript_ (binT ha hb I h fun v u s2 x y H2 I2 rx ry q => hr a b pins s2 σ H2 x y v u Q I2 rx ry q (hs _ _))

noncomputable def rIxL (K : PySem.W.Frag) : R2 := fun x y H Q => ∃ p xs i v, x = .ref p ∧ y = .int i ∧ SqL K H p xs ∧ atI xs i = some v ∧ Q v H
noncomputable def rIxT (K : PySem.W.Frag) : R2 := fun x y H Q => ∃ p xs i v, x = .ref p ∧ y = .int i ∧ SqT K H p xs ∧ atI xs i = some v ∧ Q v H
theorem ix_list : IxR X (rIxL X.K) := by
 intro value slice pins s σ H x y v u Q I rx ry h hs
 obtain ⟨p, xs, i, z, rfl, rfl, hq, he, q⟩ := h
 cases rx
 obtain ⟨t, rfl⟩ := ry
 obtain ⟨its, r, pl, hz⟩ := I.list hq
 obtain ⟨j, h1, h2, h3, h4, h5⟩ := atI_get he
 obtain ⟨w, ew, rw'⟩ := r.get h2
 have hl := r.length
 have hn := line63
 have fin : EP X pins σ Q w s := ⟨z, H, I, rw', q⟩
 by_cases h0 : 0 ≤ i
 · have hj : i.toNat = j := by
    rw [seqIndex_of h0 h5] at h1
    exact Option.some.inj h1
   exact item_listR pl.isList h0 (by omega) (by rw [hj]; simpa using ew) fin hs
 · have hj : (i + (its.toArray.size : Int)).toNat = j := by
    rw [seqIndex_neg (by omega) h4] at h1
    rw [List.size_toArray, ← hl]
    exact Option.some.inj h1
   exact subscriptTail_builtinR (x := w) pl.isList.typeIs slot_list_getitem.lookup
    (wpAny_getItem_list_neg (Q := fun r s' => r = w ∧ EP X pins σ Q r s') pl.isList (by omega) (by rw [List.size_toArray] <;> omega) (by omega) (by rw [hj]; simpa using ew) ⟨rfl, fin⟩) hs
theorem ix_tup : IxR X (rIxT X.K) := by
 intro value slice pins s σ H x y v u Q I rx ry h hs
 obtain ⟨p, xs, i, z, rfl, rfl, hq, he, q⟩ := h
 cases rx
 obtain ⟨t, rfl⟩ := ry
 obtain ⟨its, r, pl, hz⟩ := I.tuple hq
 obtain ⟨j, h1, h2, h3, h4, h5⟩ := atI_get he
 obtain ⟨w, ew, rw'⟩ := r.get h2
 have hl := r.length
 have hn := line63
 have fin : EP X pins σ Q w s := ⟨z, H, I, rw', q⟩
 exact subscriptTail_builtinR (x := w) pl.typeIs slot_tuple_getitem.lookup
  (getItem_tuple (j := j) (Q := fun r s' => r = w ∧ EP X pins σ Q r s') pl (by omega) (by omega) (by rw [List.size_toArray, ← hl]; exact h1) (by simpa using ew) ⟨rfl, fin⟩) hs
theorem mapSeq_set (its : List Value) (n j : Nat) (u : Value) : Obj.mapSeq (·.setIfInBounds j u) { cls := .type "list", data := .seq its.toArray n } = { cls := .type "list", data := .seq (its.set j u).toArray n } := by
 simp [Obj.mapSeq]
theorem Inv.lst {pins : List (Addr × Obj)} {σ : St} {H : Hp} {s : Shared} {p : Addr} {xs : List V} (I : Inv X pins σ H s) (h : H p = some (.lst xs)) :
 ∃ (its : List Value) (n : Nat), Vals xs its ∧ s.heap.get? p = some { cls := .type "list", data := .seq its.toArray n } ∧ xs.length ≤ sizeLine := by
 obtain ⟨z, its, n, r, e⟩ := I.hok p _ h
 exact ⟨its, n, r, e, z⟩
theorem Inv.lstUpd {pins : List (Addr × Obj)} {σ : St} {H : Hp} {s : Shared} {p : Addr} {xs ys : List V} {its its' : List Value} {n n' : Nat} {f : Obj → Obj} (I : Inv X pins σ H s) (h : H p = some (.lst xs))
 (ho : s.heap.get? p = some { cls := .type "list", data := .seq its.toArray n }) (hf : f { cls := .type "list", data := .seq its.toArray n } = { cls := .type "list", data := .seq its'.toArray n' }) (r : Vals ys its') (hz : ys.length ≤ sizeLine) (t : Nat) :
 Inv X pins σ (upd H p (.lst ys)) { s with heap := s.heap.update p f, toks := t } := by
 have e : (s.heap.update p f).get? p = some { cls := .type "list", data := .seq its'.toArray n' } := by
  rw [Heap.get?_update_self f ho (by rw [hf] <;> rfl), hf]
 refine I.write (x := p) (e := p) (by rw [h]; trivial) (.inl rfl) (fun b u hb q => (Heap.get?_update_other _ _ (Ne.symm hb)).trans q) ⟨_, e⟩ ?_
 exact ⟨hz, its', n', r, e⟩
noncomputable def rSetL : V → V → V → Hp → (Hp → Prop) → Prop := fun o i v H Q => ∃ p xs k j, o = .ref p ∧ i = .int k ∧ H p = some (.lst xs) ∧ ixN xs.length k = some j ∧ Q (upd H p (.lst (xs.set j v)))
theorem set_list : PSet X rSetL := by
 intro pins s σ H o i v ov iv u Q I ro ri rv h
 obtain ⟨p, xs, k, j, rfl, rfl, hp, hj, q⟩ := h
 cases ro
 obtain ⟨t, rfl⟩ := ri
 obtain ⟨its, n, r, ho, hz⟩ := I.lst hp
 obtain ⟨h1, h2, h3, h4⟩ := ixN_seq hj
 have hl := r.length
 have hn := line63
 have I' : Inv X pins σ (upd H p (.lst (xs.set j v))) { s with heap := s.heap.update p (Obj.mapSeq (·.setIfInBounds j u)) } :=
  I.lstUpd hp ho (mapSeq_set its n j u) (r.set rv j) (by rw [List.length_set]; exact hz) s.toks
 by_cases h0 : 0 ≤ k
 · have hk : k.toNat = j := by
    rw [seqIndex_of h0 h4] at h1
    exact Option.some.inj h1
   exact PySem.W.ki_setAt ho h0 (by omega) (by rw [List.size_toArray, ← hl]; exact h4) (by rw [hk]; exact ⟨_, I', q⟩)
 · have hk : (k + (its.toArray.size : Int)).toNat = j := by
    rw [seqIndex_neg (by omega) h3] at h1
    rw [List.size_toArray, ← hl]
    exact Option.some.inj h1
   exact PySem.W.ki_setBack ho (by omega) (by rw [List.size_toArray, ← hl]; exact h3) (by omega) (by rw [hk]; exact ⟨_, I', q⟩)

noncomputable def flatV : V → Bool
 | .non => true
 | .bl _ => true
 | .int _ => true
 | .str _ => true
 | _ => false
noncomputable def eqV : V → V → Bool
 | .non, .non => true
 | .bl a, .bl b => a == b
 | .bl a, .int b => (if a then 1 else 0) == b
 | .int a, .bl b => a == (if b then 1 else 0)
 | .int a, .int b => a == b
 | .str a, .str b => a == b
 | _, _ => false
theorem eqAt_V {A : Around} {s : Shared} {y x : V} {u v : Value} (ry : RelV y u) (rx : RelV x v) (fy : flatV y = true) (fx : flatV x = true) : SeqAt.EqAt A s u v (eqV y x) := by
 cases y with
 | non =>
   cases ry
   cases x with
   | non => cases rx; exact SeqAt.EqAt.same _
   | bl b => cases rx; exact SeqAt.EqAt.none_bool b
   | int b => obtain ⟨t, rfl⟩ := rx; exact SeqAt.EqAt.none_int b t
   | str b => obtain ⟨t, rfl⟩ := rx; exact SeqAt.EqAt.none_str b t
   | _ => exact absurd (show false = true from fx) Bool.false_ne_true
 | bl a =>
   cases ry
   cases x with
   | non => cases rx; exact SeqAt.EqAt.bool_none a
   | bl b => cases rx; exact SeqAt.EqAt.bool_bool a b
   | int b => obtain ⟨t, rfl⟩ := rx; exact SeqAt.EqAt.bool_int a b t
   | str b => obtain ⟨t, rfl⟩ := rx; exact SeqAt.EqAt.bool_str a b t
   | _ => exact absurd (show false = true from fx) Bool.false_ne_true
 | int a =>
   obtain ⟨t', rfl⟩ := ry
   cases x with
   | non => cases rx; exact SeqAt.EqAt.int_none a t'
   | bl b => cases rx; exact SeqAt.EqAt.int_bool a t' b
   | int b => obtain ⟨t, rfl⟩ := rx; exact SeqAt.EqAt.int_int a t' b t
   | str b => obtain ⟨t, rfl⟩ := rx; exact SeqAt.EqAt.int_str a t' b t
   | _ => exact absurd (show false = true from fx) Bool.false_ne_true
 | str a =>
   obtain ⟨t', rfl⟩ := ry
   cases x with
   | non => cases rx; exact SeqAt.EqAt.str_none a t'
   | bl b => cases rx; exact SeqAt.EqAt.str_bool a t' b
   | int b => obtain ⟨t, rfl⟩ := rx; exact SeqAt.EqAt.str_int a t' b t
   | str b => obtain ⟨t, rfl⟩ := rx; exact SeqAt.EqAt.str_str a t' b t
   | _ => exact absurd (show false = true from fx) Bool.false_ne_true
 | _ => exact absurd (show false = true from fy) Bool.false_ne_true
theorem call_len_seq : CallR X (.builtin "len") (fun xs H Q => ∃ p ys, xs = [.ref p] ∧ (SqL X.K H p ys ∨ SqT X.K H p ys) ∧ Q (.int ys.length) H) := by
 intro pins s σ H xs us Q I r h
 obtain ⟨p, ys, rfl, hq, q⟩ := h
 obtain ⟨u, rfl, rx⟩ := vals1 r
 cases rx
 have hn := line63
 rcases hq with hq | hq
 · obtain ⟨its, r', pl, hz⟩ := I.list hq
   have hlen := r'.length
   exact Calls.call_len_list pl.isList (by simp only [List.size_toArray] <;> omega) ⟨.int ys.length, H, I.tok _, ⟨s.toks + 1, by rw [List.size_toArray, hlen]⟩, q⟩
 · obtain ⟨its, r', pl, hz⟩ := I.tuple hq
   have hlen := r'.length
   exact len_tuple pl (by simp only [List.size_toArray] <;> omega) ⟨.int ys.length, H, I.tok _, ⟨s.toks + 1, by rw [List.size_toArray, hlen]⟩, q⟩
theorem call_tuple_of : CallR X (.type "tuple") (fun xs H Q => ∃ p ys, xs = [.ref p] ∧ ((SqL X.K H p ys ∧ ∀ l, H l = none → Q (.ref l) (upd H l (.tup ys))) ∨ (SqT X.K H p ys ∧ Q (.ref p) H))) := by
 intro pins s σ H xs us Q I r h
 obtain ⟨p, ys, rfl, h⟩ := h
 obtain ⟨u, rfl, rx⟩ := vals1 r
 cases rx
 rcases h with ⟨hq, q⟩ | ⟨hq, q⟩
 · obtain ⟨its, r', pl, hz⟩ := I.list hq
   have hlen := r'.length
   refine call_tuple_list pl.isList (fun h' kp => ?_) (by simp only [List.size_toArray] <;> omega)
   have I1 : Inv X pins σ H { s with heap := h' } := I.kept (t' := s.toks) kp
   have I2 : Inv X pins σ (upd H h'.objs.size (.tup ys)) { s with heap := h'.push { cls := .type "tuple", data := .seq its.toArray } } :=
    I1.laid (t' := s.toks) (fun b o e => Heap.get?_push_of_some _ e) (Nat.le_refl _) (show ObjOk X.prog X.w _ _ _ (.tup ys) from ⟨hz, its, r', IsTupN.new _ _⟩)
   exact ⟨.ref h'.objs.size, _, I2, rfl, q _ (I1.hok.fresh (Nat.le_refl _))⟩
 · obtain ⟨its, r', pl, hz⟩ := I.tuple hq
   exact call_tuple_same pl ⟨.ref p, H, I, rfl, q⟩

noncomputable def tyV (K : PySem.W.Frag) (T : String) (x : V) (H : Hp) : Prop := match x with
 | .str _ => T = "str"
 | .int _ => T = "int"
 | .ref p => (T = "list" ∧ ∃ xs, SqL K H p xs) ∨ (T = "tuple" ∧ ∃ o, K.lookup p = some o ∧ o.cls = .type "tuple" ∧ o.dict = none) ∨
  (T = "dict" ∧ ((∃ kvs, H p = some (.dK kvs)) ∨ ∃ kvs, H p = some (.dT kvs))) ∨ (T = "set" ∧ ∃ S n, H p = some (.set S n))
 | _ => False
theorem tyV_is {pins : List (Addr × Obj)} {σ : St} {H : Hp} {s : Shared} {T : String} {x : V} {v : Value} (I : Inv X pins σ H s) (r : RelV x v) (ty : tyV X.K T x H) :
 s.TypeIs v T ∧ ∀ a, v = .ref a → ∃ ob, s.heap.get? a = some ob ∧ ob.dict = none := by
 cases x with
 | str z =>
   obtain ⟨t, rfl⟩ := r
   cases (show T = "str" from ty)
   exact ⟨typeIs_str s z t, fun _ e => nomatch e⟩
 | int i =>
   obtain ⟨t, rfl⟩ := r
   cases (show T = "int" from ty)
   exact ⟨typeIs_int s i t, fun _ e => nomatch e⟩
 | ref p =>
   cases r
   rcases ty with ⟨rfl, xs, hq⟩ | ⟨rfl, o, hk, hc, hd⟩ | ⟨rfl, hk⟩ | ⟨rfl, S, n, hk⟩
   · obtain ⟨its, _, pl, _⟩ := I.list hq
     refine ⟨pl.isList.typeIs, fun a e => ?_⟩
     cases e
     obtain ⟨o, n, e, c, hd, _⟩ := pl
     exact ⟨o, e, hd⟩
   · refine ⟨⟨o, I.kIn p o hk, hc⟩, fun a e => ?_⟩
     cases e
     exact ⟨o, I.kIn _ o hk, hd⟩
   · have z : ∃ o, s.heap.get? p = some o ∧ o.ExactDict := by
      rcases hk with ⟨kvs, hk⟩ | ⟨kvs, hk⟩
      · obtain ⟨_, _, _, _, o, _, _, e, ex, _⟩ := I.hok p _ hk
        exact ⟨o, e, ex⟩
      · obtain ⟨_, _, _, _, o, _, _, e, ex, _⟩ := I.hok p _ hk
        exact ⟨o, e, ex⟩
     obtain ⟨o, e, ex⟩ := z
     refine ⟨⟨o, e, ex.1⟩, fun a e2 => ?_⟩
     cases e2
     exact ⟨o, e, ex.2.1⟩
   · obtain ⟨o, _, _, _, e, ex, _⟩ := I.hok p _ hk
     refine ⟨⟨o, e, ex.1⟩, fun a e2 => ?_⟩
     cases e2
     exact ⟨o, e, ex.2.1⟩
 | _ => exact False.elim ty
noncomputable def tBM0 (K : PySem.W.Frag) (T : String) (r : V → List V → Hp → VK → Prop) (to : TE) : TE := fun σ H Q => to σ H fun x H1 => tyV K T x H1 ∧ r x [] H1 Q
noncomputable def tBM (K : PySem.W.Frag) (T : String) (r : V → List V → Hp → VK → Prop) (to : TE) (t : TA) : TE := fun σ H Q => to σ H fun x H1 => tyV K T x H1 ∧ t σ H1 fun xs H2 => r x xs H2 Q
variable {o e : Expr} {es : List Expr} {to : TE} {t : TA} {name : Str} {apos cpos : Pos} {T id : String} {r : V → List V → Hp → VK → Prop}
theorem pe_bm0 (pa : PlainAttrs T) (slot : Slot T name id) (hty : typeOf (.builtin id) = pure (.type "method_descriptor")) (hm : MtR X id r) (ho : PE X o to)
 (hbase : attributeBase o name X.env (eval o X.env) = eval o X.env := by rfl) (hline : (apos.endLine == cpos.line) = true := by rfl) : PE X (.Call (.Attribute o name apos) [] [] cpos) (tBM0 X.K T r to) := by
 intro pins s σ H Q I h
 refine wpAny_Call_method0_late hbase hline (thn (ho pins s σ H _ I h) fun v s1 ⟨x, H1, I1, r1, ty, q1⟩ => ?_)
 obtain ⟨h1, h2⟩ := tyV_is I1 r1 ty
 exact ⟨T, id, pa, slot, hty, h1, h2, Calls.callWith_builtin rfl (PySem.evalArgs_none (hm pins s1 σ H1 x [] v [] Q I1 r1 .nil q1))⟩
theorem pe_bm (pa : PlainAttrs T) (slot : Slot T name id) (hty : typeOf (.builtin id) = pure (.type "method_descriptor")) (hm : MtR X id r) (ho : PE X o to) (ha : PA X (e :: es) t)
 (hbase : attributeBase o name X.env (eval o X.env) = eval o X.env := by rfl)
 (hfew : ((backTo cpos (starEach (e :: es) X.env)).all (fun x => !x.1) && (backToKw cpos (keywordEach [] X.env)).all (fun x => x.1.isSome)
  && decide ((e :: es).length + ([] : List Keyword).length + (if ([] : List Keyword).isEmpty then 0 else 1) < 30)) = true := by rfl)
 (hline : (apos.endLine == cpos.line) = true := by rfl) (hs : starEach (e :: es) X.env = (false, eval e X.env) :: starEach es X.env := by rfl) (hplain : (backTo cpos (starEach es X.env)).any (·.1) = false := by rfl) :
 PE X (.Call (.Attribute o name apos) (e :: es) [] cpos) (tBM X.K T r to t) := by
 intro pins s σ H Q I h
 refine wpAny_Call_method_late hbase hfew hline rfl (thn (ho pins s σ H _ I h) fun v s1 ⟨x, H1, I1, r1, ty, q1⟩ => ?_)
 obtain ⟨h1, h2⟩ := tyV_is I1 r1 ty
 refine ⟨T, id, pa, slot, hty, h1, h2, ?_⟩
 have hA := ha cpos pins s1 σ H1 _ I1 q1
 rw [hs] at hA ⊢
 refine Calls.callWith_builtin (by show (false || (backTo cpos (starEach es X.env)).any (·.1)) = false; rw [hplain] <;> rfl) (Calls.evalArgs_plain ?_)
 exact thn hA fun us s2 ⟨vs, H2, I2, r2, q2⟩ => hm pins s2 σ H2 x vs v us Q I2 r1 r2 q2
/- xs.append(e), list.index on a module's tuple .. are MtR facts of 06m -/
end
end L2

namespace L2
open PySem PySem.Spec PyProof.Rows

noncomputable def MtM (X : Cx) (id : String) (r : V → List V → Hp → VK → Prop) : Prop :=
 ∀ (pins : List (Addr × Obj)) (s : Shared) (σ : St) (H : Hp) (x : V) (xs : List V) (v : Value) (us : List Value) (Q : VK), Inv X pins σ H s → RelV x v → Vals xs us → r x xs H Q →
   wpAny (model X.prog X.w) X.A (call (.builtin id) (v :: us)) (EP X pins σ Q) X.xe s

theorem Vals.one : ∀ {x : V} {us : List Value}, Vals [x] us → ∃ u, us = [u] ∧ RelV x u
 | _, _, .cons r .nil => ⟨_, rfl, r⟩
theorem Vals.zero : ∀ {us : List Value}, Vals [] us → us = []
 | _, .nil => rfl
theorem Vals.dropLast {xs : List V} {us : List Value} (h : Vals xs us) : Vals xs.dropLast us.dropLast := by
 induction h with
 | nil => exact .nil
 | cons r t ih =>
   cases t with
   | nil => exact .nil
   | cons q t' => exact .cons r ih
theorem Vals.reverse {xs : List V} {us : List Value} (h : Vals xs us) : Vals xs.reverse us.reverse := by
 induction h with
 | nil => exact .nil
 | cons r t ih => rw [List.reverse_cons, List.reverse_cons]; exact Vals.append ih (.cons r .nil)
theorem Vals.rep {xs : List V} {us : List Value} (h : Vals xs us) : ∀ k : Nat, Vals (List.replicate k xs).flatten (List.replicate k us).flatten
 | 0 => .nil
 | k + 1 => by
   rw [List.replicate_succ, List.replicate_succ, List.flatten_cons, List.flatten_cons]
   exact Vals.append h (Vals.rep h k)
theorem erase_last {α : Type} (l : List α) : l.eraseIdx (l.length - 1) = l.dropLast := by
 induction l with
 | nil => rfl
 | cons a r ih =>
   cases r with
   | nil => rfl
   | cons b r =>
     have e : (a :: b :: r).length - 1 = ((b :: r).length - 1) + 1 := by
      have h1 : (a :: b :: r).length = r.length + 2 := rfl
      have h2 : (b :: r).length = r.length + 1 := rfl
      omega
     rw [e, List.eraseIdx_cons_succ, ih]
     all_goals rfl
section
variable {X : Cx} {pins : List (Addr × Obj)} {σ : St} {H : Hp} {s : Shared} {l b : Addr} {xs ys zs : List V}

theorem Inv.lset {its its' : List Value} {n : Nat} {f : Array Value → Array Value} {t' : Nat} (I : Inv X pins σ H s) (hH : H l = some (.lst xs))
 (e : s.heap.get? l = some { cls := .type "list", data := .seq its.toArray n }) (hf : f its.toArray = its'.toArray) (hv : Vals ys its') (hz : ys.length ≤ sizeLine) :
 Inv X pins σ (upd H l (.lst ys)) { s with heap := s.heap.update l (Obj.mapSeq f), toks := t' } := by
 have q := PySem.IsL.update e f
 rw [hf] at q
 refine I.write (x := l) (e := l) (by rw [hH]; exact trivial) (.inl rfl) (fun b' u hb hu => (Heap.get?_update_other s.heap (Obj.mapSeq f) (Ne.symm hb)).trans hu) ⟨_, q⟩ ?_
 exact ⟨hz, its', _, hv, q⟩
theorem Inv.lnew {its : List Value} {t' : Nat} (I : Inv X pins σ H s) (hv : Vals ys its) (hz : ys.length ≤ sizeLine) :
 Inv X pins σ (upd H s.heap.objs.size (.lst ys)) { s with heap := s.heap.push { cls := .type "list", data := .seq its.toArray }, toks := t' } :=
 I.laid (fun _ _ q => Heap.get?_push_of_some _ q) (Nat.le_refl _) ⟨hz, its, 0, hv, Heap.get?_push_size _ rfl⟩
theorem Inv.fresh (I : Inv X pins σ H s) : H s.heap.objs.size = none := I.hok.fresh (Nat.le_refl _)
theorem Inv.lstM (I : Inv X pins σ H s) (hH : H l = some (.lst xs)) : xs.length ≤ sizeLine ∧ ∃ (its : List Value) (n : Nat), Vals xs its ∧ xs.length = its.length ∧ s.heap.get? l = some { cls := .type "list", data := .seq its.toArray n } := by
 obtain ⟨z, its, n, r, e⟩ := I.hok l _ hH
 exact ⟨z, its, n, r, r.length, e⟩

end

section
variable {X : Cx}

noncomputable def rAppend : V → List V → Hp → VK → Prop := fun x vs H Q => ∃ l xs y, x = .ref l ∧ vs = [y] ∧ H l = some (.lst xs) ∧ xs.length < sizeLine ∧ Q .non (upd H l (.lst (xs ++ [y])))
theorem mt_append : MtM X "list.append" rAppend := by
 intro pins s σ H x vs v us Q I rx rv h
 obtain ⟨l, xs, y, rfl, rfl, hH, hz, q⟩ := h
 cases rx
 obtain ⟨u, rfl, ru⟩ := rv.one
 obtain ⟨z, its, n, r, hl, e⟩ := I.lstM hH
 refine call_meets F.slot_list_append ⟨_, e, rfl⟩ F.entry_list_append (F.args_list_append_2 _ _) (PySem.list_append l its.toArray n u (by rw [List.size_toArray]; omega)) ⟨e, ?_⟩
 refine ⟨.non, _, I.lset (its' := its ++ [u]) hH e (by simp) (r.append (.cons ru .nil)) ?_, rfl, q⟩
 rw [List.length_append, List.length_singleton]
 omega

noncomputable def rPop : V → List V → Hp → VK → Prop := fun x vs H Q => ∃ l xs y, x = .ref l ∧ vs = [] ∧ H l = some (.lst xs) ∧ xs[xs.length - 1]? = some y ∧ Q y (upd H l (.lst xs.dropLast))
theorem mt_pop : MtM X "list.pop" rPop := by
 intro pins s σ H x vs v us Q I rx rv h
 obtain ⟨l, xs, y, rfl, rfl, hH, hy, q⟩ := h
 cases rx
 have hus := rv.zero
 subst hus
 obtain ⟨z, its, n, r, hl, e⟩ := I.lstM hH
 obtain ⟨u, hu, ru⟩ := r.get hy
 have hy' : its.toArray[its.toArray.size - 1]? = some u := by
  show its.toArray[its.length - 1]? = some u
  rw [← Array.getElem?_toList, ← hl]
  exact hu
 refine call_meets F.slot_list_pop ⟨_, e, rfl⟩ F.entry_list_pop (F.args_list_pop_1 _) (MeetsSeq.list_pop_last l its.toArray n u hy' (by rw [List.size_toArray]; omega)) ⟨e, ?_⟩
 refine ⟨y, _, I.lset (its' := its.dropLast) hH e ?_ r.dropLast ?_, ru, q⟩
 · show its.toArray.eraseIdxIfInBounds (its.toArray.size - 1) = its.dropLast.toArray
   rw [List.size_toArray, List.eraseIdxIfInBounds_toArray, erase_last]
 · rw [List.length_dropLast]
   omega

noncomputable def rCat : R2 := fun x y H Q => ∃ l b xs zs, x = .ref l ∧ y = .ref b ∧ H l = some (.lst xs) ∧ H b = some (.lst zs) ∧ xs.length + zs.length ≤ sizeLine ∧ ∀ p, H p = none → Q (.ref p) (upd H p (.lst (xs ++ zs)))
theorem op_cat : OpR X (binaryOp .Add) rCat := by
 intro pins s σ H x y v u Q I rx ry h
 obtain ⟨l, b, xs, zs, rfl, rfl, hH, hB, hz, q⟩ := h
 cases rx
 cases ry
 obtain ⟨z, its, n, r, hl, e⟩ := I.lstM hH
 obtain ⟨z2, its2, n2, r2, hl2, e2⟩ := I.lstM hB
 refine PySem.P.add_list e e2 ?_ (by rw [List.size_toArray, List.size_toArray]; omega)
 have ea : its.toArray ++ its2.toArray = (its ++ its2).toArray := by simp
 rw [ea]
 exact ⟨.ref _, _, I.lnew (t' := s.toks) (r.append r2) (by rw [List.length_append]; omega), rfl, q _ I.fresh⟩
theorem len_rep {α : Type} (xs : List α) (k : Nat) : (List.replicate k xs).flatten.length = k * xs.length := by
 induction k with
 | zero => simp
 | succ k ih => rw [List.replicate_succ, List.flatten_cons, List.length_append, ih, Nat.succ_mul, Nat.add_comm]
end

section
variable {prog : Program} {w : World} {A : Around} {E : Value → Shared → Prop} {s : Shared}
end

section
variable {X : Cx}
end
end L2

namespace Att
open PySem PySem.W PySem.Calls PyProof.Rows

theorem ints_of_wellAll {P : Params} {h : Heap} : ∀ (ns : List Int) (vs : List Value), WellAll P h vs (ns.map WData.int) → IntsAre vs ns := by
 intro ns
 induction ns with
 | nil =>
   intro vs w
   rw [List.map_nil] at w
   cases w
   exact .nil
 | cons n ns ih =>
   intro vs w
   rw [List.map_cons] at w
   cases w with
   | cons a b =>
     cases a
     exact .cons _ _ (ih _ b)

theorem script_of {l : OpenLaw} {n : Nat} (hn : l.most = some n) {P : Params} {h : Heap} {args : List WData} {vals : List Value}
 (hpre : l.row.toRowW.claim.pre args = true) (hwl : WellAll P h vals args) :
 ∃ a vs ns, vals = [Value.ref a] ∧ args = [WData.list (ns.map WData.int)] ∧ h.get? a = some { cls := .type "list", data := .seq vs.toArray } ∧ IntsAre vs ns ∧ ns.length ≤ n := by
 have hsh : WShape.hasAll [] args [.list .int] = true := (pre_splitW hpre).1
 have hc : l.pre.holds [] { args := args } = true := (pre_splitW hpre).2
 obtain ⟨d, r, rfl, h1, h2⟩ := hasAllW_cons hsh
 obtain rfl := hasAllW_nil h2
 obtain ⟨xs, rfl, h3⟩ := hasW_list h1
 obtain ⟨ns, rfl⟩ := items_int h3
 have hlen : ns.length ≤ n := by
  unfold OpenLaw.pre at hc
  have h4 : (WTm.not (.lt (.lit (.int (n : Int))) (.len (.arg 0)))).holds [] { args := [.list (ns.map .int)] } = true := by
   have h4 := (holds_andW hc).1
   rw [hn] at h4
   exact h4
  have h5 := condW_of h4 (w_not (w_lt w_lit (w_len_list (w_arg rfl))))
  rw [List.length_map] at h5
  refine Nat.le_of_not_lt fun q => ?_
  have q' : (n : Int) < ((ns.length : Nat) : Int) := by omega
  first
   | (rw [decide_eq_true q'] at h5; exact absurd h5 (by decide))
   | (simp at h5; omega)
 cases hwl with
 | cons w1 w2 =>
   cases w2
   cases w1 with
   | list ho hall => exact ⟨_, _, ns, rfl, rfl, ho, ints_of_wellAll ns _ hall, hlen⟩

theorem post_true (l : OpenLaw) (args : List WData) : l.row.toRowW.claim.post args (.bool true) args = true :=
 postW_of (r := l.row.toRowW) (X := (true == true))
  (show WShape.has [] (.bool true) .bool = true by first | rfl | decide | simp [WShape.has, WShape.arms, WShape.armsAll])
  (show (WTm.eq .res (.lit (.bool true))).value [] { args := args, res := some (.bool true), after := args } = some (.bool (true == true)) from w_eq_bool (w_res rfl) w_lit) rfl

theorem attach_call {l : OpenLaw} {n : Nat} {q : Program} {loose : List Str} {XP : (Str → Option Value) → Heap → Prop} {YP : World → Heap → Prop} {d : DefRec}
 (hn : l.most = some n) (hdf : d.params.defaults = [])
 (call : ∀ (w : World) (s₀ s₁ : Shared) (mg mb : Str → Option Value) (fa : Addr) (o : Obj) (pm cd doc : Value) (a : Addr) (vs : List Value) (ns : List Int),
  Ground q loose [] XP w s₀ mg mb s₁.heap → YP w s₁.heap →
  s₁.heap.get? fa = some o → o.data = .func (docDef d.name d.params d.body d.scope pm cd doc) → s₁.heap.CodeRec cd d.name → mg d.name = some (.ref fa) →
  s₁.heap.get? a = some { cls := .type "list", data := .seq vs.toArray } → IntsAre vs ns → ns.length ≤ n → s₁.gens = #[] →
  codeAny (model l.prog w) callerA (.call (.ref fa) ⟨[.ref a], []⟩) (fun r s' => r = .ok (.ret (.bool true)) ∧ OldK s₁.heap s'.heap ∧ s'.os = s₁.os ∧ AllBare s'.gens) s₁) :
 WalkO q loose XP YP l.row.toRowW d [] (fun f vs => PySem.call f vs) := by
 intro w s₀ s₁ mg mb G Y fa o pm cd doc dV kV ho hd hcd hD hmg hg args vals as hpre hlay hrd hwl hlo
 obtain rfl : dV = .none := Dflts.none hD hdf
 obtain rfl : kV = .none := Dflts.noKw hD
 obtain ⟨a, vs, ns, rfl, rfl, hobj, hints, hlen⟩ := script_of hn hpre hwl
 refine enter_call (codeAny_mono (call w s₀ s₁ mg mb fa o pm cd doc a vs ns G Y ho (fd_plain hd) hcd hmg hobj hints hlen hg) fun r s' hq => ?_)
 obtain ⟨rfl, h2, h3, h4⟩ := hq
 exact ⟨.inl ⟨.bool true, .bool true, [], rfl, fun _ => rfl, .bool true, post_true l _, fun _ => ⟨List.Pairwise.nil, fun _ hm => (nomatch hm)⟩⟩, h2, h3, h4⟩

section
variable {prog : Program} {w : World} {A : Around} {E : Value → Shared → Prop} {s : Shared} {K : Frag}

end
end Att

namespace L2
open PySem PySem.Spec PyProof.Rows

theorem vals_ints : ∀ {vs : List Value} {ns : List Int}, IntsAre vs ns → Vals (ns.map V.int) vs
 | _, _, .nil => .nil
 | _, _, .cons n t h => .cons ⟨t, rfl⟩ (vals_ints h)

end L2

namespace L2
open PySem PySem.Spec PyProof.Rows

end L2

namespace L2
open PySem PySem.Spec PyProof.Rows

noncomputable def inClass (s : Stmt) (j : Nat) : Stmt := match s with
 | .ClassDef _ _ _ body _ _ _ _ _ _ _ => body.getD j (.Pass ⟨0, 0, 0, 0⟩)
 | _ => .Pass ⟨0, 0, 0, 0⟩
noncomputable def defArgs (s : Stmt) : Arguments := match s with
 | .FunctionDef _ a _ _ _ _ _ _ _ _ => a
 | _ => { posonlyargs := [], args := [], vararg := none, kwonlyargs := [], kw_defaults := [], kwarg := none, defaults := [] }
noncomputable def defBody (s : Stmt) : List Stmt := match s with
 | .FunctionDef _ _ b _ _ _ _ _ _ _ => b
 | _ => []
noncomputable def defScope (s : Stmt) : Scope := match s with
 | .FunctionDef _ _ _ _ _ _ sc _ _ _ => sc
 | _ => { kind := .function, names := [], isGenerator := false, isCoroutine := false }

noncomputable abbrev CX0 : CXT := fun _ _ _ _ _ _ => False
noncomputable abbrev E0 : XK := fun _ _ _ => False
theorem pass0 {X : Cx} : Passes CX0 X E0 := fun _ _ _ _ _ _ _ h => h.elim

structure Fun (K : PySem.W.Frag) (x qual : Str) (st : Stmt) (f : Addr) (fd : FuncData) : Prop where
 ex : ∃ (oc : Value) (od : Option Addr) (kV doc pm : Value) (an : Option Addr) (cdv ct : Value) (osl : Array (Option Value)),
  fd = PySem.W.fnOf x qual (defArgs st) (defBody st) (defScope st) .none kV doc pm an cdv ct ∧ K.lookup f = some ⟨oc, od, .func fd, osl⟩ ∧ PySem.W.codeIn K cdv qual = true
 kp : PySem.W.keepIn K (.ref f) = true
section
variable {P : Program} {w : World} {K : PySem.W.Frag} {mg : Str → Option Value} {base : Heap}
theorem Fun.ok {x qual : Str} {st : Stmt} {f : Addr} {fd : FuncData} {N ps : List Str} {k : Nat} {sp : Sp} (F : Fun K x qual st f fd) (S : FnScope N ps (defScope st)) (len : ∀ vs H Q E, sp vs H Q E → vs.length = ps.length)
 (hbody : ∀ (cdv : Value) (A : Around) (outer : List Env) (s : Shared) (H : Hp) (vs : List V) (Q : VK) (E : XK), Room k (A.deeper (envOfC qual (defScope st) s.heap.objs.size f cdv)) → sp vs H Q E →
  ∃ t, PSs (cxOf CX0 P w K mg base N qual (defScope st) f cdv A outer s H E).nox (defBody st) t ∧ t { nx := fun _ H' => Q .non H', rt := Q } (start N vs) H) : FnOk P w K mg base CX0 (k + 1) f fd ps sp := by
 obtain ⟨oc, od, kV, doc, pm, an, cdv, ct, osl, rfl, lk, hcd⟩ := F.ex
 refine fn_of lk hcd S len fun A outer s H vs Q E hr hsp => ?_
 obtain ⟨t, h, q⟩ := hbody cdv A outer s H vs Q E hr hsp
 exact ⟨t, h.nox, q⟩
theorem Fun.binds {x qual : Str} {st : Stmt} {f : Addr} {fd : FuncData} {ps : List Str} (F : Fun K x qual st f fd)
 (h : ∀ (kV doc pm : Value) (an : Option Addr) (cdv ct : Value) (us : List Value), us.length = ps.length → bindArgs (PySem.W.fnOf x qual (defArgs st) (defBody st) (defScope st) .none kV doc pm an cdv ct) ⟨us, []⟩ = pure (ps.zip us)) : Binds K fd ps [] := by
 obtain ⟨oc, od, kV, doc, pm, an, cdv, ct, osl, rfl, lk, hcd⟩ := F.ex
 exact .all (h kV doc pm an cdv ct)
theorem fun_mk {x qual : Str} {st : Stmt} {f : Addr} {oc : Value} {od an : Option Addr} {osl : Array (Option Value)} {kV doc pm cdv ct : Value} (l : K.lookup f = some ⟨oc, od, .func (PySem.W.fnOf x qual (defArgs st) (defBody st) (defScope st) .none kV doc pm an cdv ct), osl⟩)
 (c : PySem.W.codeIn K cdv qual = true) (k : PySem.W.keepIn K (.ref f) = true) : Fun K x qual st f (PySem.W.fnOf x qual (defArgs st) (defBody st) (defScope st) .none kV doc pm an cdv ct) := ⟨⟨oc, od, kV, doc, pm, an, cdv, ct, osl, rfl, l, c⟩, k⟩
end
theorem small1000 {n : Nat} (h : n ≤ 1000) : n < sizeLine := Nat.lt_of_le_of_lt h (by decide)

section
variable {X : Cx}
theorem pv (i : Nat) {x : Str} {pos : Pos} (hN : X.N[i]? = some x := by rfl) (hv : Vis X.env.scope x := by first | exact Or.inl rfl | exact Or.inr (Or.inl rfl) | exact Or.inr (Or.inr rfl)) (hd : (x == ("__debug__" : Str)) = false := by decide)
 (hcd : (x == ("__classdict__" : Str)) = false := by decide) : PE X (.Name x pos) (tVar i) := pe_var hN hv hd hcd
end

theorem iteF {A B : Prop} (h : B) : if false = true then A else B := by
 rw [if_neg Bool.false_ne_true]
 exact h
theorem iteT {A B : Prop} (h : A) : if true = true then A else B := by
 rw [if_pos rfl]
 exact h
noncomputable def Same (H H' : Hp) : Prop := ∀ b o, H b = some o → H' b = some o
theorem Same.refl (H : Hp) : Same H H := fun _ _ h => h
theorem Same.trans {H H1 H2 : Hp} (a : Same H H1) (b : Same H1 H2) : Same H H2 := fun c o h => b c o (a c o h)
theorem Same.free {H H' : Hp} (e : Same H H') {l : Addr} (h : H' l = Option.none) : H l = Option.none := by
 cases q : H l with
 | none => rfl
 | some o =>
   rw [e l o q] at h
   cases h
theorem Same.seq {K : PySem.W.Frag} {H H' : Hp} {a : Addr} {xs : List V} (e : Same H H') (h : SqL K H a xs) : SqL K H' a xs := by
 rcases h with (h | ⟨o, h⟩) | h
 · exact .inl (.inl (e _ _ h))
 · exact .inl (.inr ⟨o, e _ _ h⟩)
 · exact .inr h

end L2

namespace L2
open PySem PySem.Spec PyProof.Rows

section
variable {prog : Program} {w : World} {A : Around} {R : Result → Shared → Prop} {s : Shared}
theorem compLoop_any {elt target iter : Expr} {ifs : List Expr} {scope : Scope} {pos : Pos} {it acc : Value} {env : Env} (I : Nat → Shared → Prop)
 (turn : ∀ n s, I n s → wpAny (model prog w) A (pyNext it) (fun r s₁ => match r with
  | none => R (.ok .next) s₁
  | some v => wpAny (model prog w) A (letOwnedTupleGo target it v) (fun _ s₁' => wpAny (model prog w) A (assign target env v) (fun _ s₂ =>
   wpAny (model prog w) A (forIn ifs true fun c r => if r = true then do let ok ← isTrue c env (eval c env); pure (ForInStep.yield ok) else pure (ForInStep.yield r)) (fun ok s₃ =>
    if ok = true then wpAny (model prog w) A (eval elt env) (fun x s₄ =>
     wpAny (model prog w) A (call (.builtin "list.append") [acc, x]) (fun _ s₅ => ∃ m, m < n ∧ I m s₅) (fun _ _ => False) s₄) (fun _ _ => False) s₃
    else ∃ m, m < n ∧ I m s₃) (fun _ _ => False) s₂) (fun _ _ => False) s₁') (fun _ _ => False) s₁) (fun _ _ => False) s)
 (n : Nat) (h : I n s) :
 codeAny (model prog w) A (.compLoop (.ListComp elt [⟨target, iter, ifs, 0⟩] scope pos) 0 it acc env) R s := by
 refine codeAny_loop rfl I (fun n s hI => ?_) n h
 show wpAny _ A ((compTurn (.ListComp elt [⟨target, iter, ifs, 0⟩] scope pos) 0 it acc env).onRaise (fun x => do noteFrame x env; theTreesLotGoes x)) _ _ s
 refine wpAny_noted ?_
 rw [compTurn_list]
 have el : ∀ {E' : Value → Shared → Prop} (x : Value) (s' : Shared), False → E' x s' := fun _ _ f => f.elim
 refine wpAny_bind (wpAny_standAt (wpAny_bind (wpAny_mono (turn n s hI) (fun r s₁ h₁ => ?_) fun _ _ f => f.elim)))
 cases r with
 | none => exact wpAny_pure h₁
 | some v =>
   refine wpAny_bind (wpAny_mono h₁ (fun _ s₁' h₁' => ?_) fun _ _ f => f.elim)
   refine wpAny_bind (wpAny_mono h₁' (fun _ s₂ h₂ => wpAny_bind (wpAny_mono h₂ (fun ok s₃ h₃ => ?_) fun _ _ f => f.elim)) fun _ _ f => f.elim)
   cases ok with
   | false => exact wpAny_pure ⟨rfl, h₃⟩
   | true =>
     exact wpAny_bind (wpAny_bind (wpAny_mono h₃ (fun x s₄ h₄ => wpAny_bind (wpAny_mono h₄ (fun _ s₅ h₅ => wpAny_pure (wpAny_pure ⟨rfl, h₅⟩)) fun _ _ f => f.elim)) fun _ _ f => f.elim))
end

noncomputable def compX (X : Cx) (N' : List Str) (scope : Scope) (cl : List (Str × Addr)) (C : Addr) (s : Shared) (H : Hp) (fp : List Addr) : Cx where
 prog := X.prog
 w := X.w
 K := X.K
 mg := X.mg
 base := X.base
 A := X.A
 N := N'
 s₀ := s
 H₀ := H
 env := compEnvC scope cl C X.env
 outer := X.stack
 stack := X.stack
 ex := fp
 fn := fun _ => false
 calm := X.calm
 pn := []
 xe := fun _ _ => False

noncomputable def PTs (X : Cx) (ifs : List Expr) (t : TT) : Prop :=
 ∀ (pins : List (Addr × Obj)) (s : Shared) (σ : St) (H : Hp) (Q : Bool → Hp → Prop), Inv X pins σ H s → t σ H Q →
   wpAny (model X.prog X.w) X.A (forIn ifs true fun c r => if r = true then do let ok ← isTrue c X.env (eval c X.env); pure (ForInStep.yield ok) else pure (ForInStep.yield r)) (TP X pins σ Q) X.xe s
theorem pts_nil {X : Cx} : PTs X [] (fun _ H Q => Q true H) := fun _ _ _ H _ I h => wpAny_pure ⟨H, I, h⟩
theorem pts_one {X : Cx} {c : Expr} {t : TT} (h : PT X c t) : PTs X [c] t := fun pins s σ H Q I hw => by
 simp only [List.forIn_cons, List.forIn_nil, if_true]
 exact wpAny_bind (wpAny_bind (wpAny_mono (h pins s σ H Q I hw) (fun b s' hb => wpAny_pure (wpAny_pure hb)) fun _ _ x => x))

noncomputable def Cap (X : Cx) (sc : Scope) : List Str → List (Option Nat) → Prop
 | [], [] => True
 | _ :: N, none :: ks => Cap X sc N ks
 | x :: N, some k :: ks => (X.N[k]? = some x ∧ X.env.scope.names.lookup x = some .cell ∧ (sc.names.lookup x = some .cell ∨ sc.names.lookup x = some .free)) ∧ Cap X sc N ks
 | _, _ => False
theorem Cap.len {X : Cx} {sc : Scope} : ∀ {N : List Str} {ks : List (Option Nat)}, Cap X sc N ks → ks.length = N.length
 | [], [], _ => rfl
 | _ :: N, none :: ks, h => by simp [Cap.len (show Cap X sc N ks from h)]
 | _ :: N, some _ :: ks, h => by simp [Cap.len (show Cap X sc N ks from h.2)]
 | [], _ :: _, h => by cases h
 | _ :: _, [], h => by cases h
theorem Cap.get {X : Cx} {sc : Scope} : ∀ {N : List Str} {ks : List (Option Nat)} {i k : Nat} {x : Str}, Cap X sc N ks → N[i]? = some x → ks[i]? = some (some k) →
 X.N[k]? = some x ∧ X.env.scope.names.lookup x = some .cell ∧ (sc.names.lookup x = some .cell ∨ sc.names.lookup x = some .free)
 | [], [], _, _, _, _, e, _ => by simp at e
 | [], _ :: _, _, _, _, h, _, _ => by cases h
 | _ :: _, [], _, _, _, h, _, _ => by cases h
 | _ :: N, none :: ks, 0, k, x, h, e1, e2 => by simp at e2
 | _ :: N, none :: ks, i + 1, k, x, h, e1, e2 => Cap.get (i := i) (show Cap X sc N ks from h) (by simpa using e1) (by simpa using e2)
 | y :: N, some j :: ks, 0, k, x, h, e1, e2 => by
   simp at e1 e2
   subst e1 e2
   exact h.1
 | _ :: N, some _ :: ks, i + 1, k, x, h, e1, e2 => Cap.get (i := i) (show Cap X sc N ks from h.2) (by simpa using e1) (by simpa using e2)
noncomputable def capt (ks : List (Option Nat)) (σ : St) : St := ks.map fun o => match o with
 | none => none
 | some k => σ.getD k none

noncomputable def CompW (J : It) (D : Addr) (g : TG) (tt : TT) (te : TE) (Q : VK) (σ0 : St) (H0 : Hp) : Prop :=
 ∃ W : Nat → Nat → List V → St → Hp → Prop, (∃ m, W 0 m [] σ0 H0) ∧ ∀ i m ys σ' H', W i m ys σ' H' → H' D = some (.lst ys) ∧
   ((J.stop i H' ∧ Q (.ref D) H') ∨ (J.go i H' ∧ ∀ x H2, J.yld i H' x H2 → g x σ' H2 fun σ3 H3 => tt σ3 H3 fun b H4 => if b = true then
     te σ3 H4 fun y H5 => H5 D = some (.lst ys) ∧ ys.length < sizeLine ∧ ∃ m', m' < m ∧ W (i + 1) m' (ys ++ [y]) σ3 (upd H5 D (.lst (ys ++ [y]))) else ∃ m', m' < m ∧ W (i + 1) m' ys σ3 H4))
noncomputable def tComp (wi : TI) (ks : List (Option Nat)) (g : TG) (tt : TT) (te : TE) : TE := fun σ H Q => wi σ H fun J H1 => ∀ D, H1 D = none → CompW J D g tt te Q (capt ks σ) (upd H1 D (.lst []))

section
variable {X : Cx}
theorem pe_comp {tg iter elt : Expr} {ifs : List Expr} {scope : Scope} {pos : Pos} {N' : List Str} {ks : List (Option Nat)} {cl : List (Str × Addr)} {wi : TI} {g : TG} {tt : TT} {te : TE}
 (hcalm : X.calm = true) (hi : PI X tg iter wi) (hclos : closureFor scope X.env = pure cl) (hcl : ∀ x c, cl.lookup x = some c → X.env.cells.lookup x = some c)
 (hcell : ∀ y ∈ scope.names, y.2 ≠ .cell) (hkind : scope.kind = .function) (hnames : ∀ y ∈ scope.names, y.2 = .local → scope.names.lookup y.1 = some .local)
 (hhas : ∀ x, ((relabel scope X.env).names.lookup x = some .cell ∨ (relabel scope X.env).names.lookup x = some .free) → ∃ c, cl.lookup x = some c)
 (hcap : Cap X (relabel scope X.env) N' ks)
 (hg : ∀ C s H fp, PG (compX X N' scope cl C s H fp) tg g) (ht : ∀ C s H fp, PTs (compX X N' scope cl C s H fp) ifs tt) (he : ∀ C s H fp, PE (compX X N' scope cl C s H fp) elt te)
 (hs : ∀ x, foldedSetIterable iter X.env x = pure x := by intro _; rfl) : PE X (.ListComp elt [⟨tg, iter, ifs, 0⟩] scope pos) (tComp wi ks g tt te) := by
 intro pins s σ H Q I h
 rw [eval_ListComp]
 refine wpAny_comprehension_free (use := none) rfl hs hclos hkind hnames (thn (hi pins s σ H _ I h) fun v s1 h1 => thn h1 fun itv s2 h2 => ?_)
 obtain ⟨it, fp, tn, J, H2, e, I2, T, st2, f2, R⟩ := h2
 subst e
 refine wpAny_newObj_type (wpAny_newFunctionEnv hcell (by intro y hy; simp at hy) (fun h₁ hns₁ hsb₁ => ?_) hkind)
 dsimp only at hns₁ hsb₁ ⊢
 have hD : H2 s2.heap.objs.size = none := I2.hok.fresh (Nat.le_refl _)
 obtain ⟨W, ⟨m0, w0⟩, turn⟩ := R _ hD
 generalize hs3 : ({ s2 with heap := s2.heap.push { cls := .type "list", dict := none, data := .seq ([] : List Value).toArray } } : Shared) = s3
 have e3 : s3.heap = s2.heap.push { cls := .type "list", dict := none, data := .seq ([] : List Value).toArray } := by rw [← hs3]
 have I3 : Inv X pins σ (upd H2 s2.heap.objs.size (.lst [])) s3 := by
  rw [← hs3]
  exact I2.laid (t' := s2.toks) (fun b o e => Heap.get?_push_of_some _ e) (Nat.le_refl _) ⟨Nat.zero_le _, [], 0, .nil, Heap.get?_push_size _ rfl⟩
 generalize hD0 : s2.heap.objs.size = D at *
 generalize hH3 : upd H2 D (.lst []) = H3 at *
 rw [← e3] at hns₁ hsb₁ ⊢
 -- what newFunctionEnv keeps
 have kp : ∀ b o, s3.heap.get? b = some o → h₁.get? b = some o := fun b o e => hsb₁.extBut b o (Nat.ne_of_lt (Heap.lt_size e)) (Heap.get?_push_of_some _ e)
 have f3 : ∀ b ∈ fp, FpOk X pins H3 b ∧ b < s3.heap.objs.size := fun b hb => by
  obtain ⟨o, ho, _⟩ := T.obj 0 _ st2 b hb
  have hlt : b < D := by rw [← hD0]; exact Heap.lt_size ho
  refine ⟨⟨?_, (f2 b hb).2⟩, ?_⟩
  · rw [← hH3, upd_ne (Nat.ne_of_lt hlt)]; exact (f2 b hb).1
  · rw [e3, Heap.size_push, hD0]; exact Nat.lt_succ_of_lt hlt
 have st3 : tn 0 h₁ := T.keep 0 s2.heap h₁ st2 fun b hb o e => kp b o (by rw [e3]; exact Heap.get?_push_of_some _ e)
 have capK : ∀ x c, cl.lookup x = some c → X.env.cells.lookup x = some c := hcl
 have stkne : ∀ b ∈ fp, b ∉ frs X.stack := fun b hb z => by
  rcases List.mem_cons.mp (I3.stkSub b z) with e | e
  · exact (f3 b hb).1.2.1 e
  · exact (f3 b hb).1.2.2.1 e
 have Cfresh : H3 s3.heap.objs.size = none := I3.hok.fresh (Nat.le_refl _)
 have ok' : (compX X N' scope cl s3.heap.objs.size s3 H3 fp).Ok := by
  refine ⟨I3.ok.mod, hkind, I3.ok.glob, I3.ok.blt, Nat.le_refl _, fun x y c h1 h2 => I3.ok.inj x y c (capK x c h1) (capK y c h2), fun x hx => hhas x hx, fun x c hf _ => absurd (show false = true from hf) Bool.false_ne_true, fun z => I3.ok.hd z, I3.ok.frames, .inl rfl,
   fun b hb => ⟨Nat.ne_of_lt (f3 b hb).2, fun x c e => (f3 b hb).1.2.2.2.2.1 x c (capK x c e)⟩, I3.bs, Nat.le_trans I3.ok.bsz I3.sz, fun b o e hb => ?_, fun b hb => stkne b hb, I3.stack, I3.stkFree⟩
  rcases (f3 b hb).1.2.2.2.1 with z | z
  · exact I3.ok.noex b o e z
  · exact absurd (Nat.lt_of_lt_of_le (Heap.lt_size e) (Nat.le_trans I3.ok.bsz z)) (Nat.lt_irrefl _)
 have I4 : Inv (compX X N' scope cl s3.heap.objs.size s3 H3 fp) [] (capt ks σ) H3 { s3 with heap := h₁, toks := s3.toks + ([] : List (Str × Value)).length } := by
  refine ⟨ok', rfl, I3.bare, Un.kept kp, ⟨_, hns₁, fun i x v e1 e2 e3' => ?_⟩, fun x c e => ?_, Cfresh, fun x c e => I3.freeC x c (capK x c e), fun p hp => absurd (show p ∈ ([] : List (Addr × Obj)) from hp) (by simp), I3.hok.kept kp, ?_⟩
  · have e2' : (capt ks σ)[i]? = some (some v) := e2
    unfold capt at e2'
    rw [List.getElem?_map] at e2'
    cases hk : ks[i]? with
    | none => rw [hk] at e2'; cases e2'
    | some o =>
      rw [hk] at e2'
      cases o with
      | none => cases e2'
      | some k =>
        have ev : σ.getD k none = some v := Option.some.inj e2'
        obtain ⟨c1, c2, c3⟩ := hcap.get e1 hk
        obtain ⟨m, hn, hl⟩ := I3.loc
        have es : σ[k]? = some (some v) := by
         rw [List.getD_eq_getElem?_getD] at ev
         cases q : σ[k]? with
         | none => rw [q] at ev; cases ev
         | some z => rw [q] at ev; exact congrArg some ev
        obtain ⟨u, r, l⟩ := hl k x v c1 es (.inr (.inl c2))
        refine ⟨u, r, .inr ⟨c3, ?_⟩⟩
        rcases l with ⟨l1, _⟩ | ⟨_, c, l2, l3⟩
        · have l1' : X.env.scope.names.lookup x = some .local := l1
          rw [c2] at l1'; cases l1'
        · obtain ⟨c', hc'⟩ := hhas x c3
          have : X.env.cells.lookup x = some c' := capK x c' hc'
          rw [l2] at this
          cases this
          refine ⟨c, hc', ?_⟩
          obtain ⟨o, ho, hd⟩ := l3
          exact ⟨o, kp c o ho, hd⟩
  · obtain ⟨v, o, ho, hd⟩ := I3.cell x c (capK x c e)
    exact ⟨v, o, kp c o ho, hd⟩
  · show (capt ks σ).length = N'.length
    unfold capt
    rw [List.length_map, hcap.len]
 -- behind the block
 have Cne : ∀ p ∈ X.pn ++ pins, p.1 ≠ s3.heap.objs.size := fun p hp => Nat.ne_of_lt (Heap.lt_size (I3.pin p hp).1)
 have back : ∀ {σ' : St} {H' : Hp} {s' : Shared}, Inv (compX X N' scope cl s3.heap.objs.size s3 H3 fp) [] σ' H' s' → ∀ h'' : Heap, Heap.SameBut s3.heap.objs.size s'.heap h'' → Inv X pins σ H' { s' with heap := h'' } := fun {σ' H' s'} I' h'' sb => by
  have J1 : Inv X pins σ H' s' := I3.call' (ch := fp) I'.os I'.base I'.hok I'.bare fun b hb => ⟨(f3 b hb).1.2.2.2.1, (f3 b hb).1.2.1, (f3 b hb).1.2.2.2.2.1, (f3 b hb).1.2.2.2.2.2⟩
  refine J1.turned (t' := s'.toks) (it := s3.heap.objs.size) (fun b o hb e => (sb.2 b hb).trans e) I'.free (Nat.ne_of_gt I3.lt) (.inr I3.sz) (fun x c e => ?_) Cne
  obtain ⟨v, q⟩ := I3.cell x c e
  exact Nat.ne_of_lt q.lt
 have fpok : ∀ {H' : Hp}, (∀ b ∈ fp, H' b = none) → ∀ b ∈ fp, FpOk (compX X N' scope cl s3.heap.objs.size s3 H3 fp) [] H' b := fun hn b hb =>
  ⟨hn b hb, Nat.ne_of_lt (f3 b hb).2, stkne b hb, .inl hb, fun x c e => (f3 b hb).1.2.2.2.2.1 x c (capK x c e), fun p hp => absurd (show p ∈ ([] : List (Addr × Obj)) from hp) (by simp)⟩
 have loop : codeAny (model X.prog X.w) X.A (.compLoop (.ListComp elt [⟨tg, iter, ifs, 0⟩] scope pos) 0 (.ref it) (.ref D) (compEnvC scope cl s3.heap.objs.size X.env))
  (compPost (model X.prog X.w) X.A X.xe none (EP X pins σ Q) (.ref D) s3.heap.objs.size) { s3 with heap := h₁, toks := s3.toks + ([] : List (Str × Value)).length } := by
  refine compLoop_any (fun n s' => ∃ i ys σ' H', Inv (compX X N' scope cl s3.heap.objs.size s3 H3 fp) [] σ' H' s' ∧ tn i s'.heap ∧ (∀ b ∈ fp, H' b = none) ∧ W i n ys σ' H') ?_ m0 ⟨0, [], _, _, I4, st3, fun b hb => (f3 b hb).1.1, w0⟩
  rintro n s5 ⟨i, ys, σ5, H5, I5, st5, fr5, w5⟩
  obtain ⟨hD5, tq⟩ := turn i n ys σ5 H5 w5
  rcases tq with ⟨stop, q⟩ | ⟨go, step⟩
  · refine thn (T.done (compX X N' scope cl s3.heap.objs.size s3 H3 fp) rfl rfl rfl hcalm i [] s5 σ5 H5 _ I5 (fpok fr5) st5 stop) fun r s6 ⟨hr, I6⟩ => ?_
    subst hr
    obtain ⟨m, hn, _⟩ := I6.loc
    exact ⟨m, hn, fun h'' sb => ⟨.ref D, H5, back I6 h'' sb, rfl, q⟩⟩
  · refine thn (T.item (compX X N' scope cl s3.heap.objs.size s3 H3 fp) rfl rfl rfl hcalm i [] s5 σ5 H5 _ I5 (fpok fr5) st5 go) fun r s6 ⟨u, hr, h6⟩ => ?_
    subst hr
    refine thn h6 fun _ s7 ⟨x, H7, I7, r7, y7, st7, fr7⟩ => ?_
    have I7' := I7.pinned (fpok fr7) (T.obj _ _ st7)
    refine thn (hg _ _ _ _ _ s7 σ5 H7 x u _ I7' r7 (step x H7 y7)) fun _ s8 ⟨σ8, H8, I8, q8⟩ => ?_
    refine thn (ht _ _ _ _ _ s8 σ8 H8 _ I8 q8) fun ok s9 ⟨H9, I9, q9⟩ => ?_
    have again : ∀ {σ' : St} {H' : Hp} {s' : Shared} {ys' : List V}, Inv (compX X N' scope cl s3.heap.objs.size s3 H3 fp) ([] ++ pinsAt fp s7.heap) σ' H' s' → (∃ m', m' < n ∧ W (i + 1) m' ys' σ' H') →
     ∃ m', m' < n ∧ ∃ i ys σ' H', Inv (compX X N' scope cl s3.heap.objs.size s3 H3 fp) [] σ' H' s' ∧ tn i s'.heap ∧ (∀ b ∈ fp, H' b = none) ∧ W i m' ys σ' H' := fun {σ' H' s' ys'} I' hw => by
     obtain ⟨m', hm, w'⟩ := hw
     refine ⟨m', hm, i + 1, ys', σ', H', I'.unpinned, T.keep _ _ _ st7 fun b hb o e => (I'.pin (b, o) (List.mem_append_right _ (List.mem_append_right _ (mem_pinsAt hb e)))).1, fun b hb => ?_, w'⟩
     obtain ⟨o, e, d⟩ := T.obj _ _ st7 b hb
     exact (I'.pin (b, o) (List.mem_append_right _ (List.mem_append_right _ (mem_pinsAt hb e)))).2.1
    cases ok with
    | false =>
      rw [if_neg Bool.false_ne_true] at q9 ⊢
      exact again I9 q9
    | true =>
      rw [if_pos rfl] at q9 ⊢
      refine thn (he _ _ _ _ _ s9 σ8 H9 _ I9 q9) fun y s10 ⟨yv, H10, I10, r10, q10, z10, w10⟩ => ?_
      refine thn (mt_append _ s10 σ8 H10 (.ref D) [yv] (.ref D) [y] (fun v H' => v = .non ∧ H' = upd H10 D (.lst (ys ++ [yv]))) I10 rfl (.cons r10 .nil) ⟨D, ys, yv, rfl, rfl, q10, z10, rfl, rfl⟩) fun _ s11 ⟨_, H11, I11, _, _, e11⟩ => ?_
      subst e11
      exact again I11 w10
 have es : ({ s3 with heap := h₁, toks := s3.toks + ([] : List (Str × Value)).length } : Shared) = { s2 with heap := h₁, toks := s2.toks + ([] : List (Str × Value)).length } := by rw [← hs3]
 rw [es] at loop
 exact codeAny_compStart_list loop (T.self _ 0 _ _ _ st3 loop)
end
end L2

namespace L2
open PySem PySem.Spec PyProof.Rows

noncomputable def Sz (n : Nat) (k : Int) : Prop := k.natAbs < 2 ^ n
theorem Sz.mono {n m : Nat} {k : Int} (h : Sz n k) (l : n ≤ m) : Sz m k := Nat.lt_of_lt_of_le h (Nat.pow_le_pow_right (by decide) l)
theorem Sz.mul {n m : Nat} {a b : Int} (h : Sz n a) (h' : Sz m b) : Sz (n + m) (a * b) := by
 unfold Sz at *
 rw [Int.natAbs_mul, Nat.pow_add]
 exact Nat.mul_lt_mul'' h h'
theorem Sz.add {n : Nat} {a b : Int} (h : Sz n a) (h' : Sz n b) : Sz (n + 1) (a + b) := by
 unfold Sz at *
 rw [Nat.pow_succ]
 omega
theorem Sz.sub {n : Nat} {a b : Int} (h : Sz n a) (h' : Sz n b) : Sz (n + 1) (a - b) := by
 unfold Sz at *
 rw [Nat.pow_succ]
 omega
theorem Sz.neg {n : Nat} {a : Int} (h : Sz n a) : Sz n (-a) := by
 unfold Sz at *
 omega
theorem Sz.bits {n : Nat} {k : Int} (h : Sz n k) : Builtin.Int.intBits k ≤ n := by
 unfold Builtin.Int.intBits
 split
 · exact Nat.zero_le _
 · rename_i hk
   have h0 : k.natAbs ≠ 0 := fun z => hk (by simp at z; simp [z])
   have := (Nat.log2_lt h0).mpr h
   omega
theorem Sz.log2 {n : Nat} {k : Int} (h : Sz n k) (hn : 0 < n) : k.natAbs.log2 < n := by
 by_cases h0 : k.natAbs = 0
 · rw [h0]; exact hn
 · exact (Nat.log2_lt h0).mpr h
noncomputable def CMulB (i j : Int) : Prop := Sz 100000 i ∧ Sz 100000 j
theorem CMulB.ok {i j : Int} (h : CMulB i j) : IntMulOk i j := by
 have h1 := h.1.bits
 have h2 := h.2.bits
 have e : Builtin.Int.intTooBig ((Builtin.Int.intBits i : Int) + Builtin.Int.intBits j) = false := by
  unfold Builtin.Int.intTooBig
  refine decide_eq_false ?_
  have : (bitsLine : Nat) = 134217728 := rfl
  rw [this]
  omega
 unfold IntMulOk
 simp [e]
noncomputable def CDivB (_ j : Int) : Prop := j ≠ 0 ∧ Sz 9000 j
section
variable {X : Cx}
theorem op_mulB : OpR X (binaryOp .Mult) (rI CMulB fun i j => .int (i * j)) := opI fun _ _ _ _ _ _ _ hc q => mul_int q hc.ok
theorem op_fdivB : OpR X (binaryOp .FloorDiv) (rI CDivB fun i j => .int (i.fdiv j)) := opI fun _ _ _ _ _ _ _ hc q => floordiv_int hc.1 q (.inl (PyProof.noPylong_of_log2 (hc.2.log2 (by decide))))
end

inductive Dt where
 | non | bl (b : Bool) | int (i : Int) | str (x : Str) | tup (xs : List Dt) | lst (xs : List Dt)
mutual
def Den (K : PySem.W.Frag) (H : Hp) : Dt → V → Prop
 | .non, v => v = .non
 | .bl b, v => v = .bl b
 | .int i, v => v = .int i
 | .str x, v => v = .str x
 | .tup ds, v => ∃ a xs, v = .ref a ∧ SqT K H a xs ∧ Dens K H ds xs
 | .lst ds, v => ∃ a xs, v = .ref a ∧ SqL K H a xs ∧ Dens K H ds xs
def Dens (K : PySem.W.Frag) (H : Hp) : List Dt → List V → Prop
 | [], xs => xs = []
 | d :: ds, xs => ∃ x r, xs = x :: r ∧ Den K H d x ∧ Dens K H ds r
end
mutual
def eqD : Dt → Dt → Bool
 | .non, .non => true
 | .bl a, .bl b => a == b
 | .bl a, .int b => (if a then 1 else 0) == b
 | .int a, .bl b => a == (if b then 1 else 0)
 | .int a, .int b => a == b
 | .str a, .str b => a == b
 | .tup xs, .tup ys => eqDs xs ys
 | .lst xs, .lst ys => eqDs xs ys
 | _, _ => false
def eqDs : List Dt → List Dt → Bool
 | [], [] => true
 | x :: xs, y :: ys => eqD x y && eqDs xs ys
 | _, _ => false
end
mutual
def depD : Dt → Nat
 | .tup xs => depDs xs + 1
 | .lst xs => depDs xs + 1
 | _ => 0
def depDs : List Dt → Nat
 | [] => 0
 | x :: xs => max (depD x) (depDs xs)
end
mutual
theorem eqD_refl : ∀ d : Dt, eqD d d = true
 | .non => rfl
 | .bl b => by simp [eqD]
 | .int b => by simp [eqD]
 | .str b => by simp [eqD]
 | .tup xs => by simp only [eqD]; exact eqDs_refl xs
 | .lst xs => by simp only [eqD]; exact eqDs_refl xs
theorem eqDs_refl : ∀ ds : List Dt, eqDs ds ds = true
 | [] => rfl
 | x :: xs => by simp only [eqDs, eqD_refl x, eqDs_refl xs, Bool.and_self]
end
theorem Dens.length {K : PySem.W.Frag} {H : Hp} : ∀ {ds : List Dt} {xs : List V}, Dens K H ds xs → xs.length = ds.length
 | [], _, h => by simp only [Dens] at h; subst h; rfl
 | d :: ds, _, h => by
   simp only [Dens] at h
   obtain ⟨x, r, rfl, _, h⟩ := h
   simp [Dens.length h]
section
variable {X : Cx} {pins : List (Addr × Obj)} {σ : St} {H : Hp} {s : Shared}
theorem kinds_apart (I : Inv X pins σ H s) {a : Addr} {xs ys : List V} (h : SqT X.K H a xs) (h' : SqL X.K H a ys) : False := by
 obtain ⟨its, _, ⟨o, e, c, _⟩, _⟩ := I.tuple h
 obtain ⟨its', _, ⟨o', n', e', c', _⟩, _⟩ := I.list h'
 rw [e] at e'; cases e'
 rw [c] at c'
 have : ("tuple" : String) = "list" := by injection c'
 exact absurd this (by decide)
mutual
theorem Den.inj (I : Inv X pins σ H s) : ∀ {d e : Dt} {v : V}, Den X.K H d v → Den X.K H e v → d = e
 | .non, e, v, h, h' => by
   simp only [Den] at h
   subst h
   cases e <;> simp only [Den] at h' <;> first
    | rfl
    | (obtain ⟨_, _, z, _⟩ := h'; cases z; done)
    | (cases h'; done)
 | .bl b, e, v, h, h' => by
   simp only [Den] at h
   subst h
   cases e <;> simp only [Den] at h' <;> first
    | (obtain ⟨_, _, z, _⟩ := h'; cases z; done)
    | (cases h'; rfl)
    | (cases h'; done)
 | .int b, e, v, h, h' => by
   simp only [Den] at h
   subst h
   cases e <;> simp only [Den] at h' <;> first
    | (obtain ⟨_, _, z, _⟩ := h'; cases z; done)
    | (cases h'; rfl)
    | (cases h'; done)
 | .str b, e, v, h, h' => by
   simp only [Den] at h
   subst h
   cases e <;> simp only [Den] at h' <;> first
    | (obtain ⟨_, _, z, _⟩ := h'; cases z; done)
    | (cases h'; rfl)
    | (cases h'; done)
 | .tup ds, e, v, h, h' => by
   simp only [Den] at h
   obtain ⟨a, xs, rfl, hx, hd⟩ := h
   cases e with
   | tup es =>
     simp only [Den] at h'
     obtain ⟨b, ys, z, hy, he⟩ := h'
     cases z
     rw [I.tuple_inj hy hx] at he
     rw [Dens.inj I hd he]
   | lst es =>
     simp only [Den] at h'
     obtain ⟨b, ys, z, hy, he⟩ := h'
     cases z
     exact (kinds_apart I hx hy).elim
   | non => simp only [Den] at h'; cases h'
   | bl b => simp only [Den] at h'; cases h'
   | int b => simp only [Den] at h'; cases h'
   | str b => simp only [Den] at h'; cases h'
 | .lst ds, e, v, h, h' => by
   simp only [Den] at h
   obtain ⟨a, xs, rfl, hx, hd⟩ := h
   cases e with
   | lst es =>
     simp only [Den] at h'
     obtain ⟨b, ys, z, hy, he⟩ := h'
     cases z
     rw [I.list_inj hy hx] at he
     rw [Dens.inj I hd he]
   | tup es =>
     simp only [Den] at h'
     obtain ⟨b, ys, z, hy, he⟩ := h'
     cases z
     exact (kinds_apart I hy hx).elim
   | non => simp only [Den] at h'; cases h'
   | bl b => simp only [Den] at h'; cases h'
   | int b => simp only [Den] at h'; cases h'
   | str b => simp only [Den] at h'; cases h'
theorem Dens.inj (I : Inv X pins σ H s) : ∀ {ds es : List Dt} {vs : List V}, Dens X.K H ds vs → Dens X.K H es vs → ds = es
 | [], [], _, _, _ => rfl
 | [], e :: es, vs, h, h' => by
   simp only [Dens] at h h'
   subst h
   obtain ⟨_, _, z, _⟩ := h'
   cases z
 | d :: ds, [], vs, h, h' => by
   simp only [Dens] at h h'
   subst h'
   obtain ⟨_, _, z, _⟩ := h
   cases z
 | d :: ds, e :: es, vs, h, h' => by
   simp only [Dens] at h h'
   obtain ⟨x, r, rfl, h1, h2⟩ := h
   obtain ⟨y, r', z, h3, h4⟩ := h'
   cases z
   rw [Den.inj I h1 h3, Dens.inj I h2 h4]
end
noncomputable def eqAtD (ds es : List Dt) (j : Nat) : Bool := match ds[j]?, es[j]? with
 | some d, some e => eqD d e
 | _, _ => true
theorem all_eqAtD : ∀ (ds es : List Dt), ds.length = es.length → (List.range ds.length).all (eqAtD ds es) = eqDs ds es
 | [], [], _ => rfl
 | d :: ds, e :: es, h => by
   have ih := all_eqAtD ds es (by simpa using h)
   rw [List.length_cons, List.range_succ_eq_map, List.all_cons, List.all_map]
   have e0 : eqAtD (d :: ds) (e :: es) 0 = eqD d e := rfl
   have e1 : (eqAtD (d :: ds) (e :: es)) ∘ Nat.succ = eqAtD ds es := by
    funext j
    simp [eqAtD, Function.comp]
   rw [e0, e1, ih]
   rfl
theorem eqDs_len : ∀ (ds es : List Dt), ds.length ≠ es.length → eqDs ds es = false
 | [], [], h => absurd rfl h
 | [], _ :: _, _ => rfl
 | _ :: _, [], _ => rfl
 | d :: ds, e :: es, h => by
   simp only [eqDs]
   rw [eqDs_len ds es (by simpa using h), Bool.and_false]
end
end L2

namespace L2
open PySem PySem.Spec PyProof.Rows
section
variable {X : Cx} {pins : List (Addr × Obj)} {σ : St} {H : Hp} {s : Shared}
theorem Dens.get {K : PySem.W.Frag} {H : Hp} : ∀ {ds : List Dt} {xs : List V} {j : Nat} {d : Dt}, Dens K H ds xs → ds[j]? = some d → ∃ x, xs[j]? = some x ∧ Den K H d x
 | [], _, _, _, _, e => by simp at e
 | d :: ds, xs, 0, d', h, e => by
   simp only [Dens] at h
   obtain ⟨x, r, rfl, h1, _⟩ := h
   simp at e
   subst e
   exact ⟨x, rfl, h1⟩
 | d :: ds, xs, j + 1, d', h, e => by
   simp only [Dens] at h
   obtain ⟨x, r, rfl, _, h2⟩ := h
   obtain ⟨y, h3, h4⟩ := Dens.get (j := j) h2 (by simpa using e)
   exact ⟨y, by simpa using h3, h4⟩
theorem depDs_mem : ∀ {ds : List Dt} {j : Nat} {d : Dt}, ds[j]? = some d → depD d ≤ depDs ds
 | [], _, _, e => by simp at e
 | d :: ds, 0, d', e => by simp at e; subst e; simp only [depDs]; exact Nat.le_max_left _ _
 | d :: ds, j + 1, d', e => by
   have := depDs_mem (ds := ds) (j := j) (d := d') (by simpa using e)
   simp only [depDs]
   exact Nat.le_trans this (Nat.le_max_right _ _)
theorem items_eq {A : Around} (n : Nat) (ih : ∀ (A : Around) (d e : Dt) (x y : V) (u v : Value), depD d ≤ n → A.units + n < cLine → Den X.K H d x → Den X.K H e y → RelV x u → RelV y v → SeqAt.EqAt A s u v (eqD d e))
 {ds es : List Dt} {xs ys : List V} {us vs : List Value} (hd : depDs ds ≤ n) (hu : A.units + n + 1 < cLine) (h1 : Dens X.K H ds xs) (h2 : Dens X.K H es ys) (r1 : Vals xs us) (r2 : Vals ys vs) :
 ∀ j (g1 : j < us.toArray.size) (g2 : j < vs.toArray.size), SeqAt.EqAt A.in1 s us.toArray[j] vs.toArray[j] (eqAtD ds es j) := by
 intro j g1 g2
 have l1 := h1.length
 have l2 := h2.length
 have l3 := r1.length
 have l4 := r2.length
 have g1' : j < us.length := by simpa using g1
 have g2' : j < vs.length := by simpa using g2
 have j1 : j < ds.length := by rw [← l1, l3]; exact g1'
 have j2 : j < es.length := by rw [← l2, l4]; exact g2'
 have e1 : ds[j]? = some ds[j] := by simp [j1]
 have e2 : es[j]? = some es[j] := by simp [j2]
 obtain ⟨x, ex, dx⟩ := h1.get e1
 obtain ⟨y, ey, dy⟩ := h2.get e2
 obtain ⟨u, eu, ru⟩ := r1.get ex
 obtain ⟨v, ev, rv⟩ := r2.get ey
 have e3 : eqAtD ds es j = eqD ds[j] es[j] := by unfold eqAtD; rw [e1, e2]
 rw [e3]
 have a1 : us.toArray[j] = u := by
  have : us[j]? = some us[j] := by simp [g1']
  rw [this] at eu
  simpa using Option.some.inj eu
 have a2 : vs.toArray[j] = v := by
  have : vs[j]? = some vs[j] := by simp [g2']
  rw [this] at ev
  simpa using Option.some.inj ev
 rw [a1, a2]
 exact ih A.in1 _ _ x y u v (Nat.le_trans (depDs_mem e1) hd) (by show A.units + 1 + n < cLine; omega) dx dy ru rv
theorem rc_seqT {A : Around} (I : Inv X pins σ H s) (n : Nat) (ih : ∀ (A : Around) (d e : Dt) (x y : V) (u v : Value), depD d ≤ n → A.units + n < cLine → Den X.K H d x → Den X.K H e y → RelV x u → RelV y v → SeqAt.EqAt A s u v (eqD d e))
 {ds es : List Dt} {a b : Addr} {xs ys : List V} (hd : depDs ds ≤ n) (hu : A.units + n + 1 < cLine) (ha : SqT X.K H a xs) (hb : SqT X.K H b ys) (h1 : Dens X.K H ds xs) (h2 : Dens X.K H es ys) :
 SeqAt.RcAt A s (.ref a) (.ref b) (eqDs ds es) ∧ SeqAt.RcNeAt A s (.ref a) (.ref b) (!eqDs ds es) := by
 obtain ⟨its, r1, p1, _⟩ := I.tuple ha
 obtain ⟨its2, r2, p2, _⟩ := I.tuple hb
 have l1 := h1.length
 have l2 := h2.length
 have l3 := r1.length
 have l4 := r2.length
 have hu' : A.units < cLine := by omega
 have q := SeqAt.RcAt.tuples (A := A) (s := s) (e := eqAtD ds es) p1 p2 hu' (items_eq n ih hd hu h1 h2 r1 r2)
 have q2 := SeqAt.RcNeAt.tuples (A := A) (s := s) (e := eqAtD ds es) p1 p2 hu' (items_eq n ih hd hu h1 h2 r1 r2)
 have e : ((List.range (min its.toArray.size its2.toArray.size)).all (eqAtD ds es) && its.toArray.size == its2.toArray.size) = eqDs ds es := by
  simp only [List.size_toArray]
  by_cases hl : ds.length = es.length
  · have : its.length = its2.length := by rw [← l3, ← l4, l1, l2, hl]
    rw [this, Nat.min_self, ← l4, l2, ← hl, all_eqAtD ds es hl]
    simp
  · have : its.length ≠ its2.length := by rw [← l3, ← l4, l1, l2]; exact hl
    rw [eqDs_len ds es hl]
    simp [this]
 rw [e] at q q2
 exact ⟨q, q2⟩
theorem rc_seqL {A : Around} (I : Inv X pins σ H s) (n : Nat) (ih : ∀ (A : Around) (d e : Dt) (x y : V) (u v : Value), depD d ≤ n → A.units + n < cLine → Den X.K H d x → Den X.K H e y → RelV x u → RelV y v → SeqAt.EqAt A s u v (eqD d e))
 {ds es : List Dt} {a b : Addr} {xs ys : List V} (hd : depDs ds ≤ n) (hu : A.units + n + 1 < cLine) (ha : SqL X.K H a xs) (hb : SqL X.K H b ys) (h1 : Dens X.K H ds xs) (h2 : Dens X.K H es ys) :
 SeqAt.RcAt A s (.ref a) (.ref b) (eqDs ds es) ∧ SeqAt.RcNeAt A s (.ref a) (.ref b) (!eqDs ds es) := by
 obtain ⟨its, r1, p1, _⟩ := I.list ha
 obtain ⟨its2, r2, p2, _⟩ := I.list hb
 have l1 := h1.length
 have l2 := h2.length
 have l3 := r1.length
 have l4 := r2.length
 have hu' : A.units < cLine := by omega
 by_cases hl : ds.length = es.length
 · have hsz : its.toArray.size = its2.toArray.size := by simp only [List.size_toArray]; rw [← l3, ← l4, l1, l2, hl]
   have q := SeqAt.RcAt.lists (A := A) (s := s) (e := eqAtD ds es) p1.isList p2.isList hsz hu' (items_eq n ih hd hu h1 h2 r1 r2)
   have q2 := SeqAt.RcNeAt.lists (A := A) (s := s) (e := eqAtD ds es) p1.isList p2.isList hsz hu' (items_eq n ih hd hu h1 h2 r1 r2)
   have e : (List.range its.toArray.size).all (eqAtD ds es) = eqDs ds es := by
    simp only [List.size_toArray]
    rw [← l3, l1, all_eqAtD ds es hl]
   rw [e] at q q2
   exact ⟨q, q2⟩
 · have hsz : (its.toArray.size != its2.toArray.size) = true := by
    simp only [List.size_toArray]
    rw [← l3, ← l4, l1, l2]
    simpa using hl
   rw [eqDs_len ds es hl]
   exact ⟨SeqAt.RcAt.lists_lengths p1.isList p2.isList hsz hu', SeqAt.RcNeAt.lists_lengths p1.isList p2.isList hsz hu'⟩
theorem eqAt_D (I : Inv X pins σ H s) : ∀ (n : Nat) (A : Around) (d e : Dt) (x y : V) (u v : Value), depD d ≤ n → A.units + n < cLine → Den X.K H d x → Den X.K H e y → RelV x u → RelV y v → SeqAt.EqAt A s u v (eqD d e) := by
 intro n
 induction n with
 | zero =>
   intro A d e x y u v hd hu h1 h2 rx ry
   have hu' : A.units < cLine := by omega
   cases d with
   | tup ds => simp only [depD] at hd; omega
   | lst ds => simp only [depD] at hd; omega
   | non =>
     simp only [Den] at h1
     subst h1
     cases e with
     | tup es =>
       simp only [Den] at h2
       obtain ⟨b, ys, rfl, hy, _⟩ := h2
       cases rx; cases ry
       obtain ⟨its, _, p, _⟩ := I.tuple hy
       exact SeqAt.EqAt.none_tuple p hu'
     | lst es =>
       simp only [Den] at h2
       obtain ⟨b, ys, rfl, hy, _⟩ := h2
       cases rx; cases ry
       obtain ⟨its, _, p, _⟩ := I.list hy
       exact SeqAt.EqAt.none_list p.isList hu'
     | _ => simp only [Den] at h2; subst h2; exact eqAt_V rx ry rfl rfl
   | bl i =>
     simp only [Den] at h1
     subst h1
     cases e with
     | tup es =>
       simp only [Den] at h2
       obtain ⟨b, ys, rfl, hy, _⟩ := h2
       cases rx; cases ry
       obtain ⟨its, _, p, _⟩ := I.tuple hy
       exact SeqAt.EqAt.bool_tuple _ p hu'
     | lst es =>
       simp only [Den] at h2
       obtain ⟨b, ys, rfl, hy, _⟩ := h2
       cases rx; cases ry
       obtain ⟨its, _, p, _⟩ := I.list hy
       exact SeqAt.EqAt.bool_list _ p.isList hu'
     | _ => simp only [Den] at h2; subst h2; exact eqAt_V rx ry rfl rfl
   | int i =>
     simp only [Den] at h1
     subst h1
     cases e with
     | tup es =>
       simp only [Den] at h2
       obtain ⟨b, ys, rfl, hy, _⟩ := h2
       obtain ⟨t, rfl⟩ := rx
       cases ry
       obtain ⟨its, _, p, _⟩ := I.tuple hy
       exact SeqAt.EqAt.int_tuple _ _ p hu'
     | lst es =>
       simp only [Den] at h2
       obtain ⟨b, ys, rfl, hy, _⟩ := h2
       obtain ⟨t, rfl⟩ := rx
       cases ry
       obtain ⟨its, _, p, _⟩ := I.list hy
       exact SeqAt.EqAt.int_list _ _ p.isList hu'
     | _ => simp only [Den] at h2; subst h2; exact eqAt_V rx ry rfl rfl
   | str i =>
     simp only [Den] at h1
     subst h1
     cases e with
     | tup es =>
       simp only [Den] at h2
       obtain ⟨b, ys, rfl, hy, _⟩ := h2
       obtain ⟨t, rfl⟩ := rx
       cases ry
       obtain ⟨its, _, p, _⟩ := I.tuple hy
       exact SeqAt.EqAt.str_tuple _ _ p hu'
     | lst es =>
       simp only [Den] at h2
       obtain ⟨b, ys, rfl, hy, _⟩ := h2
       obtain ⟨t, rfl⟩ := rx
       cases ry
       obtain ⟨its, _, p, _⟩ := I.list hy
       exact SeqAt.EqAt.str_list _ _ p.isList hu'
     | _ => simp only [Den] at h2; subst h2; exact eqAt_V rx ry rfl rfl
 | succ n ih =>
   intro A d e x y u v hd hu h1 h2 rx ry
   have hu' : A.units < cLine := by omega
   by_cases hle : depD d ≤ n
   · exact ih A d e x y u v hle (by omega) h1 h2 rx ry
   cases d with
   | tup ds =>
     simp only [depD] at hd
     have h1' := h1
     simp only [Den] at h1
     obtain ⟨a, xs, rfl, hx, hds⟩ := h1
     cases rx
     have hT := I.tuple hx
     obtain ⟨its, r1, p1, _⟩ := hT
     cases e with
     | tup es =>
       have h2' := h2
       simp only [Den] at h2
       obtain ⟨b, ys, rfl, hy, hes⟩ := h2
       cases ry
       by_cases hab : a = b
       · subst hab
         rw [Den.inj I h1' h2', eqD_refl]
         exact SeqAt.EqAt.same _
       · simp only [eqD]
         exact SeqAt.EqAt.of_refs hab (rc_seqT I n ih (by omega) (by omega) hx hy hds hes).1
     | lst es =>
       simp only [Den] at h2
       obtain ⟨b, ys, rfl, hy, _⟩ := h2
       cases ry
       obtain ⟨its', _, p, _⟩ := I.list hy
       exact SeqAt.EqAt.tuple_list p1 p.isList hu'
     | non => simp only [Den] at h2; subst h2; cases ry; exact SeqAt.EqAt.tuple_none p1 hu'
     | bl i => simp only [Den] at h2; subst h2; cases ry; exact SeqAt.EqAt.tuple_bool _ p1 hu'
     | int i => simp only [Den] at h2; subst h2; obtain ⟨t, rfl⟩ := ry; exact SeqAt.EqAt.tuple_int _ _ p1 hu'
     | str i => simp only [Den] at h2; subst h2; obtain ⟨t, rfl⟩ := ry; exact SeqAt.EqAt.tuple_str _ _ p1 hu'
   | lst ds =>
     simp only [depD] at hd
     have h1' := h1
     simp only [Den] at h1
     obtain ⟨a, xs, rfl, hx, hds⟩ := h1
     cases rx
     have hT := I.list hx
     obtain ⟨its, r1, p1, _⟩ := hT
     cases e with
     | lst es =>
       have h2' := h2
       simp only [Den] at h2
       obtain ⟨b, ys, rfl, hy, hes⟩ := h2
       cases ry
       by_cases hab : a = b
       · subst hab
         rw [Den.inj I h1' h2', eqD_refl]
         exact SeqAt.EqAt.same _
       · simp only [eqD]
         exact SeqAt.EqAt.of_refs hab (rc_seqL I n ih (by omega) (by omega) hx hy hds hes).1
     | tup es =>
       simp only [Den] at h2
       obtain ⟨b, ys, rfl, hy, _⟩ := h2
       cases ry
       obtain ⟨its', _, p, _⟩ := I.tuple hy
       exact SeqAt.EqAt.list_tuple p1.isList p hu'
     | non => simp only [Den] at h2; subst h2; cases ry; exact SeqAt.EqAt.list_none p1.isList hu'
     | bl i => simp only [Den] at h2; subst h2; cases ry; exact SeqAt.EqAt.list_bool _ p1.isList hu'
     | int i => simp only [Den] at h2; subst h2; obtain ⟨t, rfl⟩ := ry; exact SeqAt.EqAt.list_int _ _ p1.isList hu'
     | str i => simp only [Den] at h2; subst h2; obtain ⟨t, rfl⟩ := ry; exact SeqAt.EqAt.list_str _ _ p1.isList hu'
   | _ => simp only [depD] at hle; omega
end
section
variable {X : Cx}
noncomputable def rEqD (K : PySem.W.Frag) (neg : Bool) : R2 := fun x y H Q => ∃ a b xs ys ds es, x = .ref a ∧ y = .ref b ∧ ((SqT K H a xs ∧ SqT K H b ys) ∨ (SqL K H a xs ∧ SqL K H b ys)) ∧ Dens K H ds xs ∧ Dens K H es ys ∧ depDs ds ≤ 20 ∧
 Q (.bl (if neg then !eqDs ds es else eqDs ds es)) H
theorem op_eqD {k : Nat} (hr : Room k X.A) : OpR X (compareOp .Eq) (rEqD X.K false) := by
 intro pins s σ H x y v u Q I rx ry h
 obtain ⟨a, b, xs, ys, ds, es, rfl, rfl, hk, h1, h2, hd, q⟩ := h
 cases rx
 cases ry
 have hu := hr.units
 rcases hk with ⟨ha, hb⟩ | ⟨ha, hb⟩
 · exact (rc_seqT (A := X.A) I 20 (eqAt_D I 20) hd (by omega) ha hb h1 h2).1 _ _ _ _ ⟨.bl _, H, I, rfl, q⟩
 · exact (rc_seqL (A := X.A) I 20 (eqAt_D I 20) hd (by omega) ha hb h1 h2).1 _ _ _ _ ⟨.bl _, H, I, rfl, q⟩
theorem op_neD {k : Nat} (hr : Room k X.A) : OpR X (compareOp .NotEq) (rEqD X.K true) := by
 intro pins s σ H x y v u Q I rx ry h
 obtain ⟨a, b, xs, ys, ds, es, rfl, rfl, hk, h1, h2, hd, q⟩ := h
 cases rx
 cases ry
 have hu := hr.units
 rcases hk with ⟨ha, hb⟩ | ⟨ha, hb⟩
 · exact (rc_seqT (A := X.A) I 20 (eqAt_D I 20) hd (by omega) ha hb h1 h2).2 _ _ _ _ ⟨.bl _, H, I, rfl, q⟩
 · exact (rc_seqL (A := X.A) I 20 (eqAt_D I 20) hd (by omega) ha hb h1 h2).2 _ _ _ _ ⟨.bl _, H, I, rfl, q⟩

noncomputable def rIsi (K : PySem.W.Frag) : List V → Hp → VK → Prop := fun xs H Q => ∃ x T t b, xs = [x, .ty T] ∧ TyOf K H x t ∧ PySem.W.kitOne K t (.type T) = some b ∧ Q (.bl b) H
theorem call_isi : CallR X (.builtin "isinstance") (rIsi X.K) := by
 intro pins s σ H xs us Q I r h
 obtain ⟨x, T, t, b, rfl, ty, e, q⟩ := h
 obtain ⟨u, w', rfl, ru, rw'⟩ := vals2 r
 cases rw'
 exact isinst_ok I ru ty e fun tk => ⟨.bl b, H, I.tok tk, rfl, q⟩
theorem isi_tt (K : PySem.W.Frag) : PySem.W.kitOne K (.type "tuple") (.type "tuple") = some true := rfl
theorem isi_ii (K : PySem.W.Frag) : PySem.W.kitOne K (.type "int") (.type "int") = some true := by rfl
theorem isi_ib (K : PySem.W.Frag) : PySem.W.kitOne K (.type "int") (.type "bool") = some false := by rfl
theorem isi_bi (K : PySem.W.Frag) : PySem.W.kitOne K (.type "bool") (.type "int") = some true := by rfl
theorem isi_bb (K : PySem.W.Frag) : PySem.W.kitOne K (.type "bool") (.type "bool") = some true := by rfl
end
end L2

namespace L2
open PySem PySem.Spec PyProof.Rows

section
variable {prog : Program} {w : World} {A : Around} {E : Value → Shared → Prop} {s : Shared}
end
end L2

namespace L2
open PySem PySem.Spec PyProof.Rows
section
variable {X : Cx} {pins : List (Addr × Obj)} {σ : St} {H : Hp} {s : Shared} {h' : Heap}
end
end L2

namespace L2
open PySem PySem.Spec PyProof.Rows
section
variable {X : Cx} {pins : List (Addr × Obj)} {σ : St} {H : Hp} {s : Shared}
end
section
variable {X : Cx}
end
end L2

namespace Pw
noncomputable def mk (a b : Int) : Int × Int := if b < 0 then (a.fdiv (-(Int.gcd a b : Int)), b.fdiv (-(Int.gcd a b : Int))) else (a.fdiv (Int.gcd a b : Int), b.fdiv (Int.gcd a b : Int))
noncomputable def Canon (p : Int × Int) : Prop := 0 < p.2 ∧ Int.gcd p.1 p.2 = 1
theorem gpos {a b : Int} (h : b ≠ 0) : 0 < (Int.gcd a b : Int) := by
 have : 0 < Int.gcd a b := Nat.pos_of_ne_zero fun z => h (Int.gcd_eq_zero_iff.mp z).2
 omega
theorem dvd_left {k m n : Int} (h : k ∣ m * n) (c : Int.gcd m k = 1) : k ∣ n := by
 have h1 : k.natAbs ∣ m.natAbs * n.natAbs := by rw [← Int.natAbs_mul]; exact Int.natAbs_dvd_natAbs.mpr h
 have h2 : Nat.Coprime k.natAbs m.natAbs := by
  show Nat.gcd _ _ = 1
  rw [Nat.gcd_comm]; exact c
 exact Int.natAbs_dvd_natAbs.mp (Nat.Coprime.dvd_of_dvd_mul_left h2 h1)
theorem mk_spec {a b : Int} (h : b ≠ 0) : Canon (mk a b) ∧ (mk a b).1 * b = a * (mk a b).2 := by
 have hg := gpos (a := a) h
 obtain ⟨x, hx⟩ : ((Int.gcd a b : Nat) : Int) ∣ a := Int.gcd_dvd_left ..
 obtain ⟨y, hy⟩ : ((Int.gcd a b : Nat) : Int) ∣ b := Int.gcd_dvd_right ..
 generalize hG : (Int.gcd a b : Int) = g at *
 have hgn : g ≠ 0 := by omega
 have cop : Int.gcd x y = 1 := by
  have h1 : Int.gcd a b = Int.gcd (g * x) (g * y) := by rw [← hx, ← hy]
  rw [Int.gcd_mul_left] at h1
  have h2 : (g.natAbs : Int) = g := by omega
  have h3 : (Int.gcd a b : Int) = g.natAbs := by rw [hG, h2]
  have h4 : Int.gcd a b = g.natAbs := by omega
  have h5 : g.natAbs * Int.gcd x y = g.natAbs * 1 := by rw [← h1, h4]; simp
  exact Nat.eq_of_mul_eq_mul_left (by omega) h5
 have e1 : a.fdiv g = x := by rw [hx]; exact Int.mul_fdiv_cancel_left _ hgn
 have e2 : b.fdiv g = y := by rw [hy]; exact Int.mul_fdiv_cancel_left _ hgn
 have e3 : a.fdiv (-g) = -x := by
  have : a = (-g) * (-x) := by rw [Int.neg_mul_neg]; exact hx
  rw [this]; exact Int.mul_fdiv_cancel_left _ (by omega)
 have e4 : b.fdiv (-g) = -y := by
  have : b = (-g) * (-y) := by rw [Int.neg_mul_neg]; exact hy
  rw [this]; exact Int.mul_fdiv_cancel_left _ (by omega)
 unfold mk
 rw [hG]
 by_cases hb : b < 0
 · rw [if_pos hb, e3, e4]
   have hy0 : y < 0 := by
    refine Int.not_le.mp fun hy0 => ?_
    have := Int.mul_nonneg (Int.le_of_lt hg) hy0
    omega
   refine ⟨⟨by show 0 < -y; omega, by show Int.gcd (-x) (-y) = 1; rw [Int.neg_gcd, Int.gcd_neg]; exact cop⟩, ?_⟩
   show -x * b = a * -y
   rw [hx, hy]; grind
 · rw [if_neg hb, e1, e2]
   have hy0 : 0 < y := by
    refine Int.not_le.mp fun hy0 => ?_
    have := Int.mul_nonneg (Int.le_of_lt hg) (show 0 ≤ -y by omega)
    rw [Int.mul_neg, ← hy] at this
    omega
   refine ⟨⟨hy0, cop⟩, ?_⟩
   show x * b = a * y
   rw [hx, hy]; grind
theorem canon_unique {p q : Int × Int} (hp : Canon p) (hq : Canon q) (h : p.1 * q.2 = q.1 * p.2) : p = q := by
 obtain ⟨p1, p2⟩ := p
 obtain ⟨q1, q2⟩ := q
 obtain ⟨a1, a2⟩ := hp
 obtain ⟨b1, b2⟩ := hq
 simp only at *
 have d1 : p2 ∣ q2 := by
  have : p2 ∣ p1 * q2 := ⟨q1, by rw [h]; grind⟩
  exact dvd_left this a2
 have d2 : q2 ∣ p2 := by
  have : q2 ∣ q1 * p2 := ⟨p1, by rw [← h]; grind⟩
  exact dvd_left this b2
 have e : p2 = q2 := Int.dvd_antisymm (by omega) (by omega) d1 d2
 subst e
 have : p1 = q1 := Int.eq_of_mul_eq_mul_right (by omega) h
 rw [this]
theorem mk_uniq {a b : Int} {p : Int × Int} (h : b ≠ 0) (hp : Canon p) (hw : p.1 * b = a * p.2) : mk a b = p := by
 obtain ⟨c, w⟩ := mk_spec (a := a) h
 refine canon_unique c hp (Int.eq_of_mul_eq_mul_right h ?_)
 grind
theorem mk_canon {p : Int × Int} (h : Canon p) : mk p.1 p.2 = p := mk_uniq (by have := h.1; omega) h (by grind)
theorem mk_le {a b : Int} (h : b ≠ 0) : (mk a b).1.natAbs ≤ a.natAbs ∧ (mk a b).2.natAbs ≤ b.natAbs := by
 obtain ⟨⟨c1, c2⟩, w⟩ := mk_spec (a := a) h
 generalize mk a b = p at *
 obtain ⟨x, y⟩ := p
 simp only at *
 have d1 : y ∣ b := by
  have : y ∣ x * b := ⟨a, by rw [w]; grind⟩
  exact dvd_left this c2
 have d2 : x ∣ a := by
  have : x ∣ y * a := ⟨b, by rw [w]; grind⟩
  exact dvd_left this (by rw [Int.gcd_comm]; exact c2)
 refine ⟨?_, Nat.le_of_dvd (by omega) (Int.natAbs_dvd_natAbs.mpr d1)⟩
 by_cases ha : a = 0
 · subst ha
   have : x * b = 0 := by rw [w, Int.zero_mul]
   rcases Int.mul_eq_zero.mp this with z | z
   · rw [z]; simp
   · exact absurd z h
 · exact Nat.le_of_dvd (by omega) (Int.natAbs_dvd_natAbs.mpr d2)
theorem gcd_turn {x y : Int} (hx : 0 ≤ x) (hy : 0 < y) : Int.gcd y (x % y) = Int.gcd x y := by
 obtain ⟨m, rfl⟩ := Int.eq_ofNat_of_zero_le hx
 obtain ⟨n, rfl⟩ := Int.eq_ofNat_of_zero_le (Int.le_of_lt hy)
 show Nat.gcd n (((m : Int) % (n : Int)).natAbs) = Nat.gcd m n
 have e : ((m : Int) % (n : Int)).natAbs = m % n := by rw [← Int.natCast_emod, Int.natAbs_natCast]
 rw [e, Nat.gcd_comm m n, Nat.gcd_comm n (m % n), ← Nat.gcd_rec]
end Pw

namespace L2
open PySem PySem.Spec PyProof.Rows
theorem ifT {b : Bool} {A B : Prop} (e : b = true) (a : A) : if b = true then A else B := by rw [if_pos e]; exact a
theorem ifF {b : Bool} {A B : Prop} (e : b = false) (h : B) : if b = true then A else B := by rw [e]; exact iteF h
theorem if2 {b : Bool} {A B : Prop} (h1 : b = true → A) (h2 : b = false → B) : if b = true then A else B := by
 cases b with
 | true => exact iteT (h1 rfl)
 | false => exact iteF (h2 rfl)
theorem vne {i j : Int} (h : i ≠ j) : (!decide (V.int i = V.int j)) = true := by
 rw [decide_eq_false (fun z => h (V.int.inj z))]; rfl
theorem veq {i j : Int} (h : i = j) : (!decide (V.int i = V.int j)) = false := by
 rw [decide_eq_true (congrArg V.int h)]; rfl
theorem sz_of {k : Int} (n : Nat) {m : Nat} (h : k.natAbs < 2 ^ n) (l : n ≤ m := by decide) : Sz m k := Sz.mono h l

noncomputable def Wt (Pv : Nat → List V → St → Hp → Prop) (n : Nat) : Nat → Nat → List V → St → Hp → Prop := fun i m ys σ H => m = n - i ∧ i ≤ n ∧ Pv i ys σ H
theorem Wt.next {Pv : Nat → List V → St → Hp → Prop} {n i : Nat} {ys : List V} {σ : St} {H : Hp} (h : i < n) (p : Pv (i + 1) ys σ H) : ∃ m', m' < n - i ∧ Wt Pv n (i + 1) m' ys σ H := ⟨n - (i + 1), by omega, rfl, h, p⟩
section
variable {K : PySem.W.Frag} {a D : Addr} {xs : List V} {g : TG} {tt : TT} {te : TE} {σ0 : St} {H0 : Hp} {Q : VK}
theorem comp_tup (Pv : Nat → List V → St → Hp → Prop) (h0 : Pv 0 [] σ0 H0) (hl : ∀ i ys σ H, Pv i ys σ H → SqT K H a xs ∧ H D = some (.lst ys))
 (hs : ∀ i x ys σ H, xs[i]? = some x → i < xs.length → Pv i ys σ H → g x σ H fun σ3 H3 => tt σ3 H3 fun b H4 => if b = true then
  te σ3 H4 fun y H5 => H5 D = some (.lst ys) ∧ ys.length < sizeLine ∧ ∃ m', m' < xs.length - i ∧ Wt Pv xs.length (i + 1) m' (ys ++ [y]) σ3 (upd H5 D (.lst (ys ++ [y]))) else ∃ m', m' < xs.length - i ∧ Wt Pv xs.length (i + 1) m' ys σ3 H4)
 (hd : ∀ ys σ H, Pv xs.length ys σ H → Q (.ref D) H) :
 CompW (Itt K a) D g tt te Q σ0 H0 := by
 refine ⟨Wt Pv xs.length, ⟨xs.length, rfl, Nat.zero_le _, h0⟩, ?_⟩
 rintro i m ys σ' H' ⟨rfl, hi, p⟩
 obtain ⟨hq, hD⟩ := hl i ys σ' H' p
 refine ⟨hD, ?_⟩
 by_cases hlt : i < xs.length
 · refine .inr ⟨⟨xs, xs[i], hq, by simp [hlt]⟩, fun x H2 y => ?_⟩
   obtain ⟨e, y⟩ := y
   subst e
   exact hs i x ys σ' _ (y xs hq) hlt p
 · have e : i = xs.length := by omega
   subst e
   exact .inl ⟨⟨xs, hq, Nat.le_refl _⟩, hd ys σ' H' p⟩
theorem comp_lst (Pv : Nat → List V → St → Hp → Prop) (h0 : Pv 0 [] σ0 H0) (hl : ∀ i ys σ H, Pv i ys σ H → SqL K H a xs ∧ H D = some (.lst ys))
 (hs : ∀ i x ys σ H, xs[i]? = some x → i < xs.length → Pv i ys σ H → g x σ H fun σ3 H3 => tt σ3 H3 fun b H4 => if b = true then
  te σ3 H4 fun y H5 => H5 D = some (.lst ys) ∧ ys.length < sizeLine ∧ ∃ m', m' < xs.length - i ∧ Wt Pv xs.length (i + 1) m' (ys ++ [y]) σ3 (upd H5 D (.lst (ys ++ [y]))) else ∃ m', m' < xs.length - i ∧ Wt Pv xs.length (i + 1) m' ys σ3 H4)
 (hd : ∀ ys σ H, Pv xs.length ys σ H → Q (.ref D) H) :
 CompW (Itl K a) D g tt te Q σ0 H0 := by
 refine ⟨Wt Pv xs.length, ⟨xs.length, rfl, Nat.zero_le _, h0⟩, ?_⟩
 rintro i m ys σ' H' ⟨rfl, hi, p⟩
 obtain ⟨hq, hD⟩ := hl i ys σ' H' p
 refine ⟨hD, ?_⟩
 by_cases hlt : i < xs.length
 · refine .inr ⟨⟨xs, xs[i], hq, by simp [hlt]⟩, fun x H2 y => ?_⟩
   obtain ⟨e, y⟩ := y
   subst e
   exact hs i x ys σ' _ (y xs hq) hlt p
 · have e : i = xs.length := by omega
   subst e
   exact .inl ⟨⟨xs, hq, Nat.le_refl _⟩, hd ys σ' H' p⟩
end

section
variable {X : Cx} {K : PySem.W.Frag}
theorem ix_listK (e : X.K = K) : IxR X (rIxL K) := e ▸ ix_list
theorem ix_tupK (e : X.K = K) : IxR X (rIxT K) := e ▸ ix_tup
end

theorem dens_ints (K : PySem.W.Frag) (H : Hp) : ∀ ns : List Int, Dens K H (ns.map Dt.int) (ns.map V.int)
 | [] => by simp only [List.map_nil, Dens]
 | n :: ns => by
   simp only [List.map_cons, Dens]
   exact ⟨_, _, rfl, by simp only [Den], dens_ints K H ns⟩
theorem dep_ints : ∀ ns : List Int, depDs (ns.map Dt.int) = 0
 | [] => rfl
 | n :: ns => by simp only [List.map_cons, depDs, depD, dep_ints ns]; rfl
theorem eqDs_ints : ∀ ns ms : List Int, eqDs (ns.map Dt.int) (ms.map Dt.int) = decide (ns = ms)
 | [], [] => rfl
 | [], _ :: _ => rfl
 | _ :: _, [] => rfl
 | n :: ns, m :: ms => by
   simp only [List.map_cons, eqDs, eqD]
   rw [eqDs_ints ns ms]
   by_cases h : n = m
   · subst h; simp
   · simp [h]
theorem dens2 (K : PySem.W.Frag) (H : Hp) (x y : Int) : Dens K H [Dt.int x, Dt.int y] [V.int x, V.int y] := dens_ints K H [x, y]
theorem eqDs2 (x y z u : Int) : eqDs [Dt.int x, Dt.int y] [Dt.int z, Dt.int u] = decide ((x, y) = (z, u)) := by
 rw [show ([Dt.int x, Dt.int y] : List Dt) = [x, y].map Dt.int from rfl, show ([Dt.int z, Dt.int u] : List Dt) = [z, u].map Dt.int from rfl, eqDs_ints]
 simp

noncomputable def Kp (p : Addr) (H H' : Hp) : Prop := ∀ b o, H b = some o → b ≠ p → H' b = some o
theorem Kp.trans {p : Addr} {H H1 H2 : Hp} (a : Kp p H H1) (b : Kp p H1 H2) : Kp p H H2 := fun c o h n => b c o (a c o h n) n
theorem Kp.new {p q : Addr} {H : Hp} {o : HO} (hq : H q = none) : Kp p H (upd H q o) := fun b u h _ => by rw [upd_ne (ne_of_none h hq)]; exact h
theorem Kp.set {p : Addr} {H : Hp} {o : HO} : Kp p H (upd H p o) := fun b u h n => by rw [upd_ne n]; exact h
theorem Same.new {q : Addr} {H : Hp} {o : HO} (hq : H q = none) : Same H (upd H q o) := fun b u h => by rw [upd_ne (ne_of_none h hq)]; exact h
theorem Same.seqT {K : PySem.W.Frag} {H H' : Hp} {a : Addr} {xs : List V} (e : Same H H') (h : SqT K H a xs) : SqT K H' a xs := by
 rcases h with (h | ⟨o, h⟩) | h
 · exact .inl (.inl (e _ _ h))
 · exact .inl (.inr ⟨o, e _ _ h⟩)
 · exact .inr h
noncomputable def spCommon : Sp := fun vs H Q _ => ∃ x y : Int, vs = [.int x, .int y] ∧ 0 ≤ x ∧ 0 ≤ y ∧ Q (.int (Int.gcd x y : Int)) H
noncomputable def spMade : Sp := fun vs H Q _ => ∃ x y : Int, vs = [.int x, .int y] ∧ y ≠ 0 ∧ Sz 8000 x ∧ Sz 8000 y ∧ ∀ p, H p = none → Q (.ref p) (upd H p (.tup [.int (Pw.mk x y).1, .int (Pw.mk x y).2]))
end L2

namespace Pw
noncomputable def fplus (p q : Int × Int) : Int × Int := mk (p.1 * q.2 + q.1 * p.2) (p.2 * q.2)
noncomputable def fless (p q : Int × Int) : Int × Int := mk (p.1 * q.2 - q.1 * p.2) (p.2 * q.2)
noncomputable def ftimes (p q : Int × Int) : Int × Int := mk (p.1 * q.1) (p.2 * q.2)
structure Fr (A : Int × Int) (n d : Int) : Prop where
 canon : Canon A
 ne : d ≠ 0
 w : A.1 * d = n * A.2
theorem Fr.pos {A : Int × Int} {n d : Int} (h : Fr A n d) : A.2 ≠ 0 := by have := h.canon.1; omega
theorem Fr.made {n d : Int} (h : d ≠ 0) : Fr (Pw.mk n d) n d := ⟨(mk_spec h).1, h, (mk_spec h).2⟩
theorem Fr.of {A : Int × Int} (h : Canon A) : Fr A A.1 A.2 := ⟨h, by have := h.1; omega, rfl⟩
end Pw
namespace L2
open PySem PySem.Spec PyProof.Rows
section
variable {X : Cx}
theorem op_isB : OpR X (compareOp .Is) (fun x y H Q => ∃ a b, x = .bl a ∧ y = .bl b ∧ Q (.bl (a == b)) H) := by
 intro pins s σ H x y v u Q I rx ry h
 obtain ⟨a, b, rfl, rfl, q⟩ := h
 cases rx
 cases ry
 refine wpAny_is_plain rfl ⟨.bl (a == b), H, I, ?_, q⟩
 cases a <;> cases b <;> rfl
end

noncomputable def tMid (t u : TS) : TS := fun D σ H => ∃ R : St → Hp → Prop, t { D with nx := R } σ H ∧ ∀ σ' H', R σ' H' → u D σ' H'
theorem pss_mid {X : Cx} {st : Stmt} {rest : List Stmt} {t u : TS} (h1 : PS X st t) (h2 : PSs X rest u) : PSs X (st :: rest) (tMid t u) := by
 intro pins s σ H D I h
 obtain ⟨R, h, hR⟩ := h
 refine wpAny_execs_cons (thn (h1 pins s σ H { D with nx := R } I h) fun f s1 q => ?_)
 cases f with
 | next =>
   obtain ⟨σ', H', I', q⟩ := q
   exact h2 pins s1 σ' H' D I' (hR σ' H' q)
 | ret v => exact q
 | brk => exact q
 | cont => exact q

noncomputable def tTupS (t : TA) : TE := fun σ H Q => t σ H fun xs H1 => xs.length ≤ sizeLine ∧ ∀ (p : Addr) (H' : Hp), Same H1 H' → H1 p = none → H' p = some (.tup xs) → Q (.ref p) H'
noncomputable def tLstS (t : TA) : TE := fun σ H Q => t σ H fun xs H1 => xs.length ≤ sizeLine ∧ ∀ (p : Addr) (H' : Hp), Same H1 H' → H1 p = none → H' p = some (.lst xs) → Q (.ref p) H'
section
variable {X : Cx} {es : List Expr} {t : TA} {pos : Pos}
theorem pe_tupS {x1} (h : PA X es t) : PE X (.Tuple es x1 pos) (tTupS t) := by
 intro pins s σ H Q I hq
 refine wpAny_Tuple_spliced (thn (h pos pins s σ H _ I hq) fun us s1 ⟨xs, H1, I1, r, z, q⟩ => ⟨by rw [← r.length]; exact z, ?_⟩)
 have hf : H1 s1.heap.objs.size = none := I1.hok.fresh (Nat.le_refl _)
 refine ⟨.ref s1.heap.objs.size, upd H1 s1.heap.objs.size (.tup xs), I1.laid (t' := s1.toks) (fun b u e => Heap.get?_push_of_some _ e) (Nat.le_refl _) ?_, rfl, q _ _ (Same.new hf) hf upd_same⟩
 exact ⟨z, us, r, ⟨_, Heap.get?_push_size _ rfl, rfl, _, rfl⟩⟩
theorem pe_lstS (h : PA X es t) : PE X (.List es pos) (tLstS t) := by
 intro pins s σ H Q I hq
 refine wpAny_List_spliced (thn (h pos pins s σ H _ I hq) fun us s1 ⟨xs, H1, I1, r, z, q⟩ => ⟨by rw [← r.length]; exact z, ?_⟩)
 have hf : H1 s1.heap.objs.size = none := I1.hok.fresh (Nat.le_refl _)
 refine ⟨.ref s1.heap.objs.size, upd H1 s1.heap.objs.size (.lst xs), I1.laid (t' := s1.toks) (fun b u e => Heap.get?_push_of_some _ e) (Nat.le_refl _) ?_, rfl, q _ _ (Same.new hf) hf upd_same⟩
 exact ⟨z, us, 0, r, Heap.get?_push_size _ rfl⟩
end
noncomputable def spFracS : Sp := fun vs H Q _ => ∃ x y : Int, vs = [.int x, .int y] ∧ 0 < y ∧ Sz 8000 x ∧ Sz 8000 y ∧ ∀ (p : Addr) (H' : Hp), Same H H' → H p = none → H' p = some (.tup [.int (Pw.mk x y).1, .int (Pw.mk x y).2]) → Q (.ref p) H'
noncomputable def Sz2 (n : Nat) (A : Int × Int) : Prop := Sz n A.1 ∧ Sz n A.2
theorem Sz2.mono {n m : Nat} {A : Int × Int} (h : Sz2 n A) (l : n ≤ m) : Sz2 m A := ⟨h.1.mono l, h.2.mono l⟩
theorem mk_sz {n : Nat} {x y : Int} (hy : y ≠ 0) (sx : Sz n x) (sy : Sz n y) : Sz2 n (Pw.mk x y) :=
 ⟨Nat.lt_of_le_of_lt (Pw.mk_le hy).1 sx, Nat.lt_of_le_of_lt (Pw.mk_le hy).2 sy⟩
noncomputable abbrev FrA (_ : PySem.W.Frag) (H : Hp) (p : Addr) (A : Int × Int) : Prop := H p = some (.tup [.int A.1, .int A.2])
end L2

namespace Srt
open PySem PySem.W PyProof.Rows
noncomputable def run {α : Type} (lt : Nat → Nat → Bool) : KasT α → α
 | .ret a => a
 | .ask i j k => run lt (k (lt i j))
theorem run_bind {α β : Type} (lt : Nat → Nat → Bool) (f : α → KasT β) : ∀ t : KasT α, run lt (t.bind f) = run lt (f (run lt t))
 | .ret _ => rfl
 | .ask i j k => by
   show run lt ((k (lt i j)).bind f) = _
   rw [run_bind lt f (k (lt i j))]
   rfl
noncomputable def e (p : Array Nat) (k : Nat) : Nat := p.getD k 0
theorem e_of {p q : Array Nat} {i k : Nat} (h : p[i]? = q[k]?) : e p i = e q k := by
 have h1 : p.getD i 0 = (p[i]?).getD 0 := by simp [Array.getD_eq_getD_getElem?]
 have h2 : q.getD k 0 = (q[k]?).getD 0 := by simp [Array.getD_eq_getD_getElem?]
 show p.getD i 0 = q.getD k 0
 rw [h1, h2, h]
theorem e_rev_in {p : Array Nat} {i j k : Nat} (hj : j ≤ p.size) (h1 : i ≤ k) (h2 : k < j) : e (kas_rev p i j) k = e p (i + j - 1 - k) := by
 unfold kas_rev
 refine e_of ?_
 rw [getElem?_mirror hj ((j - i) / 2) (by omega) k]
 split
 · rfl
 · rename_i h
   have : i + j - 1 - k = k := by omega
   rw [this]
theorem e_rev_out {p : Array Nat} {i j k : Nat} (hj : j ≤ p.size) (h : k < i ∨ j ≤ k) : e (kas_rev p i j) k = e p k := by
 unfold kas_rev
 refine e_of ?_
 rw [getElem?_mirror hj ((j - i) / 2) (by omega) k]
 split
 · omega
 · rfl
theorem e_bub {p : Array Nat} {k l i : Nat} (hk : k < p.size) (hl : l ≤ k) : e (bubble p k (k - l)) i = if i = l then e p k else if l < i ∧ i ≤ k then e p (i - 1) else e p i := by
 have h := getElem?_bubble hk (k - l) (by omega) i
 have h3 : k - (k - l) = l := by omega
 rw [h3] at h
 split
 · rename_i hi
   rw [if_pos hi] at h
   exact e_of h
 · rename_i hi
   rw [if_neg hi] at h
   split
   · rename_i h2
     rw [if_pos h2] at h
     exact e_of h
   · rename_i h2
     rw [if_neg h2] at h
     exact e_of h
theorem rev_size (p : Array Nat) (i j : Nat) : (kas_rev p i j).size = p.size := mirror_size _ _ _ _
theorem rev_perm (p : Array Nat) (i j : Nat) : (kas_rev p i j).Perm p := mirror_perm _ _ _ _
structure Ord (lt : Nat → Nat → Bool) : Prop where
 asym : ∀ i j, lt i j = true → lt j i = false
 trans : ∀ i j k, lt j i = false → lt k j = false → lt k i = false
section
variable {lt : Nat → Nat → Bool} (O : Ord lt)
noncomputable def Up (lt : Nat → Nat → Bool) (p : Array Nat) (b : Nat) : Prop := ∀ k, 1 ≤ k → k < b → lt (e p k) (e p (k - 1)) = false
noncomputable def Down (lt : Nat → Nat → Bool) (p : Array Nat) (b : Nat) : Prop := ∀ k, 1 ≤ k → k < b → lt (e p (k - 1)) (e p k) = false
noncomputable def Alike (lt : Nat → Nat → Bool) (p : Array Nat) (a b : Nat) : Prop := ∀ i j, a ≤ i → i < b → a ≤ j → j < b → lt (e p i) (e p j) = false
include O
theorem irr (i : Nat) : lt i i = false := by
 cases h : lt i i with
 | false => rfl
 | true => rw [O.asym i i h] at h; cases h
theorem Up.pair {p : Array Nat} {b : Nat} (h : Up lt p b) : ∀ d i, i + d < b → lt (e p (i + d)) (e p i) = false
 | 0, i, _ => irr O _
 | d + 1, i, hb => O.trans _ _ _ (Up.pair h d i (by omega)) (by
     have := h (i + (d + 1)) (by omega) hb
     rw [show i + (d + 1) - 1 = i + d by omega] at this
     exact this)
theorem Up.le {p : Array Nat} {b i j : Nat} (h : Up lt p b) (hij : i ≤ j) (hj : j < b) : lt (e p j) (e p i) = false := by
 have := Up.pair O h (j - i) i (by omega)
 rw [show i + (j - i) = j by omega] at this
 exact this
theorem asc_ok {p : Array Nat} : ∀ (f n : Nat), 1 ≤ n → Up lt p n → n ≤ run lt (kas_asc p f n) ∧ run lt (kas_asc p f n) ≤ n + f ∧ Up lt p (run lt (kas_asc p f n)) ∧ (run lt (kas_asc p f n) < n + f → lt (e p (run lt (kas_asc p f n))) (e p (run lt (kas_asc p f n) - 1)) = true)
 | 0, n, h1, h => ⟨Nat.le_refl _, Nat.le_refl _, h, fun z => absurd z (Nat.lt_irrefl _)⟩
 | f + 1, n, h1, h => by
   have er : run lt (kas_asc p (f + 1) n) = run lt (if lt (e p n) (e p (n - 1)) = true then KasT.ret n else kas_asc p f (n + 1)) := rfl
   cases c : lt (e p n) (e p (n - 1)) with
   | true =>
     rw [er, c, if_pos rfl]
     exact ⟨Nat.le_refl _, Nat.le_add_right _ _, h, fun _ => c⟩
   | false =>
     rw [er, c, if_neg Bool.false_ne_true]
     obtain ⟨a1, a2, a3, a4⟩ := asc_ok (p := p) f (n + 1) (by omega) (fun k k1 k2 => by
      by_cases hk : k < n
      · exact h k k1 hk
      · have : k = n := by omega
        subst this; exact c)
     exact ⟨by omega, by omega, a3, fun z => a4 (by omega)⟩
theorem Down.rev {p : Array Nat} {a b n : Nat} (hn : n ≤ p.size) (hb : b ≤ n) (h : Down lt p n) (al : Alike lt p a b) : Down lt (kas_rev p a b) n := by
 intro k k1 k2
 have hj : b ≤ p.size := Nat.le_trans hb hn
 -- any place of the block answers as any other one of it
 by_cases i1 : a ≤ k ∧ k < b
 · by_cases i0 : a ≤ k - 1 ∧ k - 1 < b
   · rw [e_rev_in hj i1.1 i1.2, e_rev_in hj i0.1 i0.2]
     exact al _ _ (by omega) (by omega) (by omega) (by omega)
   · rw [e_rev_in (k := k) hj i1.1 i1.2, e_rev_out (k := k - 1) hj (by omega)]
     have ek : k = a := by omega
     have h1 := h k k1 k2
     have h2 := al (a + b - 1 - k) k (by omega) (by omega) i1.1 i1.2
     have h3 := al k (a + b - 1 - k) i1.1 i1.2 (by omega) (by omega)
     exact O.trans _ _ _ h3 h1
 · by_cases i0 : a ≤ k - 1 ∧ k - 1 < b
   · rw [e_rev_out (k := k) hj (by omega), e_rev_in (k := k - 1) hj i0.1 i0.2]
     have h1 := h k k1 k2
     have h2 := al (a + b - 1 - (k - 1)) (k - 1) (by omega) (by omega) i0.1 i0.2
     exact O.trans _ _ _ h1 h2
   · rw [e_rev_out (k := k) hj (by omega), e_rev_out (k := k - 1) hj (by omega)]
     exact h k k1 k2
theorem desc_ok : ∀ (f : Nat) (p : Array Nat) (n q : Nat), n + f ≤ p.size → q + 1 ≤ n → Down lt p n → Alike lt p (n - (q + 1)) n →
 (run lt (kas_desc f p n q)).1.size = p.size ∧ (run lt (kas_desc f p n q)).1.Perm p ∧ n ≤ (run lt (kas_desc f p n q)).2.1 ∧ (run lt (kas_desc f p n q)).2.1 ≤ n + f ∧ (run lt (kas_desc f p n q)).2.2 + 1 ≤ (run lt (kas_desc f p n q)).2.1 ∧
 Down lt (run lt (kas_desc f p n q)).1 (run lt (kas_desc f p n q)).2.1 ∧ Alike lt (run lt (kas_desc f p n q)).1 ((run lt (kas_desc f p n q)).2.1 - ((run lt (kas_desc f p n q)).2.2 + 1)) (run lt (kas_desc f p n q)).2.1
 | 0, p, n, q, hz, hq, hd, ha => ⟨rfl, Array.Perm.refl _, Nat.le_refl _, Nat.le_refl _, hq, hd, ha⟩
 | f + 1, p, n, q, hz, hq, hd, ha => by
   have er : run lt (kas_desc (f + 1) p n q) = run lt (if lt (e p n) (e p (n - 1)) = true then (if q > 0 then kas_desc f (kas_rev p (n - (q + 1)) n) (n + 1) 0 else kas_desc f p (n + 1) 0)
    else .ask (e p (n - 1)) (e p n) fun d => if d = true then .ret (p, n, q) else kas_desc f p (n + 1) (q + 1)) := rfl
   have one : ∀ (p' : Array Nat), Alike lt p' (n + 1 - (0 + 1)) (n + 1) := fun p' i j i1 i2 j1 j2 => by
    have e1 : i = n := by omega
    have e2 : j = n := by omega
    subst e1 e2; exact irr O _
   cases c : lt (e p n) (e p (n - 1)) with
   | true =>
     rw [er, c, if_pos rfl]
     by_cases q0 : q > 0
     · rw [if_pos q0]
       have hs := rev_size p (n - (q + 1)) n
       have d1 : Down lt (kas_rev p (n - (q + 1)) n) n := Down.rev O (by omega) (Nat.le_refl _) hd ha
       have d2 : Down lt (kas_rev p (n - (q + 1)) n) (n + 1) := fun k k1 k2 => by
        by_cases hk : k < n
        · exact d1 k k1 hk
        · have ek : k = n := by omega
          subst ek
          rw [e_rev_out (k := k) (by omega) (Or.inr (Nat.le_refl _)), e_rev_in (k := k - 1) (by omega) (by omega) (by omega)]
          have h1 := ha (k - 1) (k - (q + 1) + k - 1 - (k - 1)) (by omega) (by omega) (by omega) (by omega)
          have h2 := ha (k - (q + 1) + k - 1 - (k - 1)) (k - 1) (by omega) (by omega) (by omega) (by omega)
          exact O.trans _ _ _ (O.asym _ _ c) h2
       obtain ⟨a1, a2, a3, a4, a5, a6, a7⟩ := desc_ok f (kas_rev p (n - (q + 1)) n) (n + 1) 0 (by omega) (by omega) d2 (one _)
       exact ⟨a1.trans hs, a2.trans (rev_perm ..), by omega, by omega, a5, a6, a7⟩
     · rw [if_neg q0]
       have d2 : Down lt p (n + 1) := fun k k1 k2 => by
        by_cases hk : k < n
        · exact hd k k1 hk
        · have ek : k = n := by omega
          subst ek
          exact O.asym _ _ c
       obtain ⟨a1, a2, a3, a4, a5, a6, a7⟩ := desc_ok f p (n + 1) 0 (by omega) (by omega) d2 (one _)
       exact ⟨a1, a2, by omega, by omega, a5, a6, a7⟩
   | false =>
     rw [er, c, if_neg Bool.false_ne_true]
     have er2 : run lt (KasT.ask (e p (n - 1)) (e p n) fun d => if d = true then KasT.ret (p, n, q) else kas_desc f p (n + 1) (q + 1)) = run lt (if lt (e p (n - 1)) (e p n) = true then KasT.ret (p, n, q) else kas_desc f p (n + 1) (q + 1)) := rfl
     rw [er2]
     cases c2 : lt (e p (n - 1)) (e p n) with
     | true =>
       rw [if_pos rfl]
       exact ⟨rfl, Array.Perm.refl _, Nat.le_refl _, Nat.le_add_right _ _, hq, hd, ha⟩
     | false =>
       rw [if_neg Bool.false_ne_true]
       have d2 : Down lt p (n + 1) := fun k k1 k2 => by
        by_cases hk : k < n
        · exact hd k k1 hk
        · have ek : k = n := by omega
          subst ek
          exact c2
       have al2 : Alike lt p (n + 1 - (q + 1 + 1)) (n + 1) := fun i j i1 i2 j1 j2 => by
        by_cases hi : i < n
        · by_cases hj : j < n
          · exact ha i j (by omega) hi (by omega) hj
          · have ej : j = n := by omega
            subst ej
            exact O.trans _ _ _ c2 (ha i (j - 1) (by omega) hi (by omega) (by omega))
        · have ei : i = n := by omega
          subst ei
          by_cases hj : j < i
          · exact O.trans _ _ _ (ha (i - 1) j (by omega) (by omega) (by omega) hj) c
          · have ej : j = i := by omega
            subst ej; exact irr O _
       obtain ⟨a1, a2, a3, a4, a5, a6, a7⟩ := desc_ok f p (n + 1) (q + 1) (by omega) (by omega) d2 al2
       exact ⟨a1, a2, by omega, by omega, a5, a6, a7⟩
theorem Down.up {p : Array Nat} {n : Nat} (hn : n ≤ p.size) (h : Down lt p n) : Up lt (kas_rev p 0 n) n := fun k k1 k2 => by
 rw [e_rev_in (k := k) hn (Nat.zero_le _) k2, e_rev_in (k := k - 1) hn (Nat.zero_le _) (by omega)]
 have := h (0 + n - 1 - (k - 1)) (by omega) (by omega)
 rw [show 0 + n - 1 - (k - 1) - 1 = 0 + n - 1 - k by omega] at this
 exact this
theorem tail3_ok {p : Array Nat} {n nrem : Nat} (h1 : 1 ≤ n) (hn : n ≤ nrem) (hz : nrem ≤ p.size) (h : Down lt p n) :
 (run lt (kas_tail3 n nrem p)).2.size = p.size ∧ (run lt (kas_tail3 n nrem p)).2.Perm p ∧ 1 ≤ (run lt (kas_tail3 n nrem p)).1 ∧ (run lt (kas_tail3 n nrem p)).1 ≤ nrem ∧ Up lt (run lt (kas_tail3 n nrem p)).2 (run lt (kas_tail3 n nrem p)).1 := by
 have er : run lt (kas_tail3 n nrem p) = (run lt (kas_asc (kas_rev p 0 n) (nrem - n) n), kas_rev p 0 n) := by
  unfold kas_tail3
  rw [run_bind]; rfl
 rw [er]
 obtain ⟨a1, a2, a3, _⟩ := asc_ok O (p := kas_rev p 0 n) (nrem - n) n h1 (Down.up O (by omega) h)
 exact ⟨rev_size .., rev_perm .., by show 1 ≤ run lt _; omega, by show run lt _ ≤ nrem; omega, a3⟩
theorem descPart_ok {p : Array Nat} {n nrem : Nat} (h1 : 1 ≤ n) (hn : n + 1 ≤ nrem) (hz : nrem ≤ p.size) (h : Down lt p (n + 1)) :
 (run lt (kas_descPart n nrem p)).2.size = p.size ∧ (run lt (kas_descPart n nrem p)).2.Perm p ∧ 1 ≤ (run lt (kas_descPart n nrem p)).1 ∧ (run lt (kas_descPart n nrem p)).1 ≤ nrem ∧ Up lt (run lt (kas_descPart n nrem p)).2 (run lt (kas_descPart n nrem p)).1 := by
 have one : Alike lt p (n + 1 - (0 + 1)) (n + 1) := fun i j i1 i2 j1 j2 => by
  have e1 : i = n := by omega
  have e2 : j = n := by omega
  subst e1 e2; exact irr O _
 obtain ⟨a1, a2, a3, a4, a5, a6, a7⟩ := desc_ok O (nrem - (n + 1)) p (n + 1) 0 (by omega) (by omega) h one
 have er : run lt (kas_descPart n nrem p) = run lt (if (run lt (kas_desc (nrem - (n + 1)) p (n + 1) 0)).2.2 > 0 then kas_tail3 (run lt (kas_desc (nrem - (n + 1)) p (n + 1) 0)).2.1 nrem (kas_rev (run lt (kas_desc (nrem - (n + 1)) p (n + 1) 0)).1 ((run lt (kas_desc (nrem - (n + 1)) p (n + 1) 0)).2.1 - ((run lt (kas_desc (nrem - (n + 1)) p (n + 1) 0)).2.2 + 1)) (run lt (kas_desc (nrem - (n + 1)) p (n + 1) 0)).2.1)
  else kas_tail3 (run lt (kas_desc (nrem - (n + 1)) p (n + 1) 0)).2.1 nrem (run lt (kas_desc (nrem - (n + 1)) p (n + 1) 0)).1) := by
  unfold kas_descPart
  rw [run_bind]
 rw [er]
 generalize run lt (kas_desc (nrem - (n + 1)) p (n + 1) 0) = r at *
 split
 · have hs := rev_size r.1 (r.2.1 - (r.2.2 + 1)) r.2.1
   obtain ⟨b1, b2, b3, b4, b5⟩ := tail3_ok O (p := kas_rev r.1 (r.2.1 - (r.2.2 + 1)) r.2.1) (n := r.2.1) (nrem := nrem) (by omega) (by omega) (by rw [hs, a1]; exact hz) (Down.rev O (by omega) (Nat.le_refl _) a6 a7)
   exact ⟨b1.trans (hs.trans a1), b2.trans ((rev_perm ..).trans a2), b3, b4, b5⟩
 · obtain ⟨b1, b2, b3, b4, b5⟩ := tail3_ok O (p := r.1) (n := r.2.1) (nrem := nrem) (by omega) (by omega) (by rw [a1]; exact hz) a6
   exact ⟨b1.trans a1, b2.trans a2, b3, b4, b5⟩
theorem count_ok {p : Array Nat} {nrem : Nat} (h2 : 1 ≤ nrem) (hz : nrem ≤ p.size) :
 (run lt (kas_count nrem p)).2.size = p.size ∧ (run lt (kas_count nrem p)).2.Perm p ∧ 1 ≤ (run lt (kas_count nrem p)).1 ∧ (run lt (kas_count nrem p)).1 ≤ nrem ∧ Up lt (run lt (kas_count nrem p)).2 (run lt (kas_count nrem p)).1 := by
 obtain ⟨a1, a2, a3, a4⟩ := asc_ok O (p := p) (nrem - 1) 1 (Nat.le_refl _) (fun k k1 k2 => by omega)
 have er : run lt (kas_count nrem p) = run lt (if (run lt (kas_asc p (nrem - 1) 1) == nrem) = true then KasT.ret (run lt (kas_asc p (nrem - 1) 1), p) else if run lt (kas_asc p (nrem - 1) 1) > 1 then
  .ask (e p 0) (e p (run lt (kas_asc p (nrem - 1) 1) - 1)) fun c => if c = true then .ret (run lt (kas_asc p (nrem - 1) 1), p) else kas_descPart (run lt (kas_asc p (nrem - 1) 1)) nrem (kas_rev p 0 (run lt (kas_asc p (nrem - 1) 1)))
  else kas_descPart (run lt (kas_asc p (nrem - 1) 1)) nrem p) := by
  unfold kas_count
  rw [run_bind]
  rfl
 rw [er]
 generalize run lt (kas_asc p (nrem - 1) 1) = n at *
 split
 · exact ⟨rfl, Array.Perm.refl _, a1, by show n ≤ nrem; omega, a3⟩
 · rename_i hne
   have hne' : n ≠ nrem := fun z => hne (by simp [z])
   have hlt := a4 (by omega)
   split
   · rename_i hn1
     have er2 : run lt (KasT.ask (e p 0) (e p (n - 1)) fun c => if c = true then KasT.ret (n, p) else kas_descPart n nrem (kas_rev p 0 n)) = run lt (if lt (e p 0) (e p (n - 1)) = true then KasT.ret (n, p) else kas_descPart n nrem (kas_rev p 0 n)) := rfl
     rw [er2]
     cases c : lt (e p 0) (e p (n - 1)) with
     | true =>
       rw [if_pos rfl]
       exact ⟨rfl, Array.Perm.refl _, a1, by show n ≤ nrem; omega, a3⟩
     | false =>
       rw [if_neg Bool.false_ne_true]
       -- all of the run are alike
       have al : Alike lt p 0 n := fun i j _ i2 _ j2 => by
        have h1 := Up.le O a3 (Nat.zero_le j) j2
        have h2 := Up.le O a3 (show i ≤ n - 1 by omega) (by omega)
        have h3 := Up.le O a3 (show j ≤ n - 1 by omega) (by omega)
        have h4 := Up.le O a3 (Nat.zero_le i) i2
        -- e i ≤ e (n-1) ≤ e 0 ≤ e j
        exact O.trans _ _ _ (O.trans _ _ _ h3 c) h4
       have hs := rev_size p 0 n
       have dn : Down lt p n := fun k k1 k2 => al _ _ (Nat.zero_le _) (by omega) (Nat.zero_le _) k2
       have d1 : Down lt (kas_rev p 0 n) (n + 1) := fun k k1 k2 => by
        by_cases hk : k < n
        · exact Down.rev O (by omega) (Nat.le_refl _) dn al k k1 hk
        · have ek : k = n := by omega
          subst ek
          rw [e_rev_out (k := k) (by omega) (Or.inr (Nat.le_refl _)), e_rev_in (k := k - 1) (by omega) (Nat.zero_le _) (by omega)]
          have h1 := al (0 + k - 1 - (k - 1)) (k - 1) (Nat.zero_le _) (by omega) (Nat.zero_le _) (by omega)
          exact O.trans _ _ _ (O.asym _ _ hlt) h1
       obtain ⟨b1, b2, b3, b4, b5⟩ := descPart_ok O (p := kas_rev p 0 n) (n := n) (nrem := nrem) a1 (by omega) (by rw [hs]; exact hz) d1
       exact ⟨b1.trans hs, b2.trans (rev_perm ..), b3, b4, b5⟩
   · have en : n = 1 := by omega
     subst en
     have d1 : Down lt p 2 := fun k k1 k2 => by
      have ek : k = 1 := by omega
      subst ek
      exact O.asym _ _ hlt
     exact descPart_ok O (p := p) (n := 1) (nrem := nrem) (Nat.le_refl _) (by omega) hz d1
theorem place_ok {p : Array Nat} {k : Nat} (h : Up lt p k) : ∀ (f l r : Nat), r ≤ l + f → l ≤ r → r ≤ k → (∀ i, i < l → lt (e p k) (e p i) = false) → (∀ i, r ≤ i → i < k → lt (e p k) (e p i) = true) →
 run lt (kas_place p k f l r) ≤ k ∧ (∀ i, i < run lt (kas_place p k f l r) → lt (e p k) (e p i) = false) ∧ (∀ i, run lt (kas_place p k f l r) ≤ i → i < k → lt (e p k) (e p i) = true)
 | 0, l, r, h1, h2, h3, h4, h5 => by
   have : r = l := by omega
   subst this
   exact ⟨h3, h4, h5⟩
 | f + 1, l, r, h1, h2, h3, h4, h5 => by
   have er : run lt (kas_place p k (f + 1) l r) = run lt (if l ≥ r then KasT.ret l else KasT.ask (e p k) (e p ((l + r) / 2)) fun c => if c = true then kas_place p k f l ((l + r) / 2) else kas_place p k f ((l + r) / 2 + 1) r) := rfl
   rw [er]
   by_cases hlr : l ≥ r
   · rw [if_pos hlr]
     have : r = l := by omega
     subst this
     exact ⟨h3, h4, h5⟩
   · rw [if_neg hlr]
     have er2 : run lt (KasT.ask (e p k) (e p ((l + r) / 2)) fun c => if c = true then kas_place p k f l ((l + r) / 2) else kas_place p k f ((l + r) / 2 + 1) r) = run lt (if lt (e p k) (e p ((l + r) / 2)) = true then kas_place p k f l ((l + r) / 2) else kas_place p k f ((l + r) / 2 + 1) r) := rfl
     rw [er2]
     cases c : lt (e p k) (e p ((l + r) / 2)) with
     | true =>
       rw [if_pos rfl]
       refine place_ok h f l ((l + r) / 2) (by omega) (by omega) (by omega) h4 fun i i1 i2 => ?_
       -- pivot < mid ≤ e i
       cases d : lt (e p k) (e p i) with
       | true => rfl
       | false =>
         have := O.trans _ _ _ (Up.le O h i1 i2) d
         rw [c] at this
         cases this
     | false =>
       rw [if_neg Bool.false_ne_true]
       refine place_ok h f ((l + r) / 2 + 1) r (by omega) (by omega) h3 (fun i i1 => ?_) h5
       exact O.trans _ _ _ (Up.le O h (show i ≤ (l + r) / 2 by omega) (by omega)) c
theorem bin_ok : ∀ (f : Nat) (p : Array Nat) (k : Nat), k + f ≤ p.size → 1 ≤ k → Up lt p k → (run lt (kas_bin f p k)).Perm p ∧ Up lt (run lt (kas_bin f p k)) (k + f)
 | 0, p, k, _, _, h => ⟨Array.Perm.refl _, h⟩
 | f + 1, p, k, hz, h1, h => by
   have er : run lt (kas_bin (f + 1) p k) = run lt (kas_bin f (bubble p k (k - run lt (kas_place p k k 0 k))) (k + 1)) := by
    show run lt ((kas_place p k k 0 k).bind fun l => kas_bin f (bubble p k (k - l)) (k + 1)) = _
    rw [run_bind]
   rw [er]
   obtain ⟨a1, a2, a3⟩ := place_ok O h k 0 k (by omega) (Nat.zero_le _) (Nat.le_refl _) (fun i hi => absurd hi (Nat.not_lt_zero _)) (fun i h1 h2 => by omega)
   generalize run lt (kas_place p k k 0 k) = l at *
   have hk : k < p.size := by omega
   have up : Up lt (bubble p k (k - l)) (k + 1) := fun j j1 j2 => by
    rw [e_bub hk a1, e_bub hk a1]
    by_cases c1 : j = l
    · rw [if_pos c1, if_neg (by omega), if_neg (by omega)]
      exact a2 _ (by omega)
    · rw [if_neg c1]
      by_cases c2 : j - 1 = l
      · rw [if_pos c2, if_pos (by omega)]
        exact O.asym _ _ (a3 _ (by omega) (by omega))
      · rw [if_neg c2]
        by_cases c3 : l < j - 1 ∧ j - 1 ≤ k
        · rw [if_pos c3, if_pos (by omega)]
          exact h (j - 1) (by omega) (by omega)
        · rw [if_neg c3, if_neg (by omega)]
          exact h j j1 (by omega)
   obtain ⟨b1, b2⟩ := bin_ok f (bubble p k (k - l)) (k + 1) (by rw [bubble_size]; omega) (by omega) up
   refine ⟨b1.trans (bubble_perm ..), ?_⟩
   rw [show k + (f + 1) = k + 1 + f by omega]
   exact b2
theorem sort_ok {n : Nat} (hn : 1 ≤ n) : (run lt (kas_sort n)).toList.Perm (List.range n) ∧ Up lt (run lt (kas_sort n)) n := by
 have hz : n ≤ (List.toArray (List.range n)).size := by simp
 obtain ⟨a1, a2, a3, a4, a5⟩ := count_ok O (p := List.toArray (List.range n)) hn hz
 have er : run lt (kas_sort n) = run lt (if (run lt (kas_count n (List.toArray (List.range n)))).1 < n then kas_bin (n - max (run lt (kas_count n (List.toArray (List.range n)))).1 1) (run lt (kas_count n (List.toArray (List.range n)))).2 (max (run lt (kas_count n (List.toArray (List.range n)))).1 1) else .ret (run lt (kas_count n (List.toArray (List.range n)))).2) := by
  unfold kas_sort
  rw [run_bind]
 rw [er]
 generalize run lt (kas_count n (List.toArray (List.range n))) = r at *
 have hm : max r.1 1 = r.1 := by omega
 rw [hm]
 have hsz : r.2.size = n := by rw [a1]; simp
 split
 · obtain ⟨b1, b2⟩ := bin_ok O (n - r.1) r.2 r.1 (by omega) a3 a5
   refine ⟨(b1.trans a2).toList, ?_⟩
   rw [show r.1 + (n - r.1) = n by omega] at b2
   exact b2
 · have e1 : r.1 = n := by omega
   refine ⟨a2.toList, ?_⟩
   rw [e1] at a5
   exact a5
end
end Srt

namespace Srt
open PySem PySem.W PyProof.Rows
noncomputable def Asks {α : Type} (n : Nat) : KasT α → (α → Prop) → Prop
 | .ret a, Q => Q a
 | .ask i j k, Q => i < n ∧ j < n ∧ ∀ b, Asks n (k b) Q
theorem Asks.bind {α β : Type} {n : Nat} {f : α → KasT β} {Q : β → Prop} : ∀ {t : KasT α}, Asks n t (fun a => Asks n (f a) Q) → Asks n (t.bind f) Q
 | .ret _, h => h
 | .ask _ _ _, h => ⟨h.1, h.2.1, fun b => Asks.bind (h.2.2 b)⟩
theorem run_wp' {α : Type} {n : Nat} (lt : Nat → Nat → Bool) {cmp : Nat → Nat → (Bool → Shared → Prop) → Shared → Prop} {P : Shared → Prop} (h : ∀ i j (C : Bool → Shared → Prop) s, i < n → j < n → P s → (∀ s', P s' → C (lt i j) s') → cmp i j C s)
 {Q : α → Shared → Prop} {T : α → Prop} : ∀ (t : KasT α) (s : Shared), Asks n t T → P s → (∀ s', P s' → Q (run lt t) s') → t.kasWp cmp Q s
 | .ret a, s, _, p, q => q s p
 | .ask i j k, s, a, p, q => h i j _ s a.1 a.2.1 p fun s' p' => run_wp' lt h (k (lt i j)) s' (a.2.2 _) p' q
noncomputable def AllLt (n : Nat) (p : Array Nat) : Prop := ∀ k, p.getD k 0 < n
theorem AllLt.perm {n : Nat} {p q : Array Nat} (hn : 0 < n) (h : AllLt n p) (pm : q.Perm p) : AllLt n q := fun k => by
 by_cases hk : k < q.size
 · have e1 : q.getD k 0 = q[k] := by simp [Array.getD, hk]
   rw [e1]
   have hm : q[k] ∈ q := Array.getElem_mem hk
   have hm2 : q[k] ∈ p := by
    have := pm.toList.mem_iff (a := q[k])
    simpa using this.mp (by simpa using hm)
   obtain ⟨j, hj, e2⟩ := Array.mem_iff_getElem.mp hm2
   have := h j
   have e3 : p.getD j 0 = p[j] := by simp [Array.getD, hj]
   rw [e3, e2] at this
   exact this
 · have e1 : q.getD k 0 = 0 := by simp [Array.getD, hk]
   rw [e1]; exact hn
section
variable {n : Nat} (hn : 0 < n)
include hn
theorem asc_asks {p : Array Nat} (h : AllLt n p) : ∀ f m, Asks n (kas_asc p f m) (fun _ => True)
 | 0, _ => trivial
 | f + 1, m => ⟨h _, h _, fun b => by
     cases b with
     | true => exact trivial
     | false => exact asc_asks h f (m + 1)⟩
theorem desc_asks : ∀ (f : Nat) (p : Array Nat) (m q : Nat), AllLt n p → Asks n (kas_desc f p m q) (fun r => AllLt n r.1)
 | 0, p, _, _, h => h
 | f + 1, p, m, q, h => ⟨h _, h _, fun b => by
     cases b with
     | true =>
       show Asks n (if true = true then (if q > 0 then kas_desc f (kas_rev p (m - (q + 1)) m) (m + 1) 0 else kas_desc f p (m + 1) 0) else _) _
       rw [if_pos rfl]
       split
       · exact desc_asks f _ _ _ (h.perm hn (rev_perm ..))
       · exact desc_asks f _ _ _ h
     | false =>
       show Asks n (if false = true then _ else KasT.ask (p.getD (m - 1) 0) (p.getD m 0) fun d => if d = true then KasT.ret (p, m, q) else kas_desc f p (m + 1) (q + 1)) _
       rw [if_neg Bool.false_ne_true]
       refine ⟨h _, h _, fun d => ?_⟩
       cases d with
       | true => exact h
       | false => exact desc_asks f _ _ _ h⟩
theorem Asks.mono {α : Type} {Q Q' : α → Prop} (hq : ∀ a, Q a → Q' a) : ∀ {t : KasT α}, Asks n t Q → Asks n t Q'
 | .ret a, h => hq a h
 | .ask _ _ _, h => ⟨h.1, h.2.1, fun b => Asks.mono hq (h.2.2 b)⟩
theorem tail3_asks {p : Array Nat} (h : AllLt n p) (m r : Nat) : Asks n (kas_tail3 m r p) (fun x => AllLt n x.2) := by
 have h' := h.perm hn (rev_perm p 0 m)
 exact Asks.bind (Asks.mono hn (fun _ _ => h') (asc_asks hn h' _ _))
theorem descPart_asks {p : Array Nat} (h : AllLt n p) (m r : Nat) : Asks n (kas_descPart m r p) (fun x => AllLt n x.2) := by
 refine Asks.bind (Asks.mono hn (fun x hx => ?_) (desc_asks hn _ _ _ _ h))
 split
 · exact tail3_asks hn (hx.perm hn (rev_perm ..)) _ _
 · exact tail3_asks hn hx _ _
theorem count_asks {p : Array Nat} (h : AllLt n p) (r : Nat) : Asks n (kas_count r p) (fun x => AllLt n x.2) := by
 refine Asks.bind (Asks.mono hn (fun m _ => ?_) (asc_asks hn h _ _))
 split
 · exact h
 · split
   · refine ⟨h _, h _, fun b => ?_⟩
     cases b with
     | true => exact h
     | false => exact descPart_asks hn (h.perm hn (rev_perm ..)) _ _
   · exact descPart_asks hn h _ _
theorem place_asks {p : Array Nat} (h : AllLt n p) (k : Nat) : ∀ f l r, Asks n (kas_place p k f l r) (fun _ => True)
 | 0, _, _ => trivial
 | f + 1, l, r => by
   show Asks n (if l ≥ r then KasT.ret l else KasT.ask (p.getD k 0) (p.getD ((l + r) / 2) 0) fun c => if c = true then kas_place p k f l ((l + r) / 2) else kas_place p k f ((l + r) / 2 + 1) r) _
   split
   · exact trivial
   · refine ⟨h _, h _, fun b => ?_⟩
     cases b with
     | true => exact place_asks h k f _ _
     | false => exact place_asks h k f _ _
theorem bin_asks : ∀ (f : Nat) (p : Array Nat) (k : Nat), AllLt n p → Asks n (kas_bin f p k) (fun _ => True)
 | 0, _, _, _ => trivial
 | f + 1, p, k, h => Asks.bind (Asks.mono hn (fun l _ => bin_asks f _ _ (h.perm hn (bubble_perm ..))) (place_asks hn h k _ _ _))
theorem sort_asks : Asks n (kas_sort n) (fun _ => True) := by
 have h0 : AllLt n (List.toArray (List.range n)) := fun k => by
  by_cases hk : k < n
  · simp [Array.getD, hk]
  · simp [Array.getD, hk]; exact hn
 refine Asks.bind (Asks.mono hn (fun r hr => ?_) (count_asks hn h0 n))
 split
 · exact bin_asks hn _ _ _ hr
 · exact trivial
end
end Srt
namespace L2
open PySem PySem.Spec PyProof.Rows PySem.W
section
variable {prog : Program} {w : World} {A : Around} {E : Value → Shared → Prop} {s : Shared}
theorem zip_snd (vs : List Value) : (vs.toArray.zip vs.toArray).map (·.2) = vs.toArray := by
 apply Array.toList_inj.mp
 simp [List.map_snd_zip]
set_option maxHeartbeats 2000000 in
theorem sorted_small {l : Addr} {vs : List Value} {Q : Value → Shared → Prop} (hl : s.heap.IsList l vs.toArray) (h2 : vs.length < 2)
 (h : ∀ (h' : Heap) (c : Nat), (∀ b o, s.heap.get? b = some o → h'.get? b = some o) → h'.get? (s.heap.objs.size + 1) = some (seqObj "list" vs.toArray c) → Q (.ref (s.heap.objs.size + 1)) { s with heap := h' }) :
 wpAny (model prog w) A (call (.builtin "sorted") [.ref l]) Q E s := by
 refine Calls.call_function_entry kind_sorted plain_sorted entry_sorted (args_sorted1 _) ?_
 unfold Builtin.«sorted»
 refine wpAny_bind (m := checkCount "sorted" 1 1 _) (wpAny_pure ?_)
 refine wpAny_bind (collect_list hl ?_ (by rw [sizeLine_eq]; omega))
 refine wpAny_bind (wpAny_newList ?_ (by rw [sizeLine_eq]; omega))
 have hsz : ((s.heap.push (seqObj "list" #[] 0)).update s.heap.objs.size (Obj.mapSeq (· ++ vs.toArray))).objs.size = s.heap.objs.size + 1 := by
  rw [Heap.size_update, size_push']
 have hoL : (((s.heap.push (seqObj "list" #[] 0)).update s.heap.objs.size (Obj.mapSeq (· ++ vs.toArray))).push (seqObj "list" vs.toArray 0)).get? (s.heap.objs.size + 1) = some (seqObj "list" vs.toArray 0) := by
  rw [← hsz]; exact Heap.get?_push_size _ rfl
 have keep : ∀ b o, s.heap.get? b = some o → (((s.heap.push (seqObj "list" #[] 0)).update s.heap.objs.size (Obj.mapSeq (· ++ vs.toArray))).push (seqObj "list" vs.toArray 0)).get? b = some o := fun b o q => by
  have hlt : b < s.heap.objs.size := Heap.lt_size q
  rw [Heap.get?_push_ne _ _ _ (by rw [hsz]; exact Nat.ne_of_lt (Nat.lt_succ_of_lt hlt)), Heap.get?_update_ne _ _ _ _ (Nat.ne_of_lt hlt), Heap.get?_push_ne _ _ _ (Nat.ne_of_lt hlt)]
  exact q
 show wpAny _ _ _ _ _ { s with heap := ((s.heap.push (seqObj "list" #[] 0)).update s.heap.objs.size (Obj.mapSeq (· ++ vs.toArray))).push (seqObj "list" vs.toArray 0) }
 rw [hsz]
 generalize ((s.heap.push (seqObj "list" #[] 0)).update s.heap.objs.size (Obj.mapSeq (· ++ vs.toArray))).push (seqObj "list" vs.toArray 0) = g at *
 generalize hD : s.heap.objs.size + 1 = D at *
 have hDs : ∀ b o, s.heap.get? b = some o → b ≠ D := fun b o q => by rw [← hD]; exact Nat.ne_of_lt (Nat.lt_succ_of_lt (Heap.lt_size q))
 refine wpAny_bind (wpAny_holding (wpAny_call_entry slot_list_sort ⟨_, hoL, rfl⟩ entry_list_sort ?body (args_list_sort _)))
 case body =>
  obtain ⟨e1, ho1⟩ : ∃ e1, (g.update D (Obj.mapSeq fun _ => (#[] : Array Value))).get? D = some (seqObj "list" #[] e1) := ⟨_, get?_update_seq hoL fun _ => #[]⟩
  rw [list_sort_plain]
  refine wpAny_bind (listItems_at hoL rfl ?_)
  refine wpAny_bind (listUpdate_at hoL rfl ?_ (by rw [List.size_toArray, sizeLine_eq]; omega) (Nat.zero_le _))
  refine wpAny_bind (seqEpoch_at ho1 rfl ?_)
  refine wpAny_bind (wpAny_newTuple ?_ (by show vs.length ≤ _; rw [sizeLine_eq]; omega))
  refine wpAny_bind (wpAny_newList ?_ (Nat.zero_le _))
  refine wpAny_holding ?_
  show wpAny (model prog w) _ _ _ E { s with heap := ((g.update D (Obj.mapSeq fun _ => (#[] : Array Value))).push (seqObj "tuple" vs.toArray 0)).push (seqObj "list" #[] 0) }
  dsimp only
  have hn2 : vs.toArray.size < 2 := by rw [List.size_toArray]; exact h2
  rw [if_pos hn2, if_pos hn2]
  refine wpAny_bind (wpAny_pure ?_)
  refine wpAny_bind (wpAny_pure ?_)
  dsimp only
  have ho6 : (((g.update D (Obj.mapSeq fun _ => (#[] : Array Value))).push (seqObj "tuple" vs.toArray 0)).push (seqObj "list" #[] 0)).get? D = some (seqObj "list" #[] e1) := Heap.get?_push_of_some _ (Heap.get?_push_of_some _ ho1)
  have harr : (arrOf (SortSt.mk' general' (vs.toArray.zip vs.toArray) #[] 7 none)).map (·.2) = vs.toArray := by
   exact zip_snd vs
  rw [harr]
  refine wpAny_bind (seqEpoch_at ho6 rfl ?_)
  refine wpAny_bind (listUpdate_at ho6 rfl ?_ (Nat.zero_le _) (by show vs.toArray.size ≤ _; rw [List.size_toArray, sizeLine_eq]; omega))
  simp only [bne_self_eq_false, Bool.false_eq_true, if_false]
  obtain ⟨c2, hc2⟩ : ∃ c2, ((((g.update D (Obj.mapSeq fun _ => (#[] : Array Value))).push (seqObj "tuple" vs.toArray 0)).push (seqObj "list" #[] 0)).update D (Obj.mapSeq fun _ => vs.toArray)).get? D = some (seqObj "list" vs.toArray c2) := ⟨_, get?_update_seq ho6 fun _ => vs.toArray⟩
  refine wpAny_pure ⟨_, rfl, wpAny_pure ⟨_, rfl, ?_⟩⟩
  refine h _ c2 (fun b o q => ?_) hc2
  have hb := hDs b o q
  exact (Heap.get?_update_other _ _ (Ne.symm hb)).trans (Heap.get?_push_of_some _ (Heap.get?_push_of_some _ ((Heap.get?_update_other _ _ (Ne.symm hb)).trans (keep b o q))))
end
end L2

namespace L2
open PySem PySem.Spec PyProof.Rows PySem.W
theorem ns_inj {h : Heap} {a : Addr} {m m' : Str → Option Value} (x : h.Ns a m) (y : h.Ns a m') : m = m' := by
 obtain ⟨o, es, ep, ho, hd, _, hm⟩ := x
 obtain ⟨o', es', ep', ho', hd', _, hm'⟩ := y
 rw [ho] at ho'; cases ho'
 rw [hd] at hd'; cases hd'
 funext z
 rw [← hm z, ← hm' z]
theorem ObjOk.there {P : Program} {w : World} {H : Hp} {h : Heap} {a : Addr} {o : HO} (x : ObjOk P w H h a o) : ∃ u, h.get? a = some u := by
 cases o with
 | lst xs => obtain ⟨_, _, _, _, e⟩ := x; exact ⟨_, e⟩
 | tup xs => obtain ⟨_, _, _, ob, e, _⟩ := x; exact ⟨_, e⟩
 | dK kvs => obtain ⟨_, _, _, _, o, _, _, e, _⟩ := x; exact ⟨_, e⟩
 | dT kvs => obtain ⟨_, _, _, _, o, _, _, e, _⟩ := x; exact ⟨_, e⟩
 | set S n => obtain ⟨o, _, _, _, e, _⟩ := x; exact ⟨_, e⟩
 | ins C dx fs => obtain ⟨_, _, _, e, _⟩ := x; exact ⟨_, e⟩
 | own y => obtain ⟨_, e⟩ := x; exact ⟨_, e⟩
 | xd fs => obtain ⟨_, ⟨_, _, _, e, _⟩, _⟩ := x; exact ⟨_, e⟩
 | rng lo hi => obtain ⟨_, _, _, e⟩ := x; exact ⟨_, e⟩
 | frz ob u => obtain ⟨e, _⟩ := x; exact ⟨_, e⟩
 | tbl ps => exact ⟨_, (show h.get? a = some _ from x)⟩
 | met f y => exact ⟨_, (show h.get? a = some _ from x)⟩
 | ext φ => obtain ⟨_, ⟨_, e⟩, _⟩ := x; exact ⟨_, e⟩
theorem map_small : ∀ (xs : List V), xs.length < 2 → (List.range xs.length).map (fun i => xs.getD i V.non) = xs
 | [], _ => rfl
 | [_], _ => rfl
 | _ :: _ :: _, h => by simp at h; omega
section
variable {X : Cx} {pins : List (Addr × Obj)} {σ : St} {H : Hp} {s : Shared}
theorem Inv.byNews {h' : Heap} {m : Str → Option Value} {D : Addr} {ws : List V} {out : List Value} {c : Nat} {t' : Nat} (I : Inv X pins σ H s) (hn : s.heap.Ns X.env.locals m) (F : Fr X.base X.env.locals h' m)
 (k : ∀ b o, b ≠ X.env.locals → s.heap.get? b = some o → h'.get? b = some o) (hD : H D = none) (hDs : ∀ o, s.heap.get? D ≠ some o) (ho : h'.get? D = some { cls := .type "list", data := .seq out.toArray c }) (r : Vals ws out) (hz : ws.length ≤ sizeLine) :
 Inv X pins σ (upd H D (.lst ws)) { s with heap := h', toks := t' } := by
 have nD : ∀ b o, s.heap.get? b = some o → b ≠ D := fun b o e z => by subst z; exact hDs o e
 have nL : ∀ b u, H b = some u → b ≠ X.env.locals := fun b u e z => by rw [z, I.free] at e; cases e
 refine I.step (g' := s.gens) (d' := s.drawn) (ch := []) (fun _ z => nomatch z) (fun b o hL _ _ e _ => k b o hL e) (fun b o hL _ _ e _ => ⟨o.slots, k b o hL e⟩) (fun b o _ e n => by rw [upd_ne (nD b o e)]; exact n) (fun b o _ e => ?_)
  (fun b xs e => by rw [upd_ne (ne_of_none e hD)]; exact e) (fun b o u e => by rw [upd_ne (ne_of_none e hD)]; exact e) (fun b ps e => ⟨#[], by rw [upd_ne (ne_of_none e hD), e]; simp⟩) (fun m' hm => ?_) (fun b u e => ?_) I.bare
 · by_cases hb : b = X.env.locals
   · obtain ⟨o', _, _, e', _⟩ := F.ns
     exact ⟨o', by rw [hb]; exact e'⟩
   · exact ⟨o, k b o hb e⟩
 · rw [← ns_inj hn hm]; exact F.ns
 · by_cases hb : b = D
   · subst hb
     rw [upd_same] at e; cases e
     exact ⟨hz, out, c, r, ho⟩
   · rw [upd_ne hb] at e
     refine (I.hok b u e).stay (fun x v hx q => k x v ?_ q) (fun x q => by rw [upd_ne (ne_of_none q hD)]; exact q) fun x xs q => by rw [upd_ne (ne_of_none q hD)]; exact q
     rcases hx with z | z
     · rw [z]; exact nL b u e
     · exact nL x _ z
theorem getD_e (p : Array Nat) (j : Nat) : p.toList.getD j 0 = Srt.e p j := by
 unfold Srt.e
 simp [List.getD_eq_getElem?_getD]
set_option maxHeartbeats 2000000 in
theorem sorted_ok {l : Addr} {xs : List V} {Q : VK} (I : Inv X pins σ H s) (hl : SqL X.K H l xs) (h64 : xs.length < 64) (lt : Nat → Nat → Bool) (O : Srt.Ord lt)
 (hkind : ∀ (vs : List Value) (s' : Shared), Vals xs vs → 2 ≤ vs.length → (∀ b o, b ≠ X.env.locals → s.heap.get? b = some o → s'.heap.get? b = some o) → ∃ κ : SortKind, (∀ (R : SortKind → Shared → Prop), R κ s' → wpAny (model X.prog X.w) X.A.in1.in1 (keyKind' vs.toArray) R (fun _ _ => False) s') ∧
  ∀ (i j : Nat) (C : Bool → Shared → Prop) (s2 : Shared), i < vs.length → j < vs.length → (∀ b o, b ≠ X.env.locals → s.heap.get? b = some o → s2.heap.get? b = some o) → C (lt i j) s2 → kas_ask X.prog X.w X.A.in1.in1 κ vs i j C s2)
 (q : ∀ (p : List Nat) (D : Addr), p.Perm (List.range xs.length) → (∀ k, 1 ≤ k → k < xs.length → lt (p.getD k 0) (p.getD (k - 1) 0) = false) → H D = none → Q (.ref D) (upd H D (.lst (p.map fun i => xs.getD i .non)))) :
 wpAny (model X.prog X.w) X.A (call (.builtin "sorted") [.ref l]) (EP X pins σ Q) X.xe s := by
 obtain ⟨its, rv, pl, hz⟩ := id (I.list hl)
 have hlen := rv.length
 by_cases h2 : its.length < 2
 · refine sorted_small pl.isList h2 fun h' c kp ho => ?_
   have hf : H (s.heap.objs.size + 1) = none := I.hok.fresh (Nat.le_succ _)
   have I' : Inv X pins σ (upd H (s.heap.objs.size + 1) (.lst xs)) { s with heap := h' } := I.laid (t' := s.toks) kp (Nat.le_succ _) ⟨hz, its, c, rv, ho⟩
   have hq := q (List.range xs.length) (s.heap.objs.size + 1) (List.Perm.refl _) (fun k k1 k2 => by omega) hf
   have ex : (List.range xs.length).map (fun i => xs.getD i .non) = xs := by
    exact map_small xs (by omega)
   rw [ex] at hq
   exact ⟨.ref (s.heap.objs.size + 1), _, I', rfl, hq⟩
 · obtain ⟨m, hn, _⟩ := id I.loc
   have F : Fr X.base X.env.locals s.heap m := ⟨hn, I.bk, Nat.le_trans I.ok.bsz I.ok.above⟩
   have N : News X.base X.env.locals s.heap (allNews X.base s.heap X.env.locals) := news_all
   have keepN : ∀ {h' : Heap} {r : List (Addr × Obj)}, Fr X.base X.env.locals h' m → News X.base X.env.locals h' r → (∀ p ∈ allNews X.base s.heap X.env.locals, p ∈ r) → ∀ b o, b ≠ X.env.locals → s.heap.get? b = some o → h'.get? b = some o := fun {h' r} F' N' sub b o hb e => by
    cases z : X.base.get? b with
    | some u =>
      have := I.bk b u z
      rw [e] at this; cases this
      exact F'.keep b _ z
    | none => exact (N' (b, o) (sub _ (mem_allNews hb z e))).1
   have h2' : 2 ≤ its.length := by omega
   refine kat_sorted F N pl.isList h2' (by omega) fun D e1 h' F' N' hD => ?_
   have kp := keepN F' N' (fun p hp => List.mem_cons_of_mem _ hp)
   have nDD := N' (D, seqObj "list" #[] e1) List.mem_cons_self
   have hDs : ∀ o, s.heap.get? D ≠ some o := fun o e => Nat.lt_irrefl _ (hD (D, o) (mem_allNews nDD.2.1 nDD.2.2 e))
   have hHD : H D = none := by
    cases z : H D with
    | none => rfl
    | some u =>
      obtain ⟨o, e⟩ := ObjOk.there (I.hok D u z)
      exact absurd e (hDs o)
   obtain ⟨κ, hκ, hask⟩ := hkind its { s with heap := h' } rv h2' kp
   refine hκ _ ?_
   have hn1 : 0 < its.length := by omega
   refine Srt.run_wp' (n := its.length) (P := fun s' => s' = { s with heap := h' }) lt (fun i j C s2 hi hj p2 hc => by subst p2; exact hask i j C _ hi hj kp (hc _ rfl)) (kas_sort its.length) _ (Srt.sort_asks hn1) rfl fun s2 p2 => ?_
   subst p2
   obtain ⟨pm, up⟩ := Srt.sort_ok O (n := its.length) (by omega)
   generalize Srt.run lt (kas_sort its.length) = p at *
   refine KasFin.intro F' N' (.head fun x hx => Nat.ne_of_lt (hD x hx)) fun h3 c F3 N3 => ?_
   have kp3 := keepN F3 N3 (fun p hp => List.mem_cons_of_mem _ hp)
   have hD3 := (N3 (D, listOf (List.toArray (p.toList.map fun i => its.getD i Value.none)) c) List.mem_cons_self).1
   have rel : Vals (p.toList.map fun i => xs.getD i .non) (p.toList.map fun i => its.getD i Value.none) := by
    have key : ∀ (l : List Nat), (∀ i ∈ l, i < its.length) → Vals (l.map fun i => xs.getD i .non) (l.map fun i => its.getD i Value.none) := by
     intro l
     induction l with
     | nil => intro _; exact .nil
     | cons a l ih =>
       intro hl'
       have ha := hl' a List.mem_cons_self
       have ha2 : a < xs.length := by omega
       obtain ⟨u, hu, ru⟩ := rv.get (i := a) (x := xs[a]) (by simp [ha2])
       have e1 : xs.getD a .non = xs[a] := by simp [ha2]
       have e2 : its.getD a Value.none = u := by rw [List.getD_eq_getElem?_getD, hu]; rfl
       rw [List.map_cons, List.map_cons, e1, e2]
       exact .cons ru (ih fun i hi => hl' i (List.mem_cons_of_mem _ hi))
    exact key _ fun i hi => List.mem_range.mp (pm.mem_iff.mp hi)
   have hq := q p.toList D (by rw [hlen]; exact pm) (fun k k1 k2 => by
    have := up k k1 (by omega)
    rw [getD_e, getD_e]; exact this) hHD
   refine ⟨.ref D, _, I.byNews (t' := s.toks) hn F3 kp3 hHD hDs hD3 rel ?_, rfl, hq⟩
   rw [List.length_map, pm.length_eq, List.length_range, ← hlen]
   exact hz
end
end L2

namespace L2
open PySem PySem.Spec PyProof.Rows PySem.W
theorem pairwise_of_adj {α : Type} {R : α → α → Prop} (tr : ∀ a b c, R a b → R b c → R a c) : ∀ l : List α, (∀ k a b, l[k]? = some a → l[k + 1]? = some b → R a b) → l.Pairwise R
 | [], _ => .nil
 | [a], _ => by simp
 | a :: b :: l, h => by
   have ih := pairwise_of_adj tr (b :: l) fun k x y hx hy => h (k + 1) x y (by simpa using hx) (by simpa using hy)
   refine List.pairwise_cons.mpr ⟨fun c hc => ?_, ih⟩
   rcases List.mem_cons.mp hc with rfl | hc
   · exact h 0 a c rfl rfl
   · exact tr a b c (h 0 a b rfl rfl) ((List.pairwise_cons.mp ih).1 c hc)
theorem range_getD {α : Type} (l : List α) (d : α) : (List.range l.length).map (fun i => l.getD i d) = l := by
 refine List.ext_getElem (by simp) fun i h1 h2 => ?_
 simp [h2]
theorem perm_getD {α : Type} {l : List α} {d : α} {p : List Nat} (h : p.Perm (List.range l.length)) : (p.map fun i => l.getD i d).Perm l := by
 have := h.map (fun i => l.getD i d)
 rw [range_getD] at this
 exact this
theorem vals_getD {xs : List V} {vs : List Value} (r : Vals xs vs) {i : Nat} (h : i < vs.length) : RelV (xs.getD i .non) (vs.getD i Value.none) := by
 have h' : i < xs.length := by rw [r.length]; exact h
 obtain ⟨u, hu, ru⟩ := r.get (i := i) (x := xs[i]) (by simp [h'])
 have e1 : xs.getD i .non = xs[i] := by simp [h']
 have e2 : vs.getD i Value.none = u := by rw [List.getD_eq_getElem?_getD, hu]; rfl
 rw [e1, e2]; exact ru
noncomputable def lexB (p q : Int × Int) : Bool := decide (p.1 < q.1 ∨ (p.1 = q.1 ∧ p.2 < q.2))
noncomputable def lexR (p q : Int × Int) : Prop := p.1 < q.1 ∨ (p.1 = q.1 ∧ p.2 ≤ q.2)
theorem lexR_of {p q : Int × Int} (h : lexB q p = false) : lexR p q := by
 simp only [lexB, lexR, decide_eq_false_iff_not] at *
 omega
theorem lexR_trans (a b c : Int × Int) (h1 : lexR a b) (h2 : lexR b c) : lexR a c := by
 simp only [lexR] at *
 omega
noncomputable def ltP (ps : List (Int × Int)) (i j : Nat) : Bool := lexB (ps.getD i (0, 0)) (ps.getD j (0, 0))
theorem ltP_ord (ps : List (Int × Int)) : Srt.Ord (ltP ps) := by
 refine ⟨fun i j h => ?_, fun i j k h1 h2 => ?_⟩ <;> simp only [ltP, lexB, decide_eq_true_eq, decide_eq_false_iff_not] at * <;> omega
theorem up_pairwise {α : Type} {R : α → α → Prop} (tr : ∀ a b c, R a b → R b c → R a c) {l : List α} {d : α} {p : List Nat} (h : p.Perm (List.range l.length)) {lt : Nat → Nat → Bool}
 (up : ∀ k, 1 ≤ k → k < l.length → lt (p.getD k 0) (p.getD (k - 1) 0) = false) (hR : ∀ i j, lt j i = false → R (l.getD i d) (l.getD j d)) : (p.map fun i => l.getD i d).Pairwise R := by
 refine pairwise_of_adj tr _ fun k a b ha hb => ?_
 have hl : p.length = l.length := by rw [h.length_eq, List.length_range]
 rw [List.getElem?_map] at ha hb
 cases e1 : p[k]? with
 | none => rw [e1] at ha; cases ha
 | some i =>
   cases e2 : p[k + 1]? with
   | none => rw [e2] at hb; cases hb
   | some j =>
     rw [e1] at ha; rw [e2] at hb
     have ha : l.getD i d = a := Option.some.inj ha
     have hb : l.getD j d = b := Option.some.inj hb
     subst ha hb
     have hk : k + 1 < p.length := (List.getElem?_eq_some_iff.mp e2).1
     have := up (k + 1) (by omega) (by omega)
     have g1 : p.getD (k + 1) 0 = j := by rw [List.getD_eq_getElem?_getD, e2]; rfl
     have g2 : p.getD (k + 1 - 1) 0 = i := by rw [List.getD_eq_getElem?_getD, Nat.add_sub_cancel, e1]; rfl
     rw [g1, g2] at this
     exact hR i j this
noncomputable def dtP (p : Int × Int) : Dt := .tup [.int p.1, .int p.2]
noncomputable def Prs (K : PySem.W.Frag) (H : Hp) (ps : List (Int × Int)) (vs : List V) : Prop := Dens K H (ps.map dtP) vs
theorem dens_pick {K : PySem.W.Frag} {H : Hp} {α : Type} {f : α → Dt} {l : List α} {d : α} {vs : List V} (h : Dens K H (l.map f) vs) : ∀ {p : List Nat}, (∀ i ∈ p, i < l.length) → Dens K H ((p.map fun i => l.getD i d).map f) (p.map fun i => vs.getD i .non)
 | [], _ => by simp only [List.map_nil, Dens]
 | i :: p, hp => by
   have hi := hp i List.mem_cons_self
   simp only [List.map_cons, Dens]
   obtain ⟨x, hx, dx⟩ := h.get (j := i) (d := f l[i]) (by simp [hi])
   refine ⟨_, _, rfl, ?_, dens_pick h fun j hj => hp j (List.mem_cons_of_mem _ hj)⟩
   have e1 : l.getD i d = l[i] := by simp [hi]
   have e2 : vs.getD i .non = x := by rw [List.getD_eq_getElem?_getD, hx]; rfl
   rw [e1, e2]; exact dx
theorem prs_at {K : PySem.W.Frag} {H : Hp} {ps : List (Int × Int)} {vs : List V} (h : Prs K H ps vs) {i : Nat} (hi : i < ps.length) : ∃ a, vs.getD i .non = .ref a ∧ SqT K H a [.int (ps.getD i (0, 0)).1, .int (ps.getD i (0, 0)).2] := by
 obtain ⟨x, hx, dx⟩ := Dens.get (j := i) (d := dtP ps[i]) h (by simp [hi])
 have e1 : ps.getD i (0, 0) = ps[i] := by simp [hi]
 have e2 : vs.getD i .non = x := by rw [List.getD_eq_getElem?_getD, hx]; rfl
 rw [e1, e2]
 simp only [dtP, Den, Dens] at dx
 obtain ⟨a, xs, rfl, hq, y, r, rfl, rfl, y2, r2, rfl, rfl, rfl⟩ := dx
 exact ⟨a, rfl, hq⟩
section
variable {X : Cx} {pins : List (Addr × Obj)} {σ : St} {H : Hp} {s : Shared}
theorem Inv.tupNe {a : Addr} {xs : List V} (I : Inv X pins σ H s) (h : SqT X.K H a xs) : a ≠ X.env.locals := by
 rintro rfl
 obtain ⟨its, _, ⟨o, e, c, n, d⟩, _⟩ := I.tuple h
 obtain ⟨m, ⟨o', es, ep, ho, hd, _⟩, _⟩ := I.loc
 rw [e] at ho; cases ho
 rw [d] at hd; cases hd
noncomputable def rSortP (K : PySem.W.Frag) : List V → Hp → VK → Prop := fun xs H Q => ∃ (l : Addr) (vs : List V) (ps : List (Int × Int)), xs = [.ref l] ∧ SqL K H l vs ∧ Prs K H ps vs ∧ ps.length < 64 ∧ ∀ (us : List V) (ms : List (Int × Int)) (D : Addr), ms.Perm ps → ms.Pairwise lexR → Prs K H ms us → H D = none → Q (.ref D) (upd H D (.lst us))
theorem call_sortedP : CallR X (.builtin "sorted") (rSortP X.K) := by
 intro pins s σ H xs us Q I r h
 obtain ⟨l, xs, ps, rfl, hl, hp, h64, q⟩ := h
 obtain ⟨u, rfl, rfl⟩ := vals1 r
 have hlen : xs.length = ps.length := by have := Dens.length hp; rw [List.length_map] at this; exact this
 refine sorted_ok I hl (by omega) (ltP ps) (ltP_ord ps) (fun vs s' rv h2 kp => ?_) fun p D pm up hD => ?_
 · have hv : vs.length = ps.length := by rw [← rv.length, hlen]
   have tup : ∀ {s2 : Shared}, (∀ b o, b ≠ X.env.locals → s.heap.get? b = some o → s2.heap.get? b = some o) → ∀ {i : Nat}, i < vs.length → ∃ a o n t1 t2, vs.getD i Value.none = .ref a ∧ s2.heap.get? a = some o ∧ o.cls = .type "tuple" ∧ o.data = .seq #[.int (ps.getD i (0, 0)).1 t1, .int (ps.getD i (0, 0)).2 t2] n := fun {s2} k {i} hi => by
    obtain ⟨a, e, hq⟩ := prs_at hp (show i < ps.length by omega)
    have rr := vals_getD rv hi
    rw [e] at rr
    obtain ⟨its, ri, ⟨o, ho, hc, n, hd⟩, _⟩ := I.tuple hq
    obtain ⟨u1, u2, rfl, ⟨t1, rfl⟩, ⟨t2, rfl⟩⟩ := vals2 ri
    exact ⟨a, o, n, t1, t2, rr, k a o (I.tupNe hq) ho, hc, by simpa using hd⟩
   refine ⟨tuples' true, fun R hR => ?_, fun i j C s2 hi hj k hc => ?_⟩
   · have build : ∀ (ws : List Value), (∀ v ∈ ws, ∃ a o n x t1 y t2, v = .ref a ∧ s'.heap.get? a = some o ∧ o.cls = .type "tuple" ∧ o.data = .seq #[.int x t1, .int y t2] n) → ∃ fs : List Value, fs.length = ws.length ∧ KatTups s'.heap ws fs ∧ ∀ v ∈ fs, ∃ x t, v = .int x t := by
      intro ws
      induction ws with
      | nil => intro _; exact ⟨[], rfl, KatTups.nil, fun v h => by simp at h⟩
      | cons w ws ih =>
        intro h
        obtain ⟨fs, e, t, a⟩ := ih fun v hv => h v (List.mem_cons_of_mem _ hv)
        obtain ⟨b, o, n, x, t1, y, t2, rfl, ho, hc, hd⟩ := h w List.mem_cons_self
        refine ⟨.int x t1 :: fs, by simp [e], KatTups.cons ho hc hd rfl t, fun v hv => ?_⟩
        rcases List.mem_cons.mp hv with rfl | hv
        · exact ⟨_, _, rfl⟩
        · exact a v hv
     obtain ⟨fs, e, kt, fa⟩ := build vs fun v hv => by
      obtain ⟨i, hi, rfl⟩ := List.mem_iff_getElem.mp hv
      obtain ⟨a, o, n, t1, t2, e, ho, hc, hd⟩ := tup kp hi
      have : vs.getD i Value.none = vs[i] := by simp [hi]
      rw [this] at e
      exact ⟨a, o, n, _, t1, _, t2, e, ho, hc, hd⟩
     refine kat_kind (T := .type "int") kt (by omega) (fun v hv => ?_) (by decide) hR
     obtain ⟨x, t, rfl⟩ := fa v hv
     exact Looks.of_pure rfl
   · unfold kas_ask
     obtain ⟨a, o, n, t1, t2, e, ho, _, hd⟩ := tup k hi
     obtain ⟨a', o', n', t1', t2', e', ho', _, hd'⟩ := tup k hj
     rw [e, e']
     refine kat_lt ho hd ho' hd' (kat_cons ?_)
     have hc' : C (lexB (ps.getD i (0, 0)) (ps.getD j (0, 0))) s2 := hc
     generalize ps.getD i (0, 0) = x at *
     generalize ps.getD j (0, 0) = y at *
     refine wpAny_eqBool_int ?_
     by_cases h1 : x.1 = y.1
     · rw [show (x.1 == y.1) = true by simp [h1]]
       refine kat_yes (kat_cons (wpAny_eqBool_int ?_))
       by_cases h2 : x.2 = y.2
       · rw [show (x.2 == y.2) = true by simp [h2]]
         refine kat_yes (kat_nil ?_)
         have : lexB x y = false := by simp only [lexB, decide_eq_false_iff_not]; omega
         rw [this] at hc'
         simpa using hc'
       · rw [show (x.2 == y.2) = false by simp [h2]]
         refine kat_no (kat_one _ _ ?_)
         have : lexB x y = decide (x.2 < y.2) := by simp only [lexB, decide_eq_decide]; omega
         rw [this] at hc'
         exact lt_int hc'
     · rw [show (x.1 == y.1) = false by simp [h1]]
       refine kat_no (oneLt_int ?_)
       have : lexB x y = decide (x.1 < y.1) := by simp only [lexB, decide_eq_decide]; omega
       rw [this] at hc'
       exact hc'
 · rw [hlen] at pm up
   have hb : ∀ i ∈ p, i < ps.length := fun i hi => List.mem_range.mp (pm.mem_iff.mp hi)
   exact q _ _ D (perm_getD pm) (up_pairwise lexR_trans pm up fun i j h => lexR_of h) (dens_pick hp hb) hD
end
end L2

namespace L2
open PySem PySem.Spec PyProof.Rows PySem.W
theorem closure_loop (env : Env) : ∀ (names : List (Str × NameKind)) (cs : List (Str × Addr)), (∀ y ∈ names, y.2 = .free → ∃ c, env.cells.lookup y.1 = some c) → (∀ p ∈ cs, env.cells.lookup p.1 = some p.2) →
 ∃ cl : List (Str × Addr), (forIn names cs fun x cs => (match x with | (name, kind) => if (kind == .free) = true then do let __do_lift ← cellOf env name; pure (ForInStep.yield ((name, __do_lift) :: cs)) else pure (ForInStep.yield cs) : Sem (ForInStep (List (Str × Addr))))) = pure cl ∧
   (∀ p ∈ cl, env.cells.lookup p.1 = some p.2) ∧ (∀ p ∈ cs, p ∈ cl) ∧ ∀ x, (x, NameKind.free) ∈ names → ∃ c, (x, c) ∈ cl
 | [], cs, _, hc => ⟨cs, by rw [List.forIn_nil], hc, fun _ h => h, fun x h => by simp at h⟩
 | (n, k) :: names, cs, h, hc => by
   have h' := fun y hy => h y (List.mem_cons_of_mem _ hy)
   rw [List.forIn_cons]
   by_cases hk : k = .free
   · subst hk
     obtain ⟨c, e⟩ := h (n, .free) List.mem_cons_self rfl
     obtain ⟨cl, e1, e2, e3, e4⟩ := closure_loop env names ((n, c) :: cs) h' fun p hp => by
      rcases List.mem_cons.mp hp with rfl | hp
      · exact e
      · exact hc p hp
     refine ⟨cl, ?_, e2, fun p hp => e3 p (List.mem_cons_of_mem _ hp), fun x hx => ?_⟩
     · have ec : cellOf env n = pure c := by unfold cellOf; rw [e]
       simp only [ec, beq_self_eq_true, if_true, pure_bind]
       exact e1
     · rcases List.mem_cons.mp hx with z | hx
       · cases z; exact ⟨c, e3 _ List.mem_cons_self⟩
       · exact e4 x hx
   · obtain ⟨cl, e1, e2, e3, e4⟩ := closure_loop env names cs h' hc
     refine ⟨cl, ?_, e2, e3, fun x hx => ?_⟩
     · have : (k == NameKind.free) = false := by simpa using hk
       simp only [this, Bool.false_eq_true, if_false, pure_bind]
       exact e1
     · rcases List.mem_cons.mp hx with z | hx
       · cases z; exact absurd rfl hk
       · exact e4 x hx
theorem lookup_some_of_mem {x : Str} {c : Addr} : ∀ {l : List (Str × Addr)}, (x, c) ∈ l → ∃ c', l.lookup x = some c'
 | [], h => by simp at h
 | (n, d) :: l, h => by
   rw [List.lookup_cons]
   cases e : x == n with
   | true => exact ⟨d, rfl⟩
   | false =>
     rcases List.mem_cons.mp h with z | h
     · cases z; simp at e
     · exact lookup_some_of_mem h
theorem closure_ok {scope : Scope} {env : Env} (h : ∀ y ∈ scope.names, y.2 = .free → ∃ c, env.cells.lookup y.1 = some c) :
 ∃ cl, closureFor scope env = pure cl ∧ (∀ x c, cl.lookup x = some c → env.cells.lookup x = some c) ∧ ∀ x, (x, NameKind.free) ∈ scope.names → ∃ c, cl.lookup x = some c := by
 obtain ⟨cl, e1, e2, _, e4⟩ := closure_loop env scope.names [] h (fun p hp => by simp at hp)
 refine ⟨cl, ?_, fun x c hx => e2 (x, c) (PySem.mem_of_lookup hx), fun x hx => ?_⟩
 · unfold closureFor
   refine Eq.trans (congrArg (fun t => t >>= fun cs => pure cs) ?_) (bind_pure _)
   exact e1
 · obtain ⟨c, hc⟩ := e4 x hx
   exact lookup_some_of_mem hc
section
variable {X : Cx}
theorem pe_compC {tg iter elt : Expr} {ifs : List Expr} {scope : Scope} {pos : Pos} (N' : List Str) (ks : List (Option Nat)) {wi : TI} {g : TG} {tt : TT} {te : TE}
 (hcalm : X.calm = true) (hi : PI X tg iter wi) (hfree : ∀ y ∈ scope.names, y.2 = .free → X.env.scope.names.lookup y.1 = some .cell)
 (hcell : ∀ y ∈ scope.names, y.2 ≠ .cell) (hkind : scope.kind = .function) (hnames : ∀ y ∈ scope.names, y.2 = .local → scope.names.lookup y.1 = some .local)
 (hcap : Cap X (relabel scope X.env) N' ks)
 (hg : ∀ cl C s H fp, PG (compX X N' scope cl C s H fp) tg g) (ht : ∀ cl C s H fp, PTs (compX X N' scope cl C s H fp) ifs tt) (he : ∀ cl C s H fp, PE (compX X N' scope cl C s H fp) elt te)
 (hs : ∀ x, foldedSetIterable iter X.env x = pure x := by intro _; rfl) : PE X (.ListComp elt [⟨tg, iter, ifs, 0⟩] scope pos) (tComp wi ks g tt te) := by
 intro pins s σ H Q I h
 obtain ⟨cl, e1, e2, e3⟩ := closure_ok (scope := scope) (env := X.env) fun y hy hf => I.ok.has y.1 (.inl (hfree y hy hf))
 refine pe_comp hcalm hi e1 e2 hcell hkind hnames (fun x hx => ?_) hcap (hg cl) (ht cl) (he cl) hs pins s σ H Q I h
 have key : ∀ k, (x, k) ∈ (relabel scope X.env).names → k = .cell ∨ k = .free → (x, NameKind.free) ∈ scope.names := fun k hm hk => by
  unfold relabel at hm
  obtain ⟨⟨n, k'⟩, hy, e⟩ := List.mem_map.mp hm
  dsimp only at e
  split at e
  · rename_i hc
    cases e
    have : k' = .free := by simp at hc; exact hc.1.1
    rw [← this]; exact hy
  · cases e
    rcases hk with rfl | rfl
    · exact absurd rfl (hcell _ hy)
    · exact hy
 rcases hx with hx | hx
 · exact e3 x (key _ (PySem.mem_of_lookup hx) (.inl rfl))
 · exact e3 x (key _ (PySem.mem_of_lookup hx) (.inr rfl))
theorem comp_rng {lo : Int} {n : Nat} {D : Addr} {g : TG} {tt : TT} {te : TE} {σ0 : St} {H0 : Hp} {Q : VK} (Pv : Nat → List V → St → Hp → Prop) (h0 : Pv 0 [] σ0 H0) (hl : ∀ i ys σ H, Pv i ys σ H → H D = some (.lst ys))
 (hs : ∀ i ys σ H, i < n → Pv i ys σ H → g (.int (lo + i)) σ H fun σ3 H3 => tt σ3 H3 fun b H4 => if b = true then
  te σ3 H4 fun y H5 => H5 D = some (.lst ys) ∧ ys.length < sizeLine ∧ ∃ m', m' < n - i ∧ Wt Pv n (i + 1) m' (ys ++ [y]) σ3 (upd H5 D (.lst (ys ++ [y]))) else ∃ m', m' < n - i ∧ Wt Pv n (i + 1) m' ys σ3 H4)
 (hd : ∀ ys σ H, Pv n ys σ H → Q (.ref D) H) :
 CompW (Itr lo n) D g tt te Q σ0 H0 := by
 refine ⟨Wt Pv n, ⟨n, rfl, Nat.zero_le _, h0⟩, ?_⟩
 rintro i m ys σ' H' ⟨rfl, hi, p⟩
 refine ⟨hl i ys σ' H' p, ?_⟩
 by_cases hlt : i < n
 · refine .inr ⟨hlt, fun x H2 y => ?_⟩
   obtain ⟨e, y⟩ := y
   subst e y
   exact hs i ys σ' _ hlt p
 · have e : i = n := by omega
   subst e
   exact .inl ⟨Nat.le_refl _, hd ys σ' H' p⟩
theorem pg_tupK {K : PySem.W.Frag} {es : List Expr} {k : Nat} {t : TGs} {pos : Pos} (n : Nat) (e : X.K = K) (hc : X.calm = true) (h : PGs X es t)
 (hn : (assignEach es X.env).length = n := by rfl) (hst : (assignEach es X.env).findIdx? (·.1) = none := by rfl) : PG X (.Tuple es k pos) (gTup K n t) := e ▸ pg_tup hc h hn hst
noncomputable def rSum (K : PySem.W.Frag) : List V → Hp → VK → Prop := fun xs H Q => ∃ (l : Addr) (ns : List Int), xs = [.ref l] ∧ SqL K H l (ns.map V.int) ∧ Q (.int ns.sum) H
theorem call_sum (hc : X.calm = true) : CallR X (.builtin "sum") (rSum X.K) := by
 intro pins s σ H xs us Q I r h
 obtain ⟨l, ns, rfl, hl, q⟩ := h
 obtain ⟨u, rfl, rfl⟩ := vals1 r
 obtain ⟨its, rv, pl, _⟩ := I.list hl
 have hi := intsAre_of rv
 obtain ⟨xs, hx⟩ := hi.allInts.items
 have hl' : s.heap.IsList l (intItems xs) := hx ▸ pl.isList
 refine sum_intListG (I.ok.hd hc) hl' fun h' tk t' hk => ?_
 have e1 : ns = xs.toList.map (·.1) := by
  rw [← nums_intItems, ← hx]
  exact (show numsOf its.toArray.toList = ns from hi.numsOf).symm
 have e2 : preSum (numAt xs) xs.size = ns.sum := by
  rw [preSum_eq, List.take_of_length_le (by simp), e1]
 rw [e2]
 exact ⟨.int ns.sum, H, I.kept (t' := tk) hk, ⟨_, rfl⟩, q⟩
end

theorem newS {H : Hp} {Q : VK} {o : HO} (h : ∀ (p : Addr) (H' : Hp), Same H H' → H p = none → H' p = some o → Q (.ref p) H') : ∀ p, H p = none → Q (.ref p) (upd H p o) := fun p hp => h p _ (Same.new hp) hp upd_same
noncomputable def KL (H H' : Hp) : Prop := ∀ b o, H b = some o → (∀ xs, o ≠ .lst xs) → H' b = some o
theorem KL.trans {H H1 H2 : Hp} (a : KL H H1) (b : KL H1 H2) : KL H H2 := fun c o h n => b c o (a c o h n) n
theorem Same.kl {H H' : Hp} (s : Same H H') : KL H H' := fun b o h _ => s b o h
theorem KL.set {H : Hp} {l : Addr} {xs ys : List V} (h : H l = some (.lst xs)) : KL H (upd H l (.lst ys)) := fun b o e n => by
 have : b ≠ l := by rintro rfl; rw [h] at e; cases e; exact n xs rfl
 rw [upd_ne this]; exact e
theorem Kp.kl {H H' : Hp} {l : Addr} {xs : List V} (k : Kp l H H') (h : H l = some (.lst xs)) : KL H H' := fun b o e n => k b o e (by rintro rfl; rw [h] at e; cases e; exact n xs rfl)
theorem KL.tup {H H' : Hp} {b : Addr} {xs : List V} (k : KL H H') (h : H b = some (.tup xs)) : H' b = some (.tup xs) := k b _ h fun _ z => by cases z
theorem KL.seqT {K : PySem.W.Frag} {H H' : Hp} {a : Addr} {xs : List V} (e : KL H H') (h : SqT K H a xs) : SqT K H' a xs := by
 rcases h with (h | ⟨o, h⟩) | h
 · exact .inl (.inl (e _ _ h fun _ z => by cases z))
 · exact .inl (.inr ⟨o, e _ _ h fun _ z => by cases z⟩)
 · exact .inr h
theorem prs_nil {K : PySem.W.Frag} {H : Hp} : Prs K H [] [] := by simp only [Prs, List.map_nil, Dens]
theorem prs_cons {K : PySem.W.Frag} {H : Hp} {a : Addr} {p : Int × Int} {ps : List (Int × Int)} {vs : List V} (h : SqT K H a [.int p.1, .int p.2]) (r : Prs K H ps vs) : Prs K H (p :: ps) (.ref a :: vs) := by
 simp only [Prs, List.map_cons, Dens, dtP, Den]
 exact ⟨_, _, rfl, ⟨a, _, rfl, h, _, _, rfl, rfl, _, _, rfl, rfl, rfl⟩, r⟩
theorem prs_uncons {K : PySem.W.Frag} {H : Hp} {p : Int × Int} {ps : List (Int × Int)} {vs : List V} (h : Prs K H (p :: ps) vs) : ∃ a r, vs = .ref a :: r ∧ SqT K H a [.int p.1, .int p.2] ∧ Prs K H ps r := by
 simp only [Prs, List.map_cons, Dens, dtP, Den] at h
 obtain ⟨x, r, rfl, ⟨a, xs, rfl, hq, y, r1, rfl, rfl, y2, r2, rfl, rfl, rfl⟩, hr⟩ := h
 exact ⟨a, r, rfl, hq, hr⟩
theorem Prs.kl {K : PySem.W.Frag} {H H' : Hp} (k : KL H H') : ∀ {ps : List (Int × Int)} {vs : List V}, Prs K H ps vs → Prs K H' ps vs
 | [], vs, h => by
   simp only [Prs, List.map_nil, Dens] at h
   subst h
   exact prs_nil
 | p :: ps, vs, h => by
   obtain ⟨a, r, rfl, hq, hr⟩ := prs_uncons h
   exact prs_cons (k.seqT hq) (Prs.kl k hr)
theorem Prs.snoc {K : PySem.W.Frag} {H : Hp} {a : Addr} {p : Int × Int} (hp : SqT K H a [.int p.1, .int p.2]) : ∀ {ps : List (Int × Int)} {vs : List V}, Prs K H ps vs → Prs K H (ps ++ [p]) (vs ++ [.ref a])
 | [], vs, h => by
   simp only [Prs, List.map_nil, Dens] at h
   subst h
   exact prs_cons hp prs_nil
 | q :: ps, vs, h => by
   obtain ⟨b, r, rfl, hq, hr⟩ := prs_uncons h
   exact prs_cons hq (Prs.snoc hp hr)
theorem Prs.append {K : PySem.W.Frag} {H : Hp} {qs : List (Int × Int)} {us : List V} (hq : Prs K H qs us) : ∀ {ps : List (Int × Int)} {vs : List V}, Prs K H ps vs → Prs K H (ps ++ qs) (vs ++ us)
 | [], vs, h => by
   simp only [Prs, List.map_nil, Dens] at h
   subst h
   exact hq
 | q :: ps, vs, h => by
   obtain ⟨b, r, rfl, h1, hr⟩ := prs_uncons h
   exact prs_cons h1 (Prs.append hq hr)
theorem Prs.len {K : PySem.W.Frag} {H : Hp} {ps : List (Int × Int)} {vs : List V} (h : Prs K H ps vs) : vs.length = ps.length := by
 have := Dens.length h
 rw [List.length_map] at this
 exact this
theorem Prs.get {K : PySem.W.Frag} {H : Hp} {ps : List (Int × Int)} {vs : List V} (h : Prs K H ps vs) {i : Nat} {v : V} (hv : vs[i]? = some v) : ∃ a p, ps[i]? = some p ∧ v = .ref a ∧ SqT K H a [.int p.1, .int p.2] := by
 have hi : i < ps.length := by rw [← h.len]; exact (List.getElem?_eq_some_iff.mp hv).1
 obtain ⟨a, e, q⟩ := prs_at h hi
 have e1 : vs.getD i .non = v := by rw [List.getD_eq_getElem?_getD, hv]; rfl
 have e2 : ps.getD i (0, 0) = ps[i] := by simp [hi]
 rw [e1] at e
 rw [e2] at q
 exact ⟨a, ps[i], by simp [hi], e, q⟩
theorem eqDs_prs : ∀ ps qs : List (Int × Int), eqDs (ps.map dtP) (qs.map dtP) = decide (ps = qs)
 | [], [] => rfl
 | [], _ :: _ => rfl
 | _ :: _, [] => rfl
 | p :: ps, q :: qs => by
   have e : eqD (dtP p) (dtP q) = decide (p = q) := by
    simp only [dtP, eqD]
    exact eqDs2 p.1 p.2 q.1 q.2
   simp only [List.map_cons, eqDs, e, eqDs_prs ps qs]
   by_cases h : p = q <;> simp [h]
noncomputable def rCatS : R2 := fun x y H Q => ∃ l b xs zs, x = .ref l ∧ y = .ref b ∧ H l = some (.lst xs) ∧ H b = some (.lst zs) ∧ xs.length + zs.length ≤ sizeLine ∧ ∀ (p : Addr) (H' : Hp), Same H H' → H p = none → H' p = some (.lst (xs ++ zs)) → Q (.ref p) H'
noncomputable def rSortPS (K : PySem.W.Frag) : List V → Hp → VK → Prop := fun xs H Q => ∃ (l : Addr) (vs : List V) (ps : List (Int × Int)), xs = [.ref l] ∧ SqL K H l vs ∧ Prs K H ps vs ∧ ps.length < 64 ∧ ∀ (us : List V) (ms : List (Int × Int)) (D : Addr) (H' : Hp), ms.Perm ps → ms.Pairwise lexR → Prs K H' ms us → Same H H' → H D = none → H' D = some (.lst us) → Q (.ref D) H'
noncomputable def rTupOf (K : PySem.W.Frag) : List V → Hp → VK → Prop := fun xs H Q => ∃ (p : Addr) (ys : List V), xs = [.ref p] ∧ SqL K H p ys ∧ ∀ (t : Addr) (H' : Hp), Same H H' → H t = none → H' t = some (.tup ys) → Q (.ref t) H'
section
variable {X : Cx}
theorem op_catS : OpR X (binaryOp .Add) rCatS := fun pins s σ H x y v u Q I rx ry ⟨l, b, xs, zs, e1, e2, h1, h2, h3, q⟩ => op_cat pins s σ H x y v u Q I rx ry ⟨l, b, xs, zs, e1, e2, h1, h2, h3, newS q⟩
theorem call_sortedPS : CallR X (.builtin "sorted") (rSortPS X.K) := fun pins s σ H xs us Q I r ⟨l, vs, ps, e, h1, h2, h3, q⟩ => call_sortedP pins s σ H xs us Q I r ⟨l, vs, ps, e, h1, h2, h3, fun us ms D a b c hD => q us ms D _ a b (c.kl (Same.new hD).kl) (Same.new hD) hD upd_same⟩
theorem call_tupOf : CallR X (.type "tuple") (rTupOf X.K) := fun pins s σ H xs us Q I r ⟨p, ys, e, h1, q⟩ => call_tuple_of pins s σ H xs us Q I r ⟨p, ys, e, .inl ⟨h1, newS q⟩⟩
end
end L2

namespace Pw
noncomputable def outs (ps : List (Int × Int)) (page : Int) : List Int := (ps.filter fun p => decide (p.1 = page)).map (·.2)
theorem outs_snoc (ps : List (Int × Int)) (p : Int × Int) (page : Int) : outs (ps ++ [p]) page = outs ps page ++ (if p.1 = page then [p.2] else []) := by
 unfold outs
 rw [List.filter_append, List.map_append]
 by_cases h : p.1 = page <;> simp [h]
theorem outs_len (ps : List (Int × Int)) (page : Int) : (outs ps page).length ≤ ps.length := by
 unfold outs
 rw [List.length_map]
 exact List.length_filter_le ..
end Pw
namespace L2
open PySem PySem.Spec PyProof.Rows PySem.W
noncomputable def WebAt (K : PySem.W.Frag) (H : Hp) (w : Addr) (pages : Int) (ps : List (Int × Int)) : Prop := ∃ (ws : Addr) (us : List V), H w = some (.tup [.int pages, .ref ws]) ∧ H ws = some (.tup us) ∧ Prs K H ps us
theorem WebAt.kl {K : PySem.W.Frag} {H H' : Hp} {w : Addr} {pages : Int} {ps : List (Int × Int)} (h : WebAt K H w pages ps) (k : KL H H') : WebAt K H' w pages ps := by
 obtain ⟨ws, us, a, b, c⟩ := h
 exact ⟨ws, us, k.tup a, k.tup b, c.kl k⟩
theorem WebAt.same {K : PySem.W.Frag} {H H' : Hp} {w : Addr} {pages : Int} {ps : List (Int × Int)} (h : WebAt K H w pages ps) (k : Same H H') : WebAt K H' w pages ps := h.kl k.kl
noncomputable def spLinks (K : PySem.W.Frag) (f : List (Int × Int) → Int → List Int) : Sp := fun vs H Q _ => ∃ (w : Addr) (pages page : Int) (ps : List (Int × Int)), vs = [.ref w, .int page] ∧ WebAt K H w pages ps ∧ ps.length ≤ 100 ∧
 ∀ (p : Addr) (H' : Hp), Same H H' → H p = none → H' p = some (.lst ((f ps page).map V.int)) → Q (.ref p) H'
end L2

namespace L2
open PySem PySem.Spec PyProof.Rows PySem.W
open Builtin in
theorem int_rmul_tup (a : Int) (t : Tok) (l : Addr) (items : Array Value) (n : Nat) (dd : Option Addr) (sl : Array (Option Value)) :
 Meets (Builtin.«int.__rmul__» ⟨[.int a t, .ref l], []⟩) (fun _ R s => s.heap.get? l = some { cls := .type "tuple", dict := dd, data := .seq items n, slots := sl } ∧ R (.ok (.ret Value.notImplemented)) s) :=
 .of_wp fun prog w A R s h => by obtain ⟨hp, g, d, tk, os⟩ := s; obtain ⟨hl, h⟩ := h; wp_walk; exact ⟨_, rfl, h⟩
theorem noFill_tup_mul : fillsNumberSlot (.type "tuple") "mul" = pure false :=
 PySem.fillsNumberSlot_seq (id := "tuple.__mul__") (r := some (.builtin "tuple.__rmul__")) F.slot_tuple_mul.lookup (by decide +kernel) F.slot_tuple_rmul.lookup (by decide +kernel)
theorem repeat_tup : seqRepeat? (.type "tuple") = pure (some (.builtin "tuple.__mul__")) := by
 unfold seqRepeat?
 rw [PySem.seqSlot_of (T := "tuple") (name := "__mul__") (id := "tuple.__mul__") F.slot_tuple_mul.lookup (by decide +kernel), PySem.seqSlot_of (T := "tuple") (name := "__rmul__") (id := "tuple.__rmul__") F.slot_tuple_rmul.lookup (by decide +kernel)]
 rfl
open Builtin in
theorem tup_mul_one (l : Addr) (items : Array Value) (n : Nat) (dd : Option Addr) (sl : Array (Option Value)) (u : Tok) :
 Meets (Builtin.«tuple.__mul__» ⟨[.ref l, .int 1 u], []⟩) (fun _ R s => s.heap.get? l = some { cls := .type "tuple", dict := dd, data := .seq items n, slots := sl } ∧ R (.ok (.ret (.ref l))) s) :=
 .of_wp fun prog w A R s h => by obtain ⟨hp, g, d, tk, os⟩ := s; obtain ⟨hl, h⟩ := h; have f1 := AutoSeq1.idx_int; have f2 := AutoSeq1.sub_tuple_tuple; wp_walk using wpAny_loadPart' hl; exact ⟨_, rfl, h⟩
open Builtin in
theorem tup_mul_more (l : Addr) (items : Array Value) (n : Nat) (dd : Option Addr) (sl : Array (Option Value)) (x : Int) (u : Tok) (h1 : (decide (x < -(2 ^ 63)) || decide (x ≥ 2 ^ 63)) = false) (h2 : (items.isEmpty || x == 1) = false) (h3 : (decide (x ≤ 0) || items.isEmpty) = false)
 (h4 : ¬ (items.size * x > (2 ^ 63 - 1) / 8)) (h5 : Builtin.Tuple.tupleTooMany (items.size * x) = false) (hz : sizeOk (.seq ((List.replicate x.toNat items).foldl (· ++ ·) #[]))) :
 Meets (Builtin.«tuple.__mul__» ⟨[.ref l, .int x u], []⟩) (fun _ R s => s.heap.get? l = some { cls := .type "tuple", dict := dd, data := .seq items n, slots := sl } ∧ R (.ok (.ret (.ref s.heap.objs.size))) { s with heap := s.heap.push { cls := .type "tuple", data := .seq ((List.replicate x.toNat items).foldl (· ++ ·) #[]) } }) :=
 .of_wp fun prog w A R s h => by obtain ⟨hp, g, d, tk, os⟩ := s; obtain ⟨hl, h⟩ := h; have f1 := AutoSeq1.idx_int; have f2 := AutoSeq1.sub_tuple_tuple; wp_walk using wpAny_loadPart' hl; refine wpAny_ite_false (by simpa using h1) ?_; wp_walk using wpAny_loadPart' hl; refine wpAny_ite_false (decide_eq_false h4) ?_; wp_walk using wpAny_loadPart' hl; refine wpAny_ite_false (decide_eq_false (Nat.not_lt.mpr hz)) ?_; wp_walk using wpAny_loadPart' hl; exact ⟨_, rfl, h⟩
section
variable {X : Cx}
noncomputable def rRepT : R2 := fun x y H Q => ∃ l k xs, x = .ref l ∧ y = .int k ∧ H l = some (.tup xs) ∧ xs ≠ [] ∧ 1 ≤ k ∧ k < 2 ^ 60 ∧ xs.length * k.toNat ≤ sizeLine ∧
 ∀ (p : Addr) (H' : Hp), Same H H' → H' p = some (.tup (List.replicate k.toNat xs).flatten) → Q (.ref p) H'
theorem foldl_repA (its : List Value) (m : Nat) : List.foldl (fun x1 x2 => x1 ++ x2) #[] (List.replicate m its.toArray) = (List.replicate m its).flatten.toArray := by
 have : ∀ (m : Nat) (a : List Value), List.foldl (fun x1 x2 => x1 ++ x2) a.toArray (List.replicate m its.toArray) = (a ++ (List.replicate m its).flatten).toArray := fun m => by
  induction m with
  | zero => intro a; simp
  | succ m ih => intro a; rw [List.replicate_succ, List.foldl_cons, List.replicate_succ, List.flatten_cons, show a.toArray ++ its.toArray = (a ++ its).toArray by simp, ih (a ++ its), List.append_assoc]
 have := this m []
 rw [List.nil_append] at this
 exact this
theorem op_repT : OpR X (binaryOp .Mult) rRepT := by
 intro pins s σ H x y v u Q I rx ry h
 obtain ⟨l, k, xs, rfl, rfl, hH, hne, h1, h2, hz, q⟩ := h
 cases rx
 obtain ⟨t, rfl⟩ := ry
 obtain ⟨z, its, r, p⟩ : xs.length ≤ sizeLine ∧ ∃ its : List Value, Vals xs its ∧ IsTupN s.heap l its.toArray := I.hok l _ hH
 have p := p.tup
 obtain ⟨⟨cls, dd, data, sl⟩, ho, hc, n, hd⟩ := id p
 simp only at hc hd
 subst hc hd
 have hlen : its.toArray.size = xs.length := by rw [List.size_toArray]; exact r.length.symm
 have hpos : 0 < xs.length := List.length_pos_iff.mpr hne
 by_cases hk : k = 1
 · subst hk
   refine wpAny_binaryOp_repeat_ref (T := "tuple") (U := "int") (by decide) ⟨_, ho, rfl⟩ (fun s' => typeIs_int s' 1 t) noFill_tup_mul F.fills_int_mul F.slot_int_rmul repeat_tup F.slot_int_index.lookup
    (call_meets F.slot_int_rmul (typeIs_int s 1 t) F.entry_int_rmul (F.args_int_rmul_2 _ _) (int_rmul_tup 1 t l its.toArray n dd sl)
     ⟨ho, rfl, ⟨_, ho, rfl⟩, call_meets F.slot_tuple_mul ⟨_, ho, rfl⟩ F.entry_tuple_mul (F.args_tuple_mul_2 _ _) (tup_mul_one l its.toArray n dd sl t) ⟨ho, ?_⟩⟩)
   refine ⟨.ref l, H, I, rfl, q l H (Same.refl _) ?_⟩
   have : (List.replicate (1 : Int).toNat xs).flatten = xs := by
    show (List.replicate 1 xs).flatten = xs
    simp
   rw [this]
   exact hH
 · have hz2 : (List.replicate k.toNat its).flatten.length ≤ sizeLine := by
    rw [len_rep, ← r.length, Nat.mul_comm]; exact hz
   have e1 : ((its.toArray.size : Nat) : Int) * k = ((xs.length * k.toNat : Nat) : Int) := by
    rw [hlen, Int.natCast_mul, Int.toNat_of_nonneg (by omega)]
   have hsl : ((sizeLine : Nat) : Int) ≤ (2 ^ 63 - 1) / 8 := by decide
   have hzi : ((xs.length * k.toNat : Nat) : Int) ≤ ((sizeLine : Nat) : Int) := Int.ofNat_le.mpr hz
   have hem : its.toArray.isEmpty = false := by
    rw [Bool.eq_false_iff]
    intro h
    have := Array.isEmpty_iff.mp h
    have h2 : its.toArray.size = 0 := by rw [this]; rfl
    omega
   refine wpAny_binaryOp_repeat_ref (T := "tuple") (U := "int") (by decide) ⟨_, ho, rfl⟩ (fun s' => typeIs_int s' k t) noFill_tup_mul F.fills_int_mul F.slot_int_rmul repeat_tup F.slot_int_index.lookup
    (call_meets F.slot_int_rmul (typeIs_int s k t) F.entry_int_rmul (F.args_int_rmul_2 _ _) (int_rmul_tup k t l its.toArray n dd sl)
     ⟨ho, rfl, ⟨_, ho, rfl⟩, call_meets F.slot_tuple_mul ⟨_, ho, rfl⟩ F.entry_tuple_mul (F.args_tuple_mul_2 _ _)
      (tup_mul_more l its.toArray n dd sl k t (by rw [decide_eq_false (by omega), decide_eq_false (by omega)]; rfl) (by rw [hem]; simpa using hk) (by rw [hem, decide_eq_false (by omega)]; rfl)
       (by rw [e1]; omega) (by unfold Builtin.Tuple.tupleTooMany; rw [e1]; exact decide_eq_false (by omega)) (by rw [foldl_repA]; show (List.replicate k.toNat its).flatten.toArray.size ≤ sizeLine; rw [List.size_toArray]; exact hz2)) ⟨ho, ?_⟩⟩)
   rw [foldl_repA]
   refine ⟨.ref s.heap.objs.size, _, I.laid (t' := s.toks) (o := .tup (List.replicate k.toNat xs).flatten) (fun b ob q => Heap.get?_push_of_some _ q) (Nat.le_refl _) ?_, rfl, q _ _ (Same.new I.fresh) upd_same⟩
   exact ⟨by rw [len_rep, Nat.mul_comm]; exact hz, _, r.rep k.toNat, IsTupN.new _ _⟩
end
end L2

namespace Pw
theorem mk_nonneg {a b : Int} (hb : 0 < b) (ha : 0 ≤ a) : 0 ≤ (mk a b).1 := by
 obtain ⟨⟨c1, _⟩, w⟩ := mk_spec (a := a) (b := b) (by omega)
 have h : 0 ≤ (mk a b).1 * b := by rw [w]; exact Int.mul_nonneg ha (by omega)
 exact Int.nonneg_of_mul_nonneg_left h hb
theorem sum_nn : ∀ {l : List Int}, (∀ n ∈ l, 0 ≤ n) → 0 ≤ l.sum
 | [], _ => by simp
 | a :: l, h => by
   have := sum_nn fun n hn => h n (List.mem_cons_of_mem _ hn)
   have := h a List.mem_cons_self
   rw [List.sum_cons]; omega
theorem mk_1 {n : Int} (hn : 0 < n) : mk 1 n = (1, n) := mk_canon (p := (1, n)) ⟨hn, by simp [Canon]⟩
end Pw
namespace L2
open PySem PySem.Spec PyProof.Rows
noncomputable def FrL (K : PySem.W.Frag) (H : Hp) : List (Int × Int) → List V → Prop
 | [], vs => vs = []
 | A :: As, vs => ∃ p r, vs = .ref p :: r ∧ FrA K H p A ∧ FrL K H As r
noncomputable def tupD (A : Int × Int) : Dt := .tup [.int A.1, .int A.2]
theorem FrL.same {K : PySem.W.Frag} {H H' : Hp} (s : Same H H') : ∀ {As : List (Int × Int)} {vs : List V}, FrL K H As vs → FrL K H' As vs
 | [], _, h => h
 | _ :: _, _, ⟨p, r, e, f, h⟩ => ⟨p, r, e, s _ _ f, FrL.same s h⟩
theorem FrL.snoc {K : PySem.W.Frag} {H : Hp} {p : Addr} {A : Int × Int} (f : FrA K H p A) : ∀ {As : List (Int × Int)} {vs : List V}, FrL K H As vs → FrL K H (As ++ [A]) (vs ++ [.ref p])
 | [], _, h => by
   have h : _ = ([] : List V) := h
   subst h
   exact ⟨p, [], rfl, f, rfl⟩
 | _ :: _, _, ⟨q, r, e, g, h⟩ => ⟨q, r ++ [.ref p], by rw [e]; rfl, g, FrL.snoc f h⟩
theorem FrL.dens {K : PySem.W.Frag} {H : Hp} : ∀ {As : List (Int × Int)} {vs : List V}, FrL K H As vs → Dens K H (As.map tupD) vs
 | [], _, h => by simp only [List.map_nil, Dens]; exact h
 | A :: As, _, ⟨p, r, e, f, h⟩ => by
   simp only [List.map_cons, Dens]
   refine ⟨.ref p, r, e, ?_, FrL.dens h⟩
   unfold tupD
   simp only [Den]
   exact ⟨p, _, rfl, SqT.of f, dens2 K H A.1 A.2⟩
theorem FrL.dep : ∀ As : List (Int × Int), depDs (As.map tupD) ≤ 20
 | [] => by simp only [List.map_nil, depDs]; decide
 | A :: As => by
   have := FrL.dep As
   simp only [List.map_cons, depDs, tupD, depD]
   omega
theorem FrL.len {K : PySem.W.Frag} {H : Hp} : ∀ {As : List (Int × Int)} {vs : List V}, FrL K H As vs → vs.length = As.length
 | [], _, h => by
   have h : _ = ([] : List V) := h
   subst h; rfl
 | _ :: _, _, ⟨p, r, e, f, h⟩ => by rw [e]; simp [FrL.len h]
theorem FrL.kp {K : PySem.W.Frag} {H H' : Hp} (k : KL H H') : ∀ {As : List (Int × Int)} {vs : List V}, FrL K H As vs → FrL K H' As vs
 | [], _, h => h
 | _ :: _, _, ⟨p, r, e, f, h⟩ => ⟨p, r, e, k.tup f, FrL.kp k h⟩
theorem FrL.at {K : PySem.W.Frag} {H : Hp} {As : List (Int × Int)} {vs : List V} (h : FrL K H As vs) {j : Nat} {A : Int × Int} (e : As[j]? = some A) : ∃ p, vs[j]? = some (.ref p) ∧ FrA K H p A := by
 induction As generalizing vs j with
 | nil => simp at e
 | cons B As ih =>
   obtain ⟨p, r, rfl, f, h⟩ := h
   cases j with
   | zero => simp at e; subst e; exact ⟨p, by simp, f⟩
   | succ j =>
     obtain ⟨q, a, b⟩ := ih h (j := j) (by simpa using e)
     exact ⟨q, by simpa using a, b⟩
theorem FrL.rep {K : PySem.W.Frag} {H : Hp} {p : Addr} {A : Int × Int} (f : FrA K H p A) : ∀ n : Nat, FrL K H (List.replicate n A) (List.replicate n [V.ref p]).flatten
 | 0 => rfl
 | n + 1 => by
   rw [List.replicate_succ, List.replicate_succ, List.flatten_cons]
   exact ⟨p, _, rfl, f, FrL.rep f n⟩
section
variable {X : Cx}
theorem call_sumK {K : PySem.W.Frag} (e : X.K = K) (hc : X.calm = true) : CallR X (.builtin "sum") (rSum K) := e ▸ call_sum hc
theorem pa_consX {e : Expr} {es : List Expr} {te : TE} {t : TA} (hs : starEach (e :: es) X.env = (false, eval e X.env) :: starEach es X.env) (h1 : PE X e te) (h2 : PA X es t) : PA X (e :: es) (tCons te t) := pa_cons h1 h2 hs
theorem ps_setX {pos : Pos} {i : Nat} {x : Str} {e : Expr} {te : TE} {pos' : Pos} (hs : swapsWith e (some (.Name x pos')) pos.line X.env = pure false) (hf : X.fn x = true ∨ X.env.scope.names.lookup x = some .local) (hN : X.N.Nodup) (hi : X.N[i]? = some x) (hx : Loc X.env.scope x) (he : PE X e te) :
 PS X (.Assign [.Name x pos'] e pos) (tAsg te (gName i)) := ps_set hN hi hx he hs hf
end
end L2

namespace L2
open PySem PySem.Spec PyProof.Rows PySem.W
noncomputable def rNil (K : PySem.W.Frag) (neg : Bool) : R2 := fun x y H Q => ∃ a b xs, x = .ref a ∧ y = .ref b ∧ ((SqT K H a xs ∧ SqT K H b []) ∨ (SqL K H a xs ∧ SqL K H b [])) ∧ Q (.bl (if neg then !xs.isEmpty else xs.isEmpty)) H
section
variable {X : Cx} {pins : List (Addr × Obj)} {σ : St} {H : Hp} {s : Shared}
theorem rc_nilT {A : Around} {a b : Addr} {xs : List V} (I : Inv X pins σ H s) (hu : A.units < cLine) (ha : SqT X.K H a xs) (hb : SqT X.K H b []) :
 SeqAt.RcAt A s (.ref a) (.ref b) xs.isEmpty ∧ SeqAt.RcNeAt A s (.ref a) (.ref b) (!xs.isEmpty) := by
 obtain ⟨its, r1, p1, _⟩ := I.tuple ha
 obtain ⟨its2, r2, p2, _⟩ := I.tuple hb
 cases r2
 have l3 := r1.length
 have q := SeqAt.RcAt.tuples (A := A) (s := s) (e := fun _ => true) p1 p2 hu (fun j h1 h2 => absurd h2 (Nat.not_lt_zero j))
 have q2 := SeqAt.RcNeAt.tuples (A := A) (s := s) (e := fun _ => true) p1 p2 hu (fun j h1 h2 => absurd h2 (Nat.not_lt_zero j))
 have e : ((List.range (min its.toArray.size ([] : List Value).toArray.size)).all (fun _ => true) && its.toArray.size == ([] : List Value).toArray.size) = xs.isEmpty := by
  cases xs <;> cases its <;> simp at l3 ⊢
 rw [e] at q q2
 exact ⟨q, q2⟩
theorem rc_nilL {A : Around} {a b : Addr} {xs : List V} (I : Inv X pins σ H s) (hu : A.units < cLine) (ha : SqL X.K H a xs) (hb : SqL X.K H b []) :
 SeqAt.RcAt A s (.ref a) (.ref b) xs.isEmpty ∧ SeqAt.RcNeAt A s (.ref a) (.ref b) (!xs.isEmpty) := by
 obtain ⟨its, r1, p1, _⟩ := I.list ha
 obtain ⟨its2, r2, p2, _⟩ := I.list hb
 cases r2
 have l3 := r1.length
 cases xs with
 | nil =>
   cases r1
   exact ⟨SeqAt.RcAt.lists (A := A) (s := s) (e := fun _ => true) p1.isList p2.isList rfl hu (fun j h1 h2 => absurd h2 (Nat.not_lt_zero j)), SeqAt.RcNeAt.lists (A := A) (s := s) (e := fun _ => true) p1.isList p2.isList rfl hu (fun j h1 h2 => absurd h2 (Nat.not_lt_zero j))⟩
 | cons x xs =>
   have hsz : (its.toArray.size != ([] : List Value).toArray.size) = true := by
    cases its <;> simp at l3 ⊢
   exact ⟨SeqAt.RcAt.lists_lengths p1.isList p2.isList hsz hu, SeqAt.RcNeAt.lists_lengths p1.isList p2.isList hsz hu⟩
end
section
variable {X : Cx}
theorem op_eqNil {k : Nat} (hr : Room k X.A) : OpR X (compareOp .Eq) (rNil X.K false) := by
 intro pins s σ H x y v u Q I rx ry h
 obtain ⟨a, b, xs, rfl, rfl, hk, q⟩ := h
 cases rx
 cases ry
 have hu := hr.units
 rcases hk with ⟨ha, hb⟩ | ⟨ha, hb⟩
 · exact (rc_nilT (A := X.A) I (by omega) ha hb).1 _ _ _ _ ⟨.bl _, H, I, rfl, q⟩
 · exact (rc_nilL (A := X.A) I (by omega) ha hb).1 _ _ _ _ ⟨.bl _, H, I, rfl, q⟩
end
noncomputable def KTy (H H' : Hp) : Prop := ∀ b o, H b = some o → H' b = some o ∨ ∃ xs ys, o = .lst xs ∧ H' b = some (.lst ys)
theorem Same.kt {H H' : Hp} (s : Same H H') : KTy H H' := fun b o h => .inl (s b o h)
theorem KTy.kl {H H' : Hp} (k : KTy H H') : KL H H' := fun b o e n => by
 rcases k b o e with h | ⟨xs, ys, rfl, h⟩
 · exact h
 · exact absurd rfl (n xs)
theorem TyOf.kt {K : PySem.W.Frag} {H H' : Hp} (k : KTy H H') {v : V} {t : Value} (h : TyOf K H v t) : TyOf K H' v t := by
 cases h with
 | non => exact .non
 | bl x => exact .bl x
 | int i => exact .int i
 | str x => exact .str x
 | flt x => exact .flt x
 | lst e =>
   rcases k _ _ e with h | ⟨_, _, _, h⟩
   · exact .lst h
   · exact .lst h
 | frz e => exact .frz (k.kl _ _ e fun _ z => by cases z)
 | tup e => exact .tup (k.kl _ _ e fun _ z => by cases z)
 | dK e => exact .dK (k.kl _ _ e fun _ z => by cases z)
 | dT e => exact .dT (k.kl _ _ e fun _ z => by cases z)
 | ins e cl ha hn htk hm => exact .ins (k.kl _ _ e fun _ z => by cases z) cl ha hn htk hm
end L2

namespace HT
open PySem PyProof.Rows
section
variable {prog : Program} {w : World} {A : Around} {E : Value → Shared → Prop} {s : Shared}
theorem cat_tup0 {t b : Addr} {ws : List Value} {Q : Value → Shared → Prop} (ht : IsTup s.heap t ([] : List Value).toArray) (hb : IsTup s.heap b ws.toArray) (h : Q (.ref b) s) : wpAny (model prog w) A (binaryOp .Add (.ref t) (.ref b)) Q E s := by
 obtain ⟨⟨cls, dd, data, sl⟩, ho, hc, n, hd⟩ := id ht
 obtain ⟨⟨cls2, dd2, data2, sl2⟩, ho2, hc2, n2, hd2⟩ := id hb
 simp only at hc hd hc2 hd2
 subst hc hd hc2 hd2
 exact concat_meets ⟨_, ho, rfl⟩ ⟨_, ho2, rfl⟩ noFill_tuple_add seq_tuple_add PySem.F.slot_tuple_add PySem.F.entry_tuple_add (PySem.F.args_tuple_add_2 _ _)
  (tuple_addW0 t b _ ws.toArray n n2 dd dd2 sl sl2 rfl) ⟨ho, ho2, h⟩
end
end HT
namespace L2
open PySem PySem.Spec PyProof.Rows PySem.W
section
variable {X : Cx}
noncomputable def rCatTS : R2 := fun x y H Q => ∃ a b xs ys, x = .ref a ∧ y = .ref b ∧ H a = some (.tup xs) ∧ H b = some (.tup ys) ∧ xs.length + ys.length ≤ sizeLine ∧ ∀ (p : Addr) (H' : Hp), Same H H' → H' p = some (.tup (xs ++ ys)) → Q (.ref p) H'
theorem op_catTS : OpR X (binaryOp .Add) rCatTS := by
 intro pins s σ H x y v u Q I rx ry h
 obtain ⟨a, b, xs, ys, rfl, rfl, ha, hb, hz, q⟩ := h
 cases hx : xs with
 | nil =>
   subst hx
   cases rx
   cases ry
   obtain ⟨_, its, r1, p1⟩ : ([] : List V).length ≤ sizeLine ∧ ∃ its : List Value, Vals [] its ∧ IsTupN s.heap a its.toArray := I.hok a _ ha
   obtain ⟨_, its2, r2, p2⟩ : ys.length ≤ sizeLine ∧ ∃ its : List Value, Vals ys its ∧ IsTupN s.heap b its.toArray := I.hok b _ hb
   cases r1
   exact HT.cat_tup0 p1.tup p2.tup ⟨.ref b, H, I, rfl, q b H (Same.refl _) hb⟩
 | cons z zs =>
   refine op_catT pins s σ H _ _ v u Q I rx ry ⟨a, b, xs, ys, rfl, rfl, SqT.of ha, SqT.of hb, by rw [hx]; simp, hz, fun e => ?_, fun _ p hp => q p _ (Same.new hp) upd_same⟩
   subst e
   exact q a H (Same.refl _) (by rw [List.append_nil]; exact ha)
noncomputable def rSlTS (K : PySem.W.Frag) : V → Option Int → Option Int → Hp → VK → Prop := fun x lo hi H Q => ∃ a xs, x = .ref a ∧ SqT K H a xs ∧
 ¬ (HT.sIx xs.length 0 lo = 0 ∧ HT.sIx xs.length xs.length hi = xs.length) ∧ ∀ (p : Addr) (H' : Hp), Same H H' → H p = none → H' p = some (.tup (cutV xs lo hi)) → Q (.ref p) H'
theorem sl_tupS : SlR X (rSlTS X.K) := fun pins s σ H x v vl vu lo hi sl Q I rx hs pl pu ⟨a, xs, e, h1, h2, q⟩ => sl_tup pins s σ H x v vl vu lo hi sl Q I rx hs pl pu ⟨a, xs, e, h1, h2, newS q⟩
end
end L2

namespace L2
open PySem PySem.Spec PyProof.Rows

section
variable {κ : Type} [DecidableEq κ]
end


section
variable {P : Program} {w : World} {H : Hp} {h : Heap} {a : Addr}
end

section
variable {X : Cx} {pins : List (Addr × Obj)} {σ : St} {H : Hp} {s : Shared} {a : Addr} {y v : V} {u r : Value} {o : Option V} {A : Around} {E : Value → Shared → Prop}

theorem Inv.big (I : Inv X pins σ H s) : sysModules < s.heap.objs.size := by
 have h : mainGlobals < s.heap.objs.size := (I.mod.glob.keeps I.bk).lt
 exact Nat.lt_trans (by decide) h

end

section
variable {X : Cx} {pins : List (Addr × Obj)} {σ : St} {H : Hp} {s : Shared} {a : Addr} {kvs : List (Key × V)} {k : Key} {u : Value} {A : Around} {E : Value → Shared → Prop}
end


section
variable {X : Cx} {o i e value : Expr} {pos pos' tpos : Pos} {td ty tv : TE}
end


theorem dk_empty {P : Program} {w : World} {H : Hp} (h : Heap) (hb : sysModules < h.objs.size) : ObjOk P w H (h.push { cls := .type "dict", data := .dict #[] }) h.objs.size (.dK []) :=
 ⟨Nat.zero_le _, beq_eq_false_iff_ne.mpr (Ne.symm (Nat.ne_of_lt hb)), [], .nil, Heap.DictOf.new h⟩
noncomputable def tDNewK : TE := fun _ H Q => ∀ p, H p = none → Q (.ref p) (upd H p (.dK []))
section
variable {X : Cx} {pos : Pos}
theorem pe_dnewK : PE X (.Dict [] [] pos) tDNewK := fun pins s σ H Q I h =>
 wpAny_Dict_empty ⟨.ref s.heap.objs.size, _, I.laid (a := s.heap.objs.size) (o := .dK []) (t' := s.toks) (fun _ _ q => Heap.get?_push_of_some _ q) (Nat.le_refl _) (dk_empty s.heap I.big), rfl, h _ (I.hok.fresh (Nat.le_refl _))⟩
end

end L2

namespace L2
open PySem PySem.Spec PyProof.Rows PySem.W
theorem pe_neg1 {X : Cx} {j : Nat} {pos pos' : Pos} : PE X (.UnaryOp .USub (.Constant (.int 1) j pos') pos) (tC (.int (-1))) := fun pins s σ H Q I h => pe_un un_neg pe_int pins s σ H Q I ⟨_, rfl, h⟩
theorem ki_ni (K : PySem.W.Frag) : PySem.W.kitOne K (.type "NoneType") (.type "int") = some false := by rfl
theorem ki_si (K : PySem.W.Frag) : PySem.W.kitOne K (.type "str") (.type "int") = some false := by rfl
theorem ki_li (K : PySem.W.Frag) : PySem.W.kitOne K (.type "list") (.type "int") = some false := by rfl
theorem ki_ti (K : PySem.W.Frag) : PySem.W.kitOne K (.type "tuple") (.type "int") = some false := by rfl
theorem ki_di (K : PySem.W.Frag) : PySem.W.kitOne K (.type "dict") (.type "int") = some false := by rfl
section
variable {K : PySem.W.Frag} {H H' : Hp} {n m : Nat} {v : V}
end
end L2

namespace L2
open PySem PySem.Spec PyProof.Rows PySem.W
section
variable {X : Cx}
theorem ps_forX {tg iter : Expr} {body : List Stmt} {wi : TI} {g : TG} {tb : TS} {pos : Pos} (hs : ∀ x : Value, foldedSetIterable iter X.env x = pure x) (h1 : PassesOwn (model X.prog X.w) X.A X.env X.xe) (h2 : X.calm = true) (hi : PI X tg iter wi) (hg : PG X tg g) (hb : PSs X body tb) :
 PS X (.For tg iter body [] pos) (tFor wi g tb) := ps_for h1 h2 hi hg hb hs
end
end L2

namespace Pw
noncomputable def qs : Nat → (Nat → Rat) → Rat
 | 0, _ => 0
 | n + 1, f => qs n f + f n
theorem qs_congr {f g : Nat → Rat} : ∀ {n : Nat}, (∀ i, i < n → f i = g i) → qs n f = qs n g
 | 0, _ => rfl
 | n + 1, h => by
   show qs n f + f n = qs n g + g n
   rw [qs_congr (n := n) fun i hi => h i (by omega), h n (by omega)]
theorem qs_add (f g : Nat → Rat) : ∀ n, qs n (fun i => f i + g i) = qs n f + qs n g
 | 0 => by show (0 : Rat) = 0 + 0; grind
 | n + 1 => by
   show qs n _ + (f n + g n) = (qs n f + f n) + (qs n g + g n)
   rw [qs_add f g n]; grind
theorem qs_mul (c : Rat) (f : Nat → Rat) : ∀ n, qs n (fun i => c * f i) = c * qs n f
 | 0 => by show (0 : Rat) = c * 0; grind
 | n + 1 => by
   show qs n _ + c * f n = c * (qs n f + f n)
   rw [qs_mul c f n]; grind
theorem qs_zero : ∀ n, qs n (fun _ => 0) = 0
 | 0 => rfl
 | n + 1 => by show qs n _ + 0 = (0:Rat); rw [qs_zero n]; grind
theorem qs_swap (f : Nat → Nat → Rat) (m : Nat) : ∀ n, qs n (fun i => qs m (fun j => f i j)) = qs m (fun j => qs n (fun i => f i j))
 | 0 => (qs_zero m).symm
 | n + 1 => by
   show qs n _ + qs m _ = qs m (fun j => qs n (fun i => f i j) + f n j)
   rw [qs_add, qs_swap f m n]
theorem qs_nonneg {f : Nat → Rat} : ∀ {n : Nat}, (∀ i, i < n → 0 ≤ f i) → 0 ≤ qs n f
 | 0, _ => by show (0 : Rat) ≤ 0; grind
 | n + 1, h => by
   have h1 := qs_nonneg (n := n) fun i hi => h i (by omega)
   have h2 := h n (by omega)
   show 0 ≤ qs n f + f n
   grind
theorem qs_le {f g : Nat → Rat} : ∀ {n : Nat}, (∀ i, i < n → f i ≤ g i) → qs n f ≤ qs n g
 | 0, _ => by show (0 : Rat) ≤ 0; grind
 | n + 1, h => by
   have h1 := qs_le (n := n) fun i hi => h i (by omega)
   have h2 := h n (by omega)
   show qs n f + f n ≤ qs n g + g n
   grind
theorem qs_single {f : Nat → Rat} {k : Nat} : ∀ {n : Nat}, k < n → (∀ i, i < n → i ≠ k → f i = 0) → qs n f = f k
 | n + 1, hk, h => by
   show qs n f + f n = f k
   by_cases e : k = n
   · subst e
     rw [qs_congr (g := fun _ => 0) fun i hi => h i (by omega) (by omega), qs_zero]; grind
   · rw [qs_single (n := n) (by omega) fun i hi hn => h i (by omega) hn, h n (by omega) (by omega)]; grind
noncomputable def val (A : Int × Int) : Rat := (A.1 : Rat) / (A.2 : Rat)
theorem castne {d : Int} (h : d ≠ 0) : (d : Rat) ≠ 0 := by simpa using h
theorem div_eq {a b c d : Rat} (hb : b ≠ 0) (hd : d ≠ 0) : a / b = c / d ↔ a * d = c * b := by
 constructor
 · intro h; grind
 · intro h; grind
end Pw

namespace Pw
theorem val_fr {A : Int × Int} {n d : Int} (h : Fr A n d) : val A = (n : Rat) / (d : Rat) := by
 unfold val
 rw [div_eq (castne h.pos) (castne h.ne)]
 exact_mod_cast h.w
theorem val_inj {A B : Int × Int} (a : Canon A) (b : Canon B) (h : val A = val B) : A = B := by
 have ha := (Fr.of a).pos
 have hb := (Fr.of b).pos
 unfold val at h
 rw [div_eq (castne ha) (castne hb)] at h
 exact canon_unique a b (by exact_mod_cast h)
theorem val_mk {a b : Int} (h : b ≠ 0) : val (mk a b) = (a : Rat) / (b : Rat) := val_fr (Fr.made h)
theorem canon_mk {a b : Int} (h : b ≠ 0) : Canon (mk a b) := (mk_spec h).1
theorem val_fplus {A B : Int × Int} (ha : A.2 ≠ 0) (hb : B.2 ≠ 0) : val (fplus A B) = val A + val B := by
 unfold fplus
 rw [val_mk (Int.mul_ne_zero ha hb)]
 unfold val
 have h1 := castne ha
 have h2 := castne hb
 rw [Rat.intCast_add, Rat.intCast_mul, Rat.intCast_mul, Rat.intCast_mul]
 grind
theorem val_fless {A B : Int × Int} (ha : A.2 ≠ 0) (hb : B.2 ≠ 0) : val (fless A B) = val A - val B := by
 unfold fless
 rw [val_mk (Int.mul_ne_zero ha hb)]
 unfold val
 have h1 := castne ha
 have h2 := castne hb
 rw [Rat.intCast_sub, Rat.intCast_mul, Rat.intCast_mul, Rat.intCast_mul]
 grind
theorem val_ftimes {A B : Int × Int} (ha : A.2 ≠ 0) (hb : B.2 ≠ 0) : val (ftimes A B) = val A * val B := by
 unfold ftimes
 rw [val_mk (Int.mul_ne_zero ha hb)]
 unfold val
 have h1 := castne ha
 have h2 := castne hb
 rw [Rat.intCast_mul, Rat.intCast_mul]
 grind
theorem canon_fless {A B : Int × Int} (ha : A.2 ≠ 0) (hb : B.2 ≠ 0) : Canon (fless A B) := canon_mk (Int.mul_ne_zero ha hb)
theorem canon_ftimes {A B : Int × Int} (ha : A.2 ≠ 0) (hb : B.2 ≠ 0) : Canon (ftimes A B) := canon_mk (Int.mul_ne_zero ha hb)
theorem canon_ne {A : Int × Int} (h : Canon A) : A.2 ≠ 0 := by have := h.1; omega
theorem canon01 : Canon (0, 1) := ⟨by decide, by decide⟩
theorem val11 : val (1, 1) = 1 := by unfold val; show ((1 : Int) : Rat) / ((1 : Int) : Rat) = 1; rw [Rat.intCast_one]; grind
noncomputable def wayF (A B : Int × Int) (c m : Int) : Int × Int := fplus (ftimes A B) (ftimes (fless (1, 1) A) (mk c m))
theorem val_wayF {A B : Int × Int} {c m : Int} (a : Canon A) (b : Canon B) (hm : m ≠ 0) : val (wayF A B c m) = val A * val B + (1 - val A) * ((c : Rat) / (m : Rat)) := by
 have ha := canon_ne a
 have hb := canon_ne b
 unfold wayF
 rw [val_fplus (canon_ne (canon_ftimes ha hb)) (canon_ne (canon_ftimes (canon_ne (canon_fless (by decide) ha)) (canon_ne (canon_mk hm)))), val_ftimes ha hb, val_ftimes (canon_ne (canon_fless (by decide) ha)) (canon_ne (canon_mk hm)), val_fless (by decide) ha, val11, val_mk hm]
noncomputable def waysL (ps : List (Int × Int)) (A : Int × Int) (Bs : List (Int × Int)) (page : Int) : List (Int × Int) :=
 if outs ps page = [] then Bs else (List.range Bs.length).map fun t => wayF A (Bs.getD t (0, 1)) ((outs ps page).count (t : Int) : Nat) ((outs ps page).length : Nat)
noncomputable def Canons (Bs : List (Int × Int)) : Prop := ∀ B ∈ Bs, Canon B
theorem Canons.getD {Bs : List (Int × Int)} (h : Canons Bs) (t : Nat) : Canon (Bs.getD t (0, 1)) := by
 rw [List.getD_eq_getElem?_getD]
 cases e : Bs[t]? with
 | none => exact canon01
 | some B => exact h B (List.mem_of_getElem? e)
theorem outs_len_ne {ps : List (Int × Int)} {page : Int} (h : outs ps page ≠ []) : (((outs ps page).length : Nat) : Int) ≠ 0 := by
 have := List.length_pos_iff.mpr h
 omega
theorem sum_count {n : Nat} : ∀ {l : List Int}, (∀ x ∈ l, 0 ≤ x ∧ x < n) → qs n (fun t => ((l.count (t : Int) : Nat) : Rat)) = ((l.length : Nat) : Rat)
 | [], _ => by
   rw [qs_congr (g := fun _ => 0) fun i _ => by simp, qs_zero]; simp
 | x :: l, h => by
   have ih := sum_count (n := n) (l := l) fun y hy => h y (List.mem_cons_of_mem _ hy)
   have hx := h x List.mem_cons_self
   rw [qs_congr (g := fun t => ((l.count (t : Int) : Nat) : Rat) + (if (t : Int) = x then 1 else 0)) fun t _ => ?_, qs_add, ih, qs_single (k := x.toNat) (by omega) fun i _ hi => ?_]
   · rw [if_pos (by omega)]
     simp
   · rw [if_neg (by omega)]
   · rw [List.count_cons]
     by_cases c : (t : Int) = x
     · rw [if_pos c, if_pos (by simp [c])]; simp
     · rw [if_neg c, if_neg (by simpa using fun z => c z.symm)]; simp; grind
theorem getD_map_range {n t : Nat} {f : Nat → Int × Int} {d : Int × Int} (h : t < n) : ((List.range n).map f).getD t d = f t := by
 rw [List.getD_eq_getElem?_getD, List.getElem?_map, List.getElem?_range h]; rfl
theorem outs_mem {pages : Int} {ps : List (Int × Int)} (ok : ∀ p ∈ ps, 0 ≤ p.2 ∧ p.2 < pages) {page x : Int} (h : x ∈ outs ps page) : 0 ≤ x ∧ x < pages := by
 unfold outs at h
 obtain ⟨p, hp, rfl⟩ := List.mem_map.mp h
 exact ok p (List.mem_filter.mp hp).1
theorem ways_sum {n : Nat} {ps : List (Int × Int)} {A : Int × Int} {Bs : List (Int × Int)} {page : Int} (ok : ∀ p ∈ ps, 0 ≤ p.2 ∧ p.2 < (n : Int)) (a : Canon A) (b : Canons Bs) (hn : Bs.length = n) (h1 : qs n (fun t => val (Bs.getD t (0, 1))) = 1) :
 qs n (fun t => val ((waysL ps A Bs page).getD t (0, 1))) = 1 := by
 unfold waysL
 split
 · exact h1
 · rename_i h
   have hm := outs_len_ne h
   have hs := sum_count (n := n) (l := outs ps page) fun x hx => outs_mem ok hx
   have hm' := castne hm
   rw [qs_congr (g := fun t => val A * val (Bs.getD t (0, 1)) + ((1 - val A) / ((((outs ps page).length : Nat) : Int) : Rat)) * (((outs ps page).count (t : Int) : Nat) : Rat)) fun t ht => ?_, qs_add, qs_mul, qs_mul, hs, h1]
   · have e : ((((outs ps page).length : Nat) : Int) : Rat) = (((outs ps page).length : Nat) : Rat) := rfl
     rw [e] at hm' ⊢
     grind
   · rw [getD_map_range (by omega), val_wayF a (b.getD t) hm]
     have e : ((((outs ps page).count (t : Int) : Nat) : Int) : Rat) = (((outs ps page).count (t : Int) : Nat) : Rat) := rfl
     rw [e]
     grind
theorem qs_list : ∀ ws : List Int, qs ws.length (fun t => ((ws.getD t 0 : Int) : Rat)) = ((ws.sum : Int) : Rat) := by
 intro ws
 have key : ∀ k, k ≤ ws.length → qs k (fun t => ((ws.getD t 0 : Int) : Rat)) = (((ws.take k).sum : Int) : Rat) := by
  intro k
  induction k with
  | zero => intro _; simp [qs]
  | succ k ih =>
    intro hk
    show qs k _ + _ = _
    have e : ws[k]? = some ws[k] := by simp
    rw [ih (by omega), List.take_succ, List.sum_append, Rat.intCast_add, e]
    show _ + ((ws.getD k 0 : Int) : Rat) = _
    rw [List.getD_eq_getElem?_getD, e]
    simp
 have := key ws.length (Nat.le_refl _)
 rwa [List.take_of_length_le (Nat.le_refl _)] at this
end Pw
namespace L2
end L2

namespace L2
open PySem PySem.Spec PyProof.Rows
section
variable {X : Cx} {pins : List (Addr × Obj)} {σ : St} {H : Hp} {s : Shared} {h' : Heap}
theorem Inv.turnedL {ch : List Addr} {t' : Nat} (I : Inv X pins σ H s) (k : ∀ b ob, b ∉ ch → s.heap.get? b = some ob → h'.get? b = some ob) (fe : ∀ b ∈ ch, FpOk X pins H b) : Inv X pins σ H { s with heap := h', toks := t' } := by
 have nit : ∀ b u, H b = some u → b ∉ ch := fun b u q z => by rw [(fe b z).1] at q; cases q
 refine I.step (g' := s.gens) (d' := s.drawn) (ch := ch) (fun b hb => ?_) (fun b ob _ _ hc q _ => k b ob hc q) (fun b ob _ _ hc q _ => ⟨ob.slots, k b ob hc q⟩) (fun _ _ _ _ n => n)
  (fun b ob hc q => ⟨ob, k b ob hc q⟩) (fun _ _ q => q) (fun _ _ _ q => q) (fun b ps q => ⟨#[], by rw [q]; simp⟩) (fun m hm => ?_) (fun b u q => ?_) I.bare
 · have z := fe b hb
   exact ⟨z.2.2.2.1, z.2.1, z.2.2.2.2.1, z.2.2.2.2.2⟩
 · obtain ⟨ob, es, ep, ho, r⟩ := hm
   exact ⟨ob, es, ep, k _ ob (fun z => (fe _ z).2.1 rfl) ho, r⟩
 · refine (I.hok b u q).stay (fun c v hc z => k c v ?_ z) (fun _ z => z) fun _ _ z => z
   rcases hc with z | z
   · rw [z]; exact nit b u q
   · exact nit c _ z
theorem Inv.turnedNewL {ch : List Addr} {T : Addr} {o : HO} {t' : Nat} (I : Inv X pins σ H s) (k : ∀ b ob, b ∉ ch → s.heap.get? b = some ob → h'.get? b = some ob) (fe : ∀ b ∈ ch, FpOk X pins H b)
 (hT : s.heap.objs.size ≤ T) (new : ObjOk X.prog X.w (upd H T o) h' T o) : Inv X pins σ (upd H T o) { s with heap := h', toks := t' } := by
 have hn : H T = none := I.hok.fresh hT
 have neT : ∀ b ob, s.heap.get? b = some ob → b ≠ T := fun b ob q => Nat.ne_of_lt (Nat.lt_of_lt_of_le (Heap.lt_size q) hT)
 have nit : ∀ b u, H b = some u → b ∉ ch := fun b u q z => by rw [(fe b z).1] at q; cases q
 refine I.step (g' := s.gens) (d' := s.drawn) (ch := ch) (fun b hb => ?_) (fun b ob _ _ hc q _ => k b ob hc q) (fun b ob _ _ hc q _ => ⟨ob.slots, k b ob hc q⟩)
  (fun b ob _ q n => by rw [upd_ne (neT b ob q)]; exact n) (fun b ob hc q => ⟨ob, k b ob hc q⟩)
  (fun b xs q => by rw [upd_ne (ne_of_none q hn)]; exact q) (fun b ob u q => by rw [upd_ne (ne_of_none q hn)]; exact q) (fun b ps q => ⟨#[], by rw [upd_ne (ne_of_none q hn), q]; simp⟩) (fun m hm => ?_) (fun b u q => ?_) I.bare
 · have z := fe b hb
   exact ⟨z.2.2.2.1, z.2.1, z.2.2.2.2.1, z.2.2.2.2.2⟩
 · obtain ⟨ob, es, ep, ho, r⟩ := hm
   exact ⟨ob, es, ep, k _ ob (fun z => (fe _ z).2.1 rfl) ho, r⟩
 · by_cases hb : b = T
   · subst hb; rw [upd_same] at q; cases q; exact new
   · rw [upd_ne hb] at q
     refine (I.hok b u q).stay (fun c v hc z => ?_) (fun c z => by rw [upd_ne (ne_of_none z hn)]; exact z) fun c xs z => by rw [upd_ne (ne_of_none z hn)]; exact z
     rcases hc with e1 | e1
     · subst e1; exact k _ v (nit _ u q) z
     · exact k c v (nit c _ e1) z
end
noncomputable def ItemN (prog : Program) (w : World) (A : Around) (I : Addr) (wr : List Addr) (n : Nat) (Pt : Nat → Array Value → Prop) (St : Nat → Heap → Prop) (Mid : Nat → Addr → Heap → Prop) : Prop :=
 ∀ (i : Nat) (s : Shared) (Q : Option Value → Shared → Prop) (E : Value → Shared → Prop), i < n → St i s.heap →
   (∀ (T : Addr) (x y : Value) (h' : Heap) (tk : Nat), Pt i #[x, y] → s.heap.objs.size ≤ T → h'.get? T = some { cls := .type "tuple", data := .seq #[x, y] } → Mid i T h' → (∀ b o, b ∉ wr → s.heap.get? b = some o → h'.get? b = some o) → Q (some (.ref T)) { s with heap := h', toks := tk }) →
   wpAny (model prog w) A (pyNext (.ref I)) Q E s
theorem itemN_enum {prog : Program} {w : World} {A : Around} {it : Addr} {fp : List Addr} {n : Nat} {Pp : Nat → Value → Prop} {St : Nat → Heap → Prop} (D : Draws prog w A.in1 it fp n Pp St) (e : Addr) (hei : e ≠ it) (hef : e ∉ fp) :
 ItemN prog w A e [e, it] n (fun i vals => ∃ t x, Pp i x ∧ vals = #[.int i t, x]) (fun i h => (∃ old, IsEnum h e it i old) ∧ St i h) (fun i T h => (∃ x, IsEnumOut h e it ((i : Int) + 1) x T) ∧ St (i + 1) h ∧ T ≠ e ∧ T ≠ it) := fun i s Q E hi hst q => by
 obtain ⟨⟨old, he⟩, hs⟩ := hst
 refine wpAny_pyNext_enum_itemD D he hs hi hei hef fun x hp tk hP ho hs' hT hsz hk => ?_
 have l1 : e < s.heap.objs.size := Heap.lt_size he
 have l2 : it < s.heap.objs.size := by obtain ⟨_, y⟩ := D.live _ _ hs; exact Heap.lt_size y
 exact q _ _ _ hp (tk + 1) ⟨_, _, hP, rfl⟩ (Nat.le_refl _) hT ⟨⟨_, ho⟩, hs', Nat.ne_of_gt l1, Nat.ne_of_gt l2⟩ fun b o hb y => hk b o (fun z => hb (by simp [z])) (fun z => hb (by simp [z])) y
theorem itemN_zip {prog : Program} {w : World} {A : Around} (z TI TO i1 i2 l1 l2 : Addr) (D : ZipApart z TI TO i1 i2 l1 l2) (xs ys : Array Value) :
 ItemN prog w A z [z, TO, i1, i2] (min xs.size ys.size) (fun i vals => ∃ x y, xs[i]? = some x ∧ ys[i]? = some y ∧ vals = #[x, y])
  (fun i h => IsZip h z TI TO .none ∧ IsPair h TI (.ref i1) (.ref i2) ∧ (∃ a b, IsPair h TO a b) ∧ h.IsListIter i1 l1 i ∧ h.IsListIter i2 l2 i ∧ h.IsList l1 xs ∧ h.IsList l2 ys)
  (fun i T h => IsZip h z TI TO (rawInt T) ∧ IsPair h TI (.ref i1) (.ref i2) ∧ (∃ a b, IsPair h TO a b) ∧ h.IsListIter i1 l1 (i + 1) ∧ h.IsListIter i2 l2 (i + 1) ∧ h.IsList l1 xs ∧ h.IsList l2 ys ∧
   T ≠ z ∧ T ≠ TO ∧ T ≠ i1 ∧ T ≠ i2) := fun i s Q E hi hst q => by
 obtain ⟨g1, g2, ⟨a, b, g3⟩, g4, g5, g6, g7⟩ := hst
 have e1 : i < xs.size := Nat.lt_of_lt_of_le hi (Nat.min_le_left ..)
 have e2 : i < ys.size := Nat.lt_of_lt_of_le hi (Nat.min_le_right ..)
 refine wpAny_pyNext_zip_item D g1 g2 g3 g4 g5 g6 g7 (Array.getElem?_eq_getElem e1) (Array.getElem?_eq_getElem e2) fun hp a1 a2 a3 a4 a5 a6 hk => ?_
 have gt : ∀ {c : Addr} {o : Obj}, s.heap.get? c = some o → s.heap.objs.size ≠ c := fun e => Nat.ne_of_gt (Heap.lt_size e)
 exact q _ _ _ hp s.toks ⟨_, _, Array.getElem?_eq_getElem e1, Array.getElem?_eq_getElem e2, rfl⟩ (Nat.le_refl _) a5
  ⟨a1, hk _ _ D.TIz D.TITO D.TIi1 D.TIi2 g2, ⟨_, _, a2⟩, a3, a4, g6.at fun o e => hk _ o D.l1z D.l1TO D.l1i1 D.l1i2 e, g7.at fun o e => hk _ o D.l2z D.l2TO D.l2i1 D.l2i2 e, gt g1, gt g3, (by obtain ⟨_, e, _⟩ := g4; exact gt e), (by obtain ⟨_, e, _⟩ := g5; exact gt e)⟩
  fun c o hc e => hk c o (fun y => hc (by simp [y])) (fun y => hc (by simp [y])) (fun y => hc (by simp [y])) (fun y => hc (by simp [y])) e
noncomputable def ItP (go : Nat → Hp → Prop) (pr : Nat → Hp → V → V → Prop) (stop : Nat → Hp → Prop) : It := ⟨go, fun i H x H' => ∃ T u v, x = .ref T ∧ H T = none ∧ H' = upd H T (.tup [u, v]) ∧ pr i H u v, stop⟩
section
variable {P : Program} {w : World} {K : PySem.W.Frag}
theorem turn_pairs {elts : List Expr} {ek : Nat} {epos : Pos} {go : Nat → Hp → Prop} {pr : Nat → Hp → V → V → Prop} {stop : Nat → Hp → Prop} {I : Addr} {fp wr : List Addr} {tn : Nat → Heap → Prop}
 (hI : I ∈ fp) (hw : ∀ b ∈ wr, b ∈ fp) (obj : ∀ i h, tn i h → ∀ b ∈ fp, ∃ o, h.get? b = some o ∧ ∀ v, o.data ≠ .cell v)
 (keep : ∀ i h h', tn i h → (∀ b ∈ fp, ∀ o, h.get? b = some o → h'.get? b = some o) → tn i h')
 (self : ∀ (A : Around) (i : Nat) (s : Shared) (Q : Value → Shared → Prop) (E : Value → Shared → Prop), tn i s.heap → Q (.ref I) s → wpAny (model P w) A (pyIter (.ref I)) Q E s)
 (it : ∀ (X : Cx), X.prog = P → X.w = w → X.K = K → X.calm = true → ∀ (i : Nat) (pins : List (Addr × Obj)) (s : Shared) (σ : St) (H : Hp), Inv X pins σ H s → (∀ b ∈ fp, FpOk X pins H b) → tn i s.heap → go i H →
  ∃ fp' n Pt St Mid, (WalksT P w X.A I fp' wr n Pt St Mid ∧ ItemN P w X.A I wr n Pt St Mid) ∧ i < n ∧ St i s.heap ∧ (∀ h', St (i + 1) h' → tn (i + 1) h') ∧ ∀ vals, Pt i vals → ∃ u v x y, vals = #[x, y] ∧ RelV u x ∧ RelV v y ∧ pr i H u v)
 (dn : ∀ (X : Cx), X.prog = P → X.w = w → X.K = K → X.calm = true → ∀ (i : Nat) (pins : List (Addr × Obj)) (s : Shared) (σ : St) (H : Hp), Inv X pins σ H s → (∀ b ∈ fp, FpOk X pins H b) → tn i s.heap → stop i H →
  ∃ fp' n Pt St Mid, WalksT P w X.A I fp' wr n Pt St Mid ∧ St n s.heap) :
 Turn P w K (.Tuple elts ek epos) (ItP go pr stop) fp I tn where
 mem := hI
 obj := obj
 keep := keep
 self := self
 item := by
  intro X hP hw' hK hc i pins s σ H E I0 hf st hg
  obtain ⟨fp', n, Pt, St, Mid, ⟨W, WN⟩, hi, hst, hnx, hpt⟩ := it X hP hw' hK hc i pins s σ H I0 hf st hg
  subst hP hw' hK
  refine WN i s _ _ hi hst fun T x0 y0 h1 tk hv hT hIT hmid hk1 => ⟨.ref T, rfl, ?_⟩
  refine W.go elts ek epos i T _ _ _ hmid fun h2 hs2 hk2 => ?_
  obtain ⟨u, v, x, y, exy, ru, rv, hpr⟩ := hpt _ hv
  cases exy
  have fe : ∀ b ∈ wr, FpOk X pins H b := fun b hb => hf b (hw b hb)
  have hTw : T ∉ wr := W.apart i T _ hmid
  have hn : H T = none := I0.hok.fresh hT
  have I2 : Inv X pins σ (upd H T (.tup [u, v])) { s with heap := h2, toks := tk } :=
   I0.turnedNewL (ch := wr) (fun b ob hb q => hk2 b ob hb (hk1 b ob hb q)) fe hT ⟨by show 2 ≤ sizeLine; decide, [x0, y0], .cons ru (.cons rv .nil), ⟨_, hk2 T _ hTw hIT, rfl, _, rfl⟩⟩
  refine ⟨.ref T, _, I2, rfl, ⟨T, u, v, rfl, hn, rfl, hpr⟩, hnx _ hs2, fun b hb => ?_⟩
  obtain ⟨ob, eb, _⟩ := obj i _ st b hb
  rw [upd_ne (Nat.ne_of_lt (Nat.lt_of_lt_of_le (Heap.lt_size eb) hT))]
  exact (hf b hb).1
 done := by
  intro X hP hw' hK hc i pins s σ H E I0 hf st hg
  obtain ⟨fp', n, Pt, St, Mid, W, hst⟩ := dn X hP hw' hK hc i pins s σ H I0 hf st hg
  subst hP hw' hK
  exact W.done s _ _ hst fun h1 tk hk => ⟨rfl, I0.turnedL hk fun b hb => hf b (hw b hb)⟩
end

section
variable {prog : Program} {w : World} {A : Around}
end

noncomputable def ItEL (K : PySem.W.Frag) (a : Addr) : It := ItP (fun i H => ∃ xs x, SqL K H a xs ∧ xs[i]? = some x) (fun i H u v => u = .int i ∧ ∀ xs, SqL K H a xs → xs[i]? = some v) (fun i H => ∃ xs, SqL K H a xs ∧ xs.length = i)
noncomputable def ItZ (K : PySem.W.Frag) (a b : Addr) : It := ItP (fun i H => ∃ xs ys x y, SqL K H a xs ∧ SqL K H b ys ∧ xs[i]? = some x ∧ ys[i]? = some y) (fun i H u v => (∀ xs, SqL K H a xs → xs[i]? = some u) ∧ ∀ ys, SqL K H b ys → ys[i]? = some v) (fun i H => ∃ xs ys, SqL K H a xs ∧ SqL K H b ys ∧ xs.length = i ∧ ys.length = i)
section
variable {P : Program} {w : World} {K : PySem.W.Frag} {elts : List Expr} {ek : Nat} {epos : Pos}
theorem turn_enumL {a e it : Addr} (hei : e ≠ it) (hae : a ≠ e) (hai : a ≠ it) : Turn P w K (.Tuple elts ek epos) (ItEL K a) [e, it] e (fun i h => (∃ old, IsEnum h e it i old) ∧ h.IsListIter it a i) := by
 have hef : e ∉ [it, a] := fun z => by
  rcases List.mem_cons.mp z with z | z
  · exact hei z
  · exact hae (List.mem_singleton.mp z).symm
 refine turn_pairs (wr := [e, it]) (by simp) (fun b hb => hb) (fun i h st b hb => ?_) (fun i h h' st k => ?_) (fun A i s Q E st q => ?_) ?_ ?_
 · obtain ⟨⟨old, g⟩, o, ho, oc, od⟩ := st
   rcases List.mem_cons.mp hb with z | z
   · subst z; exact ⟨_, g, fun v z => by cases z⟩
   · have z := List.mem_singleton.mp z
     subst z; exact ⟨o, ho, fun v z => by rw [od] at z; cases z⟩
 · obtain ⟨⟨old, g⟩, g2⟩ := st
   exact ⟨⟨old, k e (by simp) _ g⟩, g2.at fun o z => k it (by simp) o z⟩
 · obtain ⟨⟨old, g⟩, g2⟩ := st
   exact wpAny_pyIter_enum g q
 · intro X hP hw' hK hc i pins s σ H I0 hf st hg
   obtain ⟨xs, x, hq, hx⟩ := hg
   rw [← hK] at hq
   obtain ⟨its, rv, p, hz⟩ := I0.list hq
   obtain ⟨u, hu, ru⟩ := rv.get hx
   have hl := rv.length
   have hix : i < xs.length := (List.getElem?_eq_some_iff.mp hx).1
   refine ⟨_, _, _, _, _, ⟨WalksT.enumerateD (Draws.list (prog := P) (w := w) (A := X.A.in1) (I0.ok.hd hc) it a hai its.toArray) e hei hef (by simp), itemN_enum (Draws.list (prog := P) (w := w) (A := X.A.in1) (I0.ok.hd hc) it a hai its.toArray) e hei hef⟩, by rw [List.size_toArray]; omega, ⟨st.1, st.2, p.isList⟩, fun h' z => ⟨z.1, z.2.1⟩, ?_⟩
   rintro vals ⟨t, y, hy, rfl⟩
   refine ⟨.int i, x, _, y, rfl, ⟨t, rfl⟩, ?_, rfl, fun ys hys => ?_⟩
   · have : its[i]? = some y := by simpa using hy
     rw [hu] at this
     cases this
     exact ru
   · have hys' : SqL X.K H a ys := by rw [hK]; exact hys
     rw [I0.list_inj hys' hq]; exact hx
 · intro X hP hw' hK hc i pins s σ H I0 hf st hg
   obtain ⟨xs, hq, hx⟩ := hg
   rw [← hK] at hq
   obtain ⟨its, rv, p, hz⟩ := I0.list hq
   have hl := rv.length
   have e1 : its.toArray.size = i := by rw [List.size_toArray]; omega
   refine ⟨_, _, _, _, _, WalksT.enumerateD (Draws.list (prog := P) (w := w) (A := X.A.in1) (I0.ok.hd hc) it a hai its.toArray) e hei hef (by simp), ?_⟩
   rw [e1]
   exact ⟨st.1, st.2, p.isList⟩
theorem turn_zip {z TI TO i1 i2 l1 l2 : Addr} (D : ZipApart z TI TO i1 i2 l1 l2) : Turn P w K (.Tuple elts ek epos) (ItZ K l1 l2) [z, TI, TO, i1, i2] z (fun i h => IsZip h z TI TO .none ∧ IsPair h TI (.ref i1) (.ref i2) ∧ (∃ a b, IsPair h TO a b) ∧ h.IsListIter i1 l1 i ∧ h.IsListIter i2 l2 i) := by
 refine turn_pairs (wr := [z, TO, i1, i2]) (by simp) (fun b hb => ?_) (fun i h st b hb => ?_) (fun i h h' st k => ?_) (fun A i s Q E st q => ?_) ?_ ?_
 · simp at hb ⊢
   rcases hb with rfl | rfl | rfl | rfl <;> simp
 · obtain ⟨g1, g2, ⟨x, y, g3⟩, ⟨o1, h1, c1, d1⟩, ⟨o2, h2, c2, d2⟩⟩ := st
   simp at hb
   rcases hb with rfl | rfl | rfl | rfl | rfl
   · exact ⟨_, g1, fun v z => by cases z⟩
   · exact ⟨_, g2, fun v z => by cases z⟩
   · exact ⟨_, g3, fun v z => by cases z⟩
   · exact ⟨_, h1, fun v z => by rw [d1] at z; cases z⟩
   · exact ⟨_, h2, fun v z => by rw [d2] at z; cases z⟩
 · obtain ⟨g1, g2, ⟨x, y, g3⟩, g4, g5⟩ := st
   exact ⟨k z (by simp) _ g1, k TI (by simp) _ g2, ⟨x, y, k TO (by simp) _ g3⟩, g4.at fun o e => k i1 (by simp) o e, g5.at fun o e => k i2 (by simp) o e⟩
 · exact wpAny_pyIter_zip st.1 q
 · intro X hP hw' hK hc i pins s σ H I0 hf st hg
   obtain ⟨xs, ys, x, y, hq, hq', hx, hy⟩ := hg
   rw [← hK] at hq hq'
   obtain ⟨its, rv, p, hz⟩ := I0.list hq
   obtain ⟨its', rv', p', hz'⟩ := I0.list hq'
   obtain ⟨u, hu, ru⟩ := rv.get hx
   obtain ⟨u', hu', ru'⟩ := rv'.get hy
   have hl := rv.length
   have hl' := rv'.length
   have hix : i < xs.length := (List.getElem?_eq_some_iff.mp hx).1
   have hiy : i < ys.length := (List.getElem?_eq_some_iff.mp hy).1
   obtain ⟨g1, g2, g3, g4, g5⟩ := st
   refine ⟨_, _, _, _, _, ⟨WalksT.zip2 (prog := P) (w := w) (A := X.A) (I0.ok.hd hc) z TI TO i1 i2 l1 l2 D its.toArray its'.toArray, itemN_zip z TI TO i1 i2 l1 l2 D its.toArray its'.toArray⟩, by rw [List.size_toArray, List.size_toArray]; omega, ⟨g1, g2, g3, g4, g5, p.isList, p'.isList⟩, fun h' q => ⟨q.1, q.2.1, q.2.2.1, q.2.2.2.1, q.2.2.2.2.1⟩, ?_⟩
   rintro vals ⟨v, v', hv, hv', rfl⟩
   have e1 : its[i]? = some v := by simpa using hv
   have e2 : its'[i]? = some v' := by simpa using hv'
   rw [hu] at e1
   rw [hu'] at e2
   cases e1
   cases e2
   exact ⟨x, y, _, _, rfl, ru, ru', fun ys hys => by
    have hys' : SqL X.K H l1 ys := by rw [hK]; exact hys
    rw [I0.list_inj hys' hq]; exact hx, fun ys hys => by
    have hys' : SqL X.K H l2 ys := by rw [hK]; exact hys
    rw [I0.list_inj hys' hq']; exact hy⟩
 · intro X hP hw' hK hc i pins s σ H I0 hf st hg
   obtain ⟨xs, ys, hq, hq', hx, hy⟩ := hg
   rw [← hK] at hq hq'
   obtain ⟨its, rv, p, hz⟩ := I0.list hq
   obtain ⟨its', rv', p', hz'⟩ := I0.list hq'
   have hl := rv.length
   have hl' := rv'.length
   obtain ⟨g1, g2, g3, g4, g5⟩ := st
   have e1 : min its.toArray.size its'.toArray.size = i := by rw [List.size_toArray, List.size_toArray]; omega
   refine ⟨_, _, _, _, _, WalksT.zip2 (prog := P) (w := w) (A := X.A) (I0.ok.hd hc) z TI TO i1 i2 l1 l2 D its.toArray its'.toArray, ?_⟩
   rw [e1]
   exact ⟨g1, g2, g3, g4, g5, p.isList, p'.isList⟩
end
section
variable {X : Cx} {elts : List Expr} {ek : Nat} {epos : Pos}
noncomputable def iEnL (K : PySem.W.Frag) (ta : TA) : TI := fun σ H R => ta σ H fun vs H1 => ∃ a xs, vs = [.ref a] ∧ SqL K H1 a xs ∧ R (ItEL K a) H1
noncomputable def iZip (K : PySem.W.Frag) (ta : TA) : TI := fun σ H R => ta σ H fun vs H1 => ∃ a b xs ys, vs = [.ref a, .ref b] ∧ SqL K H1 a xs ∧ SqL K H1 b ys ∧ R (ItZ K a b) H1
theorem pi_enL {a : Expr} {ta : TA} {p pos : Pos} (hg : Gl X "enumerate") (hm : X.mg "enumerate" = none) (ha : PA X [a] ta) (hs : starEach [a] X.env = [(false, eval a X.env)] := by rfl) : PI X (.Tuple elts ek epos) (.Call (.Name "enumerate" p) [a] [] pos) (iEnL X.K ta) := by
 intro pins s σ H R I h
 refine Call_ (ld_blt I hg hm boot_enumerate (PyProof.Rows.callWith_type1 (thn (ha pos pins s σ H _ I h) fun us s1 ⟨vs, H1, I1, r1, q1⟩ => ?_) hs rfl))
 obtain ⟨l, xs, rfl, hl, q⟩ := q1
 obtain ⟨u, rfl, ru⟩ := vals1 r1
 cases ru
 obtain ⟨its, rv, pl, hz⟩ := id (I1.list hl)
 have hll : l < s1.heap.objs.size := by obtain ⟨o, z, _⟩ := pl.isList; exact Heap.lt_size z
 refine call_enumerate_list pl.isList fun hp he hit hsz hk => ?_
 have I2 : Inv X pins σ H1 { s1 with heap := hp } := I1.kept (t' := s1.toks) hk
 have nx : ∀ b, s1.heap.objs.size ≤ b → FpOk X pins H1 b := fun b hb => I1.fpOk hb (I1.hok.fresh hb)
 refine wpAny_pyIter_enum he ⟨_, [s1.heap.objs.size + 1, s1.heap.objs.size], _, _, H1, rfl, I2, turn_enumL (Nat.succ_ne_self _) (Nat.ne_of_lt (Nat.lt_succ_of_lt hll)) (Nat.ne_of_lt hll), ⟨⟨_, he⟩, hit⟩, fun b hb => ?_, q⟩
 rcases List.mem_cons.mp hb with z | z
 · subst z; exact nx _ (Nat.le_succ _)
 · have z := List.mem_singleton.mp z
   subst z; exact nx _ (Nat.le_refl _)
theorem pi_zip {a b : Expr} {ta : TA} {p pos : Pos} (hg : Gl X "zip") (hm : X.mg "zip" = none) (ha : PA X [a, b] ta) (hs : starEach [a, b] X.env = [(false, eval a X.env), (false, eval b X.env)] := by rfl) (hs2 : starEach [b] X.env = [(false, eval b X.env)] := by rfl) :
 PI X (.Tuple elts ek epos) (.Call (.Name "zip" p) [a, b] [] pos) (iZip X.K ta) := by
 intro pins s σ H R I h
 refine Call_ (ld_blt I hg hm boot_zip (PyProof.Rows.callWith_type1 (thn (ha pos pins s σ H _ I h) fun us s1 ⟨vs, H1, I1, r1, q1⟩ => ?_) (by rw [hs, hs2]) (by rw [hs2]; rfl)))
 obtain ⟨l, l', xs, ys, rfl, hl, hl', q⟩ := q1
 obtain ⟨u, v, rfl, ru, rv'⟩ := vals2 r1
 cases ru
 cases rv'
 obtain ⟨its, rv, pl, hz⟩ := id (I1.list hl)
 obtain ⟨its', rv', pl', hz'⟩ := id (I1.list hl')
 have hll : l < s1.heap.objs.size := by obtain ⟨o, z, _⟩ := pl.isList; exact Heap.lt_size z
 have hll' : l' < s1.heap.objs.size := by obtain ⟨o, z, _⟩ := pl'.isList; exact Heap.lt_size z
 refine call_zip_2 pl.isList pl'.isList fun hp g1 g2 g3 g4 g5 hsz hk => ?_
 have I2 : Inv X pins σ H1 { s1 with heap := hp } := I1.kept (t' := s1.toks) hk
 have nx : ∀ b, s1.heap.objs.size ≤ b → FpOk X pins H1 b := fun b hb => I1.fpOk hb (I1.hok.fresh hb)
 generalize s1.heap.objs.size = n at *
 have D : ZipApart (n + 4) (n + 2) (n + 3) n (n + 1) l l' := zipApart_new hll hll'
 refine wpAny_pyIter_zip g1 ⟨_, [n + 4, n + 2, n + 3, n, n + 1], _, _, H1, rfl, I2, turn_zip D, ⟨g1, g2, ⟨_, _, g3⟩, g4, g5⟩, fun b hb => ?_, q⟩
 have le : ∀ m, n ≤ n + m := fun m => Nat.le_add_right n m
 simp at hb
 rcases hb with rfl | rfl | rfl | rfl | rfl
 · exact nx _ (le 4)
 · exact nx _ (le 2)
 · exact nx _ (le 3)
 · exact nx _ (Nat.le_refl _)
 · exact nx _ (le 1)
end
section
variable {X : Cx}
end
end L2

namespace L2
open PySem PySem.Spec PyProof.Rows
noncomputable def Fnd (K : PySem.W.Frag) (mg : Str → Option Value) (nm : Str) (st : Stmt) (ps : List Str) : Prop := ∃ (f : Addr) (fd : FuncData), Fun K nm nm st f fd ∧ mg nm = some (.ref f) ∧ Binds K fd ps []
noncomputable def Def (P : Program) (w : World) (K : PySem.W.Frag) (mg : Str → Option Value) (base : Heap) (k : Nat) (nm : Str) (ps : List Str) (sp : Sp) : Prop :=
 ∃ (f : Addr) (fd : FuncData), PySem.W.keepIn K (.ref f) = true ∧ mg nm = some (.ref f) ∧ Binds K fd ps [] ∧ FnOk P w K mg base CX0 k f fd ps sp
theorem Fnd.def {P : Program} {w : World} {K : PySem.W.Frag} {mg : Str → Option Value} {base : Heap} {k : Nat} {nm : Str} {st : Stmt} {ps : List Str} {sp : Sp} (S : Fnd K mg nm st ps) (h : ∀ f fd, Fun K nm nm st f fd → FnOk P w K mg base CX0 k f fd ps sp) : Def P w K mg base k nm ps sp := by
 obtain ⟨f, fd, F, m, b⟩ := S
 exact ⟨f, fd, F.kp, m, b, h f fd F⟩
theorem Def.imp {P : Program} {w : World} {K : PySem.W.Frag} {mg : Str → Option Value} {base : Heap} {k : Nat} {nm : Str} {ps : List Str} {sp sp' : Sp} (D : Def P w K mg base k nm ps sp) (h : ∀ vs H Q E, sp' vs H Q E → sp vs H Q E) : Def P w K mg base k nm ps sp' := by
 obtain ⟨f, fd, a, b, c, F⟩ := D
 exact ⟨f, fd, a, b, c, F.imp h⟩
section
variable {X : Cx}
theorem pe_def {k : Nat} {nm : Str} {ps : List Str} {sp : Sp} {e : Expr} {es : List Expr} {t : TA} {p pos : Pos} (hg : Gl X nm) (he : starEach (e :: es) X.env = (false, eval e X.env) :: starEach es X.env) (hpl : (backTo pos (starEach es X.env)).any (·.1) = false) (hdb : (nm == ("__debug__" : Str)) = false)
 (D : Def X.prog X.w X.K X.mg X.base k nm ps sp) (hr : Room k X.A) (ha : PA X (e :: es) t) :
 PE X (.Call (.Name nm p) (e :: es) [] pos) (tCall sp [] E0 t) := by
 obtain ⟨f, fd, a, b, c, F⟩ := D
 exact pe_call F hr hg b a c .nil pass0 ha hdb he hpl
theorem pt_truthX {a : Expr} {ta : TE} (he : ∀ whole, isTrue a X.env whole = (do let v ← whole; standAt a.pos; holding [v] (truthy v))) (ha : PE X a ta) : PT X a (fun σ H Q => ta σ H fun x H' => ∃ k, TruV X.K x H' k ∧ Q k H') := pt_truth ha he
theorem pi_enLK {K : PySem.W.Frag} {elts : List Expr} {ek : Nat} {epos : Pos} {a : Expr} {ta : TA} {p pos : Pos} (hg : Gl X "enumerate") (hs : starEach [a] X.env = [(false, eval a X.env)]) (e : X.K = K) (hm : X.mg "enumerate" = none) (ha : PA X [a] ta) : PI X (.Tuple elts ek epos) (.Call (.Name "enumerate" p) [a] [] pos) (iEnL K ta) := e ▸ pi_enL hg hm ha hs
theorem pi_zipK {K : PySem.W.Frag} {elts : List Expr} {ek : Nat} {epos : Pos} {a b : Expr} {ta : TA} {p pos : Pos} (hg : Gl X "zip") (hs : starEach [a, b] X.env = [(false, eval a X.env), (false, eval b X.env)]) (hs2 : starEach [b] X.env = [(false, eval b X.env)]) (e : X.K = K) (hm : X.mg "zip" = none) (ha : PA X [a, b] ta) :
 PI X (.Tuple elts ek epos) (.Call (.Name "zip" p) [a, b] [] pos) (iZip K ta) := e ▸ pi_zip hg hm ha hs hs2
end
section
variable {K : PySem.W.Frag} {a b D : Addr} {xs zs : List V} {g : TG} {tt : TT} {te : TE} {σ0 : St} {H0 : Hp} {Q : VK}
theorem comp_enL (Pv : Nat → List V → St → Hp → Prop) (h0 : Pv 0 [] σ0 H0) (hl : ∀ i ys σ H, Pv i ys σ H → SqL K H a xs ∧ H D = some (.lst ys))
 (hs : ∀ i x ys σ H T G, xs[i]? = some x → i < xs.length → Pv i ys σ H → H T = none → Same H G → G T = some (.tup [.int i, x]) → g (.ref T) σ G fun σ3 H3 => tt σ3 H3 fun b H4 => if b = true then
  te σ3 H4 fun y H5 => H5 D = some (.lst ys) ∧ ys.length < sizeLine ∧ ∃ m', m' < xs.length - i ∧ Wt Pv xs.length (i + 1) m' (ys ++ [y]) σ3 (upd H5 D (.lst (ys ++ [y]))) else ∃ m', m' < xs.length - i ∧ Wt Pv xs.length (i + 1) m' ys σ3 H4)
 (hd : ∀ ys σ H, Pv xs.length ys σ H → Q (.ref D) H) : CompW (ItEL K a) D g tt te Q σ0 H0 := by
 refine ⟨Wt Pv xs.length, ⟨xs.length, rfl, Nat.zero_le _, h0⟩, ?_⟩
 rintro i m ys σ' H' ⟨rfl, hi, p⟩
 obtain ⟨hq, hD⟩ := hl i ys σ' H' p
 refine ⟨hD, ?_⟩
 by_cases hlt : i < xs.length
 · refine .inr ⟨⟨xs, xs[i], hq, by simp [hlt]⟩, fun x H2 y => ?_⟩
   obtain ⟨T, u, v, rfl, hT, rfl, rfl, hv⟩ := y
   exact hs i v ys σ' H' T _ (hv xs hq) hlt p hT (Same.new hT) upd_same
 · have e : i = xs.length := by omega
   subst e
   exact .inl ⟨⟨xs, hq, rfl⟩, hd ys σ' H' p⟩
theorem comp_zip (hlen : zs.length = xs.length) (Pv : Nat → List V → St → Hp → Prop) (h0 : Pv 0 [] σ0 H0) (hl : ∀ i ys σ H, Pv i ys σ H → SqL K H a xs ∧ SqL K H b zs ∧ H D = some (.lst ys))
 (hs : ∀ i x z ys σ H T G, xs[i]? = some x → zs[i]? = some z → i < xs.length → Pv i ys σ H → H T = none → Same H G → G T = some (.tup [x, z]) → g (.ref T) σ G fun σ3 H3 => tt σ3 H3 fun b H4 => if b = true then
  te σ3 H4 fun y H5 => H5 D = some (.lst ys) ∧ ys.length < sizeLine ∧ ∃ m', m' < xs.length - i ∧ Wt Pv xs.length (i + 1) m' (ys ++ [y]) σ3 (upd H5 D (.lst (ys ++ [y]))) else ∃ m', m' < xs.length - i ∧ Wt Pv xs.length (i + 1) m' ys σ3 H4)
 (hd : ∀ ys σ H, Pv xs.length ys σ H → Q (.ref D) H) : CompW (ItZ K a b) D g tt te Q σ0 H0 := by
 refine ⟨Wt Pv xs.length, ⟨xs.length, rfl, Nat.zero_le _, h0⟩, ?_⟩
 rintro i m ys σ' H' ⟨rfl, hi, p⟩
 obtain ⟨hq, hq', hD⟩ := hl i ys σ' H' p
 refine ⟨hD, ?_⟩
 by_cases hlt : i < xs.length
 · refine .inr ⟨⟨xs, zs, xs[i], zs[i], hq, hq', by simp [hlt], by simp [hlt, hlen]⟩, fun x H2 y => ?_⟩
   obtain ⟨T, u, v, rfl, hT, rfl, hu, hv⟩ := y
   exact hs i u v ys σ' H' T _ (hu xs hq) (hv zs hq') hlt p hT (Same.new hT) upd_same
 · have e : i = xs.length := by omega
   subst e
   exact .inl ⟨⟨xs, zs, hq, hq', rfl, hlen⟩, hd ys σ' H' p⟩
end
structure Txt (mg : Str → Option Value) : Prop where
 abs : mg "abs" = none
 isi : mg "isinstance" = none
 tup : mg "tuple" = none
 int : mg "int" = none
 bool : mg "bool" = none
 lst : mg "list" = none
 enu : mg "enumerate" = none
 len : mg "len" = none
 range : mg "range" = none
 srt : mg "sorted" = none
 sum : mg "sum" = none
 zip : mg "zip" = none
 max : mg "max" = none
noncomputable def spMadeS : Sp := fun vs H Q _ => ∃ x y : Int, vs = [.int x, .int y] ∧ y ≠ 0 ∧ Sz 8000 x ∧ Sz 8000 y ∧ ∀ (p : Addr) (H' : Hp), Same H H' → H' p = some (.tup [.int (Pw.mk x y).1, .int (Pw.mk x y).2]) → Q (.ref p) H'
set_option genInjectivity false in
structure Gv (K : PySem.W.Frag) (H : Hp) (w lp ls : Addr) (pages : Int) (ps : List (Int × Int)) (A : Int × Int) (Bs : List (Int × Int)) (us : List V) : Prop where
 web : WebAt K H w pages ps
 few : ps.length ≤ 100
 lk : ∀ p ∈ ps, 0 ≤ p.1 ∧ p.1 < pages ∧ 0 ≤ p.2 ∧ p.2 < pages
 leap : FrA K H lp A
 ca : Pw.Canon A
 sa : Sz2 100 A
 leaps : H ls = some (.tup us)
 row : FrL K H Bs us
 cb : Pw.Canons Bs
 sb : ∀ B ∈ Bs, Sz2 600 B
 len : (Bs.length : Int) = pages
 plo : 1 ≤ pages
 phi : pages ≤ 13
theorem Gv.same {K : PySem.W.Frag} {H H' : Hp} {w lp ls : Addr} {pages : Int} {ps : List (Int × Int)} {A : Int × Int} {Bs : List (Int × Int)} {us : List V} (g : Gv K H w lp ls pages ps A Bs us) (s : Same H H') : Gv K H' w lp ls pages ps A Bs us :=
 { g with web := g.web.same s, leap := s _ _ g.leap, leaps := s _ _ g.leaps, row := g.row.same s }
end L2

namespace L2
open PySem PySem.Spec PyProof.Rows
section
variable {X : Cx}
theorem ps_compSet {i : Nat} {x : Str} {pos' pos2 : Pos} {tg iter elt : Expr} {ifs : List Expr} {scope : Scope} {pos : Pos} {N' : List Str} {ks : List (Option Nat)} {cl : List (Str × Addr)} {wi : TI} {g : TG} {tt : TT} {te : TE}
 (hsw : swapsWith (.ListComp elt [⟨tg, iter, ifs, 0⟩] scope pos) (some (.Name x pos')) pos2.line X.env = pure true) (hN : X.N.Nodup) (hxi : X.N[i]? = some x) (hxl : X.env.scope.names.lookup x = some .local)
 (hcalm : X.calm = true) (hi : PI X tg iter wi) (hclos : closureFor scope X.env = pure cl) (hcl : ∀ x c, cl.lookup x = some c → X.env.cells.lookup x = some c)
 (hcell : ∀ y ∈ scope.names, y.2 ≠ .cell) (hkind : scope.kind = .function) (hnames : ∀ y ∈ scope.names, y.2 = .local → scope.names.lookup y.1 = some .local)
 (hhas : ∀ x, ((relabel scope X.env).names.lookup x = some .cell ∨ (relabel scope X.env).names.lookup x = some .free) → ∃ c, cl.lookup x = some c)
 (hcap : Cap X (relabel scope X.env) N' ks)
 (hg : ∀ C s H fp, PG (compX X N' scope cl C s H fp) tg g) (ht : ∀ C s H fp, PTs (compX X N' scope cl C s H fp) ifs tt) (he : ∀ C s H fp, PE (compX X N' scope cl C s H fp) elt te)
 (hs : ∀ x, foldedSetIterable iter X.env x = pure x := by intro _; rfl) : PS X (.Assign [.Name x pos'] (.ListComp elt [⟨tg, iter, ifs, 0⟩] scope pos) pos2) (tAsg (tComp wi ks g tt te) (gName i)) := by
 intro pins s σ H DD I h
 let Q : VK := fun v H1 => DD.nx (σ.set i (some v)) H1
 have h : tComp wi ks g tt te σ H Q := h
 rw [exec_Assign_Name_used _ _ _ _ hsw]
 refine wpAny_bind (wpAny_standAt (wpAny_bind ?_))
 show wpAny _ _ (do let _ ← comprehension (.ListComp elt [⟨tg, iter, ifs, 0⟩] scope pos) scope X.env _ (newList []) false (eval iter X.env) (some (assign (.Name x pos') X.env))) _ _ s
 refine wpAny_bind (wpAny_mono (wpAny_comprehension_free (use := some (assign (.Name x pos') X.env)) (Q := fun _ s' => SP X pins DD .next s') rfl hs hclos hkind hnames (thn (hi pins s σ H _ I h) fun v s1 h1 => thn h1 fun itv s2 h2 => ?_)) (fun _ s' hq => wpAny_pure (wpAny_pure hq)) fun _ _ z => z)
 obtain ⟨it, fp, tn, J, H2, e, I2, T, st2, f2, R⟩ := h2
 subst e
 refine wpAny_newObj_type (wpAny_newFunctionEnv hcell (by intro y hy; simp at hy) (fun h₁ hns₁ hsb₁ => ?_) hkind)
 dsimp only at hns₁ hsb₁ ⊢
 have hD : H2 s2.heap.objs.size = none := I2.hok.fresh (Nat.le_refl _)
 obtain ⟨W, ⟨m0, w0⟩, turn⟩ := R _ hD
 generalize hs3 : ({ s2 with heap := s2.heap.push { cls := .type "list", dict := none, data := .seq ([] : List Value).toArray } } : Shared) = s3
 have e3 : s3.heap = s2.heap.push { cls := .type "list", dict := none, data := .seq ([] : List Value).toArray } := by rw [← hs3]
 have I3 : Inv X pins σ (upd H2 s2.heap.objs.size (.lst [])) s3 := by
  rw [← hs3]
  exact I2.laid (t' := s2.toks) (fun b o e => Heap.get?_push_of_some _ e) (Nat.le_refl _) ⟨Nat.zero_le _, [], 0, .nil, Heap.get?_push_size _ rfl⟩
 generalize hD0 : s2.heap.objs.size = D at *
 generalize hH3 : upd H2 D (.lst []) = H3 at *
 rw [← e3] at hns₁ hsb₁ ⊢
 -- what newFunctionEnv keeps
 have kp : ∀ b o, s3.heap.get? b = some o → h₁.get? b = some o := fun b o e => hsb₁.extBut b o (Nat.ne_of_lt (Heap.lt_size e)) (Heap.get?_push_of_some _ e)
 have f3 : ∀ b ∈ fp, FpOk X pins H3 b ∧ b < s3.heap.objs.size := fun b hb => by
  obtain ⟨o, ho, _⟩ := T.obj 0 _ st2 b hb
  have hlt : b < D := by rw [← hD0]; exact Heap.lt_size ho
  refine ⟨⟨?_, (f2 b hb).2⟩, ?_⟩
  · rw [← hH3, upd_ne (Nat.ne_of_lt hlt)]; exact (f2 b hb).1
  · rw [e3, Heap.size_push, hD0]; exact Nat.lt_succ_of_lt hlt
 have st3 : tn 0 h₁ := T.keep 0 s2.heap h₁ st2 fun b hb o e => kp b o (by rw [e3]; exact Heap.get?_push_of_some _ e)
 have capK : ∀ x c, cl.lookup x = some c → X.env.cells.lookup x = some c := hcl
 have stkne : ∀ b ∈ fp, b ∉ frs X.stack := fun b hb z => by
  rcases List.mem_cons.mp (I3.stkSub b z) with e | e
  · exact (f3 b hb).1.2.1 e
  · exact (f3 b hb).1.2.2.1 e
 have Cfresh : H3 s3.heap.objs.size = none := I3.hok.fresh (Nat.le_refl _)
 have ok' : (compX X N' scope cl s3.heap.objs.size s3 H3 fp).Ok := by
  refine ⟨I3.ok.mod, hkind, I3.ok.glob, I3.ok.blt, Nat.le_refl _, fun x y c h1 h2 => I3.ok.inj x y c (capK x c h1) (capK y c h2), fun x hx => hhas x hx, fun x c hf _ => absurd (show false = true from hf) Bool.false_ne_true, fun z => I3.ok.hd z, I3.ok.frames, .inl rfl,
   fun b hb => ⟨Nat.ne_of_lt (f3 b hb).2, fun x c e => (f3 b hb).1.2.2.2.2.1 x c (capK x c e)⟩, I3.bs, Nat.le_trans I3.ok.bsz I3.sz, fun b o e hb => ?_, fun b hb => stkne b hb, I3.stack, I3.stkFree⟩
  rcases (f3 b hb).1.2.2.2.1 with z | z
  · exact I3.ok.noex b o e z
  · exact absurd (Nat.lt_of_lt_of_le (Heap.lt_size e) (Nat.le_trans I3.ok.bsz z)) (Nat.lt_irrefl _)
 have I4 : Inv (compX X N' scope cl s3.heap.objs.size s3 H3 fp) [] (capt ks σ) H3 { s3 with heap := h₁, toks := s3.toks + ([] : List (Str × Value)).length } := by
  refine ⟨ok', rfl, I3.bare, Un.kept kp, ⟨_, hns₁, fun i x v e1 e2 e3' => ?_⟩, fun x c e => ?_, Cfresh, fun x c e => I3.freeC x c (capK x c e), fun p hp => absurd (show p ∈ ([] : List (Addr × Obj)) from hp) (by simp), I3.hok.kept kp, ?_⟩
  · have e2' : (capt ks σ)[i]? = some (some v) := e2
    unfold capt at e2'
    rw [List.getElem?_map] at e2'
    cases hk : ks[i]? with
    | none => rw [hk] at e2'; cases e2'
    | some o =>
      rw [hk] at e2'
      cases o with
      | none => cases e2'
      | some k =>
        have ev : σ.getD k none = some v := Option.some.inj e2'
        obtain ⟨c1, c2, c3⟩ := hcap.get e1 hk
        obtain ⟨m, hn, hl⟩ := I3.loc
        have es : σ[k]? = some (some v) := by
         rw [List.getD_eq_getElem?_getD] at ev
         cases q : σ[k]? with
         | none => rw [q] at ev; cases ev
         | some z => rw [q] at ev; exact congrArg some ev
        obtain ⟨u, r, l⟩ := hl k x v c1 es (.inr (.inl c2))
        refine ⟨u, r, .inr ⟨c3, ?_⟩⟩
        rcases l with ⟨l1, _⟩ | ⟨_, c, l2, l3⟩
        · have l1' : X.env.scope.names.lookup x = some .local := l1
          rw [c2] at l1'; cases l1'
        · obtain ⟨c', hc'⟩ := hhas x c3
          have : X.env.cells.lookup x = some c' := capK x c' hc'
          rw [l2] at this
          cases this
          refine ⟨c, hc', ?_⟩
          obtain ⟨o, ho, hd⟩ := l3
          exact ⟨o, kp c o ho, hd⟩
  · obtain ⟨v, o, ho, hd⟩ := I3.cell x c (capK x c e)
    exact ⟨v, o, kp c o ho, hd⟩
  · show (capt ks σ).length = N'.length
    unfold capt
    rw [List.length_map, hcap.len]
 -- behind the block
 have Cne : ∀ p ∈ X.pn ++ pins, p.1 ≠ s3.heap.objs.size := fun p hp => Nat.ne_of_lt (Heap.lt_size (I3.pin p hp).1)
 have back : ∀ {σ' : St} {H' : Hp} {s' : Shared}, Inv (compX X N' scope cl s3.heap.objs.size s3 H3 fp) [] σ' H' s' → ∀ h'' : Heap, Heap.SameBut s3.heap.objs.size s'.heap h'' → Inv X pins σ H' { s' with heap := h'' } := fun {σ' H' s'} I' h'' sb => by
  have J1 : Inv X pins σ H' s' := I3.call' (ch := fp) I'.os I'.base I'.hok I'.bare fun b hb => ⟨(f3 b hb).1.2.2.2.1, (f3 b hb).1.2.1, (f3 b hb).1.2.2.2.2.1, (f3 b hb).1.2.2.2.2.2⟩
  refine J1.turned (t' := s'.toks) (it := s3.heap.objs.size) (fun b o hb e => (sb.2 b hb).trans e) I'.free (Nat.ne_of_gt I3.lt) (.inr I3.sz) (fun x c e => ?_) Cne
  obtain ⟨v, q⟩ := I3.cell x c e
  exact Nat.ne_of_lt q.lt
 have fpok : ∀ {H' : Hp}, (∀ b ∈ fp, H' b = none) → ∀ b ∈ fp, FpOk (compX X N' scope cl s3.heap.objs.size s3 H3 fp) [] H' b := fun hn b hb =>
  ⟨hn b hb, Nat.ne_of_lt (f3 b hb).2, stkne b hb, .inl hb, fun x c e => (f3 b hb).1.2.2.2.2.1 x c (capK x c e), fun p hp => absurd (show p ∈ ([] : List (Addr × Obj)) from hp) (by simp)⟩
 have loop : codeAny (model X.prog X.w) X.A (.compLoop (.ListComp elt [⟨tg, iter, ifs, 0⟩] scope pos) 0 (.ref it) (.ref D) (compEnvC scope cl s3.heap.objs.size X.env))
  (compPost (model X.prog X.w) X.A X.xe (some (assign (.Name x pos') X.env)) (fun _ s' => SP X pins DD .next s') (.ref D) s3.heap.objs.size) { s3 with heap := h₁, toks := s3.toks + ([] : List (Str × Value)).length } := by
  refine compLoop_any (fun n s' => ∃ i ys σ' H', Inv (compX X N' scope cl s3.heap.objs.size s3 H3 fp) [] σ' H' s' ∧ tn i s'.heap ∧ (∀ b ∈ fp, H' b = none) ∧ W i n ys σ' H') ?_ m0 ⟨0, [], _, _, I4, st3, fun b hb => (f3 b hb).1.1, w0⟩
  rintro n s5 ⟨i, ys, σ5, H5, I5, st5, fr5, w5⟩
  obtain ⟨hD5, tq⟩ := turn i n ys σ5 H5 w5
  rcases tq with ⟨stop, q⟩ | ⟨go, step⟩
  · refine thn (T.done (compX X N' scope cl s3.heap.objs.size s3 H3 fp) rfl rfl rfl hcalm i [] s5 σ5 H5 _ I5 (fpok fr5) st5 stop) fun r s6 ⟨hr, I6⟩ => ?_
    subst hr
    obtain ⟨m, hn, _⟩ := I6.loc
    have J1 : Inv X pins σ H5 s6 := I3.call' (ch := fp) I6.os I6.base I6.hok I6.bare fun b hb => ⟨(f3 b hb).1.2.2.2.1, (f3 b hb).1.2.1, (f3 b hb).1.2.2.2.2.1, (f3 b hb).1.2.2.2.2.2⟩
    have cL : ∀ y c, X.env.cells.lookup y = some c → c ≠ s3.heap.objs.size := fun y c e => by
     obtain ⟨v, q⟩ := I3.cell y c e
     exact Nat.ne_of_lt q.lt
    refine wpAny_assign_Name (store_ok2 (v := .ref D) J1 hN hxi (.inl hxl) rfl (fun s7 I7 sb7 => ?_) (.inr hxl))
    obtain ⟨a, sba, ha⟩ := sb7
    have nC : s3.heap.objs.size ≠ a := fun z => by
     rcases ha with e | e
     · exact Nat.ne_of_gt I3.lt (z.trans e)
     · exact cL _ _ e z.symm
    refine ⟨m, hn.at' fun o e => (sba.2 _ nC).trans e, fun h'' sb => ⟨_, H5, ?_, q⟩⟩
    exact I7.turned (t' := s7.toks) (it := s3.heap.objs.size) (fun b o hb e => (sb.2 b hb).trans e) I6.free (Nat.ne_of_gt I3.lt) (.inr I3.sz) cL Cne
  · refine thn (T.item (compX X N' scope cl s3.heap.objs.size s3 H3 fp) rfl rfl rfl hcalm i [] s5 σ5 H5 _ I5 (fpok fr5) st5 go) fun r s6 ⟨u, hr, h6⟩ => ?_
    subst hr
    refine thn h6 fun _ s7 ⟨x, H7, I7, r7, y7, st7, fr7⟩ => ?_
    have I7' := I7.pinned (fpok fr7) (T.obj _ _ st7)
    refine thn (hg _ _ _ _ _ s7 σ5 H7 x u _ I7' r7 (step x H7 y7)) fun _ s8 ⟨σ8, H8, I8, q8⟩ => ?_
    refine thn (ht _ _ _ _ _ s8 σ8 H8 _ I8 q8) fun ok s9 ⟨H9, I9, q9⟩ => ?_
    have again : ∀ {σ' : St} {H' : Hp} {s' : Shared} {ys' : List V}, Inv (compX X N' scope cl s3.heap.objs.size s3 H3 fp) ([] ++ pinsAt fp s7.heap) σ' H' s' → (∃ m', m' < n ∧ W (i + 1) m' ys' σ' H') →
     ∃ m', m' < n ∧ ∃ i ys σ' H', Inv (compX X N' scope cl s3.heap.objs.size s3 H3 fp) [] σ' H' s' ∧ tn i s'.heap ∧ (∀ b ∈ fp, H' b = none) ∧ W i m' ys σ' H' := fun {σ' H' s' ys'} I' hw => by
     obtain ⟨m', hm, w'⟩ := hw
     refine ⟨m', hm, i + 1, ys', σ', H', I'.unpinned, T.keep _ _ _ st7 fun b hb o e => (I'.pin (b, o) (List.mem_append_right _ (List.mem_append_right _ (mem_pinsAt hb e)))).1, fun b hb => ?_, w'⟩
     obtain ⟨o, e, d⟩ := T.obj _ _ st7 b hb
     exact (I'.pin (b, o) (List.mem_append_right _ (List.mem_append_right _ (mem_pinsAt hb e)))).2.1
    cases ok with
    | false =>
      rw [if_neg Bool.false_ne_true] at q9 ⊢
      exact again I9 q9
    | true =>
      rw [if_pos rfl] at q9 ⊢
      refine thn (he _ _ _ _ _ s9 σ8 H9 _ I9 q9) fun y s10 ⟨yv, H10, I10, r10, q10, z10, w10⟩ => ?_
      refine thn (mt_append _ s10 σ8 H10 (.ref D) [yv] (.ref D) [y] (fun v H' => v = .non ∧ H' = upd H10 D (.lst (ys ++ [yv]))) I10 rfl (.cons r10 .nil) ⟨D, ys, yv, rfl, rfl, q10, z10, rfl, rfl⟩) fun _ s11 ⟨_, H11, I11, _, _, e11⟩ => ?_
      subst e11
      exact again I11 w10
 have es : ({ s3 with heap := h₁, toks := s3.toks + ([] : List (Str × Value)).length } : Shared) = { s2 with heap := h₁, toks := s2.toks + ([] : List (Str × Value)).length } := by rw [← hs3]
 rw [es] at loop
 exact codeAny_compStart_list loop (T.self _ 0 _ _ _ st3 loop)
theorem ps_setC {x : Str} {pos' pos2 : Pos} (i : Nat) {tg iter elt : Expr} {ifs : List Expr} {scope : Scope} {pos : Pos} (N' : List Str) (ks : List (Option Nat)) {wi : TI} {g : TG} {tt : TT} {te : TE}
 (hsw : swapsWith (.ListComp elt [⟨tg, iter, ifs, 0⟩] scope pos) (some (.Name x pos')) pos2.line X.env = pure true) (hN : X.N.Nodup) (hxi : X.N[i]? = some x) (hxl : X.env.scope.names.lookup x = some .local)
 (hcalm : X.calm = true) (hi : PI X tg iter wi) (hfree : ∀ y ∈ scope.names, y.2 = .free → X.env.scope.names.lookup y.1 = some .cell)
 (hcell : ∀ y ∈ scope.names, y.2 ≠ .cell) (hkind : scope.kind = .function) (hnames : ∀ y ∈ scope.names, y.2 = .local → scope.names.lookup y.1 = some .local)
 (hcap : Cap X (relabel scope X.env) N' ks)
 (hg : ∀ cl C s H fp, PG (compX X N' scope cl C s H fp) tg g) (ht : ∀ cl C s H fp, PTs (compX X N' scope cl C s H fp) ifs tt) (he : ∀ cl C s H fp, PE (compX X N' scope cl C s H fp) elt te)
 (hs : ∀ x, foldedSetIterable iter X.env x = pure x := by intro _; rfl) : PS X (.Assign [.Name x pos'] (.ListComp elt [⟨tg, iter, ifs, 0⟩] scope pos) pos2) (tAsg (tComp wi ks g tt te) (gName i)) := by
 intro pins s σ H D I h
 obtain ⟨cl, e1, e2, e3⟩ := closure_ok (scope := scope) (env := X.env) fun y hy hf => I.ok.has y.1 (.inl (hfree y hy hf))
 refine ps_compSet hsw hN hxi hxl hcalm hi e1 e2 hcell hkind hnames (fun x hx => ?_) hcap (hg cl) (ht cl) (he cl) hs pins s σ H D I h
 have key : ∀ k, (x, k) ∈ (relabel scope X.env).names → k = .cell ∨ k = .free → (x, NameKind.free) ∈ scope.names := fun k hm hk => by
  unfold relabel at hm
  obtain ⟨⟨n, k'⟩, hy, e⟩ := List.mem_map.mp hm
  dsimp only at e
  split at e
  · rename_i hc
    cases e
    have : k' = .free := by simp at hc; exact hc.1.1
    rw [← this]; exact hy
  · cases e
    rcases hk with rfl | rfl
    · exact absurd rfl (hcell _ hy)
    · exact hy
 rcases hx with hx | hx
 · exact e3 x (key _ (PySem.mem_of_lookup hx) (.inl rfl))
 · exact e3 x (key _ (PySem.mem_of_lookup hx) (.inr rfl))
end
end L2

namespace L2
open PySem PySem.Spec PyProof.Rows
theorem tupD_refl (As : List (Int × Int)) : eqDs (As.map tupD) (As.map tupD) = true := (eqDs_prs As As).trans (by simp)
section
variable {K : PySem.W.Frag} {H : Hp} {p q : Addr} {W V' : List (Int × Int)} {xs ys : List V} {Q : VK}
theorem neTT (h1 : SqT K H p xs) (h2 : SqT K H q ys) (f1 : FrL K H W xs) (f2 : FrL K H W ys) (k : Q (.bl false) H) : rEqD K true (.ref p) (.ref q) H Q :=
 ⟨p, q, _, _, _, _, rfl, rfl, .inl ⟨h1, h2⟩, f1.dens, f2.dens, FrL.dep _, by rw [if_pos rfl, tupD_refl]; exact k⟩
end
theorem mem_getD {Bs : List (Int × Int)} {t : Nat} (h : t < Bs.length) : Bs.getD t (0, 1) ∈ Bs := by
 rw [List.getD_eq_getElem?_getD, List.getElem?_eq_getElem h]
 exact List.getElem_mem h
end L2

namespace Pw
theorem cpos {d : Int} (h : 0 < d) : (0 : Rat) < (d : Rat) := by
 have : ((0 : Int) : Rat) < (d : Rat) := Rat.intCast_lt_intCast.mpr h
 simpa using this
theorem cnn {d : Int} (h : 0 ≤ d) : (0 : Rat) ≤ (d : Rat) := by
 have : ((0 : Int) : Rat) ≤ (d : Rat) := Rat.intCast_le_intCast.mpr h
 simpa using this
theorem mul_le_r {a b c : Rat} (h : a ≤ b) (hc : 0 ≤ c) : a * c ≤ b * c := Rat.mul_le_mul_of_nonneg_right h hc
theorem mul_nn {a b : Rat} (ha : 0 ≤ a) (hb : 0 ≤ b) : 0 ≤ a * b := by
 have := mul_le_r ha hb
 grind
theorem div_nn {a b : Rat} (ha : 0 ≤ a) (hb : 0 < b) : 0 ≤ a / b := by
 rw [Rat.div_def]
 exact mul_nn ha (Rat.le_of_lt (Rat.inv_pos.mpr hb))
theorem le_of_mul {a b c : Rat} (hc : 0 < c) (h : a * c ≤ b * c) : a ≤ b := Rat.le_of_mul_le_mul_right h hc
theorem val_nn {A : Int × Int} (h : 0 < A.2) (h1 : 0 ≤ A.1) : 0 ≤ val A := div_nn (cnn h1) (cpos h)
theorem val_le1 {A : Int × Int} (h : 0 < A.2) (h1 : A.1 ≤ A.2) : val A ≤ 1 := by
 have hp := cpos h
 refine le_of_mul hp ?_
 unfold val
 have : (A.1 : Rat) ≤ (A.2 : Rat) := Rat.intCast_le_intCast.mpr h1
 have e : (A.1 : Rat) / (A.2 : Rat) * (A.2 : Rat) = A.1 := by have := castne (d := A.2) (by omega); grind
 rw [e]
 grind
noncomputable def lcmI (w d : Int) : Int := (w.fdiv (Int.gcd w d : Int)) * d
theorem lcmI_eq {w d : Int} (hw : 0 < w) (hd : 0 < d) : lcmI w d = (Int.lcm w d : Int) := by
 unfold lcmI
 have hg := gpos (a := w) (b := d) (by omega)
 obtain ⟨u, hu⟩ := Int.gcd_dvd_left w d
 have e1 : w.fdiv (Int.gcd w d : Int) = u := by
  conv => lhs; lhs; rw [hu]
  rw [Int.fdiv_eq_ediv_of_nonneg _ (by omega), Int.mul_ediv_cancel_left _ (by omega)]
 rw [e1]
 have key : (Int.gcd w d : Int) * (Int.lcm w d : Int) = w * d := by
  have := Int.gcd_mul_lcm w d
  have h2 : ((Int.gcd w d * Int.lcm w d : Nat) : Int) = (((w * d).natAbs : Nat) : Int) := by rw [this, Int.natAbs_mul]
  have h3 : (((w * d).natAbs : Nat) : Int) = w * d := Int.natAbs_of_nonneg (Int.le_of_lt (Int.mul_pos hw hd))
  rw [← h3, ← h2]; push_cast; rfl
 refine Int.eq_of_mul_eq_mul_left (a := (Int.gcd w d : Int)) (by omega) ?_
 rw [key]
 conv => rhs; rw [hu]
 rw [Int.mul_assoc]
structure IsLcm (As : List (Int × Int)) (L : Int) : Prop where
 pos : 0 < L
 dvd : ∀ A ∈ As, A.2 ∣ L
 least : ∀ M : Int, 0 < M → (∀ A ∈ As, A.2 ∣ M) → L ∣ M
theorem IsLcm.nil : IsLcm [] 1 := ⟨by decide, by simp, fun M _ _ => Int.one_dvd M⟩
theorem IsLcm.snoc {As : List (Int × Int)} {L : Int} {A : Int × Int} (h : IsLcm As L) (hA : 0 < A.2) : IsLcm (As ++ [A]) (lcmI L A.2) := by
 rw [lcmI_eq h.pos hA]
 refine ⟨?_, fun B hB => ?_, fun M hM hd => ?_⟩
 · have := Int.lcm_pos (m := L) (n := A.2) (by have := h.pos; omega) (by omega)
   omega
 · rcases List.mem_append.mp hB with hB | hB
   · exact Int.dvd_trans (h.dvd B hB) (Int.dvd_lcm_left _ _)
   · rw [List.mem_singleton.mp hB]; exact Int.dvd_lcm_right _ _
 · have h1 := h.least M hM fun B hB => hd B (List.mem_append_left _ hB)
   have h2 := hd A (by simp)
   obtain ⟨m, rfl⟩ : ∃ m : Nat, M = m := ⟨M.toNat, by omega⟩
   exact Int.natCast_dvd_natCast.mpr (Int.lcm_dvd h1 h2)
theorem IsLcm.le {As : List (Int × Int)} {L M : Int} (h : IsLcm As L) (hM : 0 < M) (hd : ∀ A ∈ As, A.2 ∣ M) : L ≤ M := Int.le_of_dvd hM (h.least M hM hd)
noncomputable def abv (As : List (Int × Int)) (L : Int) : List Int := As.map fun A => A.1 * (L.fdiv A.2)
theorem abv_val {A : Int × Int} {L : Int} (hA : 0 < A.2) (hL : 0 < L) (h : A.2 ∣ L) : ((A.1 * (L.fdiv A.2) : Int) : Rat) = val A * (L : Rat) := by
 obtain ⟨u, rfl⟩ := h
 have e : (A.2 * u).fdiv A.2 = u := by rw [Int.fdiv_eq_ediv_of_nonneg _ (by omega), Int.mul_ediv_cancel_left _ (by omega)]
 rw [e]
 unfold val
 have := castne (d := A.2) (by omega)
 rw [Rat.intCast_mul, Rat.intCast_mul]
 grind
theorem qs_ints {f : Nat → Int} : ∀ n, qs n (fun i => ((f i : Int) : Rat)) = ((((List.range n).map f).sum : Int) : Rat)
 | 0 => by simp [qs]
 | n + 1 => by
   show qs n _ + _ = _
   rw [qs_ints n, List.range_succ, List.map_append, List.sum_append, Rat.intCast_add]
   simp
end Pw

namespace L2
open PySem PySem.Spec PyProof.Rows
noncomputable def Sq (b : Bool) (K : PySem.W.Frag) (H : Hp) (a : Addr) (xs : List V) : Prop := if b = true then SqL K H a xs else SqT K H a xs
noncomputable def ItB (b : Bool) (K : PySem.W.Frag) (a : Addr) : It := if b = true then Itl K a else Itt K a
noncomputable def iSeq (K : PySem.W.Frag) (tl : TE) : TI := fun σ H R => tl σ H fun x H1 => ∃ (b : Bool) (a : Addr), x = .ref a ∧ (∃ xs, Sq b K H1 a xs) ∧ R (ItB b K a) H1
theorem Sq.same {b : Bool} {K : PySem.W.Frag} {H H' : Hp} {a : Addr} {xs : List V} (h : Sq b K H a xs) (s : Same H H') : Sq b K H' a xs := by
 cases b
 · exact s.seqT h
 · exact s.seq h
theorem pi_seq {X : Cx} {tg l : Expr} {tl : TE} (hl : PE X l tl) : PI X tg l (iSeq X.K tl) := by
 intro pins s σ H R I h
 refine thn (hl pins s σ H _ I h) fun v s1 ⟨x, H1, I1, r1, q1⟩ => ?_
 obtain ⟨b, a, e, ⟨xs, hq⟩, q⟩ := q1
 subst e
 cases r1
 cases b with
 | true =>
   have hq : SqL X.K H1 a xs := hq
   have q : R (Itl X.K a) H1 := q
   obtain ⟨its, rv, p, hz⟩ := I1.list hq
   refine wpAny_pyIter_list p.isList ?_
   refine ⟨s1.heap.objs.size, [s1.heap.objs.size], _, _, H1, rfl, I1.kept (t' := s1.toks) fun b o e => Heap.get?_push_of_some _ e, turn_list a _, ⟨_, Heap.get?_push_size _ rfl, rfl, rfl⟩, fun b hb => ?_, q⟩
   have e : b = s1.heap.objs.size := by simpa using hb
   subst e
   exact I1.fpOk (Nat.le_refl _) (I1.hok.fresh (Nat.le_refl _))
 | false =>
   have hq : SqT X.K H1 a xs := hq
   have q : R (Itt X.K a) H1 := q
   obtain ⟨its, rv, p, hz⟩ := I1.tuple hq
   refine wpAny_pyIter_tuple (show s1.heap.IsTuple a its.toArray from p) ?_
   refine ⟨s1.heap.objs.size, [s1.heap.objs.size], _, _, H1, rfl, I1.kept (t' := s1.toks) fun b o e => Heap.get?_push_of_some _ e, turn_tuple a _, ⟨_, Heap.get?_push_size _ rfl, rfl, rfl⟩, fun b hb => ?_, q⟩
   have e : b = s1.heap.objs.size := by simpa using hb
   subst e
   exact I1.fpOk (Nat.le_refl _) (I1.hok.fresh (Nat.le_refl _))
section
variable {b : Bool} {K : PySem.W.Frag} {a D : Addr} {xs : List V} {g : TG} {tt : TT} {te : TE} {σ0 : St} {H0 : Hp} {Q : VK}
theorem comp_seq (Pv : Nat → List V → St → Hp → Prop) (h0 : Pv 0 [] σ0 H0) (hl : ∀ i ys σ H, Pv i ys σ H → Sq b K H a xs ∧ H D = some (.lst ys))
 (hs : ∀ i x ys σ H, xs[i]? = some x → i < xs.length → Pv i ys σ H → g x σ H fun σ3 H3 => tt σ3 H3 fun b H4 => if b = true then
  te σ3 H4 fun y H5 => H5 D = some (.lst ys) ∧ ys.length < sizeLine ∧ ∃ m', m' < xs.length - i ∧ Wt Pv xs.length (i + 1) m' (ys ++ [y]) σ3 (upd H5 D (.lst (ys ++ [y]))) else ∃ m', m' < xs.length - i ∧ Wt Pv xs.length (i + 1) m' ys σ3 H4)
 (hd : ∀ ys σ H, Pv xs.length ys σ H → Q (.ref D) H) : CompW (ItB b K a) D g tt te Q σ0 H0 := by
 cases b
 · exact comp_tup Pv h0 hl hs hd
 · exact comp_lst Pv h0 hl hs hd
end
theorem for_seq {b : Bool} {K : PySem.W.Frag} {a : Addr} {xs : List V} {g : TG} {tb : TS} {D : Ends} {σ : St} {H : Hp} (Pv : Nat → St → Hp → Prop) (h0 : Pv 0 σ H) (hl : ∀ i σ H, i ≤ xs.length → Pv i σ H → Sq b K H a xs)
 (hs : ∀ i x σ H, xs[i]? = some x → Pv i σ H → g x σ H fun σ2 H2 => tb { D with nx := Pv (i + 1), ct := Pv (i + 1), bk := D.nx } σ2 H2) (hd : ∀ σ H, Pv xs.length σ H → D.nx σ H) :
 ∃ W : Nat → Nat → St → Hp → Prop, (∃ m, W 0 m σ H) ∧ ∀ i m σ H, W i m σ H →
   ((ItB b K a).stop i H ∧ D.nx σ H) ∨ ((ItB b K a).go i H ∧ ∃ N : St → Hp → Prop, (∀ σ' H', N σ' H' → ∃ m', m' < m ∧ W (i + 1) m' σ' H') ∧ ∀ x H', (ItB b K a).yld i H x H' → g x σ H' fun σ2 H2 => tb { D with nx := N, ct := N, bk := D.nx } σ2 H2) := by
 cases b
 · exact for_tup Pv h0 hl hs hd
 · exact for_list Pv h0 hl hs hd
set_option genInjectivity false in
structure Pr (A : Int × Int) (Bs : List (Int × Int)) (S : Int) : Prop where
 a0 : 0 < A.1
 a1 : A.1 ≤ A.2
 nn : ∀ B ∈ Bs, 0 ≤ B.1
 one : Pw.qs Bs.length (fun t => Pw.val (Bs.getD t (0, 1))) = 1
 spos : 0 < S
 ssz : Sz 700 S
 sdvd : ∀ B ∈ Bs, B.2 ∣ S
end L2
namespace Pw
theorem fr_dvd {A : Int × Int} {n d : Int} (h : Fr A n d) : A.2 ∣ d := by
 have w := h.w
 have : A.2 ∣ A.1 * d := ⟨n, by rw [w]; exact Int.mul_comm ..⟩
 exact dvd_left this h.canon.2
theorem qs_ge {f : Nat → Rat} : ∀ {n k : Nat}, k < n → (∀ i, i < n → 0 ≤ f i) → f k ≤ qs n f
 | n + 1, k, hk, h => by
   show f k ≤ qs n f + f n
   by_cases e : k = n
   · subst e
     have := qs_nonneg (n := k) (f := f) fun i hi => h i (by omega)
     grind
   · have h1 := qs_ge (n := n) (k := k) (by omega) fun i hi => h i (by omega)
     have h2 := h n (by omega)
     grind
noncomputable def behQ (ps : List (Int × Int)) (A : Int × Int) (Bs Rs : List (Int × Int)) (n t : Nat) : Rat := qs n (fun i => val (Rs.getD i (0, 1)) * val ((waysL ps A Bs i).getD t (0, 1)))
end Pw

namespace L2
open PySem PySem.Spec PyProof.Rows
section
variable {X : Cx}
end
end L2

namespace L2
open PySem PySem.Spec PyProof.Rows
theorem fdiv_sz {k : Nat} {L g : Int} (hL : 0 < L) (hg : 0 < g) (z : Sz k L) : Sz k (L.fdiv g) := by
 have z' : L.natAbs < 2 ^ k := z
 show (L.fdiv g).natAbs < 2 ^ k
 rw [Int.fdiv_eq_ediv_of_nonneg _ (by omega)]
 have h1 : 0 ≤ L / g := Int.ediv_nonneg (by omega) (by omega)
 have h2 : L / g ≤ L := Int.ediv_le_self _ (by omega)
 omega
theorem le_sz {k : Nat} {x y : Int} (h0 : 0 ≤ x) (h : x ≤ y) (z : Sz k y) : Sz k x := by
 have z' : y.natAbs < 2 ^ k := z
 show x.natAbs < 2 ^ k
 omega
theorem gcd_le {x y : Int} (hy : 0 < y) : 0 < (Int.gcd x y : Int) ∧ (Int.gcd x y : Int) ≤ y :=
 ⟨Pw.gpos (by omega), Int.le_of_dvd hy (Int.gcd_dvd_right ..)⟩
noncomputable def spBelow (K : PySem.W.Frag) : Sp := fun vs H Q _ => ∃ (b : Bool) (a : Addr) (us : List V) (As : List (Int × Int)) (M : Int), vs = [.ref a] ∧ Sq b K H a us ∧ FrL K H As us ∧ (∀ A ∈ As, 0 < A.2) ∧ 0 < M ∧ Sz 8000 M ∧ (∀ A ∈ As, A.2 ∣ M) ∧ ∀ L, Pw.IsLcm As L → Q (.int L) H
noncomputable def spAboves (K : PySem.W.Frag) : Sp := fun vs H Q _ => ∃ (b : Bool) (a : Addr) (us : List V) (As : List (Int × Int)) (L : Int), vs = [.ref a, .int L] ∧ Sq b K H a us ∧ FrL K H As us ∧ As.length ≤ 100 ∧ (∀ A ∈ As, 0 < A.2 ∧ Sz2 8000 A) ∧ 0 < L ∧ Sz 8000 L ∧
 ∀ (p : Addr) (H' : Hp), Same H H' → H p = none → H' p = some (.lst ((Pw.abv As L).map V.int)) → Q (.ref p) H'
theorem IsLcm.takeM {As : List (Int × Int)} {L M : Int} (h : Pw.IsLcm As L) (hM : 0 < M) (hd : ∀ A ∈ As, A.2 ∣ M) {k : Nat} (z : Sz k M) : Sz k L := le_sz (Int.le_of_lt h.pos) (h.le hM hd) z
theorem sum_sz {k : Nat} : ∀ {ns : List Int}, (∀ n ∈ ns, Sz k n) → Sz (k + ns.length) ns.sum
 | [], _ => by show (0 : Int).natAbs < 2 ^ (k + 0); exact Nat.two_pow_pos _
 | n :: ns, h => by
   have h1 := sum_sz (ns := ns) fun m hm => h m (List.mem_cons_of_mem _ hm)
   have h2 := h n List.mem_cons_self
   rw [List.sum_cons]
   exact ((h2.mono (by omega)).add h1).mono (by rw [List.length_cons]; omega)
theorem getD_mapI {ns : List Int} {i : Nat} (h : i < ns.length) : ns[i]? = some (ns.getD i 0) := by
 rw [List.getD_eq_getElem?_getD, List.getElem?_eq_getElem h]; rfl
theorem Canons.pos {As : List (Int × Int)} (h : Pw.Canons As) : ∀ A ∈ As, 0 < A.2 := fun A hA => (h A hA).1
end L2

namespace L2
open PySem PySem.Spec PyProof.Rows
end L2
namespace Pw
end Pw

namespace L2
open PySem PySem.Spec PyProof.Rows
section
variable {ps : List (Int × Int)} {A : Int × Int} {Bs Rs : List (Int × Int)} {S D C : Int} {n : Nat}
end
end L2

namespace L2
open PySem PySem.Spec PyProof.Rows
end L2

namespace Pw
noncomputable abbrev Vec := Nat → Rat
noncomputable def expand (r : Vec) (D : List Nat → Rat) : List Nat → Rat
 | [] => 0
 | c :: cs => r c * D cs - expand r (fun l => D (c :: l)) cs
noncomputable def det : List Vec → List Nat → Rat
 | [], _ => 1
 | r :: rs, cols => expand r (det rs) cols
theorem expand_congrD {r : Vec} {D E : List Nat → Rat} (h : ∀ l, D l = E l) : ∀ cs, expand r D cs = expand r E cs := fun cs => by
 have : D = E := funext h
 rw [this]
theorem expand_zeroD (r : Vec) : ∀ cs, expand r (fun _ => 0) cs = 0
 | [] => rfl
 | c :: cs => by
   show r c * 0 - expand r (fun l => 0) cs = 0
   rw [expand_zeroD r cs]; grind
theorem expand_linD (r : Vec) (a b : Rat) : ∀ (cs : List Nat) (D E : List Nat → Rat), expand r (fun l => a * D l + b * E l) cs = a * expand r D cs + b * expand r E cs
 | [], D, E => by show (0 : Rat) = a * 0 + b * 0; grind
 | c :: cs, D, E => by
   show r c * (a * D cs + b * E cs) - expand r (fun l => a * D (c :: l) + b * E (c :: l)) cs = a * (r c * D cs - expand r (fun l => D (c :: l)) cs) + b * (r c * E cs - expand r (fun l => E (c :: l)) cs)
   rw [expand_linD r a b cs]; grind
theorem expand_linR (r s : Vec) (a b : Rat) : ∀ (cs : List Nat) (D : List Nat → Rat), expand (fun c => a * r c + b * s c) D cs = a * expand r D cs + b * expand s D cs
 | [], D => by show (0 : Rat) = a * 0 + b * 0; grind
 | c :: cs, D => by
   show (a * r c + b * s c) * D cs - expand _ (fun l => D (c :: l)) cs = a * (r c * D cs - expand r (fun l => D (c :: l)) cs) + b * (s c * D cs - expand s (fun l => D (c :: l)) cs)
   rw [expand_linR r s a b cs]; grind
theorem expand_self (r : Vec) : ∀ (cs : List Nat) (D : List Nat → Rat), expand r (expand r D) cs = 0
 | [], D => rfl
 | c :: cs, D => by
   show r c * expand r D cs - expand r (fun l => r c * D l - expand r (fun l => D (c :: l)) l) cs = 0
   have e : expand r (fun l => r c * D l - expand r (fun l => D (c :: l)) l) cs = r c * expand r D cs + (-1) * expand r (expand r (fun l => D (c :: l))) cs := by
    rw [← expand_linD]
    exact expand_congrD (fun l => by grind) cs
   rw [e, expand_self r cs]; grind
theorem expand_swap (r s : Vec) (cs : List Nat) (D : List Nat → Rat) : expand r (expand s D) cs = -expand s (expand r D) cs := by
 have h := expand_self (fun c => 1 * r c + 1 * s c) cs D
 have e : expand (fun c => 1 * r c + 1 * s c) (expand (fun c => 1 * r c + 1 * s c) D) cs = expand (fun c => 1 * r c + 1 * s c) (fun l => 1 * expand r D l + 1 * expand s D l) cs := expand_congrD (fun l => expand_linR r s 1 1 l D) cs
 rw [e, expand_linR, expand_linD, expand_linD, expand_self, expand_self] at h
 grind
theorem expand_congrR {r s : Vec} : ∀ {cs : List Nat} {D : List Nat → Rat}, (∀ c ∈ cs, r c = s c) → expand r D cs = expand s D cs
 | [], D, _ => rfl
 | c :: cs, D, h => by
   show r c * D cs - expand r _ cs = s c * D cs - expand s _ cs
   rw [h c List.mem_cons_self, expand_congrR fun x hx => h x (List.mem_cons_of_mem _ hx)]
theorem expand_zeroR {r : Vec} : ∀ {cs : List Nat} {D : List Nat → Rat}, (∀ c ∈ cs, r c = 0) → expand r D cs = 0
 | [], D, _ => rfl
 | c :: cs, D, h => by
   show r c * D cs - expand r _ cs = 0
   rw [h c List.mem_cons_self, expand_zeroR fun x hx => h x (List.mem_cons_of_mem _ hx)]; grind
noncomputable def Nul (rs : List Vec) (u : Vec) : Prop := ∀ cols, det (u :: rs) cols = 0
theorem Nul.mem : ∀ {rs : List Vec} {r : Vec}, r ∈ rs → Nul rs r
 | s :: rs, r, h => fun cols => by
   rcases List.mem_cons.mp h with rfl | h
   · exact expand_self _ _ _
   · show expand r (expand s (det rs)) cols = 0
     rw [expand_swap]
     have : expand s (expand r (det rs)) cols = expand s (fun _ => 0) cols := expand_congrD (Nul.mem h) cols
     rw [this, expand_zeroD]; grind
theorem Nul.cons {rs : List Vec} {u s : Vec} (h : Nul rs u) : Nul (s :: rs) u := fun cols => by
 show expand u (expand s (det rs)) cols = 0
 rw [expand_swap]
 have : expand s (expand u (det rs)) cols = expand s (fun _ => 0) cols := expand_congrD h cols
 rw [this, expand_zeroD]; grind
theorem Nul.lin {rs : List Vec} {u v : Vec} (a b : Rat) (hu : Nul rs u) (hv : Nul rs v) : Nul rs (fun c => a * u c + b * v c) := fun cols => by
 have h1 : expand u (det rs) cols = 0 := hu cols
 have h2 : expand v (det rs) cols = 0 := hv cols
 show expand _ (det rs) cols = 0
 rw [expand_linR, h1, h2]; grind
section
variable (A : Nat → Vec)
noncomputable def Rk : Nat → List Vec
 | 0 => []
 | k + 1 => A k :: Rk k
noncomputable def Kk : Nat → List Nat
 | 0 => []
 | k + 1 => k :: Kk k
noncomputable def dd (k : Nat) : Rat := det (Rk A k) (Kk k)
noncomputable def BB (k : Nat) (v : Vec) (j : Nat) : Rat := det (v :: Rk A k) (j :: Kk k)
theorem dd_next (k : Nat) : dd A (k + 1) = BB A k (A k) k := rfl
theorem dd_zero : dd A 0 = 1 := rfl
theorem mem_Kk : ∀ {k c : Nat}, c ∈ Kk k ↔ c < k
 | 0, c => by simp [Kk]
 | k + 1, c => by
   show c ∈ k :: Kk k ↔ _
   rw [List.mem_cons, mem_Kk]; omega
theorem mem_Rk : ∀ {k i : Nat}, i < k → A i ∈ Rk A k
 | k + 1, i, h => by
   show A i ∈ A k :: Rk A k
   by_cases e : i = k
   · subst e; exact List.mem_cons_self
   · exact List.mem_cons_of_mem _ (mem_Rk (by omega))
theorem BB_lin (k : Nat) (u v : Vec) (a b : Rat) (j : Nat) : BB A k (fun c => a * u c + b * v c) j = a * BB A k u j + b * BB A k v j := expand_linR u v a b _ _
theorem BB_congr {k : Nat} {u v : Vec} {j : Nat} (hj : u j = v j) (h : ∀ c, c < k → u c = v c) : BB A k u j = BB A k v j := expand_congrR fun c hc => by
 rcases List.mem_cons.mp hc with rfl | hc
 · exact hj
 · exact h c (mem_Kk.mp hc)
theorem BB_low {k : Nat} {w : Vec} (h : ∀ c, c < k → w c = 0) (j : Nat) : BB A k w j = w j * dd A k := by
 show w j * det (Rk A k) (Kk k) - expand w _ (Kk k) = w j * dd A k
 rw [expand_zeroR fun c hc => h c (mem_Kk.mp hc)]
 unfold dd; grind
theorem BB_row {k i : Nat} (h : i < k) (j : Nat) : BB A k (A i) j = 0 := Nul.mem (mem_Rk A h) _
theorem reduced (k : Nat) (hd : ∀ l, l ≤ k → dd A l ≠ 0) : ∀ v : Vec, ∃ w : Vec, Nul (Rk A k) (fun c => v c - w c) ∧ ∀ c, c < k → w c = 0 := by
 induction k with
 | zero =>
   intro v
   refine ⟨v, fun cols => ?_, fun c hc => by omega⟩
   exact expand_zeroR fun c _ => by grind
 | succ k ih =>
   intro v
   have ih := ih fun l hl => hd l (by omega)
   obtain ⟨x, nx, zx⟩ := ih v
   obtain ⟨y, ny, zy⟩ := ih (A k)
   have hdk := hd k (by omega)
   have hdk1 := hd (k + 1) (by omega)
   have ey : dd A (k + 1) = y k * dd A k := by
    have e1 : BB A k (A k) k = BB A k y k := by
     have := ny (k :: Kk k)
     have e2 : BB A k (fun c => 1 * A k c + (-1) * y c) k = 0 := by
      rw [BB_congr A (v := fun c => A k c - y c) (by grind) (fun c _ => by grind)]
      exact this
     rw [BB_lin] at e2
     grind
    rw [dd_next, e1, BB_low A zy]
   have hy : y k ≠ 0 := fun z => hdk1 (by rw [ey, z]; grind)
   refine ⟨fun c => x c - x k / y k * y c, ?_, fun c hc => ?_⟩
   · have n1 : Nul (Rk A (k + 1)) (fun c => v c - x c) := nx.cons
     have n2 : Nul (Rk A (k + 1)) (fun c => A k c - y c) := ny.cons
     have n3 : Nul (Rk A (k + 1)) (A k) := Nul.mem (mem_Rk A (by omega))
     have n4 := Nul.lin 1 (-1) n3 n2
     have n5 := Nul.lin 1 (x k / y k) n1 n4
     intro cols
     have := n5 cols
     rw [← this]
     exact expand_congrR fun c _ => by grind
   · show x c - x k / y k * y c = 0
     by_cases e : c = k
     · subst e; grind
     · rw [zx c (by omega), zy c (by omega)]; grind
theorem BB_red {k : Nat} {v w : Vec} (hn : Nul (Rk A k) (fun c => v c - w c)) (hz : ∀ c, c < k → w c = 0) (j : Nat) : BB A k v j = w j * dd A k := by
 have e2 : BB A k (fun c => 1 * v c + (-1) * w c) j = 0 := by
  rw [BB_congr A (v := fun c => v c - w c) (by grind) (fun c _ => by grind)]
  exact hn _
 rw [BB_lin, BB_low A hz] at e2
 grind
theorem BB_step {k : Nat} (hd : ∀ l, l ≤ k + 1 → dd A l ≠ 0) (v : Vec) (j : Nat) : BB A (k + 1) v j * dd A k = dd A (k + 1) * BB A k v j - BB A k v k * BB A k (A k) j := by
 obtain ⟨x, nx, zx⟩ := reduced A k (fun l hl => hd l (by omega)) v
 obtain ⟨y, ny, zy⟩ := reduced A k (fun l hl => hd l (by omega)) (A k)
 have hdk := hd k (by omega)
 have hdk1 := hd (k + 1) (by omega)
 have ey : dd A (k + 1) = y k * dd A k := by rw [dd_next]; exact BB_red A ny zy k
 have hy : y k ≠ 0 := fun z => hdk1 (by rw [ey, z]; grind)
 have n1 : Nul (Rk A (k + 1)) (fun c => v c - x c) := nx.cons
 have n2 : Nul (Rk A (k + 1)) (fun c => A k c - y c) := ny.cons
 have n3 : Nul (Rk A (k + 1)) (A k) := Nul.mem (mem_Rk A (by omega))
 have n4 := Nul.lin 1 (-1) n3 n2
 have n5 := Nul.lin 1 (x k / y k) n1 n4
 have n6 : Nul (Rk A (k + 1)) (fun c => v c - (x c - x k / y k * y c)) := fun cols => by
  have := n5 cols
  rw [← this]
  exact expand_congrR fun c _ => by grind
 have z6 : ∀ c, c < k + 1 → x c - x k / y k * y c = 0 := fun c hc => by
  by_cases e : c = k
  · subst e; grind
  · rw [zx c (by omega), zy c (by omega)]; grind
 rw [BB_red A n6 z6 j, BB_red A nx zx j, BB_red A nx zx k, BB_red A ny zy j, ey]
 grind
end
noncomputable def IsInt (q : Rat) : Prop := ∃ n : Int, q = (n : Rat)
theorem IsInt.mul {p q : Rat} (a : IsInt p) (b : IsInt q) : IsInt (p * q) := by
 obtain ⟨x, rfl⟩ := a
 obtain ⟨y, rfl⟩ := b
 exact ⟨x * y, by rw [Rat.intCast_mul]⟩
theorem IsInt.sub {p q : Rat} (a : IsInt p) (b : IsInt q) : IsInt (p - q) := by
 obtain ⟨x, rfl⟩ := a
 obtain ⟨y, rfl⟩ := b
 exact ⟨x - y, by rw [Rat.intCast_sub]⟩
theorem expand_int {r : Vec} : ∀ {cs : List Nat} {D : List Nat → Rat}, (∀ c ∈ cs, IsInt (r c)) → (∀ l, IsInt (D l)) → IsInt (expand r D cs)
 | [], D, _, _ => ⟨0, rfl⟩
 | c :: cs, D, h, hD => ((h c List.mem_cons_self).mul (hD cs)).sub (expand_int (fun x hx => h x (List.mem_cons_of_mem _ hx)) fun l => hD (c :: l))
theorem det_int : ∀ {rs : List Vec}, (∀ r ∈ rs, ∀ c, IsInt (r c)) → ∀ cols, IsInt (det rs cols)
 | [], _, _ => ⟨1, rfl⟩
 | r :: rs, h, cols => expand_int (fun c _ => h r List.mem_cons_self c) (det_int fun x hx => h x (List.mem_cons_of_mem _ hx))
theorem expand_bd {r : Vec} {U V : Rat} (hU : 0 ≤ U) (hV : 0 ≤ V) (hr : ∀ c, -U ≤ r c ∧ r c ≤ U) : ∀ {cs : List Nat} {D : List Nat → Rat}, (∀ l, l.length + 1 = cs.length → -V ≤ D l ∧ D l ≤ V) → -(((cs.length : Nat) : Rat) * (U * V)) ≤ expand r D cs ∧ expand r D cs ≤ ((cs.length : Nat) : Rat) * (U * V)
 | [], D, _ => by
   show -(((0 : Nat) : Rat) * (U * V)) ≤ 0 ∧ (0 : Rat) ≤ ((0 : Nat) : Rat) * (U * V)
   simp
 | c :: cs, D, hD => by
   obtain ⟨i1, i2⟩ := expand_bd hU hV hr (cs := cs) (D := fun l => D (c :: l)) fun l hl => hD (c :: l) (by simp only [List.length_cons]; omega)
   obtain ⟨r1, r2⟩ := hr c
   obtain ⟨d1, d2⟩ := hD cs (by simp only [List.length_cons])
   have key : -(U * V) ≤ r c * D cs ∧ r c * D cs ≤ U * V := by
    have p1 := mul_nn (a := U - r c) (b := V - D cs) (by grind) (by grind)
    have p2 := mul_nn (a := U + r c) (b := V + D cs) (by grind) (by grind)
    have p3 := mul_nn (a := U - r c) (b := V + D cs) (by grind) (by grind)
    have p4 := mul_nn (a := U + r c) (b := V - D cs) (by grind) (by grind)
    constructor <;> grind
   have e : (((c :: cs).length : Nat) : Rat) = ((cs.length : Nat) : Rat) + 1 := by rw [List.length_cons]; push_cast; rfl
   show -_ ≤ r c * D cs - expand r _ cs ∧ r c * D cs - expand r _ cs ≤ _
   rw [e]
   grind
theorem pow_succ' (Y : Nat) (m : Nat) : ((Y ^ (m + 1) : Nat) : Rat) = ((Y ^ m : Nat) : Rat) * (Y : Rat) := by rw [Nat.pow_succ]; push_cast; rfl
theorem natnn (m : Nat) : (0 : Rat) ≤ ((m : Nat) : Rat) := by
 have := cnn (d := (m : Int)) (by omega)
 exact this
theorem natle {a b : Nat} (h : a ≤ b) : ((a : Nat) : Rat) ≤ ((b : Nat) : Rat) := by
 have : ((a : Int) : Rat) ≤ ((b : Int) : Rat) := Rat.intCast_le_intCast.mpr (by omega)
 exact this
theorem det_bd {U Y : Nat} (hY : 13 * U ≤ Y) : ∀ {rs : List Vec}, (∀ r ∈ rs, ∀ c, -((U : Nat) : Rat) ≤ r c ∧ r c ≤ ((U : Nat) : Rat)) → ∀ cols : List Nat, cols.length ≤ 13 → -((Y ^ rs.length : Nat) : Rat) ≤ det rs cols ∧ det rs cols ≤ ((Y ^ rs.length : Nat) : Rat)
 | [], _, cols, _ => by
   show -(((Y ^ 0 : Nat)) : Rat) ≤ 1 ∧ (1 : Rat) ≤ ((Y ^ 0 : Nat) : Rat)
   rw [Nat.pow_zero]
   exact ⟨by decide, by decide⟩
 | r :: rs, h, cols, hc => by
   have ih := det_bd hY (rs := rs) fun x hx => h x (List.mem_cons_of_mem _ hx)
   have hV := natnn (Y ^ rs.length)
   have hU := natnn U
   obtain ⟨b1, b2⟩ := expand_bd (r := r) hU hV (h r List.mem_cons_self) (cs := cols) (D := det rs) fun l hl => ih l (by omega)
   have k1 : ((cols.length : Nat) : Rat) * (((U : Nat) : Rat) * ((Y ^ rs.length : Nat) : Rat)) ≤ ((Y ^ (rs.length + 1) : Nat) : Rat) := by
    rw [pow_succ']
    have e1 : ((cols.length : Nat) : Rat) * ((U : Nat) : Rat) ≤ ((Y : Nat) : Rat) := by
     have : ((cols.length * U : Nat) : Rat) ≤ ((Y : Nat) : Rat) := natle (Nat.le_trans (Nat.mul_le_mul_right U hc) hY)
     have e2 : ((cols.length * U : Nat) : Rat) = ((cols.length : Nat) : Rat) * ((U : Nat) : Rat) := by push_cast; rfl
     rw [← e2]; exact this
    have e3 := mul_le_r e1 hV
    grind
   show -(((Y ^ (rs.length + 1) : Nat)) : Rat) ≤ expand r (det rs) cols ∧ expand r (det rs) cols ≤ ((Y ^ (rs.length + 1) : Nat) : Rat)
   grind
end Pw

namespace Pw
noncomputable def eV (i : Nat) : Vec := fun c => if c = i then -1 else 0
noncomputable def vv (A : Nat → Vec) (k i : Nat) : Vec := if i < k then eV i else A i
noncomputable def stepF (f : Nat → Nat → Int) (k : Nat) (d : Int) (i j : Nat) : Int := if i = k then f k j else (f k k * f i j - f i k * f k j).fdiv d
structure Stg (A : Nat → Vec) (n k : Nat) (f : Nat → Nat → Int) (d : Int) : Prop where
 d : (d : Rat) = dd A k
 f : ∀ i j, i < n → j ≤ n → (f i j : Rat) = if j < k then (if i = j then dd A k else 0) else BB A k (vv A k i) j
theorem eV_low {k : Nat} : ∀ c, c < k → eV k c = 0 := fun c hc => by unfold eV; rw [if_neg (by omega)]
theorem fdiv_of {m d : Int} (hd : d ≠ 0) : (m * d).fdiv d = m := Int.mul_fdiv_cancel _ hd
theorem vv_int {A : Nat → Vec} (hA : ∀ i c, IsInt (A i c)) (k i : Nat) : ∀ c, IsInt (vv A k i c) := fun c => by
 unfold vv
 split
 · unfold eV
   split
   · exact ⟨-1, rfl⟩
   · exact ⟨0, rfl⟩
 · exact hA i c
theorem Rk_all {A : Nat → Vec} {p : Vec → Prop} (h : ∀ i, p (A i)) : ∀ k, ∀ r ∈ Rk A k, p r
 | 0, r, hr => by simp [Rk] at hr
 | k + 1, r, hr => by
   rcases List.mem_cons.mp hr with rfl | hr
   · exact h k
   · exact Rk_all h k r hr
theorem BB_int {A : Nat → Vec} (hA : ∀ i c, IsInt (A i c)) {k : Nat} {v : Vec} (hv : ∀ c, IsInt (v c)) (j : Nat) : IsInt (BB A k v j) :=
 det_int (fun r hr => by
  rcases List.mem_cons.mp hr with rfl | hr
  · exact hv
  · exact Rk_all (p := fun r => ∀ c, IsInt (r c)) hA k r hr) _
theorem Stg.exact {A : Nat → Vec} {n k : Nat} {f : Nat → Nat → Int} {d : Int} (h : Stg A n k f d) (hA : ∀ i c, IsInt (A i c)) (hk : k < n) (hd : ∀ l, l ≤ k + 1 → dd A l ≠ 0) {i j : Nat} (hi : i < n) (hj : j ≤ n) (hik : i ≠ k) :
 ∃ m : Int, f k k * f i j - f i k * f k j = m * d ∧ (m : Rat) = if j < k + 1 then (if i = j then dd A (k + 1) else 0) else BB A (k + 1) (vv A (k + 1) i) j := by
 have hkk := h.f k k hk (by omega)
 have hij := h.f i j hi hj
 have hik' := h.f i k hi (by omega)
 have hkj := h.f k j hk hj
 have hvk : vv A k k = A k := by unfold vv; rw [if_neg (by omega)]
 have hvi : vv A (k + 1) i = vv A k i := by
  unfold vv
  by_cases e : i < k
  · rw [if_pos e, if_pos (by omega)]
  · rw [if_neg e, if_neg (by omega)]
 rw [if_neg (by omega), hvk] at hkk
 rw [if_neg (by omega)] at hik'
 have ekk : (f k k : Rat) = dd A (k + 1) := by rw [dd_next]; exact hkk
 rw [hvk] at hkj
 have hdk := hd k (by omega)
 have fin : ∀ m : Int, (((f k k * f i j - f i k * f k j : Int)) : Rat) = (m : Rat) * (d : Rat) → f k k * f i j - f i k * f k j = m * d := fun m e => by
  have : (((f k k * f i j - f i k * f k j : Int)) : Rat) = ((m * d : Int) : Rat) := by rw [e, Rat.intCast_mul]
  exact_mod_cast this
 by_cases c1 : j < k
 · rw [if_pos c1, if_neg (by omega)] at hkj
   rw [if_pos c1] at hij
   rw [if_pos (by omega : j < k + 1)]
   by_cases e : i = j
   · rw [if_pos e] at hij ⊢
     refine ⟨f k k, fin _ ?_, ekk⟩
     rw [Rat.intCast_sub, Rat.intCast_mul, Rat.intCast_mul, hkj, hij, h.d]; grind
   · rw [if_neg e] at hij ⊢
     refine ⟨0, fin _ ?_, by simp⟩
     rw [Rat.intCast_sub, Rat.intCast_mul, Rat.intCast_mul, hkj, hij, Rat.intCast_zero]; grind
 · by_cases c2 : j = k
   · subst c2
     rw [if_pos (by omega : j < j + 1), if_neg hik]
     exact ⟨0, by rw [Int.mul_comm (f i j)]; omega, by simp⟩
   · rw [if_neg c1] at hij hkj
     rw [if_neg (by omega : ¬ j < k + 1), hvi]
     obtain ⟨m, hm⟩ := BB_int hA (k := k + 1) (vv_int hA k i) j
     refine ⟨m, fin m ?_, hm.symm⟩
     rw [Rat.intCast_sub, Rat.intCast_mul, Rat.intCast_mul, ekk, hij, hik', hkj, h.d, ← hm]
     exact (BB_step A hd (vv A k i) j).symm
theorem Stg.next {A : Nat → Vec} {n k : Nat} {f : Nat → Nat → Int} {d : Int} (h : Stg A n k f d) (hA : ∀ i c, IsInt (A i c)) (hk : k < n) (hd : ∀ l, l ≤ k + 1 → dd A l ≠ 0) : Stg A n (k + 1) (stepF f k d) (f k k) := by
 have hkk := h.f k k hk (by omega)
 have hvk : vv A k k = A k := by unfold vv; rw [if_neg (by omega)]
 rw [if_neg (by omega), hvk] at hkk
 have hdk := hd k (by omega)
 have hd0 : d ≠ 0 := fun z => hdk (by rw [← h.d, z]; rfl)
 refine ⟨by rw [dd_next]; exact hkk, fun i j hi hj => ?_⟩
 unfold stepF
 by_cases e : i = k
 · subst e
   rw [if_pos rfl]
   have hij := h.f i j hi hj
   rw [hvk] at hij
   by_cases c1 : j < i
   · rw [if_pos c1, if_neg (by omega)] at hij
     rw [if_pos (by omega), if_neg (by omega), hij]
   · rw [if_neg c1] at hij
     by_cases c2 : j = i
     · subst c2
       rw [if_pos (by omega), if_pos rfl, hij, dd_next]
     · rw [if_neg (by omega), hij]
       have hv1 : vv A (i + 1) i = eV i := by unfold vv; rw [if_pos (by omega)]
       rw [hv1]
       have := BB_step A hd (eV i) j
       rw [BB_low A eV_low, BB_low A eV_low] at this
       have e1 : eV i j = 0 := by unfold eV; rw [if_neg c2]
       have e2 : eV i i = -1 := by unfold eV; rw [if_pos rfl]
       rw [e1, e2] at this
       generalize BB A (i + 1) (eV i) j = x at *
       generalize BB A i (A i) j = y at *
       generalize dd A (i + 1) = z at *
       have h3 : (x - y) * dd A i = 0 := by grind
       grind
 · rw [if_neg e]
   obtain ⟨m, e1, e2⟩ := h.exact hA hk hd hi hj e
   rw [e1, fdiv_of hd0]
   exact e2
structure Sgn (n k : Nat) (f : Nat → Nat → Int) : Prop where
 off : ∀ i j, i < n → k ≤ j → j < n → i ≠ j → f i j ≤ 0
 col : ∀ j, k ≤ j → j < n → 0 < qs n (fun i => if k ≤ i then (f i j : Rat) else 0)
 rhs : ∀ i, i < n → 0 ≤ f i n
theorem qs_split {g : Nat → Rat} : ∀ {n k : Nat}, k < n → qs n (fun i => if k ≤ i then g i else 0) = g k + qs n (fun i => if k + 1 ≤ i then g i else 0)
 | n + 1, k, h => by
   show qs n _ + (if k ≤ n then g n else 0) = g k + (qs n _ + (if k + 1 ≤ n then g n else 0))
   by_cases e : k = n
   · subst e
     rw [if_pos (by omega), if_neg (by omega), qs_congr (g := fun _ => 0) fun i hi => by rw [if_neg (by omega)], qs_congr (f := fun i => if k + 1 ≤ i then g i else 0) (g := fun _ => 0) fun i hi => by rw [if_neg (by omega)]]
     grind
   · rw [if_pos (by omega), if_pos (by omega), qs_split (n := n) (by omega)]; grind
theorem Sgn.pivot {n k : Nat} {f : Nat → Nat → Int} (h : Sgn n k f) (hk : k < n) : 0 < f k k := by
 have h1 := h.col k (by omega) hk
 rw [qs_split hk] at h1
 have h2 : qs n (fun i => if k + 1 ≤ i then (f i k : Rat) else 0) ≤ qs n (fun _ => 0) := qs_le fun i hi => by
  split
  · have := h.off i k hi (by omega) hk (by omega)
    have : (f i k : Rat) ≤ ((0 : Int) : Rat) := Rat.intCast_le_intCast.mpr this
    simpa using this
  · grind
 rw [qs_zero] at h2
 have h3 : (0 : Rat) < (f k k : Rat) := by grind
 have : ((0 : Int) : Rat) < (f k k : Rat) := by simpa using h3
 exact Rat.intCast_lt_intCast.mp this
theorem neg_of_mul {x d : Int} (hd : 0 < d) (h : x * d ≤ 0) : x ≤ 0 := by
 refine Int.not_lt.mp fun z => ?_
 have := Int.mul_pos z hd
 omega
theorem Sgn.next {n k : Nat} {f : Nat → Nat → Int} {d : Int} (h : Sgn n k f) (hk : k < n) (hd : 0 < d) (ex : ∀ i j, i < n → j ≤ n → i ≠ k → f k k * f i j - f i k * f k j = stepF f k d i j * d) : Sgn n (k + 1) (stepF f k d) := by
 have hp := h.pivot hk
 refine ⟨fun i j hi hkj hj hij => ?_, fun j hkj hj => ?_, fun i hi => ?_⟩
 · by_cases e : i = k
   · subst e
     unfold stepF
     rw [if_pos rfl]
     exact h.off i j hi (by omega) hj hij
   · refine neg_of_mul hd ?_
     rw [← ex i j hi (by omega) e]
     have a1 := h.off i j hi (by omega) hj hij
     have a2 := h.off i k hi (by omega) hk e
     have a3 := h.off k j hk (by omega) hj (by omega)
     have b1 : f k k * f i j ≤ 0 := Int.mul_nonpos_of_nonneg_of_nonpos (Int.le_of_lt hp) a1
     have b2 : 0 ≤ f i k * f k j := Int.mul_nonneg_of_nonpos_of_nonpos a2 a3
     omega
 · have hdq := cpos hd
   have e : qs n (fun i => if k + 1 ≤ i then (stepF f k d i j : Rat) else 0) * (d : Rat) = (f k k : Rat) * qs n (fun i => if k ≤ i then (f i j : Rat) else 0) - (f k j : Rat) * qs n (fun i => if k ≤ i then (f i k : Rat) else 0) := by
    rw [qs_split (g := fun i => (f i j : Rat)) hk, qs_split (g := fun i => (f i k : Rat)) hk, Rat.mul_comm, ← qs_mul, Rat.mul_add, Rat.mul_add, ← qs_mul, ← qs_mul]
    have e2 : qs n (fun i => (d : Rat) * (if k + 1 ≤ i then (stepF f k d i j : Rat) else 0)) = qs n (fun i => (f k k : Rat) * (if k + 1 ≤ i then (f i j : Rat) else 0) + (-1) * ((f k j : Rat) * (if k + 1 ≤ i then (f i k : Rat) else 0))) := qs_congr fun i hi => by
     split
     · have := ex i j hi (by omega) (by omega)
       have : ((f k k * f i j - f i k * f k j : Int) : Rat) = ((stepF f k d i j * d : Int) : Rat) := by rw [this]
       rw [Rat.intCast_sub, Rat.intCast_mul, Rat.intCast_mul, Rat.intCast_mul] at this
       grind
     · grind
    rw [e2, qs_add, qs_mul (-1)]
    grind
   have a3 := h.off k j hk (by omega) hj (by omega)
   have a3' : (f k j : Rat) ≤ 0 := by
    have : (f k j : Rat) ≤ ((0 : Int) : Rat) := Rat.intCast_le_intCast.mpr a3
    simpa using this
   have s1 := h.col j (by omega) hj
   have s2 := h.col k (by omega) hk
   have p1 := Rat.mul_pos (cpos hp) s1
   have p2 := mul_nn (a := -(f k j : Rat)) (by grind) (Rat.le_of_lt s2)
   have : 0 < qs n (fun i => if k + 1 ≤ i then (stepF f k d i j : Rat) else 0) * (d : Rat) := by rw [e]; grind
   refine Rat.not_le.mp fun z => ?_
   have := mul_le_r z (Rat.le_of_lt hdq)
   grind
 · by_cases e : i = k
   · subst e
     unfold stepF
     rw [if_pos rfl]
     exact h.rhs i hi
   · have a2 := h.off i k hi (by omega) hk e
     have a1 := h.rhs i hi
     have a3 := h.rhs k hk
     have b1 : 0 ≤ f k k * f i n := Int.mul_nonneg (Int.le_of_lt hp) a1
     have b2 : f i k * f k n ≤ 0 := Int.mul_nonpos_of_nonpos_of_nonneg a2 a3
     have := ex i n hi (Nat.le_refl _) e
     refine Int.not_lt.mp fun z => ?_
     have := Int.mul_neg_of_neg_of_pos z hd
     omega
noncomputable def fF (f0 : Nat → Nat → Int) : Nat → (Nat → Nat → Int) × Int
 | 0 => (f0, 1)
 | k + 1 => (stepF (fF f0 k).1 k (fF f0 k).2, (fF f0 k).1 k k)
noncomputable def aV (f0 : Nat → Nat → Int) (i : Nat) : Vec := fun c => (f0 i c : Rat)
theorem aV_int (f0 : Nat → Nat → Int) : ∀ i c, IsInt (aV f0 i c) := fun i c => ⟨f0 i c, rfl⟩
theorem fF_ok {f0 : Nat → Nat → Int} {n : Nat} (s0 : Sgn n 0 f0) : ∀ k, k ≤ n → Stg (aV f0) n k (fF f0 k).1 (fF f0 k).2 ∧ Sgn n k (fF f0 k).1 ∧ 0 < (fF f0 k).2 ∧ ∀ l, l ≤ k → 0 < dd (aV f0) l
 | 0, _ => by
   refine ⟨⟨rfl, fun i j hi hj => ?_⟩, s0, by show (0 : Int) < 1; decide, fun l hl => ?_⟩
   · rw [if_neg (by omega)]
     have e : vv (aV f0) 0 i = aV f0 i := by unfold vv; rw [if_neg (by omega)]
     rw [e, BB_low _ (fun c hc => by omega), dd_zero]
     show (f0 i j : Rat) = (f0 i j : Rat) * 1
     grind
   · rw [show l = 0 by omega, dd_zero]; decide
 | k + 1, hk => by
   obtain ⟨st, sg, dp, dl⟩ := fF_ok s0 k (by omega)
   have pv := sg.pivot (by omega)
   have hkk : ((fF f0 k).1 k k : Rat) = dd (aV f0) (k + 1) := by
    have := st.f k k (by omega) (by omega)
    rw [if_neg (by omega)] at this
    have e : vv (aV f0) k k = aV f0 k := by unfold vv; rw [if_neg (by omega)]
    rw [e] at this
    rw [dd_next]; exact this
   have dl' : ∀ l, l ≤ k + 1 → 0 < dd (aV f0) l := fun l hl => by
    by_cases e : l = k + 1
    · subst e; rw [← hkk]; exact cpos pv
    · exact dl l (by omega)
   have hne : ∀ l, l ≤ k + 1 → dd (aV f0) l ≠ 0 := fun l hl z => by
    have := dl' l hl
    rw [z] at this
    exact absurd this (by decide)
   refine ⟨st.next (aV_int f0) (by omega) hne, sg.next (by omega) dp fun i j hi hj hik => ?_, pv, dl'⟩
   obtain ⟨m, e1, _⟩ := st.exact (aV_int f0) (by omega) hne hi hj hik
   rw [e1]
   unfold stepF
   rw [if_neg hik, e1, fdiv_of (by omega)]
theorem fF_solves {f0 : Nat → Nat → Int} {n : Nat} (s0 : Sgn n 0 f0) {i : Nat} (hi : i < n) : qs n (fun j => (f0 i j : Rat) * ((fF f0 n).1 j n : Rat)) = ((fF f0 n).2 : Rat) * (f0 i n : Rat) := by
 obtain ⟨st, sg, dp, dl⟩ := fF_ok s0 n (Nat.le_refl _)
 have hx : ∀ j, j < n → ((fF f0 n).1 j n : Rat) = BB (aV f0) n (eV j) n := fun j hj => by
  have := st.f j n hj (Nat.le_refl _)
  rw [if_neg (by omega)] at this
  have e : vv (aV f0) n j = eV j := by unfold vv; rw [if_pos hj]
  rw [e] at this
  exact this
 have h0 := BB_row (aV f0) hi n
 have part : ∀ m, m ≤ n → BB (aV f0) n (fun c => if c < m then aV f0 i c else 0) n = (-1) * qs m (fun j => (f0 i j : Rat) * BB (aV f0) n (eV j) n) := by
  intro m
  induction m with
  | zero =>
    intro _
    rw [BB_low _ (fun c hc => by simp)]
    simp [qs]
  | succ m ih =>
    intro hm
    have e : BB (aV f0) n (fun c => if c < m + 1 then aV f0 i c else 0) n = BB (aV f0) n (fun c => 1 * (if c < m then aV f0 i c else 0) + (-(f0 i m : Rat)) * eV m c) n := by
     have pt : ∀ c : Nat, (if c < m + 1 then aV f0 i c else 0) = 1 * (if c < m then aV f0 i c else 0) + (-(f0 i m : Rat)) * eV m c := fun c => by
      unfold eV
      by_cases c1 : c < m
      · rw [if_pos (by omega), if_pos c1, if_neg (by omega)]; grind
      · by_cases c2 : c = m
        · subst c2
          rw [if_pos (by omega), if_neg (by omega), if_pos rfl]
          show (f0 i c : Rat) = _
          grind
        · rw [if_neg (by omega), if_neg c1, if_neg c2]; grind
     exact BB_congr _ (pt n) fun c _ => pt c
    rw [e, BB_lin, ih (by omega)]
    show _ = (-1) * (qs m _ + _)
    grind
 have split : BB (aV f0) n (aV f0 i) n = BB (aV f0) n (fun c => 1 * (if c < n then aV f0 i c else 0) + (-(f0 i n : Rat)) * eV n c) n := by
  have pt : ∀ c : Nat, c ≤ n → aV f0 i c = 1 * (if c < n then aV f0 i c else 0) + (-(f0 i n : Rat)) * eV n c := fun c hc => by
   unfold eV
   by_cases c1 : c < n
   · rw [if_pos c1, if_neg (by omega)]; grind
   · have c2 : c = n := by omega
     subst c2
     rw [if_neg (by omega), if_pos rfl]
     show (f0 i c : Rat) = _
     grind
  exact BB_congr _ (pt n (Nat.le_refl _)) fun c hc => pt c (by omega)
 rw [split, BB_lin, part n (Nat.le_refl _), BB_low _ eV_low] at h0
 have e2 : eV n n = -1 := by unfold eV; rw [if_pos rfl]
 rw [e2, ← st.d] at h0
 rw [qs_congr fun j hj => by rw [hx j hj]]
 grind
end Pw

namespace Pw
theorem le_pow {Y m k : Nat} (hY : 1 ≤ Y) (h : m ≤ k) : Y ^ m ≤ Y ^ k := Nat.pow_le_pow_right hY h
theorem Kk_len : ∀ k, (Kk k).length = k
 | 0 => rfl
 | k + 1 => by show (k :: Kk k).length = _; rw [List.length_cons, Kk_len k]
theorem Rk_len (A : Nat → Vec) : ∀ k, (Rk A k).length = k
 | 0 => rfl
 | k + 1 => by show (A k :: Rk A k).length = _; rw [List.length_cons, Rk_len A k]
theorem fF_bd {f0 : Nat → Nat → Int} {n U Y : Nat} (s0 : Sgn n 0 f0) (hn : n ≤ 12) (hU : 1 ≤ U) (hY : 13 * U ≤ Y) (hb : ∀ i j, (f0 i j).natAbs ≤ U) {k : Nat} (hk : k ≤ n) : (∀ i j, i < n → j ≤ n → ((fF f0 k).1 i j).natAbs ≤ Y ^ 13) ∧ (fF f0 k).2.natAbs ≤ Y ^ 13 := by
 obtain ⟨st, sg, dp, dl⟩ := fF_ok s0 k hk
 have hA : ∀ i c, -((U : Nat) : Rat) ≤ aV f0 i c ∧ aV f0 i c ≤ ((U : Nat) : Rat) := fun i c => by
  have h := hb i c
  have h1 : ((-(U : Int) : Int) : Rat) ≤ (f0 i c : Rat) := Rat.intCast_le_intCast.mpr (by omega)
  have h2 : (f0 i c : Rat) ≤ (((U : Int)) : Rat) := Rat.intCast_le_intCast.mpr (by omega)
  rw [Rat.intCast_neg] at h1
  exact ⟨h1, h2⟩
 have one : (1 : Rat) ≤ ((U : Nat) : Rat) := natle hU
 have hE : ∀ i c, -((U : Nat) : Rat) ≤ eV i c ∧ eV i c ≤ ((U : Nat) : Rat) := fun i c => by
  unfold eV
  split <;> grind
 have hY1 : 1 ≤ Y := by omega
 have toInt : ∀ {x : Int} {m : Nat}, m ≤ 13 → -((Y ^ m : Nat) : Rat) ≤ (x : Rat) ∧ (x : Rat) ≤ ((Y ^ m : Nat) : Rat) → x.natAbs ≤ Y ^ 13 := fun {x m} hm h => by
  have hp := le_pow hY1 hm
  obtain ⟨h1, h2⟩ := h
  have h1' : ((-((Y ^ m : Nat) : Int) : Int) : Rat) ≤ (x : Rat) := by rw [Rat.intCast_neg]; exact h1
  have h2' : (x : Rat) ≤ ((((Y ^ m : Nat) : Int)) : Rat) := h2
  have a1 := Rat.intCast_le_intCast.mp h1'
  have a2 := Rat.intCast_le_intCast.mp h2'
  generalize Y ^ 13 = z at *
  generalize Y ^ m = y at *
  omega
 have dB : -((Y ^ k : Nat) : Rat) ≤ dd (aV f0) k ∧ dd (aV f0) k ≤ ((Y ^ k : Nat) : Rat) := by
  have := det_bd hY (rs := Rk (aV f0) k) (fun r hr => Rk_all (p := fun r => ∀ c, -((U : Nat) : Rat) ≤ r c ∧ r c ≤ ((U : Nat) : Rat)) hA k r hr) (Kk k) (by rw [Kk_len]; omega)
  rwa [Rk_len] at this
 refine ⟨fun i j hi hj => ?_, toInt (m := k) (by omega) (by rw [st.d]; exact dB)⟩
 have e := st.f i j hi hj
 split at e
 · split at e
   · exact toInt (m := k) (by omega) (by rw [e]; exact dB)
   · have hz : (fF f0 k).1 i j = 0 := by exact_mod_cast e
     rw [hz]; simp
 · refine toInt (m := k + 1) (by omega) ?_
   rw [e]
   have := det_bd hY (rs := vv (aV f0) k i :: Rk (aV f0) k) (fun r hr => by
    rcases List.mem_cons.mp hr with rfl | hr
    · unfold vv
      split
      · exact hE i
      · exact hA i
    · exact Rk_all (p := fun r => ∀ c, -((U : Nat) : Rat) ≤ r c ∧ r c ≤ ((U : Nat) : Rat)) hA k r hr) (j :: Kk k) (by rw [List.length_cons, Kk_len]; omega)
   rwa [List.length_cons, Rk_len] at this
noncomputable def qabs (x : Rat) : Rat := if x < 0 then -x else x
theorem qabs_nn (x : Rat) : 0 ≤ qabs x := by unfold qabs; split <;> grind
theorem qabs_add (x y : Rat) : qabs (x + y) ≤ qabs x + qabs y := by unfold qabs; split <;> split <;> split <;> grind
theorem qabs_zero {x : Rat} (h : qabs x ≤ 0) : x = 0 := by unfold qabs at h; split at h <;> grind
theorem qabs_mul {x c : Rat} (hc : 0 ≤ c) : qabs (x * c) ≤ qabs x * c := by
 unfold qabs
 split <;> split
 · grind
 · rename_i h1 h2
   have := mul_nn (a := x) (b := c) (by grind) hc
   grind
 · rename_i h1 h2
   have := mul_nn (a := -x) (b := c) (by grind) hc
   grind
 · grind
theorem qabs_qs (f : Nat → Rat) : ∀ n, qabs (qs n f) ≤ qs n (fun i => qabs (f i))
 | 0 => by show qabs 0 ≤ 0; unfold qabs; grind
 | n + 1 => by
   have h1 := qabs_qs f n
   have h2 := qabs_add (qs n f) (f n)
   show qabs (qs n f + f n) ≤ qs n _ + qabs (f n)
   grind
theorem contract {n : Nat} {W : Nat → Nat → Rat} {B : Nat → Rat} {a : Rat} (hW : ∀ i t, i < n → t < n → a * B t ≤ W i t) (hs : ∀ i, i < n → qs n (fun t => W i t) = 1) (hB : qs n B = 1) {x y : Nat → Rat} (hxy : qs n x = qs n y) :
 qs n (fun t => qabs (qs n (fun i => x i * W i t) - qs n (fun i => y i * W i t))) ≤ (1 - a) * qs n (fun i => qabs (x i - y i)) := by
 have h1 : ∀ t, t < n → qabs (qs n (fun i => x i * W i t) - qs n (fun i => y i * W i t)) ≤ qs n (fun i => qabs (x i - y i) * (W i t - a * B t)) := fun t ht => by
  have e : qs n (fun i => x i * W i t) - qs n (fun i => y i * W i t) = qs n (fun i => (x i - y i) * (W i t - a * B t)) := by
   have e1 : qs n (fun i => (x i - y i) * (W i t - a * B t)) = qs n (fun i => (x i * W i t + (-1) * (y i * W i t)) + ((-(a * B t)) * x i + (a * B t) * y i)) := qs_congr fun i _ => by grind
   rw [e1, qs_add, qs_add, qs_add, qs_mul, qs_mul, qs_mul, hxy]
   grind
  rw [e]
  have h2 := qabs_qs (fun i => (x i - y i) * (W i t - a * B t)) n
  have h3 : qs n (fun i => qabs ((x i - y i) * (W i t - a * B t))) ≤ qs n (fun i => qabs (x i - y i) * (W i t - a * B t)) := qs_le fun i hi => qabs_mul (by have := hW i t hi ht; grind)
  grind
 have h4 := qs_le h1
 rw [qs_swap (fun t i => qabs (x i - y i) * (W i t - a * B t))] at h4
 have e2 : qs n (fun i => qs n (fun t => qabs (x i - y i) * (W i t - a * B t))) = qs n (fun i => (1 - a) * qabs (x i - y i)) := qs_congr fun i hi => by
  rw [qs_mul]
  have e3 : qs n (fun t => W i t - a * B t) = 1 - a := by
   have : qs n (fun t => W i t - a * B t) = qs n (fun t => W i t + (-a) * B t) := qs_congr fun t _ => by grind
   rw [this, qs_add, qs_mul, hs i hi, hB]; grind
  rw [e3]; grind
 rw [e2, qs_mul] at h4
 exact h4
theorem unique {n : Nat} {W : Nat → Nat → Rat} {B : Nat → Rat} {a : Rat} (ha : 0 < a) (hW : ∀ i t, i < n → t < n → a * B t ≤ W i t) (hs : ∀ i, i < n → qs n (fun t => W i t) = 1) (hB : qs n B = 1) {x y : Nat → Rat} (hxy : qs n x = qs n y)
 (sx : ∀ t, t < n → qs n (fun i => x i * W i t) = x t) (sy : ∀ t, t < n → qs n (fun i => y i * W i t) = y t) : ∀ t, t < n → x t = y t := by
 have h := contract hW hs hB hxy
 rw [qs_congr (g := fun t => qabs (x t - y t)) fun t ht => by rw [sx t ht, sy t ht]] at h
 have h0 : 0 ≤ qs n (fun t => qabs (x t - y t)) := qs_nonneg fun t _ => qabs_nn _
 have h1 : qs n (fun t => qabs (x t - y t)) ≤ 0 := by
  refine Rat.not_lt.mp fun z => ?_
  have := Rat.mul_pos ha z
  grind
 intro t ht
 have h2 := qs_ge (f := fun t => qabs (x t - y t)) ht fun i _ => qabs_nn _
 have := qabs_zero (x := x t - y t) (Rat.le_trans h2 h1)
 grind
noncomputable def mp (ps : List (Int × Int)) (j : Nat) : Int := (max 1 (outs ps (j : Int)).length : Nat)
noncomputable def cn (ps : List (Int × Int)) (j i : Nat) : Int := ((outs ps (j : Int)).count (i : Int) : Nat)
noncomputable def fac (ps : List (Int × Int)) (A : Int × Int) (j i : Nat) : Int := if j = i then A.2 * mp ps j - (A.2 - A.1) * cn ps j i else -((A.2 - A.1) * cn ps j i)
noncomputable def eqF (ps : List (Int × Int)) (A : Int × Int) (ss : List Int) (n i j : Nat) : Int := if i < n then (if j < n then fac ps A j i else if j = n then ss.getD i 0 else 0) else 0
theorem cn_count (ps : List (Int × Int)) (j i : Nat) : ((ps.count ((j : Int), (i : Int)) : Nat) : Int) = cn ps j i := by
 unfold cn outs
 congr 1
 induction ps with
 | nil => rfl
 | cons p ps ih =>
   obtain ⟨a, b⟩ := p
   rw [List.count_cons]
   by_cases h : a = (j : Int)
   · subst h
     rw [List.filter_cons_of_pos (by simp), List.map_cons, List.count_cons, ih]
     simp
   · rw [List.filter_cons_of_neg (by simpa using h), ih]
     simp [h]
theorem cn_sum {n : Nat} {ps : List (Int × Int)} (lk : ∀ p ∈ ps, 0 ≤ p.2 ∧ p.2 < (n : Int)) (j : Nat) : qs n (fun i => (cn ps j i : Rat)) = (((outs ps (j : Int)).length : Nat) : Rat) := sum_count fun x hx => outs_mem lk hx
structure EqOk (ps : List (Int × Int)) (A : Int × Int) (ss : List Int) (n : Nat) : Prop where
 lk : ∀ p ∈ ps, 0 ≤ p.2 ∧ p.2 < (n : Int)
 a0 : 0 < A.1
 a1 : A.1 ≤ A.2
 len : ss.length = n
 nn : ∀ s ∈ ss, 0 ≤ s
 pos : 0 < ss.sum
theorem fac_cast (ps : List (Int × Int)) (A : Int × Int) (j i : Nat) : (fac ps A j i : Rat) = (if i = j then (A.2 : Rat) * (mp ps j : Rat) else 0) + (-((A.2 : Rat) - (A.1 : Rat))) * (cn ps j i : Rat) := by
 unfold fac
 by_cases e : j = i
 · subst e
   rw [if_pos rfl, if_pos rfl, Rat.intCast_sub, Rat.intCast_mul, Rat.intCast_mul, Rat.intCast_sub]; grind
 · rw [if_neg e, if_neg (fun z => e z.symm), Rat.intCast_neg, Rat.intCast_mul, Rat.intCast_sub]; grind
theorem mp_ge (ps : List (Int × Int)) (j : Nat) : 1 ≤ mp ps j ∧ (((outs ps (j : Int)).length : Nat) : Int) ≤ mp ps j := by unfold mp; omega
theorem EqOk.sgn {ps : List (Int × Int)} {A : Int × Int} {ss : List Int} {n : Nat} (h : EqOk ps A ss n) : Sgn n 0 (eqF ps A ss n) := by
 refine ⟨fun i j hi _ hj hij => ?_, fun j _ hj => ?_, fun i hi => ?_⟩
 · unfold eqF fac
   rw [if_pos hi, if_pos hj, if_neg (fun z => hij z.symm)]
   have : 0 ≤ (A.2 - A.1) * cn ps j i := Int.mul_nonneg (by have := h.a1; omega) (by unfold cn; omega)
   omega
 · rw [qs_congr (g := fun i => (if i = j then (A.2 : Rat) * (mp ps j : Rat) else 0) + (-((A.2 : Rat) - (A.1 : Rat))) * (cn ps j i : Rat)) fun i hi => ?_, qs_add, qs_mul, cn_sum h.lk, qs_single hj fun i _ hi => by rw [if_neg hi]]
   · rw [if_pos rfl]
     obtain ⟨m1, m2⟩ := mp_ge ps j
     have m2' : (((outs ps (j : Int)).length : Nat) : Rat) ≤ (mp ps j : Rat) := by
      have : ((((outs ps (j : Int)).length : Nat) : Int) : Rat) ≤ (mp ps j : Rat) := Rat.intCast_le_intCast.mpr m2
      exact this
     have a1 : (A.1 : Rat) ≤ (A.2 : Rat) := Rat.intCast_le_intCast.mpr h.a1
     have p1 := Rat.mul_pos (cpos h.a0) (cpos (show (0 : Int) < mp ps j by omega))
     have p2 := mul_nn (a := (A.2 : Rat) - (A.1 : Rat)) (b := (mp ps j : Rat) - (((outs ps (j : Int)).length : Nat) : Rat)) (by grind) (by grind)
     grind
   · rw [if_pos (Nat.zero_le _)]
     unfold eqF
     rw [if_pos hi, if_pos hj]
     exact fac_cast ps A j i
 · unfold eqF
   rw [if_pos hi, if_neg (by omega), if_pos rfl]
   exact h.nn _ (List.mem_of_getElem? (L2.getD_mapI (by have := h.len; omega)))
end Pw

namespace Pw
section
variable (ps : List (Int × Int)) (A : Int × Int) (ss : List Int) (n : Nat)
noncomputable def xS (j : Nat) : Int := (fF (eqF ps A ss n) n).1 j n
noncomputable def dS : Int := (fF (eqF ps A ss n) n).2
noncomputable def vS (j : Nat) : Int := mp ps j * xS ps A ss n j
noncomputable def VS : Int := ((List.range n).map (vS ps A ss n)).sum
noncomputable def shL : List (Int × Int) := (List.range n).map fun j => mk (vS ps A ss n j) (VS ps A ss n)
end
section
variable {ps : List (Int × Int)} {A : Int × Int} {ss : List Int} {n : Nat}
theorem EqOk.x_nn (h : EqOk ps A ss n) {j : Nat} (hj : j < n) : 0 ≤ xS ps A ss n j := ((fF_ok h.sgn n (Nat.le_refl _)).2.1).rhs j hj
theorem EqOk.d_pos (h : EqOk ps A ss n) : 0 < dS ps A ss n := (fF_ok h.sgn n (Nat.le_refl _)).2.2.1
theorem EqOk.v_nn (h : EqOk ps A ss n) {j : Nat} (hj : j < n) : 0 ≤ vS ps A ss n j := Int.mul_nonneg (by have := (mp_ge ps j).1; omega) (h.x_nn hj)
theorem EqOk.row (h : EqOk ps A ss n) {i : Nat} (hi : i < n) : (A.2 : Rat) * (vS ps A ss n i : Rat) = ((A.2 : Rat) - (A.1 : Rat)) * qs n (fun j => (cn ps j i : Rat) * (xS ps A ss n j : Rat)) + (dS ps A ss n : Rat) * (ss.getD i 0 : Rat) := by
 have h1 := fF_solves h.sgn hi
 have e0 : eqF ps A ss n i n = ss.getD i 0 := by unfold eqF; rw [if_pos hi, if_neg (by omega), if_pos rfl]
 rw [e0] at h1
 have e1 : qs n (fun j => (eqF ps A ss n i j : Rat) * ((fF (eqF ps A ss n) n).1 j n : Rat)) = qs n (fun j => (if j = i then (A.2 : Rat) * (vS ps A ss n i : Rat) else 0) + (-((A.2 : Rat) - (A.1 : Rat))) * ((cn ps j i : Rat) * (xS ps A ss n j : Rat))) := qs_congr fun j hj => by
  have e2 : eqF ps A ss n i j = fac ps A j i := by unfold eqF; rw [if_pos hi, if_pos hj]
  rw [e2, fac_cast]
  show _ * (xS ps A ss n j : Rat) = _
  by_cases e : j = i
  · subst e
    rw [if_pos rfl, if_pos rfl]
    unfold vS
    rw [Rat.intCast_mul]; grind
  · rw [if_neg e, if_neg (fun z => e z.symm)]; grind
 rw [e1, qs_add, qs_mul, qs_single hi fun j _ hj => by rw [if_neg hj], if_pos rfl] at h1
 have e3 : ((fF (eqF ps A ss n) n).2 : Rat) = (dS ps A ss n : Rat) := rfl
 rw [e3] at h1
 grind
theorem VS_qs : (VS ps A ss n : Rat) = qs n (fun j => (vS ps A ss n j : Rat)) := (qs_ints n).symm
noncomputable def dg (ps : List (Int × Int)) (A : Int × Int) (ss : List Int) (n j : Nat) : Rat := if outs ps (j : Int) = [] then (vS ps A ss n j : Rat) else 0
theorem len_x (j : Nat) : (((outs ps (j : Int)).length : Nat) : Rat) * (xS ps A ss n j : Rat) = (vS ps A ss n j : Rat) + (-1) * dg ps A ss n j := by
 unfold dg vS
 by_cases e : outs ps (j : Int) = []
 · rw [if_pos e, e]
   simp
   grind
 · rw [if_neg e]
   have : mp ps j = (((outs ps (j : Int)).length : Nat) : Int) := by
    unfold mp
    have := List.length_pos_iff.mpr e
    omega
   rw [this, Rat.intCast_mul]
   have e2 : ((((outs ps (j : Int)).length : Nat) : Int) : Rat) = (((outs ps (j : Int)).length : Nat) : Rat) := rfl
   rw [e2]; grind
theorem EqOk.all (h : EqOk ps A ss n) : (A.1 : Rat) * (VS ps A ss n : Rat) + ((A.2 : Rat) - (A.1 : Rat)) * qs n (fun j => dg ps A ss n j) = (dS ps A ss n : Rat) * (ss.sum : Rat) := by
 have h1 : qs n (fun i => (A.2 : Rat) * (vS ps A ss n i : Rat)) = qs n (fun i => ((A.2 : Rat) - (A.1 : Rat)) * qs n (fun j => (cn ps j i : Rat) * (xS ps A ss n j : Rat)) + (dS ps A ss n : Rat) * (ss.getD i 0 : Rat)) := qs_congr fun i hi => h.row hi
 rw [qs_mul, qs_add, qs_mul, qs_mul, qs_swap (fun i j => (cn ps j i : Rat) * (xS ps A ss n j : Rat)), ← VS_qs] at h1
 have h2 : qs n (fun j => qs n (fun i => (cn ps j i : Rat) * (xS ps A ss n j : Rat))) = qs n (fun j => (vS ps A ss n j : Rat) + (-1) * dg ps A ss n j) := qs_congr fun j hj => by
  have : qs n (fun i => (cn ps j i : Rat) * (xS ps A ss n j : Rat)) = qs n (fun i => (xS ps A ss n j : Rat) * (cn ps j i : Rat)) := qs_congr fun i _ => Rat.mul_comm ..
  rw [this, qs_mul, cn_sum h.lk, ← len_x]; grind
 have h3 : qs n (fun i => (ss.getD i 0 : Rat)) = (ss.sum : Rat) := by
  have := qs_list ss
  rwa [h.len] at this
 rw [h2, h3, qs_add, qs_mul, ← VS_qs] at h1
 grind
theorem dg_le (h : EqOk ps A ss n) {j : Nat} (hj : j < n) : 0 ≤ dg ps A ss n j ∧ dg ps A ss n j ≤ (vS ps A ss n j : Rat) := by
 have := cnn (h.v_nn hj)
 unfold dg
 split <;> grind
theorem EqOk.V_pos (h : EqOk ps A ss n) : 0 < VS ps A ss n := by
 have h1 := h.all
 have h2 := qs_le fun j hj => (dg_le h (j := j) hj).2
 rw [← VS_qs] at h2
 have a1 : (A.1 : Rat) ≤ (A.2 : Rat) := Rat.intCast_le_intCast.mpr h.a1
 have p1 := Rat.mul_pos (cpos h.d_pos) (cpos h.pos)
 have p2 := mul_nn (a := (A.2 : Rat) - (A.1 : Rat)) (b := (VS ps A ss n : Rat) - qs n (fun j => dg ps A ss n j)) (by grind) (by grind)
 have a2 := cpos (show 0 < A.2 by have := h.a0; have := h.a1; omega)
 have h3 : 0 < (A.2 : Rat) * (VS ps A ss n : Rat) := by grind
 have h4 : (0 : Rat) < (VS ps A ss n : Rat) := by
  refine Rat.not_le.mp fun z => ?_
  have := mul_le_r z (Rat.le_of_lt a2)
  grind
 have : ((0 : Int) : Rat) < (VS ps A ss n : Rat) := by simpa using h4
 exact Rat.intCast_lt_intCast.mp this
end
structure ShOk (ps : List (Int × Int)) (A : Int × Int) (Bs : List (Int × Int)) (n : Nat) (Ss : List (Int × Int)) : Prop where
 len : Ss.length = n
 canon : Canons Ss
 nn : ∀ S ∈ Ss, 0 ≤ S.1
 one : qs n (fun t => val (Ss.getD t (0, 1))) = 1
 stay : ∀ t, t < n → behQ ps A Bs Ss n t = val (Ss.getD t (0, 1))
theorem way_val {ps : List (Int × Int)} {A : Int × Int} {Bs : List (Int × Int)} {n j t : Nat} (ca : Canon A) (cb : Canons Bs) (hn : Bs.length = n) (ht : t < n) : val ((waysL ps A Bs (j : Nat)).getD t (0, 1)) = if outs ps (j : Int) = [] then val (Bs.getD t (0, 1)) else val A * val (Bs.getD t (0, 1)) + (1 - val A) * ((cn ps j t : Rat) / (((outs ps (j : Int)).length : Nat) : Rat)) := by
 unfold waysL
 split
 · rfl
 · rename_i h
   rw [getD_map_range (by omega), val_wayF ca (cb.getD t) (outs_len_ne h)]
   rfl
theorem shL_ok {ps : List (Int × Int)} {A : Int × Int} {Bs : List (Int × Int)} {ss : List Int} {n : Nat} {L : Int} (h : EqOk ps A ss n) (ca : Canon A) (cb : Canons Bs) (hn : Bs.length = n) (hL : 0 < L) (hB : ∀ t, t < n → (ss.getD t 0 : Rat) = val (Bs.getD t (0, 1)) * (L : Rat)) (one : qs n (fun t => val (Bs.getD t (0, 1))) = 1) : ShOk ps A Bs n (shL ps A ss n) := by
 have hV := h.V_pos
 have hVq := cpos hV
 have hVn := castne (d := VS ps A ss n) (by omega)
 have vs : ∀ t, t < n → val ((shL ps A ss n).getD t (0, 1)) = (vS ps A ss n t : Rat) / (VS ps A ss n : Rat) := fun t ht => by
  unfold shL
  rw [getD_map_range ht, val_mk (by omega)]
 refine ⟨by unfold shL; simp, fun S hS => ?_, fun S hS => ?_, ?_, fun t ht => ?_⟩
 · obtain ⟨t, _, rfl⟩ := List.mem_map.mp hS
   exact canon_mk (by omega)
 · obtain ⟨t, ht, rfl⟩ := List.mem_map.mp hS
   exact mk_nonneg hV (h.v_nn (List.mem_range.mp ht))
 · rw [qs_congr (g := fun t => (1 / (VS ps A ss n : Rat)) * (vS ps A ss n t : Rat)) fun t ht => by rw [vs t ht]; grind, qs_mul, ← VS_qs]
   grind
 · rw [vs t ht]
   unfold behQ
   have ha2 : 0 < A.2 := ca.1
   have haq := castne (canon_ne ca)
   have eα : val A * (A.2 : Rat) = (A.1 : Rat) := by unfold val; grind
   have sumS : (ss.sum : Rat) = (L : Rat) := by
    have h3 : qs n (fun i => (ss.getD i 0 : Rat)) = (ss.sum : Rat) := by
     have := qs_list ss
     rwa [h.len] at this
    rw [← h3, qs_congr (g := fun t => (L : Rat) * val (Bs.getD t (0, 1))) fun t ht => by rw [hB t ht]; grind, qs_mul, one]; grind
   have hall := h.all
   rw [sumS] at hall
   have hrow := h.row ht
   rw [hB t ht] at hrow
   have key : qs n (fun j => (vS ps A ss n j : Rat) * val ((waysL ps A Bs (j : Nat)).getD t (0, 1))) = (val A * val (Bs.getD t (0, 1))) * (VS ps A ss n : Rat) + (1 - val A) * qs n (fun j => (cn ps j t : Rat) * (xS ps A ss n j : Rat)) + ((1 - val A) * val (Bs.getD t (0, 1))) * qs n (fun j => dg ps A ss n j) := by
    have e1 : qs n (fun j => (vS ps A ss n j : Rat) * val ((waysL ps A Bs (j : Nat)).getD t (0, 1))) = qs n (fun j => ((val A * val (Bs.getD t (0, 1))) * (vS ps A ss n j : Rat) + (1 - val A) * ((cn ps j t : Rat) * (xS ps A ss n j : Rat))) + ((1 - val A) * val (Bs.getD t (0, 1))) * dg ps A ss n j) := qs_congr fun j hj => by
     rw [way_val ca cb hn ht]
     have hlx := len_x (ps := ps) (A := A) (ss := ss) (n := n) j
     unfold dg at hlx ⊢
     by_cases e : outs ps (j : Int) = []
     · rw [if_pos e, if_pos e]
       have : cn ps j t = 0 := by unfold cn; rw [e]; rfl
       rw [this]
       simp
       grind
     · rw [if_neg e] at hlx ⊢
       rw [if_neg e]
       have hl : (((outs ps (j : Int)).length : Nat) : Rat) ≠ 0 := castne (outs_len_ne e)
       generalize (((outs ps (j : Int)).length : Nat) : Rat) = l at *
       have : (vS ps A ss n j : Rat) = l * (xS ps A ss n j : Rat) := by grind
       rw [this]
       grind
    rw [e1, qs_add, qs_add, qs_mul, qs_mul, qs_mul, ← VS_qs]
   have e2 : qs n (fun i => val ((shL ps A ss n).getD i (0, 1)) * val ((waysL ps A Bs (i : Nat)).getD t (0, 1))) = (1 / (VS ps A ss n : Rat)) * qs n (fun j => (vS ps A ss n j : Rat) * val ((waysL ps A Bs (j : Nat)).getD t (0, 1))) := by
    rw [← qs_mul]
    exact qs_congr fun j hj => by rw [vs j hj]; grind
   rw [e2, key]
   generalize qs n (fun j => (cn ps j t : Rat) * (xS ps A ss n j : Rat)) = Cq at *
   generalize qs n (fun j => dg ps A ss n j) = Dq at *
   generalize val (Bs.getD t (0, 1)) = b at *
   generalize (vS ps A ss n t : Rat) = v at *
   generalize (VS ps A ss n : Rat) = V at *
   generalize (dS ps A ss n : Rat) = d at *
   generalize val A = α at *
   generalize (A.2 : Rat) = a2 at *
   generalize (A.1 : Rat) = a1 at *
   subst eα
   have k1 : a2 * v = a2 * ((1 - α) * Cq + (α * V + (1 - α) * Dq) * b) := by grind
   have k2 : v = (1 - α) * Cq + (α * V + (1 - α) * Dq) * b := by grind
   rw [k2]
   grind
end Pw

namespace L2
open PySem PySem.Spec PyProof.Rows
section
variable {X : Cx}
noncomputable def tBMT (r : V → List V → Hp → VK → Prop) (to : TE) (t : TA) : TE := fun σ H Q => to σ H fun x H1 => (∃ (p : Addr) (xs : List V), x = .ref p ∧ H1 p = some (.tup xs)) ∧ t σ H1 fun xs H2 => r x xs H2 Q
theorem pe_bmT {o e : Expr} {es : List Expr} {to : TE} {t : TA} {name : Str} {apos cpos : Pos} {id : String} {r : V → List V → Hp → VK → Prop} (hbase : attributeBase o name X.env (eval o X.env) = eval o X.env)
 (hfew : ((backTo cpos (starEach (e :: es) X.env)).all (fun x => !x.1) && (backToKw cpos (keywordEach [] X.env)).all (fun x => x.1.isSome) && decide ((e :: es).length + ([] : List Keyword).length + (if ([] : List Keyword).isEmpty then 0 else 1) < 30)) = true)
 (hline : (apos.endLine == cpos.line) = true) (hs : starEach (e :: es) X.env = (false, eval e X.env) :: starEach es X.env) (hplain : (backTo cpos (starEach es X.env)).any (·.1) = false)
 (pa : PlainAttrs "tuple") (slot : Slot "tuple" name id) (hty : typeOf (.builtin id) = pure (.type "method_descriptor")) (hm : MtM X id r) (ho : PE X o to) (ha : PA X (e :: es) t) : PE X (.Call (.Attribute o name apos) (e :: es) [] cpos) (tBMT r to t) := by
 intro pins s σ H Q I h
 refine wpAny_Call_method_late hbase hfew hline rfl (thn (ho pins s σ H _ I h) fun v s1 ⟨x, H1, I1, r1, ty, q1⟩ => ?_)
 obtain ⟨p, xs, rfl, hp⟩ := ty
 cases r1
 obtain ⟨_, its, _, ob, e1, c1, n1, d1⟩ : xs.length ≤ sizeLine ∧ ∃ its : List Value, Vals xs its ∧ IsTupN s1.heap p its.toArray := I1.hok p _ hp
 refine ⟨"tuple", id, pa, slot, hty, ⟨ob, e1, congrArg Prod.fst c1⟩, fun a ea => by cases ea; exact ⟨ob, e1, congrArg Prod.snd c1⟩, ?_⟩
 have hA := ha cpos pins s1 σ H1 _ I1 q1
 rw [hs] at hA ⊢
 refine Calls.callWith_builtin (by show (false || (backTo cpos (starEach es X.env)).any (·.1)) = false; rw [hplain] <;> rfl) (Calls.evalArgs_plain ?_)
 exact thn hA fun us s2 ⟨vs, H2, I2, r2, q2⟩ => hm pins s2 σ H2 (.ref p) vs (.ref p) us Q I2 rfl r2 q2
noncomputable def rCntT (K : PySem.W.Frag) : V → List V → Hp → VK → Prop := fun o xs H Q => ∃ (t q : Addr) (us : List V) (ps : List (Int × Int)) (p : Int × Int), o = .ref t ∧ xs = [.ref q] ∧ H t = some (.tup us) ∧ Prs K H ps us ∧ SqT K H q [.int p.1, .int p.2] ∧ Q (.int ((ps.count p : Nat) : Int)) H
open Classical in
theorem mt_countT {k : Nat} (hr : Room k X.A) : MtM X "tuple.count" (rCntT X.K) := by
 intro pins s σ H x vs v us' Q I rx rv h
 obtain ⟨t, q, us, ps, p, rfl, rfl, ht, hp, hq, k⟩ := h
 cases rx
 obtain ⟨u, rfl, ru⟩ := rv.one
 cases ru
 obtain ⟨its, r, pl, hz⟩ := I.tuple (SqT.of ht)
 obtain ⟨⟨c, dd, dt, sl⟩, e, hc, n, hd⟩ := pl
 have hc : c = .type "tuple" := hc
 have hd : dt = .seq its.toArray n := hd
 subst hc hd
 have hu := hr.units
 have hu0 : X.A.in1.units ≤ X.A.units + 8 := by
  first | exact Nat.le_add_right _ _ | (simp [Around.in1]) | (unfold Around.in1; simp)
 have hu1 : X.A.in1.units + 20 < cLine := by omega
 refine call_meets F.slot_tuple_count ⟨_, e, rfl⟩ F.entry_tuple_count (F.args_tuple_count_2 _ _) (SeqAt.tuple_countAt t its.toArray n dd sl (.ref q) (fun y => decide (∃ a, y = .ref a ∧ SqT X.K H a [.int p.1, .int p.2]))) ⟨e, fun y hy => ?_, ?_⟩
 · have hy : y ∈ its := by simpa using hy
   obtain ⟨i, hi, rfl⟩ := List.getElem_of_mem hy
   have hl := r.length
   obtain ⟨a, p', e1, e2, e3⟩ := hp.get (i := i) (v := us[i]) (by simp)
   obtain ⟨w, ew, rw'⟩ := r.get (i := i) (x := us[i]) (by simp)
   rw [e2] at rw'
   cases rw'
   have ew : its[i] = .ref a := by
    have := ew
    rw [List.getElem?_eq_getElem hi] at this
    exact Option.some.inj this
   rw [ew]
   have key := eqAt_D I 20 (X.A.in1) (tupD p') (tupD p) (.ref a) (.ref q) (.ref a) (.ref q) (by unfold tupD; simp only [depD, depDs]; decide) hu1 (by unfold tupD; simp only [Den]; exact ⟨a, _, rfl, e3, dens2 _ _ _ _⟩) (by unfold tupD; simp only [Den]; exact ⟨q, _, rfl, hq, dens2 _ _ _ _⟩) rfl rfl
   have e4 : eqD (tupD p') (tupD p) = decide (∃ b, Value.ref a = .ref b ∧ SqT X.K H b [.int p.1, .int p.2]) := by
    unfold tupD
    simp only [eqD]
    rw [eqDs2]
    by_cases hh : p' = p
    · subst hh
      rw [decide_eq_true (show (p'.1, p'.2) = (p'.1, p'.2) from rfl), decide_eq_true ⟨a, rfl, e3⟩]
    · rw [decide_eq_false (fun z => hh z), decide_eq_false]
      rintro ⟨b, hb, hs⟩
      cases hb
      have := I.tuple_inj e3 hs
      simp at this
      exact hh (Prod.ext this.1 this.2)
   rw [← e4]
   exact key
 · refine ⟨.int _, H, I.tok _, ⟨_, rfl⟩, ?_⟩
   have cnt : ∀ {ps : List (Int × Int)} {us : List V} {its : List Value}, Prs X.K H ps us → Vals us its → its.countP (fun y => decide (∃ a, y = .ref a ∧ SqT X.K H a [.int p.1, .int p.2])) = ps.count p := by
    intro ps
    induction ps with
    | nil =>
      intro us its hp r
      have hl := hp.len
      have : us = [] := List.length_eq_zero_iff.mp hl
      subst this
      cases r
      rfl
    | cons p' ps ih =>
      intro us its hp r
      obtain ⟨a, us', rfl, e3, hp'⟩ := prs_uncons hp
      cases r with
      | cons ra rr =>
        cases ra
        rw [List.countP_cons, List.count_cons, ih hp' rr]
        congr 1
        by_cases hh : p' = p
        · subst hh
          rw [if_pos (decide_eq_true ⟨a, rfl, e3⟩), if_pos (by simp)]
        · rw [if_neg, if_neg (by simpa using hh)]
          intro z
          obtain ⟨b, hb, hs⟩ := of_decide_eq_true z
          cases hb
          have := I.tuple_inj e3 hs
          simp at this
          exact hh (Prod.ext this.1 this.2)
   show Q (.int ((List.countP _ its.toArray.toList : Nat) : Int)) H
   rw [List.toList_toArray, cnt hp r]
   exact k
end
end L2

namespace L2
open PySem PySem.Spec PyProof.Rows
noncomputable def rowI (f : Nat → Int) (m : Nat) : List V := ((List.range m).map f).map V.int
theorem rowI_len (f : Nat → Int) (m : Nat) : (rowI f m).length = m := by unfold rowI; simp
theorem rowI_get {f : Nat → Int} {m j : Nat} (h : j < m) : (rowI f m)[j]? = some (.int (f j)) := by
 unfold rowI
 rw [List.getElem?_map, List.getElem?_map, List.getElem?_range h]; rfl
theorem rowI_succ (f : Nat → Int) (m : Nat) : rowI f (m + 1) = rowI f m ++ [.int (f m)] := by
 unfold rowI
 rw [List.range_succ, List.map_append, List.map_append]; rfl
theorem rowI_congr {f g : Nat → Int} {m : Nat} (h : ∀ j, j < m → f j = g j) : rowI f m = rowI g m := by
 unfold rowI
 congr 1
 exact List.map_congr_left fun j hj => h j (List.mem_range.mp hj)
noncomputable def MatL (H : Hp) (n m : Nat) (f : Nat → Nat → Int) (us : List V) : Prop := us.length = n ∧ ∀ i, i < n → ∃ q, us[i]? = some (.ref q) ∧ H q = some (.lst (rowI (f i) m))
theorem MatL.same {H H' : Hp} {n m : Nat} {f : Nat → Nat → Int} {us : List V} (h : MatL H n m f us) (s : Same H H') : MatL H' n m f us :=
 ⟨h.1, fun i hi => by
  obtain ⟨q, a, b⟩ := h.2 i hi
  exact ⟨q, a, s _ _ b⟩⟩
theorem MatL.snoc {H : Hp} {n m : Nat} {f : Nat → Nat → Int} {us : List V} (h : MatL H n m f us) {q : Addr} (hq : H q = some (.lst (rowI (f n) m))) : MatL H (n + 1) m f (us ++ [.ref q]) := by
 refine ⟨by rw [List.length_append, h.1]; rfl, fun i hi => ?_⟩
 by_cases e : i = n
 · subst e
   exact ⟨q, by rw [← h.1]; simp, hq⟩
 · obtain ⟨q', a, b⟩ := h.2 i (by omega)
   exact ⟨q', by rw [List.getElem?_append_left (by rw [h.1]; omega)]; exact a, b⟩
theorem MatL.put {H : Hp} {n m : Nat} {f : Nat → Nat → Int} {us xs : List V} {D : Addr} {o : HO} (h : MatL H n m f us) (hD : ∀ i, i < n → us[i]? ≠ some (.ref D)) : MatL (upd H D o) n m f us :=
 ⟨h.1, fun i hi => by
  obtain ⟨q, a, b⟩ := h.2 i hi
  exact ⟨q, a, by rw [upd_ne (fun z => hD i hi (by rw [a, z]))]; exact b⟩⟩
noncomputable def spParts (K : PySem.W.Frag) : Sp := fun vs H Q _ => ∃ (w : Addr) (pages : Int) (j : Nat) (ps : List (Int × Int)), vs = [.ref w, .int j] ∧ WebAt K H w pages ps ∧ ps.length ≤ 100 ∧ ∀ H', Same H H' → Q (.int (Pw.mp ps j)) H'
noncomputable def spFactor (K : PySem.W.Frag) : Sp := fun vs H Q _ => ∃ (w lp : Addr) (pages : Int) (j i : Nat) (ps : List (Int × Int)) (A : Int × Int), vs = [.ref w, .ref lp, .int j, .int i] ∧ WebAt K H w pages ps ∧ ps.length ≤ 100 ∧ FrA K H lp A ∧ Sz2 150 A ∧ ∀ H', Same H H' → Q (.int (Pw.fac ps A j i)) H'
noncomputable def spEquation (K : PySem.W.Frag) : Sp := fun vs H Q _ => ∃ (w lp : Addr) (pages : Int) (i : Nat) (st : Int) (ps : List (Int × Int)) (A : Int × Int), vs = [.ref w, .ref lp, .int i, .int st] ∧ WebAt K H w pages ps ∧ 1 ≤ pages ∧ pages ≤ 13 ∧ ps.length ≤ 100 ∧ FrA K H lp A ∧ Sz2 150 A ∧
 ∀ (p : Addr) (H' : Hp), Same H H' → H p = none → H' p = some (.lst (rowI (fun j => Pw.fac ps A j i) pages.toNat ++ [.int st])) → Q (.ref p) H'
noncomputable def spCleared (K : PySem.W.Frag) : Sp := fun vs H Q _ => ∃ (e c : Addr) (k m : Nat) (d : Int) (f g : Nat → Int), vs = [.ref e, .ref c, .int k, .int d] ∧ H e = some (.lst (rowI f m)) ∧ H c = some (.lst (rowI g m)) ∧ k < m ∧ m ≤ 20 ∧ d ≠ 0 ∧ Sz 8000 d ∧ (∀ j, j < m → Sz 8000 (f j) ∧ Sz 8000 (g j)) ∧
 ∀ (p : Addr) (H' : Hp), Same H H' → H p = none → H' p = some (.lst (rowI (fun j => (g k * f j - f k * g j).fdiv d) m)) → Q (.ref p) H'
noncomputable def spSolved (K : PySem.W.Frag) : Sp := fun vs H Q _ => ∃ (e : Addr) (us : List V) (n z : Nat) (f0 : Nat → Nat → Int), vs = [.ref e] ∧ H e = some (.lst us) ∧ MatL H n (n + 1) f0 us ∧ Pw.Sgn n 0 f0 ∧ 1 ≤ n ∧ n ≤ 12 ∧ z ≤ 150 ∧ (∀ i j, (f0 i j).natAbs ≤ 2 ^ z) ∧
 ∀ (t l : Addr) (H' : Hp), Same H H' → H' t = some (.tup [.ref l, .int (Pw.fF f0 n).2]) → H' l = some (.lst (rowI (fun i => (Pw.fF f0 n).1 i n) n)) → Q (.ref t) H'
theorem fF_sz {f0 : Nat → Nat → Int} {n z : Nat} (s0 : Pw.Sgn n 0 f0) (hn : n ≤ 12) (hb : ∀ i j, (f0 i j).natAbs ≤ 2 ^ z) {k : Nat} (hk : k ≤ n) : (∀ i j, i < n → j ≤ n → Sz ((z + 4) * 13 + 1) ((Pw.fF f0 k).1 i j)) ∧ Sz ((z + 4) * 13 + 1) (Pw.fF f0 k).2 := by
 obtain ⟨h1, h2⟩ := Pw.fF_bd (U := 2 ^ z) (Y := 2 ^ (z + 4)) s0 hn (Nat.two_pow_pos _) (by rw [Nat.pow_add]; omega) hb hk
 have e : (2 ^ (z + 4)) ^ 13 = 2 ^ ((z + 4) * 13) := (Nat.pow_mul ..).symm
 rw [e] at h2
 have lt : 2 ^ ((z + 4) * 13) < 2 ^ ((z + 4) * 13 + 1) := Nat.pow_lt_pow_right (by decide) (by omega)
 refine ⟨fun i j hi hj => ?_, Nat.lt_of_le_of_lt h2 lt⟩
 have := h1 i j hi hj
 rw [e] at this
 exact Nat.lt_of_le_of_lt this lt
theorem eqF_sz {ps : List (Int × Int)} {A : Int × Int} {ss : List Int} {n z : Nat} (few : ps.length ≤ 100) (h : Pw.EqOk ps A ss n) (sa : Sz z A.2) (hs : ∀ s ∈ ss, s ≤ 2 ^ z) : ∀ i j, (Pw.eqF ps A ss n i j).natAbs ≤ 2 ^ (z + 7) := by
 intro i j
 have a0 := h.a0
 have a1 := h.a1
 have sa' : A.2.natAbs < 2 ^ z := sa
 have ep : (2 : Nat) ^ (z + 7) = 2 ^ z * 128 := by rw [Nat.pow_add]
 unfold Pw.eqF
 split
 · split
   · have hl := Pw.outs_len ps (j : Int)
     have hc := List.count_le_length (a := (i : Int)) (l := Pw.outs ps (j : Int))
     have hm : 1 ≤ Pw.mp ps j ∧ Pw.mp ps j ≤ 100 := by unfold Pw.mp; omega
     have hcn : 0 ≤ Pw.cn ps j i ∧ Pw.cn ps j i ≤ 100 := by unfold Pw.cn; omega
     have k1 : 0 ≤ A.2 * Pw.mp ps j := Int.mul_nonneg (by omega) (by omega)
     have k2 : A.2 * Pw.mp ps j ≤ A.2 * 100 := Int.mul_le_mul_of_nonneg_left hm.2 (by omega)
     have k3 : 0 ≤ (A.2 - A.1) * Pw.cn ps j i := Int.mul_nonneg (by omega) hcn.1
     have k4 : (A.2 - A.1) * Pw.cn ps j i ≤ (A.2 - A.1) * 100 := Int.mul_le_mul_of_nonneg_left hcn.2 (by omega)
     unfold Pw.fac
     split <;> omega
   · split
     · have hs' : Pw.EqOk ps A ss n := h
       by_cases hi : i < ss.length
       · have hm : ss.getD i 0 ∈ ss := List.mem_of_getElem? (getD_mapI hi)
         have b1 := hs _ hm
         have b2 := h.nn _ hm
         have : ((2 : Int) ^ z) = ((2 ^ z : Nat) : Int) := by push_cast; rfl
         rw [this] at b1
         omega
       · rw [List.getD_eq_getElem?_getD, List.getElem?_eq_none (by omega)]
         simp
     · simp
 · simp
noncomputable def spVisits (K : PySem.W.Frag) : Sp := fun vs H Q _ => ∃ (w lp ls : Addr) (pages : Int) (ps : List (Int × Int)) (A : Int × Int) (Bs : List (Int × Int)) (us : List V) (S : Int) (z : Nat), vs = [.ref w, .ref lp, .ref ls] ∧ Gv K H w lp ls pages ps A Bs us ∧ Pr A Bs S ∧ pages ≤ 12 ∧ z ≤ 140 ∧ Sz2 z A ∧ Sz z S ∧
 ∀ (p : Addr) (H' : Hp) (ss : List Int) (L : Int), Pw.EqOk ps A ss pages.toNat → 0 < L → (∀ t, t < pages.toNat → (ss.getD t 0 : Rat) = Pw.val (Bs.getD t (0, 1)) * (L : Rat)) → (∀ j, j < pages.toNat → Sz ((z + 11) * 13 + 8) (Pw.vS ps A ss pages.toNat j)) → Same H H' → H' p = some (.lst (rowI (Pw.vS ps A ss pages.toNat) pages.toNat)) → Q (.ref p) H'
noncomputable def spShares (K : PySem.W.Frag) : Sp := fun vs H Q _ => ∃ (w lp ls : Addr) (pages : Int) (ps : List (Int × Int)) (A : Int × Int) (Bs : List (Int × Int)) (us : List V) (S : Int) (z : Nat), vs = [.ref w, .ref lp, .ref ls] ∧ Gv K H w lp ls pages ps A Bs us ∧ Pr A Bs S ∧ pages ≤ 12 ∧ z ≤ 140 ∧ Sz2 z A ∧ Sz z S ∧
 ∀ (t : Addr) (H' : Hp) (Ss : List (Int × Int)) (V' : Int) (ys : List V), Pw.ShOk ps A Bs pages.toNat Ss → 0 < V' → Sz ((z + 11) * 13 + 20) V' → (∀ S ∈ Ss, S.2 ∣ V') → Same H H' → H' t = some (.tup ys) → FrL K H' Ss ys → Q (.ref t) H'
end L2

namespace Pw
theorem way_ge {ps : List (Int × Int)} {A : Int × Int} {Bs : List (Int × Int)} {S : Int} {n j t : Nat} (ca : Canon A) (cb : Canons Bs) (hn : Bs.length = n) (pr : L2.Pr A Bs S) (ht : t < n) : val A * val (Bs.getD t (0, 1)) ≤ val ((waysL ps A Bs (j : Nat)).getD t (0, 1)) := by
 rw [way_val ca cb hn ht]
 have a0 := val_nn ca.1 (by have := pr.a0; omega)
 have a1 := val_le1 ca.1 pr.a1
 have hB := L2.mem_getD (Bs := Bs) (t := t) (by omega)
 have b0 := val_nn (cb _ hB).1 (pr.nn _ hB)
 split
 · have := mul_nn (a := 1 - val A) (by grind) b0
   grind
 · rename_i h
   have l0 : (0 : Rat) < (((outs ps (j : Int)).length : Nat) : Rat) := cpos (d := (((outs ps (j : Int)).length : Nat) : Int)) (by have := List.length_pos_iff.mpr h; omega)
   have c0 := div_nn (cnn (d := cn ps j t) (by unfold cn; omega)) l0
   have := mul_nn (a := 1 - val A) (by grind) c0
   grind
theorem ShOk.unique {ps : List (Int × Int)} {A : Int × Int} {Bs : List (Int × Int)} {S : Int} {n : Nat} {Ss Ts : List (Int × Int)} (lk : ∀ p ∈ ps, 0 ≤ p.2 ∧ p.2 < (n : Int)) (ca : Canon A) (cb : Canons Bs) (hn : Bs.length = n) (pr : L2.Pr A Bs S) (h : ShOk ps A Bs n Ss) (h' : ShOk ps A Bs n Ts) : Ss = Ts := by
 have one := pr.one
 rw [hn] at one
 have u := Pw.unique (n := n) (W := fun i t => val ((waysL ps A Bs i).getD t (0, 1))) (B := fun t => val (Bs.getD t (0, 1))) (a := val A) (x := fun t => val (Ss.getD t (0, 1))) (y := fun t => val (Ts.getD t (0, 1)))
  (by
   have hp := cpos ca.1
   have h1 := cpos pr.a0
   unfold val
   rw [Rat.div_def]
   exact Rat.mul_pos h1 (Rat.inv_pos.mpr hp))
  (fun i t _ ht => way_ge ca cb hn pr ht) (fun i _ => ways_sum lk ca cb hn one) one (by rw [h.one, h'.one]) (fun t ht => h.stay t ht) (fun t ht => h'.stay t ht)
 refine List.ext_getElem (by rw [h.len, h'.len]) fun i h1 h2 => ?_
 have := u i (by have := h.len; omega)
 rw [List.getD_eq_getElem?_getD, List.getElem?_eq_getElem h1, List.getD_eq_getElem?_getD, List.getElem?_eq_getElem h2] at this
 exact val_inj (h.canon _ (List.getElem_mem h1)) (h'.canon _ (List.getElem_mem h2)) this
theorem ShOk.le1 {ps : List (Int × Int)} {A : Int × Int} {Bs : List (Int × Int)} {n : Nat} {Ss : List (Int × Int)} (h : ShOk ps A Bs n Ss) : ∀ S ∈ Ss, S.1 ≤ S.2 := by
 intro S hS
 obtain ⟨i, hi, rfl⟩ := List.getElem_of_mem hS
 have c := h.canon _ (List.getElem_mem hi)
 have h1 := qs_ge (n := n) (k := i) (f := fun t => val (Ss.getD t (0, 1))) (by have := h.len; omega) fun t ht => by
  have := L2.mem_getD (Bs := Ss) (t := t) (by have := h.len; omega)
  exact val_nn (h.canon _ this).1 (h.nn _ this)
 rw [h.one] at h1
 rw [List.getD_eq_getElem?_getD, List.getElem?_eq_getElem hi] at h1
 have h1 : val Ss[i] ≤ 1 := h1
 have hp := cpos c.1
 have h2 := mul_le_r h1 (Rat.le_of_lt hp)
 have hne := castne (canon_ne c)
 have e : val Ss[i] * (Ss[i].2 : Rat) = (Ss[i].1 : Rat) := by unfold val; grind
 rw [e] at h2
 have h3 : (Ss[i].1 : Rat) ≤ (Ss[i].2 : Rat) := by grind
 exact Rat.intCast_le_intCast.mp h3
end Pw
namespace L2
open PySem PySem.Spec PyProof.Rows
theorem le_sum : ∀ {ns : List Int} {s : Int}, (∀ n ∈ ns, 0 ≤ n) → s ∈ ns → s ≤ ns.sum
 | n :: ns, s, h, hs => by
   have h1 := Pw.sum_nn fun m hm => h m (List.mem_cons_of_mem _ hm)
   have h2 := h n List.mem_cons_self
   rw [List.sum_cons]
   rcases List.mem_cons.mp hs with rfl | hs
   · omega
   · have := le_sum (fun m hm => h m (List.mem_cons_of_mem _ hm)) hs
     omega
end L2

namespace L2
end L2

namespace Pw
section
variable {ps : List (Int × Int)} {A : Int × Int} {Bs : List (Int × Int)} {S : Int} {n : Nat} {Ss : List (Int × Int)}
end
end Pw

namespace L2
open PySem PySem.Spec PyProof.Rows
end L2

namespace L2
end L2

namespace L2
open PySem PySem.Spec PyProof.Rows
end L2
namespace Pw
section
variable {ps : List (Int × Int)} {A : Int × Int} {Bs Ds : List (Int × Int)} {n : Nat}
end
theorem one_of {n : Nat} (hn : 1 ≤ n) {B : Nat → Rat} (h : ∀ t, t < n → B t = 1 / (n : Rat)) : qs n B = 1 := by
 have hq : ((n : Nat) : Rat) ≠ 0 := castne (d := (n : Int)) (by omega)
 have key : ∀ m, qs m (fun _ => 1 / (n : Rat)) = (m : Rat) * (1 / (n : Rat)) := fun m => by
  induction m with
  | zero => show (0 : Rat) = ((0 : Nat) : Rat) * _; simp
  | succ m ih =>
    show qs m _ + _ = _
    rw [ih]
    have : ((m + 1 : Nat) : Rat) = (m : Rat) + 1 := by push_cast; rfl
    rw [this]; grind
 rw [qs_congr h, key]; grind
end Pw

namespace Pw
end Pw

namespace Pw
section
variable {Bs : List (Int × Int)} {A : Int × Int} {c n : Nat}
end
end Pw
namespace L2
open PySem PySem.Spec PyProof.Rows
end L2

namespace L2
open PySem PySem.Spec PyProof.Rows
end L2
namespace Pw
section
variable {P : Int × Int} {Bs Cs : List (Int × Int)}
section
variable {n m : Nat} {ps qs' : List (Int × Int)} {A : Int × Int} {P : Int × Int} {Bs Cs Ss Ts : List (Int × Int)}
end
end
end Pw
namespace L2
open PySem PySem.Spec PyProof.Rows
end L2

namespace L2
open PySem PySem.Spec PyProof.Rows
end L2

namespace L2
open PySem PySem.Spec PyProof.Rows
end L2

namespace L2
open PySem PySem.Spec PyProof.Rows
section
variable {prog : Program} {w : World} {A : Around} {E : Value → Shared → Prop} {s : Shared} {z TI TO i1 i2 : Addr} {f1 f2 : List Addr} {n1 n2 k : Nat} {P1 P2 : Nat → Value → Prop} {S1 S2 : Nat → Heap → Prop} {a b : Value}
end
section
variable {prog : Program} {w : World} {A : Around} {z TI TO i1 i2 : Addr} {f1 f2 : List Addr} {n1 n2 : Nat} {P1 P2 : Nat → Value → Prop} {S1 S2 : Nat → Heap → Prop}
end

section
variable {P : Program} {w : World} {K : PySem.W.Frag} {elts : List Expr} {ek : Nat} {epos : Pos} {b1 b2 : Bool}
end
section
variable {X : Cx} {elts : List Expr} {ek : Nat} {epos : Pos}
end
section
variable {K : PySem.W.Frag} {b1 b2 : Bool} {a b D : Addr} {xs zs : List V} {g : TG} {tt : TT} {te : TE} {σ0 : St} {H0 : Hp} {Q : VK}
end
end L2

namespace L2
open PySem PySem.Spec PyProof.Rows
theorem Same.kpd {H H' : Hp} {l : Addr} (k : Same H H') : Kp l H H' := fun b o e _ => k b o e
end L2
namespace Pw
end Pw
namespace L2
open PySem PySem.Spec PyProof.Rows
theorem while_in {c : TT} {tb : TS} {D : Ends} {σ : St} {H : Hp} (Pv : St → Hp → Prop) (μ : St → Hp → Nat) (h0 : Pv σ H)
 (hs : ∀ σ H, Pv σ H → c σ H fun b H1 => if b = true then ∃ N : St → Hp → Prop, (∀ σ' H', N σ' H' → ∃ m', m' < μ σ H ∧ m' = μ σ' H' ∧ Pv σ' H') ∧ tb { D with nx := N, ct := N, bk := D.nx } σ H1 else D.nx σ H1) : tWhile c tb D σ H :=
 ⟨fun m σ H => m = μ σ H ∧ Pv σ H, ⟨_, rfl, h0⟩, fun m σ H ⟨e, p⟩ => by subst e; exact hs σ H p⟩
theorem wN {Pv : St → Hp → Prop} {μ : St → Hp → Nat} {n : Nat} : ∀ σ' H', (Pv σ' H' ∧ μ σ' H' < n) → ∃ m', m' < n ∧ m' = μ σ' H' ∧ Pv σ' H' := fun _ _ ⟨p, l⟩ => ⟨_, l, rfl, p⟩
end L2

namespace L2
open PySem PySem.Spec PyProof.Rows
end L2
namespace Pw
end Pw
namespace L2
end L2
namespace Pw
end Pw

namespace Pw
section
variable {ps : List (Int × Int)} {A : Int × Int} {Bs : List (Int × Int)} {S : Int} {n : Nat}
end
end Pw
namespace L2
open PySem PySem.Spec PyProof.Rows
end L2
namespace L2
open PySem PySem.Spec PyProof.Rows
end L2

namespace L2
open PySem PySem.Spec PyProof.Rows
section
variable {prog : Program} {w : World} {A : Around} {E : Value → Shared → Prop} {s : Shared}
end
section
variable {X : Cx}
end
end L2

namespace Pw
section
variable (ps : List (Int × Int)) (A : Int × Int) (Bs : List (Int × Int)) (n : Nat)
end
section
variable {ps : List (Int × Int)} {A : Int × Int} {Bs : List (Int × Int)} {n : Nat}
end
end Pw
namespace L2
open PySem PySem.Spec PyProof.Rows
end L2

namespace Pw
end Pw
namespace L2
open PySem PySem.Spec PyProof.Rows
end L2
namespace Pw
section
variable {ps : List (Int × Int)} {A : Int × Int} {Bs : List (Int × Int)} {n : Nat} {S : Int}
end
end Pw

open PySem PySem.Spec PyProof.Rows
namespace L2
section
variable {prog : Program} {w : World} {A : Around} {E : Value → Shared → Prop} {s : Shared}
end
section
variable {X : Cx} {tg : Expr}
end
end L2

namespace Pw
end Pw
namespace L2
open PySem PySem.Spec PyProof.Rows
end L2

namespace Pw
end Pw

open PySem PySem.Spec PyProof PyProof.Rows
namespace L2
section
variable {X : Cx}
end
end L2

namespace Pw
end Pw
namespace L2
open PySem PySem.Spec PyProof.Rows
end L2

namespace L2
open PySem PySem.Spec PyProof.Rows
end L2

namespace Pw
end Pw
namespace L2
open PySem PySem.Spec PyProof.Rows
end L2

namespace Pw
end Pw

open PySem PySem.Spec PyProof PyProof.Rows
namespace L2
theorem nolen_lri : typeLookup (.type "list_reverseiterator") "__len__" = pure none := by rw [typeLookup_type, builtinLookup_eq_fast]; kernel_rfl
theorem hint_lri : typeLookup (.type "list_reverseiterator") "__length_hint__" = pure (some (.builtin "list_reverseiterator.__length_hint__")) := by rw [typeLookup_type, builtinLookup_eq_fast]; kernel_rfl
section
variable {prog : Program} {w : World} {A : Around} {E : Value → Shared → Prop} {s : Shared}
theorem list_revIter {I l : Addr} {items : Array Value} {Q : Value → Shared → Prop} (hh : A.handled = none) (hit : s.heap.IsRevIter I l ((items.size : Int) - 1)) (hl : s.heap.IsList l items) (hne : l ≠ I) (hn : items.size ≤ sizeLine)
 (q : ∀ h' tk c, (∀ b o, b ≠ I → s.heap.get? b = some o → h'.get? b = some o) → h'.get? s.heap.objs.size = some { cls := .type "list", data := .seq items.reverse c } → Q (.ref s.heap.objs.size) { s with heap := h', toks := tk }) :
 wpAny (model prog w) A (call (.type "list") [.ref I]) Q E s := by
 have hIl : I < s.heap.objs.size := by obtain ⟨o, z, _⟩ := hit; exact Heap.lt_size z
 have hll : l < s.heap.objs.size := by obtain ⟨o, z, _⟩ := hl; exact Heap.lt_size z
 refine callType_codes (Q₁ := fun obj s₁ => obj = .ref s.heap.objs.size ∧ s₁ = { s with heap := s.heap.push { cls := .type "list", data := .seq #[] } }) F.called_list (F.typeCall_list_1 _) F.entry_list_init
  (code_list_new _ ⟨rfl, rfl⟩) fun obj s₁ h₁ => ?_
 obtain ⟨rfl, rfl⟩ := h₁
 have hS : (s.heap.push { cls := .type "list", data := .seq #[] }).get? s.heap.objs.size = some { cls := .type "list", data := .seq #[] } := Heap.get?_push_size _ rfl
 refine ⟨⟨_, hS, rfl⟩, F.args_list_init_2 _ _, ?_⟩
 generalize hSd : s.heap.objs.size = S at *
 have hSI : S ≠ I := Nat.ne_of_gt hIl
 have hSl : S ≠ l := Nat.ne_of_gt hll
 have hSf : S ∉ [I, l] := fun hm => by
  rcases List.mem_cons.mp hm with z | z
  · exact hSI z
  · exact hSl (List.mem_singleton.mp z)
 have up : ∀ b o, s.heap.get? b = some o → b ≠ S ∧ (s.heap.push { cls := .type "list", data := .seq #[] }).get? b = some o := fun b o z => ⟨by rw [← hSd]; exact Nat.ne_of_lt (Heap.lt_size z), Heap.get?_push_of_some _ z⟩
 show wpAny _ A.in1.in1 (do let old ← Builtin.List.listItems (.ref S); Builtin.List.listUpdate (.ref S) (fun _ => #[]); letGo old.toList.reverse; Builtin.List.listExtendWith (.ref S) (.ref I) .none) _ _ _
 refine wpAny_bind ?_
 unfold Builtin.List.listItems
 refine wpAny_bind (wpAny_seqItems hS rfl (wpAny_pure ?_))
 show wpAny _ A.in1.in1 (updateSeq S (fun _ => #[]) >>= fun _ => letGo (#[] : Array Value).toList.reverse >>= fun _ => Builtin.List.listExtendWith (.ref S) (.ref I) .none) _ _ _
 refine wpAny_bind (wpAny_updateSeq hS rfl ?_)
 have hS₂ := Heap.get?_update_self (Obj.mapSeq (fun _ => (#[] : Array Value))) hS rfl
 generalize hh1 : (s.heap.push { cls := .type "list", data := .seq #[] }).update S (Obj.mapSeq (fun _ => (#[] : Array Value))) = h1 at hS₂
 have up1 : ∀ b o, s.heap.get? b = some o → h1.get? b = some o := fun b o z => by rw [← hh1]; exact (Heap.get?_update_other _ _ (Ne.symm (up b o z).1)).trans (up b o z).2
 refine wpAny_bind (wpAny_letGo ?_)
 unfold Builtin.List.listExtendWith
 have hit1 : h1.IsRevIter I l ((items.size : Int) - 1) := hit.at fun o e => up1 _ _ e
 have hl1 : h1.IsList l items := hl.at fun o e => up1 _ _ e
 have hT1 : Shared.TypeIs { s with heap := h1 } (.ref I) "list_reverseiterator" := Heap.IsRevIter.typeIs (s := { s with heap := h1 }) hit1
 refine wpAny_bind (wpAny_typeOf hT1 ?_)
 have g1 : Builtin.List.listSameRef (.ref S) (.ref I) = false := by simp [Builtin.List.listSameRef, hSI]
 have g2 : (Value.type "list_reverseiterator" == Value.type "list") = false := by decide
 have g3 : (Value.type "list_reverseiterator" == Value.type "tuple") = false := by decide
 simp only [g1, g2, g3, Bool.or_false, Bool.false_eq_true, if_false]
 refine wpAny_bind (wpAny_pyIter_revIter (s := { s with heap := h1 }) hit1 ?_)
 refine wpAny_bind (wpAny_holding ?_)
 unfold Builtin.List.listLengthHint
 refine wpAny_bind (wpAny_specialOf hT1 nolen_lri ?_)
 show wpAny _ A.in1.in1 (specialOf (Value.ref I) (Str.ofString "__length_hint__") >>= _) _ _ _
 refine wpAny_bind (wpAny_specialOf hT1 hint_lri ?_)
 generalize hid : ("list_reverseiterator.__length_hint__" : String) = id0
 wp_delta
 rw [show splitId id0 = some ("list_reverseiterator", "__length_hint__") from by subst hid; decide +kernel]
 subst hid
 refine wpAny_bind (wpAny_isInstance (b := true) hT1 (by rw [isSubtype_type]; kernel_rfl) ?_)
 refine wpAny_pure ?_
 rw [if_neg (by decide)]
 refine wpAny_pure ⟨plainId_quiet F.plain_extend_loop _, codeAny_extend_loopS (Walks.listRev (prog := prog) (w := w) (A := A.in1.in1) hh I l hne items).toS hn S hSf _ items.size 0 _ _ _ rfl (Nat.zero_le _) ⟨Nat.zero_le _, by simpa using hit1, hl1⟩ hS₂ (ItemsOf.nil _) fun s' acc' c' hm hS' hacc => ?_⟩
 have e : acc' = items.reverse := by
  apply Array.ext
  · rw [hacc.1, Array.size_reverse]
  · intro i h1' h2'
    have := hacc.2 i acc'[i] (by simp)
    rw [hacc.1] at h1'
    rw [Array.getElem_reverse]
    rw [Array.getElem?_eq_getElem (by omega)] at this
    exact (Option.some.inj this).symm
 subst e
 rw [Moved.eq_with hm]
 refine ⟨rfl, q s'.heap s'.toks c' (fun b o hb eb => hm.heap b o (fun hmem => ?_) (up1 b o eb)) hS'⟩
 rcases List.mem_cons.mp hmem with z | z
 · exact (up b o eb).1 z
 · exact hb (List.mem_singleton.mp z)
end
section
variable {X : Cx}
noncomputable def tLRev (ta : TA) : TE := fun σ H Q => ta σ H fun vs H1 => ∃ l xs, vs = [.ref l] ∧ H1 l = some (.lst xs) ∧ ∀ (p : Addr) (H' : Hp), Same H1 H' → H1 p = none → H' p = some (.lst xs.reverse) → Q (.ref p) H'
theorem pe_lrev {a : Expr} {ta : TA} {p p' pos pos' : Pos} (hc : X.calm = true) (hgL : Gl X "list") (hmL : X.mg "list" = none) (hgE : Gl X "reversed") (hmE : X.mg "reversed" = none) (ha : PA X [a] ta)
 (hs : starEach [.Call (.Name "reversed" p') [a] [] pos'] X.env = [(false, eval (.Call (.Name "reversed" p') [a] [] pos') X.env)] := by rfl) (hs2 : starEach [a] X.env = [(false, eval a X.env)] := by rfl) :
 PE X (.Call (.Name "list" p) [.Call (.Name "reversed" p') [a] [] pos'] [] pos) (tLRev ta) := by
 intro pins s σ H Q I h
 refine wpAny_Call_Name_kw (ld_blt I hgL hmL boot_list ?_ (by decide) (by decide))
 refine PyProof.Rows.callWith_type1 ?_ hs rfl
 rw [hs]
 show wpAny _ _ (spliced ((false, eval (.Call (.Name "reversed" p') [a] [] pos') X.env) :: backTo pos [])) _ _ s
 refine Calls.spliced_cons ?_
 refine wpAny_Call_Name_kw (ld_blt I hgE hmE boot_reversed ?_ (by decide) (by decide))
 refine PyProof.Rows.callWith_type1 (thn (ha pos' pins s σ H _ I h) fun us s1 ⟨vs, H1, I1, r1, q1⟩ => ?_) hs2 rfl
 obtain ⟨l, xs, rfl, hl, q⟩ := q1
 obtain ⟨u, rfl, ru⟩ := vals1 r1
 cases ru
 obtain ⟨its, rv, pl, hz⟩ := id (I1.list (SqL.of hl))
 have hll : l < s1.heap.objs.size := by obtain ⟨o, z, _⟩ := pl.isList; exact Heap.lt_size z
 have hlen := rv.length
 refine call_reversed_list pl.isList ?_
 refine Calls.spliced_nil ?_
 have hsz : (s1.heap.push (revObj l ((its.toArray.size : Int) - 1))).objs.size = s1.heap.objs.size + 1 := size_push' _ _
 refine list_revIter (s := { s1 with heap := s1.heap.push (revObj l ((its.toArray.size : Int) - 1)) }) (items := its.toArray) (I1.ok.hd hc) ⟨_, Heap.get?_push_size _ rfl, rfl, rfl⟩ (pl.isList.at fun o e => Heap.get?_push_of_some _ e) (Nat.ne_of_lt hll) (by rw [List.size_toArray, ← hlen]; exact hz) fun h' tk c hk hS => ?_
 rw [show ({ s1 with heap := s1.heap.push (revObj l ((its.toArray.size : Int) - 1)) } : Shared).heap.objs.size = s1.heap.objs.size + 1 from hsz] at hS ⊢
 have kp : ∀ b o, s1.heap.get? b = some o → h'.get? b = some o := fun b o e => hk b o (Nat.ne_of_lt (Heap.lt_size e)) (Heap.get?_push_of_some _ e)
 have hfr : H1 (s1.heap.objs.size + 1) = none := I1.hok.fresh (Nat.le_succ _)
 refine ⟨.ref _, _, I1.laid (t' := tk) (o := .lst xs.reverse) kp (Nat.le_succ _) ⟨by rw [List.length_reverse]; exact hz, its.reverse, c, rv.reverse, ?_⟩, rfl, q _ _ (Same.new hfr) hfr upd_same⟩
 rw [hS]
 simp
end
end L2

open PySem PySem.Spec PyProof PyProof.Rows
namespace L2
theorem range_few {lo hi st : Option Int} {n : Nat} (h0 : st.getD 1 > 0) : (sliceRange (sliceBounds lo hi st n).1 (sliceBounds lo hi st n).2.1 (sliceBounds lo hi st n).2.2).length ≤ n := by
 unfold sliceRange
 rw [List.length_map, List.length_range]
 have hst : (sliceBounds lo hi st n).2.2 = st.getD 1 := rfl
 have hlo : 0 ≤ (sliceBounds lo hi st n).1 := by
  unfold sliceBounds
  cases lo with
  | none => simp only [h0, if_true]; exact Int.le_refl _
  | some i => simp only [h0, if_true]; exact Int.le_max_left ..
 have hhi : (sliceBounds lo hi st n).2.1 ≤ n := by
  unfold sliceBounds
  cases hi with
  | none => simp only [h0, if_true]; exact Int.le_refl _
  | some i => simp only [h0, if_true]; omega
 rw [hst, if_pos h0]
 generalize (sliceBounds lo hi st n).1 = a at *
 generalize (sliceBounds lo hi st n).2.1 = b at *
 generalize st.getD 1 = c at *
 split
 · have h1 : (b - a + c - 1) / c ≤ b - a := by
    have : (b - a + c - 1) ≤ (b - a) * c := by
     have h2 : 1 ≤ b - a := by omega
     have h3 : (b - a - 1) * 1 ≤ (b - a - 1) * c := Int.mul_le_mul_of_nonneg_left (by omega) (by omega)
     have h4 : (b - a - 1) * c = (b - a) * c - c := by rw [Int.sub_mul (b - a) 1 c, Int.one_mul]
     omega
    exact Int.ediv_le_of_le_mul h0 this
   omega
 · omega
theorem pick_vals {xs : List V} {its : List Value} (r : Vals xs its) : ∀ (ks : List Nat), ∃ ys, Vals ys (ks.filterMap (its.toArray[·]?)) ∧ (∀ y ∈ ys, y ∈ xs) ∧ ys.length ≤ ks.length
 | [] => ⟨[], .nil, fun y h => by simp at h, Nat.le_refl _⟩
 | k :: ks => by
   obtain ⟨ys, h1, h2, h3⟩ := pick_vals r ks
   cases e : xs[k]? with
   | none =>
     have : its.toArray[k]? = none := by
      rw [List.getElem?_toArray, List.getElem?_eq_none_iff]
      rw [List.getElem?_eq_none_iff] at e
      rw [← r.length]; exact e
     refine ⟨ys, ?_, h2, by rw [List.length_cons]; omega⟩
     rw [List.filterMap_cons, this]
     exact h1
   | some x =>
     obtain ⟨u, hu, ru⟩ := r.get e
     refine ⟨x :: ys, ?_, fun y hy => ?_, by simp only [List.length_cons]; omega⟩
     · rw [List.filterMap_cons, List.getElem?_toArray, hu]
       exact .cons ru h1
     · rcases List.mem_cons.mp hy with rfl | hy
       · exact List.mem_of_getElem? e
       · exact h2 y hy
section
variable {X : Cx}
noncomputable def tSlS (K : PySem.W.Frag) (te : TE) (tl th ts : TO) : TE := fun σ H Q => te σ H fun x H1 => tl σ H1 fun l H2 => th σ H2 fun u H3 => ts σ H3 fun c H4 => ∃ a xs, x = .ref a ∧ SqL K H4 a xs ∧ c.getD 1 > 0 ∧
 ∀ (p : Addr) (H' : Hp) (ys : List V), (∀ y ∈ ys, y ∈ xs) → ys.length ≤ xs.length → Same H4 H' → H4 p = none → H' p = some (.lst ys) → Q (.ref p) H'
theorem pe_sliceS {e lo hi st : Expr} {te : TE} {tl th ts : TO} {pos p2 : Pos} (he : PE X e te) (hl : PO X (some lo) tl) (hu : PO X (some hi) th) (hst : PO X (some st) ts) : PE X (.Subscript e (.Slice (some lo) (some hi) (some st) p2) pos) (tSlS X.K te tl th ts) := by
 intro pins s σ H Q I h
 refine Subscript_ (thn (he pins s σ H _ I h) fun v s1 ⟨x, H1, I1, r1, q1⟩ => ?_)
 refine wpAny_Slice (thn (hl pins s1 σ H1 _ I1 q1) fun vl s2 ⟨l, H2, I2, pl, q2⟩ => thn (hu pins s2 σ H2 _ I2 q2) fun vu s3 ⟨u, H3, I3, pu, q3⟩ => thn (hst pins s3 σ H3 _ I3 q3) fun vc s4 ⟨c, H4, I4, pc, q4⟩ => ?_)
 obtain ⟨a, xs, rfl, ha, hc, q⟩ := q4
 cases r1
 have I5 : Inv X pins σ H4 { s4 with heap := s4.heap.push { cls := .type "slice", data := .fields #[vl, vu, vc] } } := I4.kept (t' := s4.toks) fun b ob q => Heap.get?_push_of_some _ q
 obtain ⟨its, r, ht, hz⟩ := I5.list ha
 have hlen := r.length
 show wpAny (model X.prog X.w) X.A (subscriptTail e (.Slice (some lo) (some hi) (some st) p2) (.ref a) (.ref s4.heap.objs.size)) (EP X pins σ Q) X.xe { s4 with heap := s4.heap.push { cls := .type "slice", data := .fields #[vl, vu, vc] } }
 refine tail_any (ops := [.ref a, .ref s4.heap.objs.size]) ht.isList.typeIs slot_list_getitem.lookup ?_ (by with_unfolding_all rfl)
 refine wpAny_getItem_list_slice ht.isList (Heap.IsSliceOf.new ..) pl pu pc (fun z => by subst z; exact absurd hc (by decide)) ?_ (by rw [List.size_toArray] <;> omega)
 obtain ⟨ys, y1, y2, y3⟩ := pick_vals r (sliceRange (sliceBounds l u c its.toArray.size).1 (sliceBounds l u c its.toArray.size).2.1 (sliceBounds l u c its.toArray.size).2.2)
 have hf := range_few (lo := l) (hi := u) (st := c) (n := its.toArray.size) hc
 rw [List.size_toArray, ← hlen] at hf
 have hl' : ys.length ≤ xs.length := Nat.le_trans y3 (by rw [List.size_toArray, ← hlen]; exact hf)
 refine ⟨.ref _, _, I5.laid (t' := s4.toks) (o := .lst ys) (fun b ob q => Heap.get?_push_of_some _ q) (Nat.le_refl _) ?_, rfl, q _ _ ys y2 hl' (Same.new I5.fresh) I5.fresh upd_same⟩
 exact ⟨Nat.le_trans hl' hz, _, 0, y1, Heap.get?_push_size _ rfl⟩
end
end L2

namespace L2
open PySem PySem.Spec PyProof.Rows PySem.W
section
variable {prog : Program} {w : World} {A : Around} {E : Value → Shared → Prop} {s : Shared}
theorem sorted_openT {t : Addr} {vs : List Value} {Q : Value → Shared → Prop} (ht : IsTup s.heap t vs.toArray) (h64 : vs.length < 64)
 (h : ∀ (g : Heap) (D : Addr), (∀ b o, s.heap.get? b = some o → g.get? b = some o) → (∀ b o, s.heap.get? b = some o → b ≠ D) → (∀ b o, s.heap.get? b = some o → b < D) → g.get? D = some (seqObj "list" vs.toArray 0) →
  wpAny (model prog w) A.in1.in1 (Builtin.«list.sort» ⟨[.ref D], []⟩) (fun fin s' => fin = .done (.ret .none) ∧ Q (.ref D) s') E { s with heap := g }) :
 wpAny (model prog w) A (call (.builtin "sorted") [.ref t]) Q E s := by
 obtain ⟨o, ho, hc, n, hd⟩ := ht
 have few : vs.length ≤ sizeLine := by rw [sizeLine_eq]; omega
 refine Calls.call_function_entry kind_sorted plain_sorted entry_sorted (args_sorted1 _) ?_
 unfold Builtin.«sorted»
 refine wpAny_bind (m := checkCount "sorted" 1 1 _) (wpAny_pure ?_)
 refine wpAny_bind (wpAny_collect_seq t (.inr rfl) ho hc hd (fun g kp => ?_) (by rw [List.size_toArray]; exact few))
 refine wpAny_bind (wpAny_newList ?_ few)
 have hoL : (g.push (seqObj "list" vs.toArray 0)).get? g.objs.size = some (seqObj "list" vs.toArray 0) := Heap.get?_push_size _ rfl
 have lt : ∀ b o, s.heap.get? b = some o → b < g.objs.size := fun b o e => Heap.lt_size (kp b o e)
 refine wpAny_bind (wpAny_holding (wpAny_call_entry slot_list_sort ⟨_, hoL, rfl⟩ entry_list_sort ?body (args_list_sort _)))
 case body =>
  refine wpAny_mono (h (g.push (seqObj "list" vs.toArray 0)) g.objs.size (fun b o e => Heap.get?_push_of_some _ (kp b o e)) (fun b o e => Nat.ne_of_lt (lt b o e)) lt hoL) (fun fin s' hf => ?_) fun _ _ e => e
  obtain ⟨rfl, hq⟩ := hf
  exact ⟨_, rfl, wpAny_pure ⟨_, rfl, hq⟩⟩
theorem sorted_smallT {t : Addr} {vs : List Value} {Q : Value → Shared → Prop} (ht : IsTup s.heap t vs.toArray) (h2 : vs.length < 2)
 (h : ∀ (D : Addr) (h' : Heap) (c : Nat), (∀ b o, s.heap.get? b = some o → h'.get? b = some o) → (∀ b o, s.heap.get? b = some o → b ≠ D) → h'.get? D = some (seqObj "list" vs.toArray c) → Q (.ref D) { s with heap := h' }) :
 wpAny (model prog w) A (call (.builtin "sorted") [.ref t]) Q E s := by
 refine sorted_openT ht (by omega) fun g D keep hDs lt hoL => ?_
 obtain ⟨e1, ho1⟩ : ∃ e1, (g.update D (Obj.mapSeq fun _ => (#[] : Array Value))).get? D = some (seqObj "list" #[] e1) := ⟨_, get?_update_seq hoL fun _ => #[]⟩
 have few : vs.length ≤ sizeLine := by rw [sizeLine_eq]; omega
 rw [list_sort_plain]
 refine wpAny_bind (listItems_at hoL rfl ?_)
 refine wpAny_bind (listUpdate_at hoL rfl ?_ (by rw [List.size_toArray]; omega) (Nat.zero_le _))
 refine wpAny_bind (seqEpoch_at ho1 rfl ?_)
 refine wpAny_bind (wpAny_newTuple ?_ few)
 refine wpAny_bind (wpAny_newList ?_ (Nat.zero_le _))
 refine wpAny_holding ?_
 show wpAny (model prog w) _ _ _ E { s with heap := ((g.update D (Obj.mapSeq fun _ => (#[] : Array Value))).push (seqObj "tuple" vs.toArray 0)).push (seqObj "list" #[] 0) }
 dsimp only
 have hn2 : vs.toArray.size < 2 := by rw [List.size_toArray]; exact h2
 rw [if_pos hn2, if_pos hn2]
 refine wpAny_bind (wpAny_pure ?_)
 refine wpAny_bind (wpAny_pure ?_)
 dsimp only
 have ho6 : (((g.update D (Obj.mapSeq fun _ => (#[] : Array Value))).push (seqObj "tuple" vs.toArray 0)).push (seqObj "list" #[] 0)).get? D = some (seqObj "list" #[] e1) := Heap.get?_push_of_some _ (Heap.get?_push_of_some _ ho1)
 have harr : (arrOf (SortSt.mk' general' (vs.toArray.zip vs.toArray) #[] 7 none)).map (·.2) = vs.toArray := zip_snd vs
 rw [harr]
 refine wpAny_bind (seqEpoch_at ho6 rfl ?_)
 refine wpAny_bind (listUpdate_at ho6 rfl ?_ (Nat.zero_le _) (by show vs.toArray.size ≤ _; rw [List.size_toArray]; omega))
 simp only [bne_self_eq_false, Bool.false_eq_true, if_false]
 obtain ⟨c2, hc2⟩ : ∃ c2, ((((g.update D (Obj.mapSeq fun _ => (#[] : Array Value))).push (seqObj "tuple" vs.toArray 0)).push (seqObj "list" #[] 0)).update D (Obj.mapSeq fun _ => vs.toArray)).get? D = some (seqObj "list" vs.toArray c2) := ⟨_, get?_update_seq ho6 fun _ => vs.toArray⟩
 refine wpAny_pure ⟨rfl, h D _ c2 (fun b o q => ?_) hDs hc2⟩
 have hb := hDs b o q
 exact (Heap.get?_update_other _ _ (Ne.symm hb)).trans (Heap.get?_push_of_some _ (Heap.get?_push_of_some _ ((Heap.get?_update_other _ _ (Ne.symm hb)).trans (keep b o q))))
theorem kat_sortedT {t : Addr} {vs : List Value} {Q : Value → Shared → Prop} {h₀ : Heap} {L : Addr} {m : Str → Option Value} {news : List (Addr × Obj)} (F : Fr h₀ L s.heap m) (N : News h₀ L s.heap news) (ht : IsTup s.heap t vs.toArray) (h2 : 2 ≤ vs.length) (h64 : vs.length < 64)
 (h : ∀ D e1 h', Fr h₀ L h' m → News h₀ L h' ((D, seqObj "list" #[] e1) :: news) → (∀ q ∈ news, q.1 < D) →
  wpAny (model prog w) A.in1.in1 (keyKind' vs.toArray) (fun κ s' => (kas_sort vs.length).kasWp (kas_ask prog w A.in1.in1 κ vs) (fun p s'' => KasFin h₀ L m D e1 (p.toList.map fun i => vs.getD i Value.none) (fun s3 => Q (.ref D) s3) s'') s') (fun _ _ => False) { s with heap := h' }) :
 wpAny (model prog w) A (call (.builtin "sorted") [.ref t]) Q E s := by
 refine sorted_openT ht h64 fun g D keep hDs lt hoL => ?_
 have hL : ∃ o, s.heap.get? L = some o := by obtain ⟨o, _, _, e, _⟩ := F.ns; exact ⟨o, e⟩
 obtain ⟨oL, eL⟩ := hL
 have h0 : h₀.get? D = none := by
  cases z : h₀.get? D with
  | none => rfl
  | some u => exact absurd rfl (hDs _ _ (F.keep _ _ z))
 refine kat_list_sort (s := { s with heap := g }) (F.kept keep) (N.grown keep) hoL (Ne.symm (hDs _ _ eL)) h0 (fun p hp => hDs _ _ (N p hp).1) h2 h64 fun e1 h' F' N' => ?_
 refine wpAny_mono (h _ e1 h' F' N' fun q hq => lt _ _ (N q hq).1) (fun κ s' hk => ?_) fun _ _ x => x
 rw [kat_ask_eq rfl] at hk ⊢
 exact kas_wp_mono hk fun p s'' hk' => hk'.mono fun s3 hq => ⟨rfl, hq⟩
end
section
variable {X : Cx} {pins : List (Addr × Obj)} {σ : St} {H : Hp} {s : Shared}
set_option maxHeartbeats 2000000 in
theorem sorted_okT {l : Addr} {xs : List V} {Q : VK} (I : Inv X pins σ H s) (hl : SqT X.K H l xs) (h64 : xs.length < 64) (lt : Nat → Nat → Bool) (O : Srt.Ord lt)
 (hkind : ∀ (vs : List Value) (s' : Shared), Vals xs vs → 2 ≤ vs.length → (∀ b o, b ≠ X.env.locals → s.heap.get? b = some o → s'.heap.get? b = some o) → ∃ κ : SortKind, (∀ (R : SortKind → Shared → Prop), R κ s' → wpAny (model X.prog X.w) X.A.in1.in1 (keyKind' vs.toArray) R (fun _ _ => False) s') ∧
  ∀ (i j : Nat) (C : Bool → Shared → Prop) (s2 : Shared), i < vs.length → j < vs.length → (∀ b o, b ≠ X.env.locals → s.heap.get? b = some o → s2.heap.get? b = some o) → C (lt i j) s2 → kas_ask X.prog X.w X.A.in1.in1 κ vs i j C s2)
 (q : ∀ (p : List Nat) (D : Addr), p.Perm (List.range xs.length) → (∀ k, 1 ≤ k → k < xs.length → lt (p.getD k 0) (p.getD (k - 1) 0) = false) → H D = none → Q (.ref D) (upd H D (.lst (p.map fun i => xs.getD i .non)))) :
 wpAny (model X.prog X.w) X.A (call (.builtin "sorted") [.ref l]) (EP X pins σ Q) X.xe s := by
 obtain ⟨its, rv, pl, hz⟩ := id (I.tuple hl)
 have hlen := rv.length
 by_cases h2 : its.length < 2
 · refine sorted_smallT pl h2 fun D h' c kp hDs ho => ?_
   have hf : H D = none := by
    cases z : H D with
    | none => rfl
    | some u =>
      obtain ⟨o, e⟩ := ObjOk.there (I.hok D u z)
      exact absurd rfl (hDs _ _ e)
   obtain ⟨m, hn, _⟩ := id I.loc
   have F : Fr X.base X.env.locals h' m := Fr.kept ⟨hn, I.bk, Nat.le_trans I.ok.bsz I.ok.above⟩ kp
   have I' : Inv X pins σ (upd H D (.lst xs)) { s with heap := h' } := I.byNews (t' := s.toks) hn F (fun b o _ e => kp b o e) hf (fun o e => hDs _ _ e rfl) ho rv hz
   have hq := q (List.range xs.length) D (List.Perm.refl _) (fun k k1 k2 => by omega) hf
   have ex : (List.range xs.length).map (fun i => xs.getD i .non) = xs := by
    exact map_small xs (by omega)
   rw [ex] at hq
   exact ⟨.ref D, _, I', rfl, hq⟩
 · obtain ⟨m, hn, _⟩ := id I.loc
   have F : Fr X.base X.env.locals s.heap m := ⟨hn, I.bk, Nat.le_trans I.ok.bsz I.ok.above⟩
   have N : News X.base X.env.locals s.heap (allNews X.base s.heap X.env.locals) := news_all
   have keepN : ∀ {h' : Heap} {r : List (Addr × Obj)}, Fr X.base X.env.locals h' m → News X.base X.env.locals h' r → (∀ p ∈ allNews X.base s.heap X.env.locals, p ∈ r) → ∀ b o, b ≠ X.env.locals → s.heap.get? b = some o → h'.get? b = some o := fun {h' r} F' N' sub b o hb e => by
    cases z : X.base.get? b with
    | some u =>
      have := I.bk b u z
      rw [e] at this; cases this
      exact F'.keep b _ z
    | none => exact (N' (b, o) (sub _ (mem_allNews hb z e))).1
   have h2' : 2 ≤ its.length := by omega
   refine kat_sortedT F N pl h2' (by omega) fun D e1 h' F' N' hD => ?_
   have kp := keepN F' N' (fun p hp => List.mem_cons_of_mem _ hp)
   have nDD := N' (D, seqObj "list" #[] e1) List.mem_cons_self
   have hDs : ∀ o, s.heap.get? D ≠ some o := fun o e => Nat.lt_irrefl _ (hD (D, o) (mem_allNews nDD.2.1 nDD.2.2 e))
   have hHD : H D = none := by
    cases z : H D with
    | none => rfl
    | some u =>
      obtain ⟨o, e⟩ := ObjOk.there (I.hok D u z)
      exact absurd e (hDs o)
   obtain ⟨κ, hκ, hask⟩ := hkind its { s with heap := h' } rv h2' kp
   refine hκ _ ?_
   have hn1 : 0 < its.length := by omega
   refine Srt.run_wp' (n := its.length) (P := fun s' => s' = { s with heap := h' }) lt (fun i j C s2 hi hj p2 hc => by subst p2; exact hask i j C _ hi hj kp (hc _ rfl)) (kas_sort its.length) _ (Srt.sort_asks hn1) rfl fun s2 p2 => ?_
   subst p2
   obtain ⟨pm, up⟩ := Srt.sort_ok O (n := its.length) (by omega)
   generalize Srt.run lt (kas_sort its.length) = p at *
   refine KasFin.intro F' N' (.head fun x hx => Nat.ne_of_lt (hD x hx)) fun h3 c F3 N3 => ?_
   have kp3 := keepN F3 N3 (fun p hp => List.mem_cons_of_mem _ hp)
   have hD3 := (N3 (D, listOf (List.toArray (p.toList.map fun i => its.getD i Value.none)) c) List.mem_cons_self).1
   have rel : Vals (p.toList.map fun i => xs.getD i .non) (p.toList.map fun i => its.getD i Value.none) := by
    have key : ∀ (l : List Nat), (∀ i ∈ l, i < its.length) → Vals (l.map fun i => xs.getD i .non) (l.map fun i => its.getD i Value.none) := by
     intro l
     induction l with
     | nil => intro _; exact .nil
     | cons a l ih =>
       intro hl'
       have ha := hl' a List.mem_cons_self
       have ha2 : a < xs.length := by omega
       obtain ⟨u, hu, ru⟩ := rv.get (i := a) (x := xs[a]) (by simp [ha2])
       have e1 : xs.getD a .non = xs[a] := by simp [ha2]
       have e2 : its.getD a Value.none = u := by rw [List.getD_eq_getElem?_getD, hu]; rfl
       rw [List.map_cons, List.map_cons, e1, e2]
       exact .cons ru (ih fun i hi => hl' i (List.mem_cons_of_mem _ hi))
    exact key _ fun i hi => List.mem_range.mp (pm.mem_iff.mp hi)
   have hq := q p.toList D (by rw [hlen]; exact pm) (fun k k1 k2 => by
    have := up k k1 (by omega)
    rw [getD_e, getD_e]; exact this) hHD
   refine ⟨.ref D, _, I.byNews (t' := s.toks) hn F3 kp3 hHD hDs hD3 rel ?_, rfl, hq⟩
   rw [List.length_map, pm.length_eq, List.length_range, ← hlen]
   exact hz
end
section
variable {X : Cx}
noncomputable def rSortT0 (K : PySem.W.Frag) : List V → Hp → VK → Prop := fun xs H Q => ∃ (l : Addr) (vs : List V) (ps : List (Int × Int)), xs = [.ref l] ∧ SqT K H l vs ∧ Prs K H ps vs ∧ ps.length < 64 ∧ ∀ (us : List V) (ms : List (Int × Int)) (D : Addr), ms.Perm ps → ms.Pairwise lexR → Prs K H ms us → H D = none → Q (.ref D) (upd H D (.lst us))
theorem call_sortedPT0 : CallR X (.builtin "sorted") (rSortT0 X.K) := by
 intro pins s σ H xs us Q I r h
 obtain ⟨l, xs, ps, rfl, hl, hp, h64, q⟩ := h
 obtain ⟨u, rfl, rfl⟩ := vals1 r
 have hlen : xs.length = ps.length := by have := Dens.length hp; rw [List.length_map] at this; exact this
 refine sorted_okT I hl (by omega) (ltP ps) (ltP_ord ps) (fun vs s' rv h2 kp => ?_) fun p D pm up hD => ?_
 · have hv : vs.length = ps.length := by rw [← rv.length, hlen]
   have tup : ∀ {s2 : Shared}, (∀ b o, b ≠ X.env.locals → s.heap.get? b = some o → s2.heap.get? b = some o) → ∀ {i : Nat}, i < vs.length → ∃ a o n t1 t2, vs.getD i Value.none = .ref a ∧ s2.heap.get? a = some o ∧ o.cls = .type "tuple" ∧ o.data = .seq #[.int (ps.getD i (0, 0)).1 t1, .int (ps.getD i (0, 0)).2 t2] n := fun {s2} k {i} hi => by
    obtain ⟨a, e, hq⟩ := prs_at hp (show i < ps.length by omega)
    have rr := vals_getD rv hi
    rw [e] at rr
    obtain ⟨its, ri, ⟨o, ho, hc, n, hd⟩, _⟩ := I.tuple hq
    obtain ⟨u1, u2, rfl, ⟨t1, rfl⟩, ⟨t2, rfl⟩⟩ := vals2 ri
    exact ⟨a, o, n, t1, t2, rr, k a o (I.tupNe hq) ho, hc, by simpa using hd⟩
   refine ⟨tuples' true, fun R hR => ?_, fun i j C s2 hi hj k hc => ?_⟩
   · have build : ∀ (ws : List Value), (∀ v ∈ ws, ∃ a o n x t1 y t2, v = .ref a ∧ s'.heap.get? a = some o ∧ o.cls = .type "tuple" ∧ o.data = .seq #[.int x t1, .int y t2] n) → ∃ fs : List Value, fs.length = ws.length ∧ KatTups s'.heap ws fs ∧ ∀ v ∈ fs, ∃ x t, v = .int x t := by
      intro ws
      induction ws with
      | nil => intro _; exact ⟨[], rfl, KatTups.nil, fun v h => by simp at h⟩
      | cons w ws ih =>
        intro h
        obtain ⟨fs, e, t, a⟩ := ih fun v hv => h v (List.mem_cons_of_mem _ hv)
        obtain ⟨b, o, n, x, t1, y, t2, rfl, ho, hc, hd⟩ := h w List.mem_cons_self
        refine ⟨.int x t1 :: fs, by simp [e], KatTups.cons ho hc hd rfl t, fun v hv => ?_⟩
        rcases List.mem_cons.mp hv with rfl | hv
        · exact ⟨_, _, rfl⟩
        · exact a v hv
     obtain ⟨fs, e, kt, fa⟩ := build vs fun v hv => by
      obtain ⟨i, hi, rfl⟩ := List.mem_iff_getElem.mp hv
      obtain ⟨a, o, n, t1, t2, e, ho, hc, hd⟩ := tup kp hi
      have : vs.getD i Value.none = vs[i] := by simp [hi]
      rw [this] at e
      exact ⟨a, o, n, _, t1, _, t2, e, ho, hc, hd⟩
     refine kat_kind (T := .type "int") kt (by omega) (fun v hv => ?_) (by decide) hR
     obtain ⟨x, t, rfl⟩ := fa v hv
     exact Looks.of_pure rfl
   · unfold kas_ask
     obtain ⟨a, o, n, t1, t2, e, ho, _, hd⟩ := tup k hi
     obtain ⟨a', o', n', t1', t2', e', ho', _, hd'⟩ := tup k hj
     rw [e, e']
     refine kat_lt ho hd ho' hd' (kat_cons ?_)
     have hc' : C (lexB (ps.getD i (0, 0)) (ps.getD j (0, 0))) s2 := hc
     generalize ps.getD i (0, 0) = x at *
     generalize ps.getD j (0, 0) = y at *
     refine wpAny_eqBool_int ?_
     by_cases h1 : x.1 = y.1
     · rw [show (x.1 == y.1) = true by simp [h1]]
       refine kat_yes (kat_cons (wpAny_eqBool_int ?_))
       by_cases h2 : x.2 = y.2
       · rw [show (x.2 == y.2) = true by simp [h2]]
         refine kat_yes (kat_nil ?_)
         have : lexB x y = false := by simp only [lexB, decide_eq_false_iff_not]; omega
         rw [this] at hc'
         simpa using hc'
       · rw [show (x.2 == y.2) = false by simp [h2]]
         refine kat_no (kat_one _ _ ?_)
         have : lexB x y = decide (x.2 < y.2) := by simp only [lexB, decide_eq_decide]; omega
         rw [this] at hc'
         exact lt_int hc'
     · rw [show (x.1 == y.1) = false by simp [h1]]
       refine kat_no (oneLt_int ?_)
       have : lexB x y = decide (x.1 < y.1) := by simp only [lexB, decide_eq_decide]; omega
       rw [this] at hc'
       exact hc'
 · rw [hlen] at pm up
   have hb : ∀ i ∈ p, i < ps.length := fun i hi => List.mem_range.mp (pm.mem_iff.mp hi)
   exact q _ _ D (perm_getD pm) (up_pairwise lexR_trans pm up fun i j h => lexR_of h) (dens_pick hp hb) hD
noncomputable def rSortPT (K : PySem.W.Frag) : List V → Hp → VK → Prop := fun xs H Q => ∃ (l : Addr) (vs : List V) (ps : List (Int × Int)), xs = [.ref l] ∧ SqT K H l vs ∧ Prs K H ps vs ∧ ps.length < 64 ∧ ∀ (us : List V) (ms : List (Int × Int)) (D : Addr) (H' : Hp), ms.Perm ps → ms.Pairwise lexR → Prs K H' ms us → Same H H' → H D = none → H' D = some (.lst us) → Q (.ref D) H'
theorem call_sortedPT : CallR X (.builtin "sorted") (rSortPT X.K) := fun pins s σ H xs us Q I r ⟨l, vs, ps, e, h1, h2, h3, q⟩ => call_sortedPT0 pins s σ H xs us Q I r ⟨l, vs, ps, e, h1, h2, h3, fun us ms D a b c d => q us ms D _ a b (Prs.kl (Same.new d).kl c) (Same.new d) d upd_same⟩
end
end L2

open PySem PySem.Spec PyProof PyProof.Rows
namespace L2
theorem forIn_rng {M : Model} {A : Around} {E : Value → Shared → Prop} {s : Shared} {β : Type} {a b : Nat} (f : Nat → β → Sem (ForInStep β)) (I : List Nat → β → Shared → Prop) (Q : β → Shared → Prop)
 (turn : ∀ x rest c s, I (x :: rest) c s → wpAny M A (f x c) (fun r s' => match r with | .yield b' => I rest b' s' | .done b' => Q b' s') E s)
 (fin : ∀ c s, I [] c s → Q c s) (c : β) (h : I (List.range' a (b - a)) c s) : wpAny M A (forIn [a:b] c f) Q E s := by
 rw [Std.Legacy.Range.forIn_eq_forIn_range']
 have hsz : ([a:b] : Std.Legacy.Range).size = b - a := by simp [Std.Legacy.Range.size]
 show wpAny M A (forIn (List.range' a ([a:b] : Std.Legacy.Range).size 1) c f) Q E s
 rw [hsz]
 exact wpAny_forIn_list f I Q turn fin _ c h
theorem tuple_indexAt (l : Addr) (items : Array Value) (n : Nat) (dd : Option Addr) (sl : Array (Option Value)) (x : Value) (e : Value → Bool) (j : Nat) (hj : j < items.size)
 (hit : e items[j] = true) (hno : ∀ m (hm : m < items.size), m < j → e items[m] = false) :
 Meets (Builtin.«tuple.index» ⟨[.ref l, x], []⟩)
  (fun A R s => s.heap.get? l = some { cls := .type "tuple", dict := dd, data := .seq items n, slots := sl } ∧ (∀ y, y ∈ items → SeqAt.EqAt A.in1 s y x (e y)) ∧ R (.ok (.ret (.int j s.toks))) { s with toks := s.toks + 1 }) :=
 .of_wp fun prog w A R s h => by
  obtain ⟨hp, g, d, tk, os⟩ := s; obtain ⟨hl, he, h⟩ := h
  wp_walk using AutoSeq1.wpAny_loadPart' hl, forIn_rng _ (fun rest b s' => b.1 = none ∧ s' = ⟨hp, g, d, tk, os⟩ ∧ ∃ i, i ≤ j ∧ rest = List.range' i (items.size - i)) _
  case turn =>
   rintro i rest b s' ⟨hb, rfl, i', hi, er⟩
   have hlt : i' < items.size := by omega
   rw [show items.size - i' = (items.size - (i' + 1)) + 1 by omega, List.range'_succ] at er
   obtain ⟨rfl, rfl⟩ := List.cons.inj er
   rw [Array.getElem?_eq_getElem hlt]
   dsimp only
   refine wpAny_bind (he _ (Array.getElem_mem hlt) prog w _ _ ?_)
   by_cases hij : i = j
   · subst hij
     rw [hit]
     wp_walk
     exact ⟨_, rfl, h⟩
   · rw [hno i hlt (by omega)]
     wp_walk
     exact ⟨rfl, rfl, i + 1, by omega, rfl⟩
  case fin =>
   rintro c s' ⟨_, _, i, hi, er⟩
   have := congrArg List.length er
   rw [List.length_range'] at this
   simp at this
   omega
  case h =>
   exact ⟨rfl, rfl, 0, Nat.zero_le _, by simp⟩
section
variable {X : Cx} {pins : List (Addr × Obj)} {σ : St} {H : Hp} {s : Shared}
noncomputable def isP (K : PySem.W.Frag) (H : Hp) (p : Int × Int) (y : Value) : Prop := ∃ a, y = .ref a ∧ SqT K H a [.int p.1, .int p.2]
open Classical in
theorem isP_at (I : Inv X pins σ H s) {ps : List (Int × Int)} {us : List V} {its : List Value} {p : Int × Int} (hp : Prs X.K H ps us) (r : Vals us its) {i : Nat} (hi : i < its.length) (hj : i < ps.length) : decide (isP X.K H p its[i]) = decide (ps[i] = p) := by
 obtain ⟨a, p', e1, e2, e3⟩ := hp.get (i := i) (v := us[i]'(by rw [r.length]; exact hi)) (by simp)
 obtain ⟨w, ew, rw'⟩ := r.get (i := i) (x := us[i]'(by rw [r.length]; exact hi)) (by simp)
 rw [e2] at rw'
 cases rw'
 have ew : its[i] = .ref a := by
  rw [List.getElem?_eq_getElem hi] at ew
  exact Option.some.inj ew
 have ep : ps[i] = p' := by
  rw [List.getElem?_eq_getElem hj] at e1
  exact Option.some.inj e1
 rw [ew, ep]
 by_cases hh : p' = p
 · subst hh
   rw [decide_eq_true (show p' = p' from rfl), decide_eq_true ⟨a, rfl, e3⟩]
 · rw [decide_eq_false hh, decide_eq_false]
   rintro ⟨b, hb, hs⟩
   cases hb
   have := I.tuple_inj e3 hs
   simp at this
   exact hh (Prod.ext this.1 this.2)
open Classical in
theorem isP_eq {k : Nat} (hr : Room k X.A) (I : Inv X pins σ H s) {ps : List (Int × Int)} {us : List V} {its : List Value} {p : Int × Int} {q : Addr} (hp : Prs X.K H ps us) (r : Vals us its) (hq : SqT X.K H q [.int p.1, .int p.2]) : ∀ y ∈ its.toArray, SeqAt.EqAt X.A.in1 s y (.ref q) (decide (isP X.K H p y)) := by
 have hu := hr.units
 have hu0 : X.A.in1.units ≤ X.A.units + 8 := by
  first | exact Nat.le_add_right _ _ | (simp [Around.in1]) | (unfold Around.in1; simp)
 have hu1 : X.A.in1.units + 20 < cLine := by omega
 intro y hy
 have hy : y ∈ its := by simpa using hy
 obtain ⟨i, hi, rfl⟩ := List.getElem_of_mem hy
 have hl := r.length
 have hlp := hp.len
 rw [isP_at I hp r hi (by omega)]
 obtain ⟨a, p', e1, e2, e3⟩ := hp.get (i := i) (v := us[i]'(by omega)) (by simp)
 obtain ⟨w, ew, rw'⟩ := r.get (i := i) (x := us[i]'(by omega)) (by simp)
 rw [e2] at rw'
 cases rw'
 have ew : its[i] = .ref a := by
  rw [List.getElem?_eq_getElem hi] at ew
  exact Option.some.inj ew
 have ep : ps[i]'(by omega) = p' := by
  rw [List.getElem?_eq_getElem (by omega)] at e1
  exact Option.some.inj e1
 rw [ew, ep]
 have key := eqAt_D I 20 (X.A.in1) (tupD p') (tupD p) (.ref a) (.ref q) (.ref a) (.ref q) (by unfold tupD; simp only [depD, depDs]; decide) hu1 (by unfold tupD; simp only [Den]; exact ⟨a, _, rfl, e3, dens2 _ _ _ _⟩) (by unfold tupD; simp only [Den]; exact ⟨q, _, rfl, hq, dens2 _ _ _ _⟩) rfl rfl
 have e4 : eqD (tupD p') (tupD p) = decide (p' = p) := by
  unfold tupD
  simp only [eqD]
  rw [eqDs2]
 rw [← e4]
 exact key
open Classical in
theorem any_isP (I : Inv X pins σ H s) {ps : List (Int × Int)} {us : List V} {its : List Value} {p : Int × Int} (hp : Prs X.K H ps us) (r : Vals us its) : its.toArray.any (fun y => decide (isP X.K H p y)) = decide (p ∈ ps) := by
 have hl := r.length
 have hlp := hp.len
 rw [show its.toArray.any (fun y => decide (isP X.K H p y)) = its.any (fun y => decide (isP X.K H p y)) by simp]
 by_cases hm : p ∈ ps
 · rw [decide_eq_true hm, List.any_eq_true]
   obtain ⟨i, hi, e⟩ := List.getElem_of_mem hm
   refine ⟨its[i]'(by omega), List.getElem_mem _, ?_⟩
   rw [isP_at I hp r (by omega) hi, e]
   simp
 · rw [decide_eq_false hm, List.any_eq_false]
   intro y hy
   obtain ⟨i, hi, rfl⟩ := List.getElem_of_mem hy
   rw [isP_at I hp r hi (by omega), decide_eq_false]
   · simp
   · rintro rfl
     exact hm (List.getElem_mem _)
end
section
variable {X : Cx}
noncomputable def rInP (K : PySem.W.Frag) (neg : Bool) : R2 := fun x y H Q => ∃ (q t : Addr) (us : List V) (ps : List (Int × Int)) (p : Int × Int), x = .ref q ∧ y = .ref t ∧ SqT K H q [.int p.1, .int p.2] ∧ SqT K H t us ∧ Prs K H ps us ∧ Q (.bl (if neg then !decide (p ∈ ps) else decide (p ∈ ps))) H
open Classical in
theorem op_notInP {k : Nat} (hr : Room k X.A) : OpR X (compareOp .NotIn) (rInP X.K true) := by
 intro pins s σ H x y v u Q I rx ry h
 obtain ⟨q, t, us, ps, p, rfl, rfl, hq, ht, hp, k⟩ := h
 cases rx
 cases ry
 obtain ⟨its, r, pl, hz⟩ := I.tuple ht
 refine SeqAt.notIn_tupleAt (fun y => decide (isP X.K H p y)) pl (isP_eq hr I hp r hq) ⟨.bl _, H, I, rfl, ?_⟩
 rw [any_isP I hp r]
 exact k
noncomputable def rIdxT (K : PySem.W.Frag) : V → List V → Hp → VK → Prop := fun o xs H Q => ∃ (t q : Addr) (us : List V) (ps : List (Int × Int)) (p : Int × Int), o = .ref t ∧ xs = [.ref q] ∧ H t = some (.tup us) ∧ Prs K H ps us ∧ SqT K H q [.int p.1, .int p.2] ∧ p ∈ ps ∧ Q (.int ((ps.idxOf p : Nat) : Int)) H
open Classical in
theorem mt_indexT {k : Nat} (hr : Room k X.A) : MtM X "tuple.index" (rIdxT X.K) := by
 intro pins s σ H x vs v us' Q I rx rv h
 obtain ⟨t, q, us, ps, p, rfl, rfl, ht, hp, hq, hm, k⟩ := h
 cases rx
 obtain ⟨u, rfl, ru⟩ := rv.one
 cases ru
 obtain ⟨its, r, pl, hz⟩ := I.tuple (SqT.of ht)
 have hl := r.length
 have hlp := hp.len
 have heq := isP_eq hr I hp r hq
 obtain ⟨⟨c, dd, dt, sl⟩, e, hc, n, hd⟩ := pl
 have hc : c = .type "tuple" := hc
 have hd : dt = .seq its.toArray n := hd
 subst hc hd
 have hi : ps.idxOf p < ps.length := List.idxOf_lt_length_of_mem hm
 have hi2 : ps.idxOf p < its.length := by omega
 refine call_meets F.slot_tuple_index ⟨_, e, rfl⟩ F.entry_tuple_index (F.args_tuple_index_2 _ _) (tuple_indexAt t its.toArray n dd sl (.ref q) (fun y => decide (isP X.K H p y)) (ps.idxOf p) (by rw [List.size_toArray]; omega) ?_ (fun m hm' hlt => ?_)) ⟨e, heq, .int _, H, I.tok _, ⟨_, rfl⟩, k⟩
 · rw [List.getElem_toArray]
   show decide (isP X.K H p (its[ps.idxOf p])) = true
   rw [isP_at I hp r hi2 hi, List.getElem_idxOf]
   simp
 · rw [List.getElem_toArray]
   rw [List.size_toArray] at hm'
   show decide (isP X.K H p (its[m])) = false
   rw [isP_at I hp r hm' (by omega), decide_eq_false]
   intro z
   have := List.not_of_lt_findIdx (p := (· == p)) (xs := ps) (i := m) hlt
   rw [z] at this
   simp at this
end
end L2

open PySem PySem.Spec PyProof PyProof.Rows
namespace L2
structure OkW (n : Int) (ps : List (Int × Int)) : Prop where
 n1 : 1 ≤ n
 n12 : n ≤ 12
 few : ps.length ≤ 62
 rng : ∀ p ∈ ps, 0 ≤ p.1 ∧ p.1 < n ∧ 0 ≤ p.2 ∧ p.2 < n
section
variable {X : Cx}
noncomputable def WbAt (K : PySem.W.Frag) (H : Hp) (a : Addr) (n : Int) (ps : List (Int × Int)) : Prop := ∃ (t : Addr) (us : List V), H a = some (.tup [.int n, .ref t]) ∧ H t = some (.tup us) ∧ Prs K H ps us
theorem WbAt.kl {K : PySem.W.Frag} {H H' : Hp} {a : Addr} {n : Int} {ps : List (Int × Int)} (h : WbAt K H a n ps) (k : KL H H') : WbAt K H' a n ps := by
 obtain ⟨t, us, e1, e2, p⟩ := h
 exact ⟨t, us, k.tup e1, k.tup e2, Prs.kl k p⟩
theorem WbAt.same {K : PySem.W.Frag} {H H' : Hp} {a : Addr} {n : Int} {ps : List (Int × Int)} (h : WbAt K H a n ps) (k : Same H H') : WbAt K H' a n ps := h.kl k.kl
end
theorem lex_eq {ms ns : List (Int × Int)} (p : ms.Perm ns) (h1 : ms.Pairwise lexR) (h2 : ns.Pairwise lexR) : ms = ns := p.eq_of_pairwise (fun a b _ _ x y => by
 simp only [lexR] at x y
 exact Prod.ext (by omega) (by omega)) h1 h2
theorem eraseIdx_idxOf {α : Type} [BEq α] [LawfulBEq α] (l : List α) (a : α) (h : a ∈ l) : l.eraseIdx (l.idxOf a) = l.erase a := by
 rw [List.erase_eq_eraseIdx_of_idxOf rfl]
theorem cut1 {xs : List V} {i : Nat} (h : i < xs.length) : cutV xs none (some (i : Int)) = xs.take i := by
 unfold cutV
 rw [HT.sIx_nat, HT.sIx_none, List.drop_zero, Nat.sub_zero, Nat.min_eq_left (by omega)]
theorem cut2 {xs : List V} {i : Nat} (h : i < xs.length) : cutV xs (some ((i : Int) + 1)) none = xs.drop (i + 1) := by
 unfold cutV
 rw [show (i : Int) + 1 = ((i + 1 : Nat) : Int) from rfl, HT.sIx_nat, HT.sIx_none, Nat.min_eq_left (by omega)]
 exact List.take_of_length_le (by rw [List.length_drop]; omega)
theorem Prs.take {K : PySem.W.Frag} {H : Hp} : ∀ {ps : List (Int × Int)} {vs : List V} (i : Nat), Prs K H ps vs → Prs K H (ps.take i) (vs.take i)
 | [], vs, i, h => by
   simp only [Prs, List.map_nil, Dens] at h
   subst h
   rw [List.take_nil, List.take_nil]
   exact prs_nil
 | p :: ps, vs, 0, h => by rw [List.take_zero, List.take_zero]; exact prs_nil
 | p :: ps, vs, i + 1, h => by
   obtain ⟨a, r, rfl, hq, hr⟩ := prs_uncons h
   rw [List.take_succ_cons, List.take_succ_cons]
   exact prs_cons hq (Prs.take i hr)
theorem Prs.drop {K : PySem.W.Frag} {H : Hp} : ∀ {ps : List (Int × Int)} {vs : List V} (i : Nat), Prs K H ps vs → Prs K H (ps.drop i) (vs.drop i)
 | [], vs, i, h => by
   simp only [Prs, List.map_nil, Dens] at h
   subst h
   rw [List.drop_nil, List.drop_nil]
   exact prs_nil
 | p :: ps, vs, 0, h => by rw [List.drop_zero, List.drop_zero]; exact h
 | p :: ps, vs, i + 1, h => by
   obtain ⟨a, r, rfl, hq, hr⟩ := prs_uncons h
   rw [List.drop_succ_cons, List.drop_succ_cons]
   exact Prs.drop i hr
theorem take_drop_erase (ps : List (Int × Int)) {p : Int × Int} (h : p ∈ ps) : ps.take (ps.idxOf p) ++ ps.drop (ps.idxOf p + 1) = ps.erase p := by
 rw [← eraseIdx_idxOf _ _ h, List.eraseIdx_eq_take_drop_succ]
theorem b01 (b : Bool) : -(2 : Int) ^ 64 < (if b = true then (1 : Int) else 0) ∧ (if b = true then (1 : Int) else 0) < (2 : Int) ^ 64 := by cases b <;> decide
theorem ints_of : ∀ {ys : List V}, (∀ y ∈ ys, ∃ n : Int, y = .int n) → ∃ zs : List Int, ys = zs.map V.int
 | [], _ => ⟨[], rfl⟩
 | y :: ys, h => by
   obtain ⟨n, rfl⟩ := h y List.mem_cons_self
   obtain ⟨zs, rfl⟩ := ints_of (ys := ys) fun z hz => h z (List.mem_cons_of_mem _ hz)
   exact ⟨n :: zs, rfl⟩
theorem prs_dep2 : ∀ ps : List (Int × Int), depDs (ps.map dtP) ≤ 2
 | [] => by simp only [List.map_nil, depDs]; decide
 | p :: ps => by
   have := prs_dep2 ps
   simp only [List.map_cons, depDs, dtP, depD] at *
   omega
noncomputable def spWith (K : PySem.W.Frag) : Sp := fun vs H Q _ => ∃ (a : Addr) (n x y : Int) (ps : List (Int × Int)), vs = [.ref a, .int x, .int y] ∧ WbAt K H a n ps ∧ ps.length ≤ 62 ∧ ∀ (b : Addr) (H' : Hp) (ms : List (Int × Int)), Same H H' → H b = none → WbAt K H' b n ms → ms.Perm (ps ++ [(x, y)]) → ms.Pairwise lexR → Q (.ref b) H'
noncomputable def spWithout (K : PySem.W.Frag) : Sp := fun vs H Q _ => ∃ (a : Addr) (n x y : Int) (ps : List (Int × Int)), vs = [.ref a, .int x, .int y] ∧ WbAt K H a n ps ∧ ps.length ≤ 100 ∧ ((x, y) ∉ ps → ∀ H', Same H H' → Q .non H') ∧ ((x, y) ∈ ps → ∀ (b : Addr) (H' : Hp), Same H H' → WbAt K H' b n (ps.erase (x, y)) → Q (.ref b) H')
end L2

namespace Pw
section
variable {ps ms : List (Int × Int)} {A : Int × Int} {Bs Ss : List (Int × Int)} {n : Nat}
end
theorem ev_at {n t : Nat} (ht : t < n) : val ((List.replicate n (1, (n : Int))).getD t (0, 1)) = 1 / (n : Rat) := by
 rw [List.getD_eq_getElem?_getD, List.getElem?_replicate, if_pos ht]; rfl
theorem ev_canon {n : Nat} (hn : 1 ≤ n) : Canons (List.replicate n (1, (n : Int))) := fun B hB => by
 rw [(List.mem_replicate.mp hB).2]; exact ⟨by show (0 : Int) < (n : Int); omega, by show Int.gcd 1 (n : Int) = 1; simp⟩
end Pw

namespace Pw
section
variable {n : Nat} {A : Int × Int} {x y : Nat}
end
end Pw

open PySem PySem.Spec PyProof PyProof.Rows
namespace L2
section
variable {n : Nat} {A : Int × Int} {x y : Nat}
theorem n_sz (hn : n ≤ 12) : Sz 4 (n : Int) ∧ Sz 4 ((n : Int) - 1) := ⟨by unfold Sz; omega, by unfold Sz; omega⟩
end
noncomputable def spEvenW (K : PySem.W.Frag) : Sp := fun vs H Q _ => ∃ (wa : Addr) (n : Nat) (r : List V), vs = [.ref wa] ∧ H wa = some (.tup (.int (n : Int) :: r)) ∧ 1 ≤ n ∧ n ≤ 12 ∧
 ∀ (q : Addr) (H' : Hp) (us : List V), Same H H' → H' q = some (.tup us) → FrL K H' (List.replicate n (1, (n : Int))) us → Q (.ref q) H'
structure ShIn (K : PySem.W.Frag) (H : Hp) (w lp ls : Addr) (n : Nat) (ps : List (Int × Int)) (A : Int × Int) (Bs : List (Int × Int)) (us : List V) (S : Int) : Prop where
 g : Gv K H w lp ls (n : Int) ps A Bs us
 pr : Pr A Bs S
 n12 : n ≤ 12
 sA : Sz2 140 A
 sS : Sz 140 S
theorem sh_sz {ps : List (Int × Int)} {A : Int × Int} {Bs Ss : List (Int × Int)} {n : Nat} {V' : Int} (ok : Pw.ShOk ps A Bs n Ss) (v0 : 0 < V') (zV : Sz ((140 + 11) * 13 + 20) V') (dv : ∀ S ∈ Ss, S.2 ∣ V') : ∀ S ∈ Ss, Sz2 1983 S := fun S hS => by
 have c := (ok.canon S hS).1
 have h1 := ok.nn S hS
 have h2 := ok.le1 S hS
 have h3 : S.2 ≤ V' := Int.le_of_dvd v0 (dv S hS)
 have h4 : V'.natAbs < 2 ^ 1983 := zV
 exact ⟨by show S.1.natAbs < 2 ^ 1983; omega, by show S.2.natAbs < 2 ^ 1983; omega⟩
noncomputable def spSh (K : PySem.W.Frag) : Sp := fun vs H Q _ => ∃ (w lp ls : Addr) (n : Nat) (ps : List (Int × Int)) (A : Int × Int) (Bs : List (Int × Int)) (us : List V) (S : Int), vs = [.ref w, .ref lp, .ref ls] ∧ ShIn K H w lp ls n ps A Bs us S ∧
 ∀ (t : Addr) (H' : Hp) (Ss : List (Int × Int)) (ys : List V), Pw.ShOk ps A Bs n Ss → (∀ S ∈ Ss, Sz2 1983 S) → Same H H' → H' t = some (.tup ys) → FrL K H' Ss ys → Q (.ref t) H'
theorem Def.sh {P : Program} {w : World} {K : PySem.W.Frag} {mg : Str → Option Value} {base : Heap} {k : Nat} (D : Def P w K mg base k "shares" ["web", "leap", "leaps"] (spShares K)) : Def P w K mg base k "shares" ["web", "leap", "leaps"] (spSh K) := by
 obtain ⟨f, fd, F, m, b, G⟩ := D
 refine ⟨f, fd, F, m, b, G.imp fun vs H Q E h => ?_⟩
 obtain ⟨wa, lp, ls, n, ps, A, Bs, us, S, rfl, i, k⟩ := h
 refine ⟨wa, lp, ls, (n : Int), ps, A, Bs, us, S, 140, rfl, i.g, i.pr, by have := i.n12; omega, by decide, i.sA, i.sS, fun t H' Ss V' ys ok v0 zV dv s e f => ?_⟩
 rw [Int.toNat_natCast] at ok
 exact k t H' Ss ys ok (sh_sz ok v0 zV dv) s e f
end L2

open PySem PySem.Spec PyProof PyProof.Rows
namespace L2
theorem ev_one {n : Nat} (n1 : 1 ≤ n) : Pw.qs (List.replicate n ((1 : Int), (n : Int))).length (fun t => Pw.val ((List.replicate n ((1 : Int), (n : Int))).getD t (0, 1))) = 1 := by
 rw [List.length_replicate]
 exact Pw.one_of n1 fun t ht => Pw.ev_at ht
theorem pr_even {n : Nat} {A : Int × Int} (n1 : 1 ≤ n) (n12 : n ≤ 12) (a0 : 0 < A.1) (a1 : A.1 ≤ A.2) : Pr A (List.replicate n ((1 : Int), (n : Int))) (n : Int) :=
 ⟨a0, a1, fun B hB => by rw [(List.mem_replicate.mp hB).2]; show (0 : Int) ≤ 1; decide, ev_one n1, by omega, (n_sz n12).1.mono (by decide), fun B hB => by rw [(List.mem_replicate.mp hB).2]; exact Int.dvd_refl _⟩
theorem shin_even {K : PySem.W.Frag} {H : Hp} {w lp ev : Addr} {n : Nat} {ps : List (Int × Int)} {A : Int × Int} {us : List V} (hw : WbAt K H w (n : Int) ps) (few : ps.length ≤ 100) (lk : ∀ p ∈ ps, 0 ≤ p.1 ∧ p.1 < (n : Int) ∧ 0 ≤ p.2 ∧ p.2 < (n : Int)) (fA : FrA K H lp A) (ca : Pw.Canon A) (a0 : 0 < A.1) (a1 : A.1 ≤ A.2) (sa : Sz2 41 A) (n1 : 1 ≤ n) (n12 : n ≤ 12)
 (e : H ev = some (.tup us)) (f : FrL K H (List.replicate n ((1 : Int), (n : Int))) us) : ShIn K H w lp ev n ps A (List.replicate n ((1 : Int), (n : Int))) us (n : Int) :=
 ⟨⟨hw, few, lk, fA, ca, sa.mono (by decide), e, f, Pw.ev_canon n1, fun B hB => by
  rw [(List.mem_replicate.mp hB).2]
  exact ⟨(sz_of 1 (by decide) : Sz 600 (1 : Int)), (n_sz n12).1.mono (by decide)⟩, by rw [List.length_replicate], by omega, by omega⟩, pr_even n1 n12 a0 a1, n12, sa.mono (by decide), (n_sz n12).1.mono (by decide)⟩
end L2
namespace Pw
end Pw

open PySem PySem.Spec PyProof PyProof.Rows
namespace L2
section
variable {X : Cx}
end
end L2

namespace Pw
section
variable {ps ms : List (Int × Int)} {A : Int × Int} {Bs Ss : List (Int × Int)} {n : Nat}
end
end Pw

open PySem PySem.Spec PyProof PyProof.Rows
namespace L2
end L2

open PySem PySem.Spec PyProof PyProof.Rows
namespace Pw
end Pw
namespace L2
section
variable {ord : List Nat} {n : Nat} {Bs : List (Int × Int)}
end
end L2

open PySem PySem.Spec PyProof PyProof.Rows
namespace Pw
end Pw
namespace L2
section
variable {K : PySem.W.Frag} {a : Addr} {xs : List V} {g : TG}
end
end L2

open PySem PySem.Spec PyProof PyProof.Rows
namespace Pw
end Pw
namespace L2
end L2

open PySem PySem.Spec PyProof PyProof.Rows
namespace L2
section
variable {X : Cx}
end
end L2

open PySem PySem.Spec PyProof PyProof.Rows
namespace L2
section
variable {X : Cx}
end
end L2

open PySem PySem.Spec PyProof PyProof.Rows
namespace Pw
end Pw
namespace L2
open Pw
section
variable {X : Cx}
end
end L2

open PySem PySem.Spec PyProof PyProof.Rows
namespace L2
end L2

open PySem PySem.Spec PyProof PyProof.Rows
namespace Pw
end Pw

open PySem PySem.Spec PyProof PyProof.Rows
namespace Pw
variable {ps ms : List (Int × Int)} {A : Int × Int} {Bs Ss : List (Int × Int)} {n : Nat} {S : Int}
end Pw
namespace L2
open Pw
variable {K : PySem.W.Frag} {H : Hp} {w lp ls : Addr} {n x y : Nat} {A : Int × Int} {us : List V} {S : Int}
end L2

open PySem PySem.Spec PyProof PyProof.Rows
namespace L2
open Pw
variable {K : PySem.W.Frag} {H : Hp} {w lp ls : Addr} {n x0 x1 : Nat} {ps : List (Int × Int)} {A : Int × Int} {us : List V} {S : Int}
end L2

open PySem PySem.Spec PyProof PyProof.Rows
namespace L2
open Pw
section
variable {X : Cx}
end
end L2

open PySem PySem.Spec PyProof PyProof.Rows
namespace Pw
end Pw

open PySem PySem.Spec PyProof PyProof.Rows
namespace Pw
end Pw

open PySem PySem.Spec PyProof PyProof.Rows
namespace Pw
section
variable {ps : List (Int × Int)} {A : Int × Int} {Bs Ss : List (Int × Int)} {n : Nat} {S : Int} {t : Nat → Nat → Int} {dn : Nat → Int}
end
end Pw

open PySem PySem.Spec PyProof PyProof.Rows
namespace Pw
end Pw
namespace L2
section
variable {X : Cx} {K : PySem.W.Frag}
end
end L2

open PySem PySem.Spec PyProof PyProof.Rows
namespace L2
end L2

open PySem PySem.Spec PyProof PyProof.Rows
namespace Pw
end Pw
namespace L2
section
variable {X : Cx}
end
end L2
namespace Pw
end Pw

open PySem PySem.Spec PyProof PyProof.Rows
namespace L2
end L2

open PySem PySem.Spec PyProof PyProof.Rows
namespace L2
end L2

open PySem PySem.Spec PyProof PyProof.Rows
namespace Pw
section
variable {ps ms : List (Int × Int)} {A : Int × Int} {Bs Ss Ts : List (Int × Int)} {n : Nat} {S : Int}
end
end Pw

open PySem PySem.Spec PyProof PyProof.Rows
namespace L2
theorem neW {K : PySem.W.Frag} {H : Hp} {a b : Addr} {n : Int} {ps : List (Int × Int)} {Q : VK} (h1 : WbAt K H a n ps) (h2 : WbAt K H b n ps) (k : Q (.bl false) H) : rEqD K true (.ref a) (.ref b) H Q := by
 obtain ⟨t3, u3, a3, b3, c3⟩ := h1
 obtain ⟨t4, u4, a4, b4, c4⟩ := h2
 have dep : depDs [Dt.int n, Dt.tup (ps.map dtP)] ≤ 20 := by
  have := prs_dep2 ps
  simp only [depDs, depD]
  omega
 refine ⟨a, b, _, _, [.int n, .tup (ps.map dtP)], [.int n, .tup (ps.map dtP)], rfl, rfl, .inl ⟨SqT.of a3, SqT.of a4⟩, ?_, ?_, dep, ?_⟩
 · simp only [Dens, Den]
   exact ⟨_, _, rfl, rfl, _, _, rfl, ⟨t3, u3, rfl, SqT.of b3, c3⟩, rfl⟩
 · simp only [Dens, Den]
   exact ⟨_, _, rfl, rfl, _, _, rfl, ⟨t4, u4, rfl, SqT.of b4, c4⟩, rfl⟩
 rw [if_pos rfl, eqDs_refl]
 exact k
end L2

open PySem PySem.Spec PyProof PyProof.Rows
namespace L2
noncomputable def FnAt (K : PySem.W.Frag) (n : Str) (st : Stmt) : Prop := ∃ f fd, PySem.W.nsIn K mainGlobals n = some (some (.ref f)) ∧ Fun K n n st f fd
theorem FnAt.of {K : PySem.W.Frag} {n : Str} {st : Stmt} {f : Addr} {oc : Value} {od an : Option Addr} {osl : Array (Option Value)} {kV doc pm cdv ct : Value} (a : PySem.W.nsIn K mainGlobals n = some (some (.ref f))) (l : K.lookup f = some ⟨oc, od, .func (PySem.W.fnOf n n (defArgs st) (defBody st) (defScope st) .none kV doc pm an cdv ct), osl⟩)
 (c : PySem.W.codeIn K cdv n = true) (k : PySem.W.keepIn K (.ref f) = true) : FnAt K n st := ⟨_, _, a, fun_mk l c k⟩
theorem FnAt.fnd {K : PySem.W.Frag} {h : Heap} {mg : Str → Option Value} {n : Str} {st : Stmt} (ps : List Str) (x : FnAt K n st) (XK : K.In h) (G : h.Ns mainGlobals mg)
 (b : ∀ (kV doc pm : Value) (an : Option Addr) (cdv ct : Value) (us : List Value), us.length = ps.length → bindArgs (PySem.W.fnOf n n (defArgs st) (defBody st) (defScope st) .none kV doc pm an cdv ct) ⟨us, []⟩ = pure (ps.zip us)) : Fnd K mg n st ps := by
 obtain ⟨f, fd, a, F⟩ := x
 exact ⟨f, fd, F, PySem.W.mg_of XK G a, F.binds b⟩
end L2

open PySem PySem.Spec PyProof PyProof.Rows
namespace Pw
section
variable {ps : List (Int × Int)} {A : Int × Int} {Bs Ss : List (Int × Int)} {n : Nat} {S : Int}
variable {L st : Int} {E : Nat → Option Int}
end
end Pw

open PySem PySem.Spec PyProof PyProof.Rows
namespace Pw
section
variable {ps : List (Int × Int)} {A : Int × Int} {Bs Ss : List (Int × Int)} {n z : Nat} {S L st : Int} {E : Nat → Option Int}
end
end Pw
namespace L2
noncomputable def natV (ns : List Nat) : List V := ns.map fun (k : Nat) => V.int (k : Int)
end L2

open PySem PySem.Spec PyProof PyProof.Rows
namespace L2
section
variable {X : Cx}
end
end L2

open PySem PySem.Spec PyProof PyProof.Rows
namespace Pw
section
variable {ps : List (Int × Int)} {A : Int × Int} {Bs Ss : List (Int × Int)} {n : Nat} {S : Int}
end
end Pw
namespace L2
end L2

open PySem PySem.Spec PyProof PyProof.Rows
namespace Pw
section
variable {ps : List (Int × Int)} {A : Int × Int} {Bs Ss : List (Int × Int)} {n : Nat} {S : Int}
end
end Pw
namespace L2
end L2

open PySem PySem.Spec PyProof PyProof.Rows
namespace Pw
section
variable {ps : List (Int × Int)} {A : Int × Int} {Bs Ss : List (Int × Int)} {n : Nat} {S : Int}
end
end Pw

open PySem PySem.Spec PyProof PyProof.Rows
namespace L2
end L2

namespace Srt
open PySem PySem.W PyProof.Rows
noncomputable def Ls (lt : Nat → Nat → Bool) (i j : Nat) : Prop := lt i j = false ∧ (lt j i = true ∨ j ≤ i)
noncomputable def UpS (lt : Nat → Nat → Bool) (p : Array Nat) (b : Nat) : Prop := ∀ k, 1 ≤ k → k < b → Ls lt (e p k) (e p (k - 1))
noncomputable def DownS (lt : Nat → Nat → Bool) (p : Array Nat) (b : Nat) : Prop := ∀ k, 1 ≤ k → k < b → Ls lt (e p (k - 1)) (e p k)
structure Pf (p : Array Nat) (k : Nat) : Prop where
 lo : ∀ i, i < k → e p i < k
 hi : ∀ i, k ≤ i → i < p.size → e p i = i
theorem Pf.range {n k : Nat} (h : k ≤ n) : Pf (List.toArray (List.range n)) k := by
 have he : ∀ i, i < n → e (List.toArray (List.range n)) i = i := fun i hi => by
  unfold e
  rw [Array.getD_eq_getD_getElem?]
  simp [hi]
 refine ⟨fun i hi => ?_, fun i _ hi => he i (by simpa using hi)⟩
 rw [he i (by omega)]
 exact hi
theorem Pf.mono {p : Array Nat} {k m : Nat} (h : Pf p k) (hk : k ≤ m) (hm : m ≤ p.size) : Pf p m := ⟨fun i hi => by
 by_cases c : i < k
 · have := h.lo i c; omega
 · rw [h.hi i (by omega) (by omega)]; exact hi, fun i h1 h2 => h.hi i (by omega) h2⟩
theorem Pf.rev {p : Array Nat} {a b k : Nat} (h : Pf p k) (hb : b ≤ k) (hk : k ≤ p.size) : Pf (kas_rev p a b) k := ⟨fun i hi => by
 by_cases c : a ≤ i ∧ i < b
 · rw [e_rev_in (by omega) c.1 c.2]; exact h.lo _ (by omega)
 · rw [e_rev_out (by omega) (by omega)]; exact h.lo i hi, fun i h1 h2 => by
 rw [rev_size] at h2
 rw [e_rev_out (by omega) (by omega)]; exact h.hi i h1 h2⟩
section
variable {lt : Nat → Nat → Bool} (O : Ord lt)
theorem DownS.down {p : Array Nat} {b : Nat} (h : DownS lt p b) : Down lt p b := fun k k1 k2 => (h k k1 k2).1
theorem UpS.up {p : Array Nat} {b : Nat} (h : UpS lt p b) : Up lt p b := fun k k1 k2 => (h k k1 k2).1
theorem UpS.ext {p : Array Nat} {n m : Nat} (pf : Pf p n) (hm : m ≤ p.size) (h0 : UpS lt p n) (h : Up lt p m) : UpS lt p m := fun k k1 k2 => by
 by_cases c : k < n
 · exact h0 k k1 c
 · refine ⟨h k k1 k2, .inr ?_⟩
   have e1 := pf.hi k (by omega) (by omega)
   by_cases d : k - 1 < n
   · have := pf.lo (k - 1) d; omega
   · have := pf.hi (k - 1) (by omega) (by omega); omega
theorem DownS.upS {p : Array Nat} {n : Nat} (hn : n ≤ p.size) (h : DownS lt p n) : UpS lt (kas_rev p 0 n) n := fun k k1 k2 => by
 rw [e_rev_in (k := k) hn (Nat.zero_le _) k2, e_rev_in (k := k - 1) hn (Nat.zero_le _) (by omega)]
 have := h (0 + n - 1 - (k - 1)) (by omega) (by omega)
 rw [show 0 + n - 1 - (k - 1) - 1 = 0 + n - 1 - k by omega] at this
 exact this
include O
theorem blk {p : Array Nat} {n q : Nat} (hz : n ≤ p.size) (hq : q + 1 ≤ n) (hd : DownS lt p (n - q)) (ha : Alike lt p (n - (q + 1)) n) (hs : 1 ≤ n - (q + 1) → lt (e p (n - (q + 1))) (e p (n - (q + 1) - 1)) = true) (pf : Pf p (n - (q + 1))) :
 DownS lt (kas_rev p (n - (q + 1)) n) n := fun k k1 k2 => by
 by_cases c : k < n - (q + 1)
 · rw [e_rev_out (k := k) hz (by omega), e_rev_out (k := k - 1) hz (by omega)]
   exact hd k k1 (by omega)
 by_cases d : k = n - (q + 1)
 · rw [e_rev_out (k := k - 1) hz (by omega), e_rev_in (k := k) hz (by omega) k2]
   have h1 := hs (by omega)
   rw [← d] at h1
   have h2 := ha k (n - (q + 1) + n - 1 - k) (by omega) k2 (by omega) (by omega)
   have h3 : lt (e p (n - (q + 1) + n - 1 - k)) (e p (k - 1)) = true := by
    cases hc : lt (e p (n - (q + 1) + n - 1 - k)) (e p (k - 1)) with
    | true => rfl
    | false =>
      have := O.trans _ _ _ hc h2
      rw [h1] at this
      cases this
   exact ⟨O.asym _ _ h3, .inl h3⟩
 · rw [e_rev_in (k := k) hz (by omega) k2, e_rev_in (k := k - 1) hz (by omega) (by omega)]
   refine ⟨ha _ _ (by omega) (by omega) (by omega) (by omega), .inr ?_⟩
   rw [pf.hi _ (by omega) (by omega), pf.hi _ (by omega) (by omega)]
   omega
theorem desc_st : ∀ (f : Nat) (p : Array Nat) (n q : Nat), n + f ≤ p.size → q + 1 ≤ n → DownS lt p (n - q) → Alike lt p (n - (q + 1)) n → (1 ≤ n - (q + 1) → lt (e p (n - (q + 1))) (e p (n - (q + 1) - 1)) = true) → Pf p (n - (q + 1)) →
 DownS lt (run lt (kas_desc f p n q)).1 ((run lt (kas_desc f p n q)).2.1 - (run lt (kas_desc f p n q)).2.2) ∧ Alike lt (run lt (kas_desc f p n q)).1 ((run lt (kas_desc f p n q)).2.1 - ((run lt (kas_desc f p n q)).2.2 + 1)) (run lt (kas_desc f p n q)).2.1 ∧
 (1 ≤ (run lt (kas_desc f p n q)).2.1 - ((run lt (kas_desc f p n q)).2.2 + 1) → lt (e (run lt (kas_desc f p n q)).1 ((run lt (kas_desc f p n q)).2.1 - ((run lt (kas_desc f p n q)).2.2 + 1))) (e (run lt (kas_desc f p n q)).1 ((run lt (kas_desc f p n q)).2.1 - ((run lt (kas_desc f p n q)).2.2 + 1) - 1)) = true) ∧
 Pf (run lt (kas_desc f p n q)).1 ((run lt (kas_desc f p n q)).2.1 - ((run lt (kas_desc f p n q)).2.2 + 1))
 | 0, p, n, q, hz, hq, hd, ha, hs, pf => ⟨hd, ha, hs, pf⟩
 | f + 1, p, n, q, hz, hq, hd, ha, hs, pf => by
   have er : run lt (kas_desc (f + 1) p n q) = run lt (if lt (e p n) (e p (n - 1)) = true then (if q > 0 then kas_desc f (kas_rev p (n - (q + 1)) n) (n + 1) 0 else kas_desc f p (n + 1) 0)
    else .ask (e p (n - 1)) (e p n) fun d => if d = true then .ret (p, n, q) else kas_desc f p (n + 1) (q + 1)) := rfl
   have one : ∀ (p' : Array Nat), Alike lt p' (n + 1 - (0 + 1)) (n + 1) := fun p' i j i1 i2 j1 j2 => by
    have e1 : i = n := by omega
    have e2 : j = n := by omega
    subst e1 e2; exact irr O _
   have on : ∀ (p' : Array Nat), DownS lt p' n → lt (e p' n) (e p' (n - 1)) = true → DownS lt p' (n + 1 - 0) := fun p' h c k k1 k2 => by
    by_cases hk : k < n
    · exact h k k1 hk
    · have ek : k = n := by omega
      subst ek
      exact ⟨O.asym _ _ c, .inl c⟩
   cases c : lt (e p n) (e p (n - 1)) with
   | true =>
     rw [er, c, if_pos rfl]
     by_cases q0 : q > 0
     · rw [if_pos q0]
       have hz' := rev_size p (n - (q + 1)) n
       have d1 := blk O (by omega) hq hd ha hs pf
       have c' : lt (e (kas_rev p (n - (q + 1)) n) n) (e (kas_rev p (n - (q + 1)) n) (n - 1)) = true := by
        rw [e_rev_out (k := n) (by omega) (Or.inr (Nat.le_refl _)), e_rev_in (k := n - 1) (by omega) (by omega) (by omega)]
        have h2 := ha (n - (q + 1) + n - 1 - (n - 1)) (n - 1) (by omega) (by omega) (by omega) (by omega)
        have h2' := ha (n - 1) (n - (q + 1) + n - 1 - (n - 1)) (by omega) (by omega) (by omega) (by omega)
        cases hc : lt (e p n) (e p (n - (q + 1) + n - 1 - (n - 1))) with
        | true => rfl
        | false =>
          have := O.trans _ _ _ h2 hc
          rw [c] at this
          cases this
       refine desc_st f (kas_rev p (n - (q + 1)) n) (n + 1) 0 (by omega) (by omega) (on _ d1 c') (one _) (fun _ => c') ?_
       exact (pf.mono (m := n) (by omega) (by omega)).rev (Nat.le_refl _) (by omega)
     · rw [if_neg q0]
       have eq : q = 0 := by omega
       subst eq
       exact desc_st f p (n + 1) 0 (by omega) (by omega) (on _ hd c) (one _) (fun _ => c) (pf.mono (by omega) (by omega))
   | false =>
     rw [er, c, if_neg Bool.false_ne_true]
     have er2 : run lt (KasT.ask (e p (n - 1)) (e p n) fun d => if d = true then KasT.ret (p, n, q) else kas_desc f p (n + 1) (q + 1)) = run lt (if lt (e p (n - 1)) (e p n) = true then KasT.ret (p, n, q) else kas_desc f p (n + 1) (q + 1)) := rfl
     rw [er2]
     cases c2 : lt (e p (n - 1)) (e p n) with
     | true =>
       rw [if_pos rfl]
       exact ⟨hd, ha, hs, pf⟩
     | false =>
       rw [if_neg Bool.false_ne_true]
       have al2 : Alike lt p (n + 1 - (q + 1 + 1)) (n + 1) := fun i j i1 i2 j1 j2 => by
        by_cases hi : i < n
        · by_cases hj : j < n
          · exact ha i j (by omega) hi (by omega) hj
          · have ej : j = n := by omega
            subst ej
            exact O.trans _ _ _ c2 (ha i (j - 1) (by omega) hi (by omega) (by omega))
        · have ei : i = n := by omega
          subst ei
          by_cases hj : j < i
          · exact O.trans _ _ _ (ha (i - 1) j (by omega) (by omega) (by omega) hj) c
          · have ej : j = i := by omega
            subst ej; exact irr O _
       have en : n + 1 - (q + 1 + 1) = n - (q + 1) := by omega
       have en2 : n + 1 - (q + 1) = n - q := by omega
       exact desc_st f p (n + 1) (q + 1) (by omega) (by omega) (by rw [en2]; exact hd) al2 (by rw [en]; exact hs) (by rw [en]; exact pf)
theorem tail3_st {p : Array Nat} {n nrem : Nat} (h1 : 1 ≤ n) (hn : n ≤ nrem) (hz : nrem ≤ p.size) (h : DownS lt p n) (pf : Pf p n) :
 UpS lt (run lt (kas_tail3 n nrem p)).2 (run lt (kas_tail3 n nrem p)).1 ∧ Pf (run lt (kas_tail3 n nrem p)).2 (run lt (kas_tail3 n nrem p)).1 := by
 have er : run lt (kas_tail3 n nrem p) = (run lt (kas_asc (kas_rev p 0 n) (nrem - n) n), kas_rev p 0 n) := by
  unfold kas_tail3
  rw [run_bind]; rfl
 rw [er]
 have hs := rev_size p 0 n
 obtain ⟨a1, a2, a3, _⟩ := asc_ok O (p := kas_rev p 0 n) (nrem - n) n h1 (Down.up O (by omega) h.down)
 have pf' : Pf (kas_rev p 0 n) n := pf.rev (Nat.le_refl _) (by omega)
 exact ⟨UpS.ext pf' (by show run lt _ ≤ (kas_rev p 0 n).size; omega) (h.upS (by omega)) a3, pf'.mono a1 (by show run lt _ ≤ (kas_rev p 0 n).size; omega)⟩
theorem descPart_st {p : Array Nat} {n nrem : Nat} (h1 : 1 ≤ n) (hn : n + 1 ≤ nrem) (hz : nrem ≤ p.size) (h : DownS lt p n) (hs : lt (e p n) (e p (n - 1)) = true) (pf : Pf p n) :
 UpS lt (run lt (kas_descPart n nrem p)).2 (run lt (kas_descPart n nrem p)).1 ∧ Pf (run lt (kas_descPart n nrem p)).2 (run lt (kas_descPart n nrem p)).1 := by
 have one : Alike lt p (n + 1 - (0 + 1)) (n + 1) := fun i j i1 i2 j1 j2 => by
  have e1 : i = n := by omega
  have e2 : j = n := by omega
  subst e1 e2; exact irr O _
 have d1 : DownS lt p (n + 1) := fun k k1 k2 => by
  by_cases hk : k < n
  · exact h k k1 hk
  · have ek : k = n := by omega
    subst ek
    exact ⟨O.asym _ _ hs, .inl hs⟩
 obtain ⟨a1, a2, a3, a4, a5, _, _⟩ := desc_ok O (nrem - (n + 1)) p (n + 1) 0 (by omega) (by omega) d1.down one
 obtain ⟨c1, c2, c3, c4⟩ := desc_st O (nrem - (n + 1)) p (n + 1) 0 (by omega) (by omega) d1 one (fun _ => hs) pf
 have er : run lt (kas_descPart n nrem p) = run lt (if (run lt (kas_desc (nrem - (n + 1)) p (n + 1) 0)).2.2 > 0 then kas_tail3 (run lt (kas_desc (nrem - (n + 1)) p (n + 1) 0)).2.1 nrem (kas_rev (run lt (kas_desc (nrem - (n + 1)) p (n + 1) 0)).1 ((run lt (kas_desc (nrem - (n + 1)) p (n + 1) 0)).2.1 - ((run lt (kas_desc (nrem - (n + 1)) p (n + 1) 0)).2.2 + 1)) (run lt (kas_desc (nrem - (n + 1)) p (n + 1) 0)).2.1)
  else kas_tail3 (run lt (kas_desc (nrem - (n + 1)) p (n + 1) 0)).2.1 nrem (run lt (kas_desc (nrem - (n + 1)) p (n + 1) 0)).1) := by
  unfold kas_descPart
  rw [run_bind]
 rw [er]
 generalize run lt (kas_desc (nrem - (n + 1)) p (n + 1) 0) = r at *
 split
 · have hs' := rev_size r.1 (r.2.1 - (r.2.2 + 1)) r.2.1
   refine tail3_st O (by omega) (by omega) (by rw [hs', a1]; exact hz) (blk O (by omega) a5 c1 c2 c3 c4) ?_
   exact (c4.mono (m := r.2.1) (by omega) (by omega)).rev (Nat.le_refl _) (by omega)
 · have e0 : r.2.2 = 0 := by omega
   rw [e0] at c1 c4
   exact tail3_st O (by omega) (by omega) (by rw [a1]; exact hz) c1 (c4.mono (by omega) (by omega))
theorem count_st {p : Array Nat} {nrem : Nat} (h2 : 1 ≤ nrem) (hz : nrem ≤ p.size) (pf : ∀ k, k ≤ nrem → Pf p k) :
 UpS lt (run lt (kas_count nrem p)).2 (run lt (kas_count nrem p)).1 ∧ Pf (run lt (kas_count nrem p)).2 (run lt (kas_count nrem p)).1 := by
 obtain ⟨a1, a2, a3, a4⟩ := asc_ok O (p := p) (nrem - 1) 1 (Nat.le_refl _) (fun k k1 k2 => by omega)
 have er : run lt (kas_count nrem p) = run lt (if (run lt (kas_asc p (nrem - 1) 1) == nrem) = true then KasT.ret (run lt (kas_asc p (nrem - 1) 1), p) else if run lt (kas_asc p (nrem - 1) 1) > 1 then
  .ask (e p 0) (e p (run lt (kas_asc p (nrem - 1) 1) - 1)) fun c => if c = true then .ret (run lt (kas_asc p (nrem - 1) 1), p) else kas_descPart (run lt (kas_asc p (nrem - 1) 1)) nrem (kas_rev p 0 (run lt (kas_asc p (nrem - 1) 1)))
  else kas_descPart (run lt (kas_asc p (nrem - 1) 1)) nrem p) := by
  unfold kas_count
  rw [run_bind]
  rfl
 rw [er]
 generalize run lt (kas_asc p (nrem - 1) 1) = n at *
 have un : UpS lt p n := UpS.ext (pf 0 (by omega)) (by omega) (fun k _ k2 => absurd k2 (Nat.not_lt_zero _)) a3
 have pn : Pf p n := pf n (by omega)
 split
 · exact ⟨un, pn⟩
 · rename_i hne
   have hne' : n ≠ nrem := fun z => hne (by simp [z])
   have hlt := a4 (by omega)
   split
   · rename_i hn1
     have er2 : run lt (KasT.ask (e p 0) (e p (n - 1)) fun c => if c = true then KasT.ret (n, p) else kas_descPart n nrem (kas_rev p 0 n)) = run lt (if lt (e p 0) (e p (n - 1)) = true then KasT.ret (n, p) else kas_descPart n nrem (kas_rev p 0 n)) := rfl
     rw [er2]
     cases c : lt (e p 0) (e p (n - 1)) with
     | true =>
       rw [if_pos rfl]
       exact ⟨un, pn⟩
     | false =>
       rw [if_neg Bool.false_ne_true]
       have al : Alike lt p 0 n := fun i j _ i2 _ j2 => by
        have h3 := Up.le O a3 (show j ≤ n - 1 by omega) (by omega)
        have h4 := Up.le O a3 (Nat.zero_le i) i2
        exact O.trans _ _ _ (O.trans _ _ _ h3 c) h4
       have hs := rev_size p 0 n
       have p0 := pf 0 (by omega)
       have d1 : DownS lt (kas_rev p 0 n) n := fun k k1 k2 => by
        rw [e_rev_in (k := k) (by omega) (Nat.zero_le _) k2, e_rev_in (k := k - 1) (by omega) (Nat.zero_le _) (by omega)]
        refine ⟨al _ _ (Nat.zero_le _) (by omega) (Nat.zero_le _) (by omega), .inr ?_⟩
        rw [p0.hi _ (Nat.zero_le _) (by omega), p0.hi _ (Nat.zero_le _) (by omega)]
        omega
       have s1 : lt (e (kas_rev p 0 n) n) (e (kas_rev p 0 n) (n - 1)) = true := by
        rw [e_rev_out (k := n) (by omega) (Or.inr (Nat.le_refl _)), e_rev_in (k := n - 1) (by omega) (Nat.zero_le _) (by omega)]
        have h2 := al (0 + n - 1 - (n - 1)) (n - 1) (Nat.zero_le _) (by omega) (Nat.zero_le _) (by omega)
        cases hc : lt (e p n) (e p (0 + n - 1 - (n - 1))) with
        | true => rfl
        | false =>
          have := O.trans _ _ _ h2 hc
          rw [hlt] at this
          cases this
       exact descPart_st O a1 (by omega) (by omega) d1 s1 (pn.rev (Nat.le_refl _) (by omega))
   · have en : n = 1 := by omega
     subst en
     exact descPart_st O (Nat.le_refl _) (by omega) hz (fun k k1 k2 => by omega) hlt pn
theorem bin_st : ∀ (f : Nat) (p : Array Nat) (k : Nat), k + f ≤ p.size → 1 ≤ k → UpS lt p k → Pf p k → UpS lt (run lt (kas_bin f p k)) (k + f)
 | 0, p, k, _, _, h, _ => h
 | f + 1, p, k, hz, h1, h, pf => by
   have er : run lt (kas_bin (f + 1) p k) = run lt (kas_bin f (bubble p k (k - run lt (kas_place p k k 0 k))) (k + 1)) := by
    show run lt ((kas_place p k k 0 k).bind fun l => kas_bin f (bubble p k (k - l)) (k + 1)) = _
    rw [run_bind]
   rw [er]
   obtain ⟨a1, a2, a3⟩ := place_ok O h.up k 0 k (by omega) (Nat.zero_le _) (Nat.le_refl _) (fun i hi => absurd hi (Nat.not_lt_zero _)) (fun i h1 h2 => by omega)
   generalize run lt (kas_place p k k 0 k) = l at *
   have hk : k < p.size := by omega
   have ek := pf.hi k (Nat.le_refl _) hk
   have up : UpS lt (bubble p k (k - l)) (k + 1) := fun j j1 j2 => by
    rw [e_bub hk a1, e_bub hk a1]
    by_cases c1 : j = l
    · rw [if_pos c1, if_neg (by omega), if_neg (by omega)]
      refine ⟨a2 _ (by omega), .inr ?_⟩
      have := pf.lo (j - 1) (by omega)
      omega
    · rw [if_neg c1]
      by_cases c2 : j - 1 = l
      · rw [if_pos c2, if_pos (by omega)]
        have := a3 (j - 1) (by omega) (by omega)
        exact ⟨O.asym _ _ this, .inl this⟩
      · rw [if_neg c2]
        by_cases c3 : l < j - 1 ∧ j - 1 ≤ k
        · rw [if_pos c3, if_pos (by omega)]
          exact h (j - 1) (by omega) (by omega)
        · rw [if_neg c3, if_neg (by omega)]
          exact h j j1 (by omega)
   have pf' : Pf (bubble p k (k - l)) (k + 1) := ⟨fun i hi => by
    rw [e_bub hk a1]
    split
    · omega
    · split
      · have := pf.lo (i - 1) (by omega); omega
      · have := pf.lo i (by omega); omega, fun i h1 h2 => by
    rw [bubble_size] at h2
    rw [e_bub hk a1, if_neg (by omega), if_neg (by omega)]
    exact pf.hi i (by omega) h2⟩
   have := bin_st f (bubble p k (k - l)) (k + 1) (by rw [bubble_size]; omega) (by omega) up pf'
   rw [show k + (f + 1) = k + 1 + f by omega]
   exact this
theorem sort_st {n : Nat} (hn : 1 ≤ n) : UpS lt (run lt (kas_sort n)) n := by
 have hz : n ≤ (List.toArray (List.range n)).size := by simp
 obtain ⟨a1, a2, a3, a4, _⟩ := count_ok O (p := List.toArray (List.range n)) hn hz
 obtain ⟨a5, a6⟩ := count_st O (p := List.toArray (List.range n)) hn hz fun k hk => Pf.range hk
 have er : run lt (kas_sort n) = run lt (if (run lt (kas_count n (List.toArray (List.range n)))).1 < n then kas_bin (n - max (run lt (kas_count n (List.toArray (List.range n)))).1 1) (run lt (kas_count n (List.toArray (List.range n)))).2 (max (run lt (kas_count n (List.toArray (List.range n)))).1 1) else .ret (run lt (kas_count n (List.toArray (List.range n)))).2) := by
  unfold kas_sort
  rw [run_bind]
 rw [er]
 generalize run lt (kas_count n (List.toArray (List.range n))) = r at *
 have hm : max r.1 1 = r.1 := by omega
 rw [hm]
 have hsz : r.2.size = n := by rw [a1]; simp
 split
 · have b2 := bin_st O (n - r.1) r.2 r.1 (by omega) a3 a5 a6
   rw [show r.1 + (n - r.1) = n by omega] at b2
   exact b2
 · have e1 : r.1 = n := by omega
   rw [e1] at a5
   exact a5
end
end Srt

namespace Pw
section
variable {ps : List (Int × Int)} {A : Int × Int} {Bs : List (Int × Int)} {S : Int} {n : Nat}
end
end Pw

open PySem PySem.Spec PyProof PyProof.Rows
namespace L2
end L2
namespace Pw
open L2
end Pw
namespace L2
end L2
namespace L2
end L2
namespace L2
end L2
namespace Pw
open L2
end Pw

namespace Lng
open PySem PyProof.Rows PySem.W
section
variable {prog : Program} {w : World} {A : Around} {E : Value → Shared → Prop} {s : Shared} {a₀ : Array Keyed} {κ : SortKind}
end
end Lng

namespace Lng
open PySem PyProof.Rows PySem.W
section
variable {prog : Program} {w : World} {A : Around} {E : Value → Shared → Prop} {s : Shared} {a₀ : Array Keyed} {κ : SortKind}
end
end Lng

namespace L2
open PySem PySem.Spec PyProof.Rows PySem.W
section
variable {prog : Program} {w : World} {A : Around} {E : Value → Shared → Prop} {s : Shared}
end
section
variable {X : Cx}
end
end L2

namespace Pw
open L2
section
variable {ps ms : List (Int × Int)} {A : Int × Int} {Bs Ss : List (Int × Int)} {S : Int} {n : Nat}
end
end Pw

namespace L2
open PySem PySem.Spec PyProof.Rows PySem.W
section
variable {X : Cx}
end
end L2

namespace L2
open PySem PySem.Spec PyProof.Rows PySem.W
section
variable {prog : Program} {w : World} {A : Around} {E : Value → Shared → Prop} {s : Shared}
end
section
variable {prog : Program} {w : World} {A : Around} {R : Result → Shared → Prop} {I : Addr} {fp wr : List Addr} {G : Array GenState → Array GenState → Prop} {n : Nat} {P : Nat → Value → Prop} {St : Nat → Shared → Prop}
end
end L2

namespace L2
open PySem PySem.Spec PyProof.Rows PySem.W
section
variable {prog : Program} {w : World} {A : Around} {E : Value → Shared → Prop} {s : Shared}
end
end L2

namespace L2
open PySem PySem.Spec PyProof.Rows PySem.W
section
variable {X : Cx}
end
end L2

open PySem PySem.Spec PyProof PyProof.Rows
namespace Pw
section
variable {ps ms : List (Int × Int)} {A : Int × Int} {Bs Ss : List (Int × Int)} {n : Nat} {S : Int}
end
end Pw

open PySem PySem.Spec PyProof PyProof.Rows
namespace L2
section
variable {X : Cx}
end
end L2
namespace Pw
open L2
section
variable {ps : List (Int × Int)} {A : Int × Int} {Bs Ss : List (Int × Int)} {n : Nat} {S L : Int}
end
end Pw

namespace L2
open PySem PySem.Spec PyProof.Rows PySem.W
noncomputable abbrev lamP (p : Pos) : Arguments := { posonlyargs := [], args := [{ arg := "page", annotation := none, pos := p }], vararg := none, kwonlyargs := [], kw_defaults := [], kwarg := none, defaults := [] }
noncomputable abbrev lamS : Scope := { kind := .function, names := [("page", .local), ("numbers", .free)], isGenerator := false, isCoroutine := false }
noncomputable abbrev lamB (p1 p2 p3 p4 : Pos) : Expr := .UnaryOp .USub (.Subscript (.Name "numbers" p1) (.Name "page" p2) p3) p4
section
variable {prog : Program} {w : World} {A : Around} {E : Value → Shared → Prop} {s : Shared}
theorem lam_call {f c' cN nl : Addr} {qual : Str} {pm ctv : Value} {i : Int} {t : Tok} {its : Array Value} {x : Int} {tx : Tok} {p p1 p2 p3 p4 : Pos} {Q : Value → Shared → Prop}
 (hroom : A.depth < recursionLimit) (ho : s.heap.get? f = some (kla_obj "<lambda>" qual (lamP p) (lamB p1 p2 p3 p4) lamS [("numbers", cN)] pm c' ctv))
 (hcd : s.heap.CodeRec (.ref c') qual) (lim : s.heap.NoLimit) (hcell : s.heap.IsCell cN (some (.ref nl))) (hl : s.heap.IsList nl its) (hi : 0 ≤ i) (hi2 : i < 2 ^ 63) (hx : its[i.toNat]? = some (.int x tx))
 (h : ∀ h' tk t', (∀ b o, s.heap.get? b = some o → h'.get? b = some o) → Q (.int (-x) t') { s with heap := h', toks := tk }) :
 wpAny (model prog w) A (call (.ref f) [.int i t]) Q E s := by
 refine wpAny_call (kla_callFunE hroom ho rfl rfl rfl rfl hcd ?_)
 show wpAny (model prog w) A.in1 (pure [(("page" : Str), Value.int i t)]) _ _ s
 refine wpAny_pure (wpAny_newFunctionEnv (show ∀ x ∈ lamS.names, x.2 ≠ .cell by decide) (fun y hy => by rcases List.mem_singleton.mp hy with rfl; rfl) (fun h₁ hns hsb => ?_) rfl)
 have kp : ∀ b o, s.heap.get? b = some o → h₁.get? b = some o := fun b o e => hsb.extBut b o (Nat.ne_of_lt (Heap.lt_size e)) (Heap.get?_push_of_some _ e)
 refine ⟨lim.keeps kp, kla_codeExpr ?_⟩
 obtain ⟨oc, hoc, hdc⟩ := hcell
 refine UnaryOp_ (Subscript_ (wpAny_Name (wpAny_loadName_free rfl rfl rfl ⟨oc, kp _ _ hoc, hdc⟩ (wpAny_Name (wpAny_loadName_local rfl rfl hns rfl ?_))))) 
 exact item_listR (hl.at fun o e => kp _ _ e) hi hi2 hx (neg_int (h h₁ _ _ kp)) rfl
end
noncomputable def objO (a : Addr) (o : Obj) : HO := .ext fun h => h.get? a = some o
noncomputable def codeO (c : Addr) (qual : Str) : HO := .ext fun h => h.CodeRec (.ref c) qual
noncomputable def Tab (P : Addr) (pos : Pos) (qual : Str) (H : Hp) : Prop := H P = some (.tbl #[]) ∨ ∃ c', H P = some (.tbl #[rawInt pos.line, rawInt pos.col, .ref c']) ∧ H c' = some (codeO c' qual)
noncomputable def Bm (base : Heap) (mg : Str → Option Value) : Prop := ∃ bm ob, mg "__builtins__" = some (.ref bm) ∧ bm ≠ builtinsNs ∧ bm ≠ mainGlobals ∧ base.get? bm = some ob ∧ ob.cls = .type "module" ∧ ob.dict = some builtinsNs ∧ ob.data = .plain
section
variable {X : Cx} {pins : List (Addr × Obj)} {σ : St} {H : Hp} {s : Shared}
theorem objOk_obj {P : Program} {w : World} {H : Hp} {h : Heap} {a : Addr} {o : Obj} (e : h.get? a = some o) : ObjOk P w H h a (objO a o) := ⟨e, ⟨o, e⟩, fun h1 h2 e1 k => k o e1⟩
theorem objOk_code {P : Program} {w : World} {H : Hp} {h : Heap} {a : Addr} {q : Str} (e : h.CodeRec (.ref a) q) : ObjOk P w H h a (codeO a q) := by
 obtain ⟨c, o, vs, t, ec, eo, d, v⟩ := id e
 cases ec
 refine ⟨e, ⟨o, eo⟩, fun h1 h2 e1 k => ?_⟩
 obtain ⟨c, o, vs, t, ec, eo, d, v⟩ := e1
 cases ec
 exact ⟨_, o, vs, t, rfl, k o eo, d, v⟩
theorem lam_made {c P cN : Addr} {p p1 p2 p3 p4 pos : Pos} {qual : Str} {Q : Value → Shared → Prop} (I : Inv X pins σ H s) (B : Bm X.base X.mg) (C : CodeHd X.base c P) (hcode : X.env.code = .ref c) (T : Tab P pos qual H) (hq : X.env.qual ++ "<lambda>" = qual)
 (hcl : closureFor lamS X.env = pure [(("numbers" : Str), cN)])
 (h : ∀ f c' ctv pm H' s', Inv X pins σ H' s' → (∀ b o, b ≠ P → H b = some o → H' b = some o) → (∀ b, H b = none → b ≠ f → b ≠ c' → H' b = none) → H f = none → H' f = some (objO f (kla_obj "<lambda>" qual (lamP p) (lamB p1 p2 p3 p4) lamS [("numbers", cN)] pm c' ctv)) → H' c' = some (codeO c' qual) → Tab P pos qual H' → (∀ b o, b ≠ P → s.heap.get? b = some o → s'.heap.get? b = some o) → Q (.ref f) s') :
 wpAny (model X.prog X.w) X.A (eval (.Lambda (lamP p) (lamB p1 p2 p3 p4) lamS pos) X.env) Q X.xe s := by
 refine kla_eval rfl ?_
 rw [hq]
 have hg : s.heap.Ns mainGlobals X.mg := I.mod.glob.keeps I.bk
 have tr : ∃ u, H P = some u := by
  rcases T with T | ⟨_, T, _⟩
  · exact ⟨_, T⟩
  · exact ⟨_, T⟩
 have hgP : mainGlobals ≠ P := fun q => by
  obtain ⟨o, es, ep, e, _⟩ := I.mod.glob
  obtain ⟨u, hu⟩ := tr
  rw [q] at e
  rw [(I.bs _ _ e).2] at hu
  cases hu
 have hb : s.heap.BuiltinsAt X.mg P := by
  obtain ⟨bm, ob, b1, b2, b3, b4, b5⟩ := B
  refine ⟨bm, ob, b1, b2, b3, fun q => ?_, I.bk _ _ b4, b5⟩
  obtain ⟨u, hu⟩ := tr
  rw [q] at b4
  rw [(I.bs _ _ b4).2] at hu
  cases hu
 rcases T with T | ⟨c', T, Tc⟩
 · have hP : s.heap.get? P = some (tabObj #[]) := I.hok P _ T
   refine kla_makeFunction (ps := #[]) hcl I.ok.glob hg hcode (C.keeps I.bk) hP trivial rfl hgP hb fun c' ctv h' tk hx hge hlt hrec htb => ?_
   generalize hobj : kla_obj "<lambda>" qual (lamP p) (lamB p1 p2 p3 p4) lamS [("numbers", cN)] ((X.mg "__name__").getD .none) c' ctv = ob
   have nP : P < s.heap.objs.size := Heap.lt_size hP
   have fc : H c' = none := I.hok.fresh hge
   have sz : s.heap.objs.size ≤ h'.objs.size := Nat.le_trans hge (Nat.le_of_lt hlt)
   have ff : H h'.objs.size = none := I.hok.fresh sz
   have cP : c' ≠ P := fun q => by subst q; exact Nat.lt_irrefl _ (Nat.lt_of_lt_of_le nP hge)
   have fP : h'.objs.size ≠ P := fun q => by rw [← q] at nP; exact Nat.lt_irrefl _ (Nat.lt_of_lt_of_le nP sz)
   have fc2 : c' ≠ h'.objs.size := Nat.ne_of_lt hlt
   have keep : ∀ b o, b ≠ P → s.heap.get? b = some o → (h'.push ob).get? b = some o := fun b o hb e => Heap.get?_push_of_some _ (hx b o hb e)
   have htb' : h'.get? P = some (tabObj #[rawInt pos.line, rawInt pos.col, .ref c']) := by simpa using htb
   generalize eH : upd (upd (upd H P (.tbl #[rawInt pos.line, rawInt pos.col, .ref c'])) c' (codeO c' qual)) h'.objs.size (objO h'.objs.size ob) = H'
   have hf' : H' h'.objs.size = some (objO h'.objs.size ob) := by rw [← eH, upd_same]
   have hc' : H' c' = some (codeO c' qual) := by rw [← eH, upd_ne fc2, upd_same]
   have hP' : H' P = some (.tbl #[rawInt pos.line, rawInt pos.col, .ref c']) := by rw [← eH, upd_ne fP.symm, upd_ne cP.symm, upd_same]
   have hO : ∀ b, b ≠ P → b ≠ c' → b ≠ h'.objs.size → H' b = H b := fun b h1 h2 h3 => by rw [← eH, upd_ne h3, upd_ne h2, upd_ne h1]
   have hS : ∀ b o, b ≠ P → H b = some o → H' b = some o := fun b o h1 e => by rw [hO b h1 (ne_of_none e fc) (ne_of_none e ff)]; exact e
   have hok : HOk X.prog X.w H' (h'.push ob) := fun b u e => by
    by_cases b1 : b = h'.objs.size
    · subst b1; rw [hf'] at e; cases e
      exact objOk_obj (Heap.get?_push_size _ (by rw [← hobj]; rfl))
    by_cases b2 : b = c'
    · subst b2; rw [hc'] at e; cases e
      obtain ⟨c, o, vs, t, ec, eo, d, v⟩ := hrec
      cases ec
      exact objOk_code ⟨_, o, vs, t, rfl, Heap.get?_push_of_some _ eo, d, v⟩
    by_cases b3 : b = P
    · subst b3; rw [hP'] at e; cases e
      exact Heap.get?_push_of_some _ htb'
    · rw [hO b b3 b2 b1] at e
      refine (I.hok b u e).stay (fun x v hx1 q => keep x v ?_ q) (fun x q => hS x _ ?_ q) fun x xs q => hS x _ ?_ q
      · rintro rfl
        rcases hx1 with z | z
        · exact b3 z.symm
        · rw [T] at z; cases z
      · rintro rfl; rw [T] at q; cases q
      · rintro rfl; rw [T] at q; cases q
   have un : Un X.fs [] H H' s.heap (h'.push ob) := by
    have nn : ∀ b, H b = none → b ≠ P := fun b n q => by subst q; rw [T] at n; cases n
    refine ⟨fun b o e n _ _ => keep b o (nn b n) e, fun b o e n _ _ => ⟨o.slots, keep b o (nn b n) e⟩, fun b o e n _ => ?_, fun b o e _ => ?_, fun b xs e => hS b _ ?_ e, fun b o u e => hS b _ ?_ e, fun b ps e => ?_⟩
    · have lb := Heap.lt_size e
      rw [hO b (nn b n) (Nat.ne_of_lt (Nat.lt_of_lt_of_le lb hge)) (Nat.ne_of_lt (Nat.lt_of_lt_of_le lb sz))]; exact n
    · by_cases z : b = P
      · subst z; exact ⟨_, Heap.get?_push_of_some _ htb'⟩
      · exact ⟨o, keep b o z e⟩
    · rintro rfl; rw [T] at e; cases e
    · rintro rfl; rw [T] at e; cases e
    · by_cases z : b = P
      · subst z; rw [T] at e; cases e
        exact ⟨#[rawInt pos.line, rawInt pos.col, .ref c'], by rw [hP']; simp⟩
      · exact ⟨#[], by rw [hS b _ z e]; simp⟩
   subst hobj
   exact h _ c' ctv _ H' _ (I.un (t' := tk) un hok) hS (fun b n h1 h2 => by rw [hO b (fun q => by subst q; rw [T] at n; cases n) h2 h1]; exact n) ff hf' hc' (.inr ⟨c', hP', hc'⟩) keep
 · have hP : s.heap.get? P = some (tabObj #[rawInt pos.line, rawInt pos.col, .ref c']) := I.hok P _ T
   refine kla_makeFunctionHit (ps := #[rawInt pos.line, rawInt pos.col, .ref c']) (cv := .ref c') hcl I.ok.glob hg hcode (C.keeps I.bk) hP trivial (by simp [codeAmong, rawInt]) hb fun ctv h' tk kp sz => ?_
   generalize hobj : ({ cls := .type "function", data := .func (kla_fn "<lambda>" qual (lamP p) (lamB p1 p2 p3 p4) lamS [("numbers", cN)] ((X.mg "__name__").getD .none) (.ref c') ctv) } : Obj) = ob
   have ff : H h'.objs.size = none := I.hok.fresh sz
   have kp' : ∀ b o, s.heap.get? b = some o → (h'.push ob).get? b = some o := fun b o e => Heap.get?_push_of_some _ (kp b o e)
   have hS : ∀ b o, H b = some o → upd H h'.objs.size (objO h'.objs.size ob) b = some o := fun b o e => by rw [upd_ne (ne_of_none e ff)]; exact e
   have J := I.laid (t' := tk) (o := objO h'.objs.size ob) kp' sz (objOk_obj (Heap.get?_push_size _ (by rw [← hobj]; rfl)))
   subst hobj
   exact h _ c' ctv _ _ _ J (fun b o _ e => hS b o e) (fun b n h1 _ => by rw [upd_ne h1]; exact n) ff upd_same (hS _ _ Tc) (.inr ⟨c', hS _ _ T, hS _ _ Tc⟩) fun b o _ e => kp' b o e
end
end L2

namespace L2
open PySem PySem.Spec PyProof PyProof.Rows PySem.W
noncomputable def RngV (vs : List Value) (n : Nat) : Prop := vs.length = n ∧ ∀ (j : Nat) (x : Value), vs[j]? = some x → ∃ t, x = .int (j : Int) t
section
variable {prog : Program} {w : World} {A : Around} {E : Value → Shared → Prop} {s : Shared}
theorem collect_rng0 {r : Addr} {n : Nat} {t u v : Tok} {Q : Value → Shared → Prop} (hh : A.handled = none) (hr : IsRange s.heap r 0 (n : Int) 1 t u v) (hn : n ≤ 1000)
 (h : ∀ h' tk acc c, (∀ b o, b ≠ s.heap.objs.size → (s.heap.push { cls := .type "list", data := .seq ([] : List Value).toArray }).get? b = some o → h'.get? b = some o) → h'.get? s.heap.objs.size = some { cls := .type "list", dict := none, data := .seq acc c, slots := #[] } → ItemsOf (fun i v => ∃ t, v = .int (0 + i * 1) t) acc n → Q (.ref s.heap.objs.size) { s with heap := h', toks := tk }) :
 wpAny (model prog w) A.in1 (Builtin.List.listExtendWith (.ref s.heap.objs.size) (.ref r) (.ref s.heap.objs.size))
  (fun fin s' => match fin with | .done f => (match (Except.ok f : Result) with | .ok (.ret v) => Q v s' | .ok _ => False | .error e => E e s') | .again c' => c'.quiet = true ∧ codeAny (model prog w) A c' (fun r s' => match r with | .ok (.ret v) => Q v s' | .ok _ => False | .error e => E e s') s') (fun e s' => match (Except.error e : Result) with | .ok (.ret v) => Q v s' | .ok _ => False | .error e => E e s') { s with heap := s.heap.push { cls := .type "list", data := .seq ([] : List Value).toArray } } := by
 have hsm : Builtin.Range.small 0 (n : Int) 1 = true := small_one (by decide) (by decide) (by omega) (by omega)
 exact wpAny_extend_range (R := fun r s' => match r with | .ok (.ret v) => Q v s' | .ok _ => False | .error e => E e s') (s := { s with heap := s.heap.push { cls := .type "list", data := .seq ([] : List Value).toArray } }) (n := n) hh (Heap.get?_push_of_some _ hr) hsm (by rw [rangeSize_one]; split <;> omega) (by omega) s.heap.objs.size _ 0 (Heap.get?_push_size _ rfl) fun h' tk acc c kp hS hacc => h h' tk acc c kp hS hacc
theorem collect_rng {r : Addr} {n : Nat} {t u v : Tok} {Q : List Value → Shared → Prop} (hh : A.handled = none) (hr : IsRange s.heap r 0 (n : Int) 1 t u v) (hn : n ≤ 1000)
 (h : ∀ h' tk vs, RngV vs n → (∀ b o, s.heap.get? b = some o → h'.get? b = some o) → Q vs { s with heap := h', toks := tk }) : wpAny (model prog w) A (collect (.ref r)) Q E s := by
 unfold collect
 refine wpAny_bind (wpAny_runValue (codeAny_builtin F.entry_proto_collect ?_))
 rw [Around.under_plainId F.plain_proto_collect _]
 show wpAny _ A.in1 (newList [] >>= fun l => again (.builtin "list.__iadd__" ⟨[l, .ref r], []⟩)) _ _ s
 refine wpAny_bind (wpAny_newObj_type ?_)
 refine wpAny_pure ⟨plainId_quiet F.plain_list_iadd _, codeAny_builtin F.entry_list_iadd ?_⟩
 rw [Around.under_plainId F.plain_list_iadd _]
 show wpAny _ A.in1 (Builtin.List.listExtendWith (.ref s.heap.objs.size) (.ref r) (.ref s.heap.objs.size)) _ _ _
 refine collect_rng0 (Q := fun v s' => wpAny (model prog w) A (match v with | .ref a => do { let o ← load a; match o.data with | .seq xs _ => pure xs.toList | _ => unsupported "internal:collect" } | _ => unsupported "internal:collect") Q E s') hh hr hn fun h' tk acc c kp hS hacc => ?_
 show wpAny _ A (load s.heap.objs.size >>= _) _ _ _
 refine wpAny_bind (wpAny_load hS (wpAny_pure ?_))
 refine h h' tk acc.toList ⟨by rw [Array.length_toList]; exact hacc.1, fun j x hx => ?_⟩ fun b o e => kp b o (Nat.ne_of_lt (Heap.lt_size e)) (Heap.get?_push_of_some _ e)
 obtain ⟨t, e⟩ := hacc.2 j x (by rw [← Array.getElem?_toList]; exact hx)
 exact ⟨t, by rw [e]; congr 1; omega⟩
variable {h₀ : Heap} {L : Addr} {m : Str → Option Value} {news : List (Addr × Obj)}
theorem sorted_openR {r f : Addr} {n : Nat} {t u v : Tok} {Q : Value → Shared → Prop} (hh : A.handled = none) (hr : IsRange s.heap r 0 (n : Int) 1 t u v) (hn : n ≤ 1000)
 (h : ∀ (g : Heap) (D : Addr) (tk : Nat) (vs : List Value), RngV vs n → (∀ b o, s.heap.get? b = some o → g.get? b = some o) → (∀ b o, s.heap.get? b = some o → b < D) → g.get? D = some (seqObj "list" vs.toArray 0) →
  wpAny (model prog w) A.in1.in1 (ksk_tree D (.ref f) false) (fun fin s' => fin = .done (.ret .none) ∧ Q (.ref D) s') E { s with heap := g, toks := tk }) :
 wpAny (model prog w) A (call (.builtin "sorted") [.ref r] [(Str.ofString "key", .ref f)]) Q E s := by
 refine call_function_entry_kw kind_sorted plain_sorted entry_sorted (ksk_s1 _ _) ?_
 unfold Builtin.«sorted»
 refine wpAny_bind (m := checkCount "sorted" 1 1 _) (wpAny_pure ?_)
 refine wpAny_bind (collect_rng hh hr hn fun g tk vs hv kp => ?_)
 have few : vs.length ≤ sizeLine := by rw [hv.1, sizeLine_eq]; omega
 refine wpAny_bind (wpAny_newList ?_ few)
 have hoL : (g.push (seqObj "list" vs.toArray 0)).get? g.objs.size = some (seqObj "list" vs.toArray 0) := Heap.get?_push_size _ rfl
 have lt : ∀ b o, s.heap.get? b = some o → b < g.objs.size := fun b o e => Heap.lt_size (kp b o e)
 refine wpAny_bind (wpAny_holding (wpAny_call_entry_kw slot_list_sort ⟨_, hoL, rfl⟩ entry_list_sort ?body (ksk_l1 _ _)))
 case body =>
  show wpAny (model prog w) A.in1.in1 (Builtin.«list.sort» ⟨[.ref g.objs.size], [(Str.ofString "key", .ref f)]⟩) _ _ _
  rw [ksk_t1]
  refine wpAny_mono (h (g.push (seqObj "list" vs.toArray 0)) g.objs.size tk vs hv (fun b o e => Heap.get?_push_of_some _ (kp b o e)) lt hoL) (fun fin s' hf => ?_) fun _ _ e => e
  obtain ⟨rfl, hq⟩ := hf
  exact ⟨_, rfl, wpAny_pure ⟨_, rfl, hq⟩⟩
end
end L2

namespace L2
open PySem PySem.Spec PyProof PyProof.Rows PySem.W
section
variable {prog : Program} {w : World} {A : Around} {h₀ : Heap} {L kS D : Addr} {m : Str → Option Value} {news : List (Addr × Obj)} {f : Addr} {e1 : Nat} {s : Shared} {vs : List Value} {n : Nat} {key : Nat → Int} {Fin : List Value → Nat → Shared → Prop}
theorem ints_snoc {vs : List Value} {ns : List Int} {k : Int} {t : Tok} (h : IntsAre vs ns) : IntsAre (vs ++ [.int k t]) (ns ++ [k]) := ksk_snoc h
theorem keys_all (hv : RngV vs n) (hk : ∀ q ∈ news, q.1 < D) (hDk : D < kS)
 (turn : ∀ (i : Nat) (ti : Tok) (h : Heap) (tk : Nat) (R : Value → Shared → Prop), i < n → Fr h₀ L h m → News h₀ L h news → (∀ h' tk' t', (∀ b o, h.get? b = some o → h'.get? b = some o) → R (.int (key i) t') { s with heap := h', toks := tk' }) → wpAny (model prog w) A (call (.ref f) [.int (i : Int) ti]) R (fun _ _ => False) { s with heap := h, toks := tk })
 (fin : ∀ ks e h tk, Fr h₀ L h m → News h₀ L h ((kS, seqObj "list" (List.toArray ks) e) :: (D, seqObj "list" #[] e1) :: news) → IntsAre ks ((List.range n).map key) → Fin ks e { s with heap := h, toks := tk }) :
 ∀ (r : List Value) (j : Nat) (ks : List Value) (e : Nat) (h : Heap) (tk : Nat), r = vs.drop j → j ≤ n → Fr h₀ L h m → News h₀ L h ((kS, seqObj "list" (List.toArray ks) e) :: (D, seqObj "list" #[] e1) :: news) → IntsAre ks ((List.range j).map key) → KatKeys prog w A h₀ L m kS (.ref f) Fin r ks e { s with heap := h, toks := tk }
 | [], j, ks, e, h, tk, hr, hj, F, N, hi => by
   have : j = n := by
    have := congrArg List.length hr
    rw [List.length_drop, hv.1] at this
    simp at this
    omega
   subst this
   exact KatKeys.nil (fin ks e h tk F N hi)
 | v :: r, j, ks, e, h, tk, hr, hj, F, N, hi => by
   have hlt : j < n := by
    have := congrArg List.length hr
    rw [List.length_drop, hv.1, List.length_cons] at this
    omega
   have hd : vs.drop j = vs[j]'(by rw [hv.1]; exact hlt) :: vs.drop (j + 1) := List.drop_eq_getElem_cons (by rw [hv.1]; exact hlt)
   rw [hd] at hr
   injection hr with e1' e2'
   obtain ⟨t, et⟩ := hv.2 j v (by rw [e1']; simp)
   subst et
   refine KatKeys.cons (turn j t h tk _ hlt F (fun p hp => N p (.tail _ (.tail _ hp))) fun h' tk' t' kp => ?_)
   refine KatBack.intro (F.kept kp) (N.grown kp) (.head fun p hp => ?_) fun h2 c F2 N2 => ?_
   · rcases List.mem_cons.mp hp with rfl | hp
     · exact Nat.ne_of_lt hDk
     · exact Nat.ne_of_lt (Nat.lt_trans (hk p hp) hDk)
   · refine keys_all hv hk hDk turn fin r (j + 1) _ c h2 tk' e2' hlt F2 N2 ?_
     rw [List.range_succ, List.map_append]
     exact ints_snoc hi
end
noncomputable def ltK (key : Nat → Int) (i j : Nat) : Bool := decide (key i < key j)
theorem ltK_ord (key : Nat → Int) : Srt.Ord (ltK key) := by
 refine ⟨fun i j h => ?_, fun i j k h1 h2 => ?_⟩ <;> simp only [ltK, decide_eq_true_eq, decide_eq_false_iff_not] at * <;> omega
noncomputable def Stb (key : Nat → Int) (p : List Nat) : Prop := ∀ k, 1 ≤ k → k < p.length → key (p.getD (k - 1) 0) < key (p.getD k 0) ∨ (key (p.getD (k - 1) 0) = key (p.getD k 0) ∧ p.getD (k - 1) 0 ≤ p.getD k 0)
theorem small_out {ps : List (Int × Value)} {kz : List Int} {vs : List Value} (h : ps.Perm (kz.zip vs)) (hk : kz.length = vs.length) (hs : vs.length < 2) : ps.map Prod.snd = vs := by
 match vs, kz, hk, hs with
 | [], [], _, _ =>
   have : ps = [] := List.perm_nil.mp h
   rw [this]; rfl
 | [y], [k], _, _ =>
   have : ps = [(k, y)] := List.perm_singleton.mp h
   rw [this]; rfl
section
variable {X : Cx} {pins : List (Addr × Obj)} {σ : St} {H : Hp} {s : Shared}
theorem sort_keyI {r f : Addr} {n : Nat} {t u v : Tok} {key : Nat → Int} {Q : VK} (I : Inv X pins σ H s) (hc : X.calm = true) (hr : IsRange s.heap r 0 (n : Int) 1 t u v) (h64 : n < 64)
 (turn : ∀ (i : Nat) (ti : Tok) (h : Heap) (tk : Nat) (R : Value → Shared → Prop), i < n → (∀ b o, b ≠ X.env.locals → s.heap.get? b = some o → h.get? b = some o) → (∀ h' tk' t', (∀ b o, h.get? b = some o → h'.get? b = some o) → R (.int (key i) t') { s with heap := h', toks := tk' }) →
  wpAny (model X.prog X.w) X.A.in1.in1 (call (.ref f) [.int (i : Int) ti]) R (fun _ _ => False) { s with heap := h, toks := tk })
 (q : ∀ (p : List Nat) (D : Addr), p.Perm (List.range n) → Stb key p → H D = none → Q (.ref D) (upd H D (.lst (p.map fun (i : Nat) => V.int (i : Int))))) :
 wpAny (model X.prog X.w) X.A (call (.builtin "sorted") [.ref r] [(Str.ofString "key", .ref f)]) (EP X pins σ Q) X.xe s := by
 refine sorted_openR (I.ok.hd hc) hr (by omega) fun g D tk vs hv kpg hDs hoL => ?_
 obtain ⟨m, hn, _⟩ := id I.loc
 have F0 : Fr X.base X.env.locals s.heap m := ⟨hn, I.bk, Nat.le_trans I.ok.bsz I.ok.above⟩
 have F := F0.kept kpg
 have N : News X.base X.env.locals g (allNews X.base s.heap X.env.locals) := News.grown news_all kpg
 have keepN : ∀ {h' : Heap} {r : List (Addr × Obj)}, Fr X.base X.env.locals h' m → News X.base X.env.locals h' r → (∀ p ∈ allNews X.base s.heap X.env.locals, p ∈ r) → ∀ b o, b ≠ X.env.locals → s.heap.get? b = some o → h'.get? b = some o := fun {h' r} F' N' sub b o hb e => by
  cases z : X.base.get? b with
  | some u =>
    have := I.bk b u z
    rw [e] at this; cases this
    exact F'.keep b _ z
  | none => exact (N' (b, o) (sub _ (mem_allNews hb z e))).1
 have hLD : X.env.locals < D := by obtain ⟨o, _, _, ho, _⟩ := hn; exact hDs _ _ ho
 have hnD : ∀ p ∈ allNews X.base s.heap X.env.locals, p.1 < D := fun p hp => hDs _ _ (of_mem_allNews hp).2.2
 have hD0 : X.base.get? D = none := by
  cases z : X.base.get? D with
  | none => rfl
  | some o => exact absurd (hDs D o (I.bk _ _ z)) (Nat.lt_irrefl _)
 have hHD : H D = none := by
  cases z : H D with
  | none => rfl
  | some u =>
    obtain ⟨o, e⟩ := ObjOk.there (I.hok D u z)
    exact absurd (hDs _ _ e) (Nat.lt_irrefl _)
 have turn' : ∀ (i : Nat) (ti : Tok) (h : Heap) (tk : Nat) (R : Value → Shared → Prop), i < n → Fr X.base X.env.locals h m → News X.base X.env.locals h (allNews X.base s.heap X.env.locals) → (∀ h' tk' t', (∀ b o, h.get? b = some o → h'.get? b = some o) → R (.int (key i) t') { s with heap := h', toks := tk' }) →
  wpAny (model X.prog X.w) X.A.in1.in1 (call (.ref f) [.int (i : Int) ti]) R (fun _ _ => False) { s with heap := h, toks := tk } := fun i ti h tk R hi F' N' k => turn i ti h tk R hi (keepN F' N' fun p hp => hp) k
 have fin : ∀ {p : List Nat} {h3 : Heap} {tk3 c : Nat} {out : List Value}, p.Perm (List.range n) → Stb key p → Fr X.base X.env.locals h3 m → (∀ b o, b ≠ X.env.locals → s.heap.get? b = some o → h3.get? b = some o) → h3.get? D = some (seqObj "list" out.toArray c) → out = (p.map fun i => vs.getD i Value.none) →
  EP X pins σ Q (.ref D) { s with heap := h3, toks := tk3 } := fun {p h3 tk3 c out} pm st F3 kp3 hD3 eo => by
  have rel : Vals (p.map fun (i : Nat) => V.int (i : Int)) out := by
   subst eo
   have key : ∀ (l : List Nat), (∀ i ∈ l, i < n) → Vals (l.map fun (i : Nat) => V.int (i : Int)) (l.map fun i => vs.getD i Value.none) := by
    intro l
    induction l with
    | nil => intro _; exact .nil
    | cons a l ih =>
      intro hl'
      have ha : a < vs.length := by rw [hv.1]; exact hl' a List.mem_cons_self
      obtain ⟨t, et⟩ := hv.2 a vs[a] (by simp [ha])
      have e2 : vs.getD a Value.none = vs[a] := by simp [ha]
      rw [List.map_cons, List.map_cons, e2, et]
      exact .cons ⟨t, rfl⟩ (ih fun i hi => hl' i (List.mem_cons_of_mem _ hi))
   exact key _ fun i hi => List.mem_range.mp (pm.mem_iff.mp hi)
  refine ⟨.ref D, _, I.byNews (t' := tk3) hn F3 kp3 hHD (fun o e => Nat.lt_irrefl _ (hDs D o e)) hD3 rel ?_, rfl, q p D pm st hHD⟩
  rw [List.length_map, pm.length_eq, List.length_range, sizeLine_eq]
  omega
 by_cases h2 : 2 ≤ n
 · have h2' : 2 ≤ vs.length := by rw [hv.1]; exact h2
   refine kat_keyed F N hoL (Nat.ne_of_gt hLD) hD0 (fun p hp => Nat.ne_of_lt (hnD p hp)) h2' (by rw [hv.1]; exact h64) fun kS e1 h' F' N' l0 l1 => ?_
   refine keys_all (s := s) (n := n) (key := key) (D := D) hv hnD l0 turn' (fun ks e h tk F2 N2 hi => ?_) vs 0 [] 0 h' tk rfl (Nat.zero_le _) F' N' .nil
   have hkl : ks.length = n := by rw [hi.length]; simp
   rw [ksk_kind (keys := List.toArray ks) (kz := (List.range n).map key) (by simpa using hi) (by simpa using (by omega : 2 ≤ ks.length))]
   refine wpAny_pure ?_
   show (kas_sort vs.length).kasWp (kas_ask X.prog X.w X.A.in1.in1 oneType' ks) (fun p s3 => KatFin X.base X.env.locals m kS D ks e e1 (p.toList.map fun i => vs.getD i Value.none) _ s3) _
   rw [hv.1]
   refine Srt.run_wp' (n := n) (P := fun s' => s' = { s with heap := h, toks := tk }) (ltK key) (fun i j C s2 hi' hj p2 hc' => ?_) (kas_sort n) _ (Srt.sort_asks (by omega)) rfl fun s2 p2 => ?_
   · subst p2
     unfold kas_ask
     have gi : ∀ {i : Nat}, i < n → ∃ t, ks.getD i Value.none = .int (key i) t := fun {i} hi2 => by
      obtain ⟨t, et⟩ := hi.get i (key i) (by simp [hi2])
      exact ⟨t, by rw [List.getD_eq_getElem?_getD, et]; rfl⟩
     obtain ⟨t1, e1⟩ := gi hi'
     obtain ⟨t2, e2⟩ := gi hj
     rw [e1, e2]
     exact kat_lt_int (hc' _ rfl)
   · subst p2
     obtain ⟨pm, up⟩ := Srt.sort_ok (ltK_ord key) (n := n) (by omega)
     have st := Srt.sort_st (ltK_ord key) (n := n) (by omega)
     generalize Srt.run (ltK key) (kas_sort n) = p at *
     have hpl : p.toList.length = n := by rw [pm.length_eq, List.length_range]
     refine KatFin.intro F2 N2 (.head fun x hx => ?_) fun h3 c3 F3 N3 => KasFin.intro F3 N3 (.tail (Nat.ne_of_gt l0) (.head fun x hx => Nat.ne_of_lt (hnD x hx))) fun h4 c4 F4 N4 => ⟨rfl, ?_⟩
     · rcases List.mem_cons.mp hx with rfl | hx
       · exact Nat.ne_of_lt l0
       · exact Nat.ne_of_lt (l1 x hx)
     · refine fin pm (fun k k1 k2 => ?_) F4 (keepN F4 N4 fun x hx => .tail _ (.tail _ hx)) (N4 (D, listOf (List.toArray (p.toList.map fun i => vs.getD i Value.none)) c4) (.tail _ (.head _))).1 rfl
       have := st k k1 (by omega)
       rw [getD_e, getD_e]
       obtain ⟨a1, a2⟩ := this
       simp only [ltK, decide_eq_true_eq, decide_eq_false_iff_not] at a1 a2
       omega
 · refine ksk_sort (s := { s with heap := g, toks := tk }) (kz := (List.range n).map key) F N hoL (Nat.ne_of_gt hLD) hD0 (fun p hp => Nat.ne_of_lt (hnD p hp)) (by simp [hv.1]) (by rw [hv.1]; exact h64) (fun i v k hvi hki h tk2 own F2 N2 => ?_) fun h3 tk3 out c3 F3 N3 ko => ⟨rfl, ?_⟩
   · have hi : i < n := by rw [← hv.1]; exact (List.getElem?_eq_some_iff.mp hvi).1
     obtain ⟨ti, rfl⟩ := hv.2 i v hvi
     have : k = key i := by
      rw [List.getElem?_map, List.getElem?_range hi] at hki
      exact (Option.some.inj hki).symm
     subst this
     exact turn' i ti h tk2 _ hi F2 (fun p hp => N2 p (List.mem_append_left _ hp)) fun h' tk' t' kp => ⟨h', tk', t', rfl, rfl, F2.kept kp, N2.grown kp⟩
   · obtain ⟨ps, hp, ho, _⟩ := ko
     have eo : out.toList = vs := by
      rw [ho]; exact small_out hp (by simp [hv.1]) (by rw [hv.1]; omega)
     refine fin (p := List.range n) (List.Perm.refl _) (fun k k1 k2 => by rw [List.length_range] at k2; omega) F3 (keepN F3 N3 fun x hx => .tail _ hx) (out := out.toList) (c := c3) (by rw [Array.toArray_toList]; exact (N3 _ (.head _)).1) ?_
     rw [eo]
     have : ∀ (l : List Value), (List.range l.length).map (fun i => l.getD i Value.none) = l := fun l => by
      apply List.ext_getElem
      · simp
      · intro i h1 h2
        simp at h1 h2 ⊢
        simp [h1]
     rw [← hv.1]
     exact (this vs).symm
end
end L2

namespace L2
open PySem PySem.Spec PyProof PyProof.Rows PySem.W
theorem closure_lam {env : Env} {c : Addr} (h : env.cells.lookup ("numbers" : Str) = some c) : closureFor lamS env = pure [(("numbers" : Str), c)] := by
 unfold closureFor
 show (do let __s ← forIn [(("page" : Str), NameKind.local), (("numbers" : Str), NameKind.free)] ([] : List (Str × Addr)) _; pure __s) = _
 rw [List.forIn_cons]
 simp only [show (NameKind.local == NameKind.free) = false from rfl, Bool.false_eq_true, if_false, pure_bind]
 rw [List.forIn_cons]
 simp only [show (NameKind.free == NameKind.free) = true from rfl, if_true, cellOf, h, pure_bind, List.forIn_nil]
section
variable {X : Cx} {pins : List (Addr × Obj)} {σ : St} {H : Hp} {s : Shared}
theorem Inv.lstNe {a : Addr} {xs : List V} (I : Inv X pins σ H s) (h : SqL X.K H a xs) : a ≠ X.env.locals := by
 rintro rfl
 obtain ⟨its, _, pl, _⟩ := I.list h
 obtain ⟨o, e, c, n, d⟩ := pl.isList
 obtain ⟨m, ⟨o', es, ep, ho, hd, _⟩, _⟩ := I.loc
 rw [e] at ho; cases ho
 rw [d] at hd; cases hd
noncomputable def tSortLam (K : PySem.W.Frag) (P : Addr) (pos : Pos) (qual : Str) (i : Nat) (ta : TA) : TE := fun σ H Q => ta σ H fun vs H1 => ∃ (n : Nat) (nl : Addr) (ms : List Int), vs = [.int (n : Int)] ∧ n < 64 ∧ σ[i]? = some (some (.ref nl)) ∧ SqL K H1 nl (ms.map V.int) ∧ n ≤ ms.length ∧ Tab P pos qual H1 ∧
 ∀ (p : List Nat) (D : Addr) (H' : Hp), p.Perm (List.range n) → Stb (fun i => -(ms.getD i 0)) p → (∀ b o, b ≠ P → H1 b = some o → H' b = some o) → H1 D = none → H' D = some (.lst (p.map fun (i : Nat) => V.int (i : Int))) → Tab P pos qual H' → Q (.ref D) H'
theorem pe_sortLam {a : Expr} {ta : TA} {i : Nat} {P c : Addr} {qual : Str} {p p' q pos pos' pos2 kp p1 p2 p3 p4 : Pos} (hr : Room 2 X.A) (hc : X.calm = true) (B : Bm X.base X.mg) (C : CodeHd X.base c P) (hcode : X.env.code = .ref c) (hq : X.env.qual ++ "<lambda>" = qual)
 (hgS : Gl X "sorted") (hmS : X.mg "sorted" = none) (hgE : Gl X "range") (hmE : X.mg "range" = none) (hN : X.N[i]? = some ("numbers" : Str)) (hK : X.env.scope.names.lookup ("numbers" : Str) = some .cell) (ha : PA X [a] ta)
 (hs : starEach [.Call (.Name "range" p') [a] [] pos'] X.env = [(false, eval (.Call (.Name "range" p') [a] [] pos') X.env)] := by rfl) (hs2 : starEach [a] X.env = [(false, eval a X.env)] := by rfl) :
 PE X (.Call (.Name "sorted" p) [.Call (.Name "range" p') [a] [] pos'] [⟨some "key", .Lambda (lamP q) (lamB p1 p2 p3 p4) lamS pos2, kp⟩] pos) (tSortLam X.K P pos2 qual i ta) := by
 intro pins s σ H Q I h
 refine wpAny_Call_Name_kw (ld_blt I hgS hmS boot_sorted ?_ (by decide) (by decide))
 refine callWith_kw ?_ (by rw [hs]; rfl) (by rw [hs]; rfl)
 rw [hs]
 show wpAny _ _ (spliced ((false, eval (.Call (.Name "range" p') [a] [] pos') X.env) :: backTo pos [])) _ _ s
 refine Calls.spliced_cons ?_
 refine wpAny_Call_Name_kw (ld_blt I hgE hmE boot_range ?_ (by decide) (by decide))
 refine PyProof.Rows.callWith_type1 (thn (ha pos' pins s σ H _ I h) fun us s1 ⟨vs, H1, I1, r1, q1⟩ => ?_) hs2 rfl
 obtain ⟨n, nl, ms, rfl, hn, hσ, hl, hml, T, q⟩ := q1
 obtain ⟨u, rfl, ru⟩ := vals1 r1
 obtain ⟨t, rfl⟩ := ru
 refine call_range_1 ?_
 refine Calls.spliced_nil ?_
 refine kws_cons ?_
 have hrng : IsRange (s1.heap.push { cls := .type "range", data := .fields #[.int 0 s1.toks, .int (n : Int) t, .int 1 (s1.toks + 1)] }) s1.heap.objs.size 0 (n : Int) 1 s1.toks t (s1.toks + 1) := IsRange.new ..
 have I2 : Inv X pins σ H1 { s1 with heap := s1.heap.push { cls := .type "range", data := .fields #[.int 0 s1.toks, .int (n : Int) t, .int 1 (s1.toks + 1)] }, toks := s1.toks + 1 + 1 } := I1.kept fun b o e => Heap.get?_push_of_some _ e
 obtain ⟨cN, hcN⟩ := I2.ok.has "numbers" (.inl hK)
 have trP : ∃ u, H1 P = some u := by
  rcases T with T | ⟨_, T, _⟩
  · exact ⟨_, T⟩
  · exact ⟨_, T⟩
 have rP : s1.heap.objs.size ≠ P := fun z => by
  obtain ⟨u, hu⟩ := trP
  have := I1.hok.lt hu
  rw [← z] at this
  exact Nat.lt_irrefl _ this
 refine lam_made I2 B C hcode T hq (closure_lam hcN) fun f c' ctv pm H2 s2 I3 hS hF hf hf' hc' T' keep => kws_nil ?_
 have hrng2 := keep _ _ rP hrng
 have hl2 : SqL X.K H2 nl (ms.map V.int) := by
  have ne : ∀ {o : HO}, H1 nl = some o → (∀ ps, o ≠ .tbl ps) → nl ≠ P := fun {o} e no z => by
   rcases T with T | ⟨_, T, _⟩
   · rw [z, T] at e; cases e; exact no _ rfl
   · rw [z, T] at e; cases e; exact no _ rfl
  rcases hl with (e | ⟨o, e⟩) | e
  · exact .inl (.inl (hS _ _ (ne e fun ps z => by cases z) e))
  · exact .inl (.inr ⟨o, hS _ _ (ne e fun ps z => by cases z) e⟩)
  · exact .inr e
 obtain ⟨its, rv, pl, _⟩ := I3.list hl2
 have ia := intsAre_of rv
 obtain ⟨m, hns, hloc⟩ := I3.loc
 obtain ⟨u, ru, lk⟩ := hloc i "numbers" (.ref nl) hN hσ (.inr (.inl hK))
 obtain rfl : u = .ref nl := ru
 have cell : s2.heap.IsCell cN (some (.ref nl)) := by
  rcases lk with ⟨k, _⟩ | ⟨_, c2, e2, z⟩
  · have k : X.env.scope.names.lookup ("numbers" : Str) = some .local := k
    rw [hK] at k; cases k
  · rw [hcN] at e2; cases e2
    exact z
 have hfo : s2.heap.get? f = some _ := (I3.hok f _ hf').1
 have hcr : s2.heap.CodeRec (.ref c') qual := (I3.hok c' _ hc').1
 have neL : ∀ {b : Addr} {o : HO}, H2 b = some o → b ≠ X.env.locals := fun {b o} e z => by rw [z, I3.free] at e; cases e
 refine sort_keyI (key := fun i => -(ms.getD i 0)) I3 hc hrng2 hn (fun j tj h tk R hj kp k => ?_) fun p D pm st hD => ?_
 · have hj2 : j < ms.length := Nat.lt_of_lt_of_le hj hml
   obtain ⟨tx, hx⟩ := ia.get j ms[j] (by simp [hj2])
   have ex : ms.getD j 0 = ms[j] := by simp [hj2]
   have bl : ∀ b o, X.base.get? b = some o → b ≠ X.env.locals := fun b o e z => by
    have h1 := Heap.lt_size e
    have h2 := Nat.le_trans I3.ok.bsz I3.ok.above
    rw [z] at h1
    exact absurd (Nat.lt_of_lt_of_le h1 h2) (Nat.lt_irrefl _)
   have hcr2 : h.CodeRec (.ref c') qual := by
    obtain ⟨c, o, vs, t, ec, eo, d, v⟩ := hcr
    cases ec
    exact ⟨_, o, vs, t, rfl, kp _ _ (neL hc') eo, d, v⟩
   have cell2 : h.IsCell cN (some (.ref nl)) := by
    obtain ⟨o, e, d⟩ := cell
    exact ⟨o, kp _ _ (I3.cne _ _ hcN) e, d⟩
   refine lam_call (s := { s2 with heap := h, toks := tk }) (i := (j : Int)) (x := ms[j]) (its := its.toArray) (hr.in1.in1.depth) (kp _ _ (neL hf') hfo) hcr2 (I3.ok.mod.nolimit.keeps fun b o e => kp b o (bl b o e) (I3.bk b o e)) cell2 (pl.isList.at fun o e => kp _ _ (I3.lstNe hl2) e) (by omega) (by omega) (by simpa using hx) fun h' tk' t' kp' => ?_
   have := k h' tk' t' kp'
   rw [ex] at this
   exact this
 · have hD1 : H1 D = none := by
    cases z : H1 D with
    | none => rfl
    | some o =>
      by_cases e : D = P
      · subst e
        rcases T' with T' | ⟨_, T', _⟩
        · rw [T'] at hD; cases hD
        · rw [T'] at hD; cases hD
      · rw [hS _ _ e z] at hD; cases hD
   have up : ∀ b o, H2 b = some o → upd H2 D (.lst (p.map fun (i : Nat) => V.int (i : Int))) b = some o := fun b o e => by rw [upd_ne (ne_of_none e hD)]; exact e
   refine q p D _ pm st (fun b o hb e => up b o (hS b o hb e)) hD1 upd_same ?_
   rcases T' with T' | ⟨c2, T', Tc⟩
   · exact .inl (up _ _ T')
   · exact .inr ⟨c2, up _ _ T', up _ _ Tc⟩
end
end L2

namespace L2
open PySem PySem.Spec PyProof PyProof.Rows PySem.W
noncomputable def OnlyT (P : Addr) (H : Hp) : Prop := H P = some (.tbl #[]) ∧ ∀ b, b ≠ P → H b = none ∨ ∃ o xs, H b = some (.frz o (.lst xs))
theorem law_callT {P : Program} {w : World} {K : PySem.W.Frag} {mg mb : Str → Option Value} {CX : CXT} {k : Nat} {fa a c tb : Addr} {fd : FuncData} {x : Str} {sp : Sp} {s₁ : Shared} {vs : List Value} {ns : List Int}
 (KX : K.In s₁.heap) (hns : s₁.heap.Ns mainGlobals mg) (hb : s₁.heap.Ns builtinsNs mb) (hbb : ∀ x : Str, x ≠ "__name__" → mb x = bootBuiltins x) (hlim : s₁.heap.NoLimit) (hg : s₁.gens = #[])
 (hbm : ∃ bm ob, mg "__builtins__" = some (.ref bm) ∧ bm ≠ builtinsNs ∧ s₁.heap.get? bm = some ob ∧ ob.cls = .type "module" ∧ ob.dict = some builtinsNs ∧ ob.data = .plain)
 (hT : s₁.heap.get? tb = some (tabObj #[])) (hKT : K.lookup tb = none) (hC : codeHdIn K c tb = true)
 (ha : s₁.heap.get? a = some { cls := .type "list", data := .seq vs.toArray }) (hi : IntsAre vs ns) (hl : ns.length ≤ sizeLine) (hr : Room k callerA)
 (F : ∀ base : Heap, K.In base → base.Ns mainGlobals mg → Bm base mg → FnOk P w K mg base CX k fa fd [x] sp) (hbind : ∀ (s : Shared) (u : Value), BindsTo s fd ⟨[u], []⟩ [(x, u)])
 (hsp : ∀ H : Hp, OnlyT tb H → SqL K H a (ns.map V.int) → sp [.ref a] H (fun v _ => v = .bl true) fun _ _ _ => False)
 (hCX : ∀ H e s', CX [] H s₁ (fun _ _ _ => False) e s' → False) :
 codeAny (model P w) callerA (.call (.ref fa) ⟨[.ref a], []⟩) (fun r s' => r = .ok (.ret (.bool true)) ∧ OldK s₁.heap s'.heap ∧ s'.os = s₁.os ∧ AllBare s'.gens) s₁ := by
 have rv := vals_ints hi
 have lenV := hi.length
 have at_ : a ≠ tb := fun z => by rw [z, hT] at ha; cases ha
 have core : ∀ H : Hp, OnlyT tb H → SqL K H a (ns.map V.int) → HOk P w H s₁.heap → (∀ b, H b ≠ none → b = a ∨ b = tb) → (H a ≠ none → K.lookup a = none) →
  codeAny (model P w) callerA (.call (.ref fa) ⟨[.ref a], []⟩) (fun r s' => r = .ok (.ret (.bool true)) ∧ OldK s₁.heap s'.heap ∧ s'.os = s₁.os ∧ AllBare s'.gens) s₁ := by
  intro H hO hS hok hA hK
  have base_of : ∀ {b : Addr} {o : Obj}, s₁.heap.get? b = some o → H b = none → (hidT s₁.heap H).get? b = some o := fun e n => hidT_get e n
  have noO : ∀ {b : Addr} {o : Obj}, s₁.heap.get? b = some o → (∀ its n, o.data ≠ .seq its n) → o.cls ≠ .none → H b = none := fun {b o} e d1 d2 => by
   cases q : H b with
   | none => rfl
   | some u =>
     rcases hA b (by rw [q]; simp) with e' | e'
     · subst e'
       rw [ha] at e; cases e
       exact absurd rfl (d1 _ _)
     · subst e'
       rw [hT] at e; cases e
       exact absurd rfl d2
  have noA : ∀ {b : Addr} {o : Obj} {es : Array DictEntry} {ep : Nat}, s₁.heap.get? b = some o → o.data = .dict es ep → H b = none := fun {b o es ep} e d => by
   cases q : H b with
   | none => rfl
   | some u =>
     rcases hA b (by rw [q]; simp) with e' | e'
     · subst e'
       rw [ha] at e; cases e
       have d' : Data.seq vs.toArray _ = Data.dict es ep := d
       cases d'
     · subst e'
       rw [hT] at e; cases e
       have d' : Data.fields #[] = Data.dict es ep := d
       cases d'
  have nsK : ∀ {b : Addr} {m : Str → Option Value}, s₁.heap.Ns b m → (hidT s₁.heap H).Ns b m := fun {b m} ⟨o, es, ep, e, d, r⟩ => ⟨o, es, ep, base_of e (noA e d), d, r⟩
  have hKb : K.In (hidT s₁.heap H) := fun b o e => base_of (KX b o e) (by
   cases q : H b with
   | none => rfl
   | some u =>
     rcases hA b (by rw [q]; simp) with e' | e'
     · subst e'
       rw [hK (by rw [q]; simp)] at e; cases e
     · subst e'
       rw [hKT] at e; cases e)
  have hM : Mod K mg (hidT s₁.heap H) := ⟨hKb, nsK hns, ⟨mb, nsK hb, hbb⟩, let ⟨mc, h1, h2⟩ := hlim; ⟨mc, nsK h1, h2⟩⟩
  have hBm : Bm (hidT s₁.heap H) mg := by
   obtain ⟨bm, ob, b1, b2, b3, b4, b5, b6⟩ := hbm
   refine ⟨bm, ob, b1, b2, fun z => ?_, base_of b3 (noO b3 (fun its n z => by rw [b6] at z; cases z) (by rw [b4]; intro z; cases z)), b4, b5, b6⟩
   obtain ⟨o, es, ep, e, d, _⟩ := hns
   rw [z, e] at b3; cases b3
   rw [d] at b6; cases b6
  have e0 : Env0 P w K mg (hidT s₁.heap H) callerA [] s₁ H := ⟨rfl, hM, fun b o e => of_hidT e, Nat.le_of_eq (hidT_size _ _), trivial, fun b hb => absurd (show b ∈ ([] : List Addr) from hb) (by simp), hok, .of_eq hg⟩
  refine codeAny_mono ((F _ hKb (nsK hns) hBm).run callerA [] s₁ H ⟨[.ref a], []⟩ [.ref a] [.ref a] _ _ hr e0 (hbind s₁ (.ref a)) (.cons rfl .nil) (hsp H hO hS)) fun r s' h => ?_
  cases r with
  | error e => exact (hCX H e s' h).elim
  | ok fl =>
    cases fl with
    | next => exact False.elim h
    | brk => exact False.elim h
    | cont => exact False.elim h
    | ret u =>
      obtain ⟨v, H', os, bare, un, hok', r', q⟩ := h
      have q' : v = .bl true := q
      subst q'
      obtain rfl : u = Value.bool true := r'
      have kept : ∀ b o, b ≠ tb → s₁.heap.get? b = some o → s'.heap.get? b = some o := fun b o hb e => by
       cases q : H b with
       | none => exact un.keep b o e q (by intro z; exact absurd (show b ∈ ([] : List Addr) from z) (by simp)) (by simp)
       | some u =>
         rcases hO.2 b hb with z | ⟨ob, xs, z⟩
         · rw [q] at z; cases z
         · have z2 := un.frzs b ob _ z
           obtain ⟨e1, _⟩ := hok b _ z
           obtain ⟨e2, _⟩ := hok' b _ z2
           rw [e] at e1; cases e1
           exact e2
      refine ⟨rfl, ?_, os, bare⟩
      obtain ⟨more, hm⟩ := un.tbls tb _ hO.1
      have ht' : s'.heap.get? tb = some (tabObj (#[] ++ more)) := hok' tb _ hm
      have C1 : CodeHd s₁.heap c tb := codeHd_of_K KX hC
      have C2 : CodeHd s'.heap c tb := (codeHd_of_K hKb hC).keeps fun b o e => kept b o (fun z => by rw [z] at e; have := (of_hidT e).2; rw [hO.1] at this; cases this) (of_hidT e).1
      refine OldK.step_table (.refl _) (C1.tab hT) (C1.tab hT) (C2.tab ht') kept fun z => ?_
      obtain ⟨mc, ⟨o, es, ep, e, d, _⟩, _⟩ := hlim
      rw [← z, hT] at e; cases e
      cases d
 cases hk : K.lookup a with
 | some o =>
   have e := KX a o hk
   rw [ha] at e
   cases e
   refine core (fun b => if b = tb then some (.tbl #[]) else none) ⟨if_pos rfl, fun b hb => .inl (if_neg hb)⟩ (.inr ⟨_, vs.toArray, _, hk, rfl, rfl, rfl, by rw [List.size_toArray, lenV]; exact hl, by simpa using rv⟩) (fun b u z => ?_) (fun b z => ?_) fun z => absurd (if_neg at_) z
   · by_cases hb : b = tb
     · have z' := (if_pos hb).symm.trans z
       cases z'
       subst hb
       exact hT
     · have z' := (if_neg hb).symm.trans z
       cases z'
   · by_cases hb : b = tb
     · exact .inr hb
     · exact absurd (if_neg hb) z
 | none =>
   refine core (fun b => if b = tb then some (.tbl #[]) else if b = a then some (.frz { cls := .type "list", data := .seq vs.toArray } (.lst (ns.map V.int))) else none) ⟨if_pos rfl, fun b hb => ?_⟩ (.inl (.inr ⟨{ cls := .type "list", data := .seq vs.toArray }, ?_⟩)) (fun b u z => ?_) (fun b z => ?_) fun _ => hk
   · show (if b = tb then _ else _) = none ∨ ∃ o xs, (if b = tb then _ else _) = some _
     rw [if_neg hb]
     by_cases hb2 : b = a
     · exact .inr ⟨_, _, if_pos hb2⟩
     · exact .inl (if_neg hb2)
   · show (if a = tb then _ else _) = some _
     rw [if_neg at_]; exact if_pos rfl
   · have z : (if b = tb then some (HO.tbl #[]) else if b = a then some (.frz { cls := .type "list", data := .seq vs.toArray } (.lst (ns.map V.int))) else none) = some u := z
     by_cases hb : b = tb
     · rw [if_pos hb] at z
       cases z
       subst hb
       exact hT
     · rw [if_neg hb] at z
       by_cases hb2 : b = a
       · rw [if_pos hb2] at z
         cases z
         subst hb2
         exact ⟨ha, by rw [List.length_map]; exact hl, vs, _, rv, ha⟩
       · rw [if_neg hb2] at z
         cases z
   · have z : (if b = tb then some (HO.tbl #[]) else if b = a then some (.frz { cls := .type "list", data := .seq vs.toArray } (.lst (ns.map V.int))) else none) ≠ none := z
     by_cases hb : b = tb
     · exact .inr hb
     · rw [if_neg hb] at z
       by_cases hb2 : b = a
       · exact .inl hb2
       · exact absurd (if_neg hb2) z
theorem walk_ofT {l : PySem.W.OpenLaw} {n k : Nat} {q : Program} {loose : List Str} {XP : (Str → Option Value) → Heap → Prop} {YP : World → Heap → Prop} {d : DefRec} {K : Params → PySem.W.Frag} {CX : World → CXT} {sp : World → Sp} {x : Str} {c tb : Addr}
 (hn : l.most = some n) (hn2 : n ≤ sizeLine) (hdf : d.params.defaults = []) (hr : Room k callerA)
 (hY : ∀ (w : World) (h : Heap), YP w h → (K w.params).In h) (hT : ∀ (w : World) (h : Heap), YP w h → h.get? tb = some (tabObj #[])) (hKT : ∀ p : Params, (K p).lookup tb = none) (hC : ∀ p : Params, codeHdIn (K p) c tb = true)
 (F : ∀ (w : World) (mg : Str → Option Value) (fa : Addr) (h : Heap), (K w.params).In h → h.Ns mainGlobals mg → mg d.name = some (.ref fa) →
  ∃ fd : FuncData, (∀ (s : Shared) (u : Value), BindsTo s fd ⟨[u], []⟩ [(x, u)]) ∧
    ∀ base : Heap, (K w.params).In base → base.Ns mainGlobals mg → Bm base mg → FnOk l.prog w (K w.params) mg base (CX w) k fa fd [x] (sp w))
 (hsp : ∀ (w : World) (H : Hp) (a : Addr) (ns : List Int), ns.length ≤ n → OnlyT tb H → SqL (K w.params) H a (ns.map V.int) → sp w [.ref a] H (fun v _ => v = .bl true) fun _ _ _ => False)
 (hCX : ∀ (w : World) (H : Hp) (s : Shared) (e : Value) (s' : Shared), CX w [] H s (fun _ _ _ => False) e s' → False) :
 PySem.W.WalkO q loose XP YP l.row.toRowW d [] (fun f vs => PySem.call f vs) := by
 refine Att.attach_call hn hdf fun w s₀ s₁ mg mb fa o pm cd doc a vs ns G Y ho hd hcd hmg hobj hints hlen hg => ?_
 have KX := hY w _ Y
 obtain ⟨fd, hb, hF⟩ := F w mg fa _ KX G.T.g hmg
 exact law_callT KX G.T.g G.T.b G.T.builtins G.T.nolimit hg G.T.bmain (hT w _ Y) (hKT w.params) (hC w.params) hobj hints (Nat.le_trans hlen hn2) hr hF hb (fun H hO hS => hsp w H a ns hlen hO hS) fun H e s' => hCX w H s₁ e s'
theorem Fun.okC {P : Program} {w : World} {K : PySem.W.Frag} {mg : Str → Option Value} {base : Heap} {x qual : Str} {st : Stmt} {f : Addr} {fd : FuncData} {N ps : List Str} {k : Nat} {sp : Sp} (F : Fun K x qual st f fd) (S : FnScope N ps (defScope st)) (len : ∀ vs H Q E, sp vs H Q E → vs.length = ps.length)
 (hbody : ∀ (cdv : Value) (A : Around) (outer : List Env) (s : Shared) (H : Hp) (vs : List V) (Q : VK) (E : XK), fd.code = cdv → Room k (A.deeper (envOfC qual (defScope st) s.heap.objs.size f cdv)) → sp vs H Q E →
  ∃ t, PSs (cxOf CX0 P w K mg base N qual (defScope st) f cdv A outer s H E).nox (defBody st) t ∧ t { nx := fun _ H' => Q .non H', rt := Q } (start N vs) H) : FnOk P w K mg base CX0 (k + 1) f fd ps sp := by
 obtain ⟨oc, od, kV, doc, pm, an, cdv, ct, osl, rfl, lk, hcd⟩ := F.ex
 refine fn_of lk hcd S len fun A outer s H vs Q E hr hsp => ?_
 obtain ⟨t, h, q⟩ := hbody cdv A outer s H vs Q E rfl hr hsp
 exact ⟨t, h.nox, q⟩
end L2

namespace Pw
theorem sorted_unique {α : Type} {R : α → α → Prop} (as : ∀ a b, R a b → ¬ R b a) : ∀ {p q : List α}, p.Perm q → p.Pairwise R → q.Pairwise R → p = q
 | [], q, pm, _, _ => by rw [List.nil_perm.mp pm]
 | a :: p, [], pm, _, _ => by simp at pm
 | a :: p, b :: q, pm, hp, hq => by
   have hp' := List.pairwise_cons.mp hp
   have hq' := List.pairwise_cons.mp hq
   have : a = b := by
    rcases List.mem_cons.mp (pm.mem_iff.mp List.mem_cons_self : a ∈ b :: q) with e | ha
    · exact e
    · rcases List.mem_cons.mp (pm.mem_iff.mpr List.mem_cons_self : b ∈ a :: p) with e | hb
      · exact e.symm
      · exact absurd (hp'.1 b hb) (as _ _ (hq'.1 a ha))
   subst this
   rw [sorted_unique as ((List.perm_cons a).mp pm) hp'.2 hq'.2]
noncomputable def RkR (Ss : List (Int × Int)) (i j : Nat) : Prop := val (Ss.getD j (0, 1)) < val (Ss.getD i (0, 1)) ∨ (val (Ss.getD i (0, 1)) = val (Ss.getD j (0, 1)) ∧ i < j)
theorem RkR.asymm {Ss : List (Int × Int)} (i j : Nat) (h : RkR Ss i j) : ¬ RkR Ss j i := fun h' => by
 unfold RkR at h h'
 rcases h with h | ⟨h, l⟩ <;> rcases h' with h' | ⟨h', l'⟩
 · exact absurd (Std.lt_trans h h') (Rat.lt_irrefl)
 · rw [h'] at h; exact absurd h Rat.lt_irrefl
 · rw [h] at h'; exact absurd h' Rat.lt_irrefl
 · omega
theorem RkR.trans {Ss : List (Int × Int)} (i j k : Nat) (h : RkR Ss i j) (h' : RkR Ss j k) : RkR Ss i k := by
 unfold RkR at *
 rcases h with h | ⟨h, l⟩ <;> rcases h' with h' | ⟨h', l'⟩
 · exact .inl (Std.lt_trans h' h)
 · exact .inl (by rw [← h']; exact h)
 · exact .inl (by rw [h]; exact h')
 · exact .inr ⟨h.trans h', by omega⟩
structure Rkd (Ss : List (Int × Int)) (n : Nat) (p : List Nat) : Prop where
 pm : p.Perm (List.range n)
 up : p.Pairwise (RkR Ss)
theorem Rkd.unique {Ss : List (Int × Int)} {n : Nat} {p q : List Nat} (h : Rkd Ss n p) (h' : Rkd Ss n q) : p = q := sorted_unique RkR.asymm (h.pm.trans h'.pm.symm) h.up h'.up
theorem rk_of {Ss : List (Int × Int)} {L : Int} {n : Nat} {p : List Nat} (hl : Ss.length = n) (pos : ∀ S ∈ Ss, 0 < S.2) (hL : 0 < L) (dv : ∀ S ∈ Ss, S.2 ∣ L) (pm : p.Perm (List.range n)) (st : L2.Stb (fun i => -((abv Ss L).getD i 0)) p) : Rkd Ss n p := by
 refine ⟨pm, L2.pairwise_of_adj RkR.trans p fun k a b ha hb => ?_⟩
 have hk : k + 1 < p.length := (List.getElem?_eq_some_iff.mp hb).1
 have s := st (k + 1) (by omega) hk
 have ga : p.getD (k + 1 - 1) 0 = a := by rw [Nat.add_sub_cancel, List.getD_eq_getElem?_getD, ha]; rfl
 have gb : p.getD (k + 1) 0 = b := by rw [List.getD_eq_getElem?_getD, hb]; rfl
 rw [ga, gb] at s
 have nd : p.Nodup := pm.nodup_iff.mpr List.nodup_range
 have ne : a ≠ b := fun e => by
  subst e
  have := (List.getElem?_inj (show k < p.length by omega) nd).mp (ha.trans hb.symm)
  omega
 have lt : ∀ x, x ∈ p → x < n := fun x hx => List.mem_range.mp (pm.mem_iff.mp hx)
 have key : ∀ x, x < n → (((abv Ss L).getD x 0 : Int) : Rat) = val (Ss.getD x (0, 1)) * (L : Rat) := fun x hx => by
  have hx' : x < Ss.length := by omega
  have e1 : (abv Ss L).getD x 0 = Ss[x].1 * (L.fdiv Ss[x].2) := by unfold abv; simp [hx']
  have e2 : Ss.getD x (0, 1) = Ss[x] := by simp [hx']
  rw [e1, e2]
  exact abv_val (pos _ (List.getElem_mem _)) hL (dv _ (List.getElem_mem _))
 have ka := key a (lt a (List.mem_of_getElem? ha))
 have kb := key b (lt b (List.mem_of_getElem? hb))
 have L0 : (0 : Rat) < (L : Rat) := by exact_mod_cast hL
 dsimp only at s
 rcases s with s | ⟨s, l⟩
 · refine .inl ?_
   have : (abv Ss L).getD b 0 < (abv Ss L).getD a 0 := by omega
   have : (((abv Ss L).getD b 0 : Int) : Rat) < (((abv Ss L).getD a 0 : Int) : Rat) := by exact_mod_cast this
   rw [ka, kb] at this
   exact (Rat.mul_lt_mul_right L0).mp this
 · refine .inr ⟨?_, by omega⟩
   have : (abv Ss L).getD a 0 = (abv Ss L).getD b 0 := by omega
   rw [this, kb] at ka
   refine Rat.le_antisymm (Rat.not_lt.mp fun z => ?_) (Rat.not_lt.mp fun z => ?_)
   · have := (Rat.mul_lt_mul_right L0).mpr z
     rw [ka] at this
     exact absurd this Rat.lt_irrefl
   · have := (Rat.mul_lt_mul_right L0).mpr z
     rw [ka] at this
     exact absurd this Rat.lt_irrefl
variable {Ss : List (Int × Int)} {n : Nat} {f l : List Nat}
end Pw
namespace L2
open PySem PySem.Spec PyProof PyProof.Rows PySem.W
noncomputable def qualR : Str := ("ranked" : Str) ++ ".<locals>." ++ "<lambda>"
noncomputable def spRanked (K : PySem.W.Frag) (tb : Addr) (pos : Pos) : Sp := fun vs H Q _ => ∃ (w lp ls : Addr) (pages : Int) (ps : List (Int × Int)) (A : Int × Int) (Bs : List (Int × Int)) (us : List V) (S : Int) (z : Nat), vs = [.ref w, .ref lp, .ref ls] ∧ Gv K H w lp ls pages ps A Bs us ∧ Pr A Bs S ∧ pages ≤ 12 ∧ z ≤ 140 ∧ Sz2 z A ∧ Sz z S ∧ Tab tb pos qualR H ∧
 ∀ (D : Addr) (H' : Hp) (Ss : List (Int × Int)) (p : List Nat), Pw.ShOk ps A Bs pages.toNat Ss → Pw.Rkd Ss pages.toNat p → Kp tb H H' → H D = none → H' D = some (.lst (natV p)) → Tab tb pos qualR H' → Q (.ref D) H'
noncomputable def CodeOf (K : PySem.W.Frag) (nm : Str) (c : Addr) : Prop := ∃ f oc od fd sl, PySem.W.nsIn K mainGlobals nm = some (some (.ref f)) ∧ K.lookup f = some ⟨oc, od, .func fd, sl⟩ ∧ fd.code = .ref c
theorem CodeOf.at {K : PySem.W.Frag} {h : Heap} {mg : Str → Option Value} {nm : Str} {st : Stmt} {c f : Addr} {fd : FuncData} (x : CodeOf K nm c) (XK : K.In h) (G : h.Ns mainGlobals mg) (F : Fun K nm nm st f fd) (m : mg nm = some (.ref f)) : fd.code = .ref c := by
 obtain ⟨f', oc, od, fd', sl, a, l, e⟩ := x
 have := (PySem.W.mg_of XK G a).symm.trans m
 cases this
 obtain ⟨oc2, od2, kV, doc, pm, an, cdv, ct, osl, e2, lk, _⟩ := F.ex
 rw [l] at lk
 injection lk with lk
 injection lk with _ _ h3 _
 injection h3 with h3
 rw [← h3]
 exact e
theorem Fnd.defC {P : Program} {w : World} {K : PySem.W.Frag} {mg : Str → Option Value} {base h : Heap} {k : Nat} {nm : Str} {st : Stmt} {ps : List Str} {sp : Sp} {c : Addr} (S : Fnd K mg nm st ps) (C : CodeOf K nm c) (XK : K.In h) (G : h.Ns mainGlobals mg) (hh : ∀ f fd, Fun K nm nm st f fd → fd.code = .ref c → FnOk P w K mg base CX0 k f fd ps sp) : Def P w K mg base k nm ps sp := by
 obtain ⟨f, fd, F, m, b⟩ := S
 exact ⟨f, fd, F.kp, m, b, hh f fd F (C.at XK G F m)⟩
section
variable {X : Cx}
end
end L2

namespace L2
open PySem PySem.Spec PyProof PyProof.Rows PySem.W
structure KU (H H' : Hp) : Prop where
 tup : ∀ b xs, H b = some (.tup xs) → H' b = some (.tup xs)
 frz : ∀ b o u, H b = some (.frz o u) → H' b = some (.frz o u)
theorem Same.ku {H H' : Hp} (s : Same H H') : KU H H' := ⟨fun b _ h => s b _ h, fun b _ _ h => s b _ h⟩
theorem Kp.ku {H H' : Hp} {p : Addr} (k : Kp p H H') (h : (∃ xs, H p = some (.lst xs)) ∨ ∃ ps, H p = some (.tbl ps)) : KU H H' := by
 refine ⟨fun b xs e => k b _ e ?_, fun b o u e => k b _ e ?_⟩ <;>
 · rintro rfl
   rcases h with ⟨_, z⟩ | ⟨_, z⟩ <;> (rw [e] at z; cases z)
theorem KU.seqT {K : PySem.W.Frag} {H H' : Hp} {a : Addr} {xs : List V} (e : KU H H') (h : SqT K H a xs) : SqT K H' a xs := by
 rcases h with (h | ⟨o, h⟩) | h
 · exact .inl (.inl (e.tup _ _ h))
 · exact .inl (.inr ⟨o, e.frz _ _ _ h⟩)
 · exact .inr h
theorem Prs.ku {K : PySem.W.Frag} {H H' : Hp} (k : KU H H') : ∀ {ps : List (Int × Int)} {vs : List V}, Prs K H ps vs → Prs K H' ps vs
 | [], vs, h => by
   simp only [Prs, List.map_nil, Dens] at h
   subst h
   exact prs_nil
 | p :: ps, vs, h => by
   obtain ⟨a, r, rfl, hq, hr⟩ := prs_uncons h
   exact prs_cons (k.seqT hq) (Prs.ku k hr)
theorem FrL.ku {K : PySem.W.Frag} {H H' : Hp} (k : KU H H') : ∀ {As : List (Int × Int)} {vs : List V}, FrL K H As vs → FrL K H' As vs
 | [], _, h => h
 | A :: As, _, ⟨p, r, e, f, h⟩ => ⟨p, r, e, k.tup _ _ f, FrL.ku k h⟩
noncomputable def Kx (S : List Addr) (H H' : Hp) : Prop := ∀ b o, H b = some o → b ∉ S → H' b = some o
theorem Kx.trans {S : List Addr} {H H1 H2 : Hp} (a : Kx S H H1) (b : Kx S H1 H2) : Kx S H H2 := fun c o h n => b c o (a c o h n) n
theorem Same.kx {S : List Addr} {H H' : Hp} (s : Same H H') : Kx S H H' := fun b o h _ => s b o h
theorem Kp.kx {S : List Addr} {H H' : Hp} {p : Addr} (k : Kp p H H') (h : p ∈ S) : Kx S H H' := fun b o e n => k b o e fun z => n (z ▸ h)
theorem Tab.same {tb : Addr} {pos : Pos} {q : Str} {H H' : Hp} (t : Tab tb pos q H) (s : Same H H') : Tab tb pos q H' := by
 rcases t with t | ⟨c, h1, h2⟩
 · exact .inl (s _ _ t)
 · exact .inr ⟨c, s _ _ h1, s _ _ h2⟩
theorem Tab.kp {tb l : Addr} {pos : Pos} {q : Str} {H H' : Hp} {xs : List V} (t : Tab tb pos q H) (k : Kp l H H') (hl : H l = some (.lst xs)) : Tab tb pos q H' := by
 have ne : ∀ {b : Addr} {o : HO}, H b = some o → (∀ xs, o ≠ .lst xs) → b ≠ l := fun {b o} e n z => by rw [z, hl] at e; cases e; exact n _ rfl
 rcases t with t | ⟨c, h1, h2⟩
 · exact .inl (k _ _ t (ne t fun _ z => by cases z))
 · exact .inr ⟨c, k _ _ h1 (ne h1 fun _ z => by cases z), k _ _ h2 (ne h2 fun _ z => by unfold codeO at z; cases z)⟩
theorem Tab.tbl {tb : Addr} {pos : Pos} {q : Str} {H : Hp} (t : Tab tb pos q H) : ∃ ps, H tb = some (.tbl ps) := by
 rcases t with t | ⟨c, h1, _⟩
 · exact ⟨_, t⟩
 · exact ⟨_, h1⟩
theorem Tab.ne {tb b : Addr} {pos : Pos} {q : Str} {H : Hp} {o : HO} (t : Tab tb pos q H) (h : H b = some o) (n : ∀ ps, o ≠ .tbl ps) : b ≠ tb := fun z => by
 obtain ⟨ps, e⟩ := t.tbl
 rw [z, e] at h; cases h
 exact n _ rfl
theorem Tab.free {tb b : Addr} {pos : Pos} {q : Str} {H : Hp} (t : Tab tb pos q H) (h : H b = none) : b ≠ tb := fun z => by
 obtain ⟨ps, e⟩ := t.tbl
 rw [z, e] at h; cases h
theorem natV_int13 (ns : List Nat) : natV ns = (ns.map fun (i : Nat) => (i : Int)).map V.int := by unfold natV; rw [List.map_map]; rfl
theorem neL_nat {K : PySem.W.Frag} {H : Hp} {a b : Addr} {ns : List Nat} {Q : VK} (ha : H a = some (.lst (natV ns))) (hb : H b = some (.lst (natV ns))) (q : Q (.bl false) H) : rEqD K true (.ref a) (.ref b) H Q := by
 refine ⟨a, b, _, _, (ns.map fun (i : Nat) => (i : Int)).map Dt.int, (ns.map fun (i : Nat) => (i : Int)).map Dt.int, rfl, rfl, .inr ⟨SqL.of ha, SqL.of hb⟩, ?_, ?_, (by rw [dep_ints]; decide), ?_⟩
 · rw [natV_int13]; exact dens_ints _ _ _
 · rw [natV_int13]; exact dens_ints _ _ _
 · rw [eqDs_ints]; simpa using q
theorem CodeOf.of {K : PySem.W.Frag} {nm : Str} {c f : Addr} {oc : Value} {od : Option Addr} {fd : FuncData} {sl : Array (Option Value)} (a : PySem.W.nsIn K mainGlobals nm = some (some (.ref f))) (l : K.lookup f = some ⟨oc, od, .func fd, sl⟩) (e : fd.code = .ref c) : CodeOf K nm c := ⟨f, oc, od, fd, sl, a, l, e⟩
end L2
namespace Pw
end Pw

namespace Pw
variable {ps ms : List (Int × Int)} {A : Int × Int} {Bs Ss : List (Int × Int)} {n : Nat}
end Pw
namespace L2
end L2

namespace L2
open PySem PySem.Spec PyProof PyProof.Rows PySem.W
end L2
namespace Pw
variable {ord : List Nat} {n : Nat} {A : Int × Int} {Bs Cs Ds Ts : List (Int × Int)}
end Pw
namespace L2
end L2

namespace L2
open PySem PySem.Spec PyProof PyProof.Rows PySem.W
noncomputable def MAt (K : PySem.W.Frag) (C : Addr) (m q : Str) (st : Stmt) : Prop := ∃ f fd, Meth K C m f ∧ Fun K m q st f fd
theorem MAt.of {K : PySem.W.Frag} {C : Addr} {m q : Str} {st : Stmt} {f : Addr} {oc : Value} {od an : Option Addr} {osl : Array (Option Value)} {kV doc pm cdv ct : Value} (a : PySem.W.findIn K (.ref C) m = some (some (.ref f))) (i : PySem.W.isFn K (.ref f) = true) (l : K.lookup f = some ⟨oc, od, .func (PySem.W.fnOf m q (defArgs st) (defBody st) (defScope st) .none kV doc pm an cdv ct), osl⟩)
 (c : PySem.W.codeIn K cdv q = true) (k : PySem.W.keepIn K (.ref f) = true) : MAt K C m q st := ⟨_, _, ⟨a, i, k⟩, fun_mk l c k⟩
noncomputable def MFnd (K : PySem.W.Frag) (C : Addr) (m q : Str) (st : Stmt) (ps : List Str) : Prop := ∃ (f : Addr) (fd : FuncData), Fun K m q st f fd ∧ Meth K C m f ∧ Binds K fd ps []
theorem MAt.fnd {K : PySem.W.Frag} {C : Addr} {m q : Str} {st : Stmt} (ps : List Str) (x : MAt K C m q st)
 (b : ∀ (kV doc pm : Value) (an : Option Addr) (cdv ct : Value) (us : List Value), us.length = ps.length → bindArgs (PySem.W.fnOf m q (defArgs st) (defBody st) (defScope st) .none kV doc pm an cdv ct) ⟨us, []⟩ = pure (ps.zip us)) : MFnd K C m q st ps := by
 obtain ⟨f, fd, a, F⟩ := x
 exact ⟨f, fd, F, a, F.binds b⟩
noncomputable def MDef (P : Program) (w : World) (K : PySem.W.Frag) (mg : Str → Option Value) (base : Heap) (CX : CXT) (k : Nat) (C : Addr) (m : Str) (ps : List Str) (sp : Sp) : Prop :=
 ∃ (f : Addr) (fd : FuncData), Meth K C m f ∧ Binds K fd ps [] ∧ FnOk P w K mg base CX k f fd ps sp
theorem MFnd.def {P : Program} {w : World} {K : PySem.W.Frag} {mg : Str → Option Value} {base : Heap} {CX : CXT} {k : Nat} {C : Addr} {m q : Str} {st : Stmt} {ps : List Str} {sp : Sp} (S : MFnd K C m q st ps) (h : ∀ f fd, Fun K m q st f fd → FnOk P w K mg base CX k f fd ps sp) : MDef P w K mg base CX k C m ps sp := by
 obtain ⟨f, fd, F, a, b⟩ := S
 exact ⟨f, fd, a, b, h f fd F⟩
section
variable {X : Cx} {CX : CXT} {k : Nat} {C : Addr} {m : Str} {ps : List Str} {sp : Sp} {E : XK} {o e : Expr} {es : List Expr} {ta : TE} {t : TA} {p pos apos : Pos} {x : Str}
theorem pe_mdef {pl : Sem Bool} (hst : starEach (e :: es) X.env = (false, eval e X.env) :: starEach es X.env) (hpl : (backTo pos (starEach es X.env)).any (·.1) = false)
 (ht : eval (.Call (.Attribute o m apos) (e :: es) [] pos) X.env = (do
  let ov ← eval o X.env
  standAt apos.atName
  let (f, first) ← holding [ov] (getMethod ov m pl)
  callWith pos f first (backTo pos (starEach (e :: es) X.env)) (backToKw pos (keywordEach [] X.env))))
 (he : PE X o ta) (c : Cls X.K C) (D : MDef X.prog X.w X.K X.mg X.base CX k C m ps sp) (hr : Room k X.A) (hx : Passes CX X E) (ha : PA X (e :: es) t) :
 PE X (.Call (.Attribute o m apos) (e :: es) [] pos) (tMeth C m sp [] E ta t) := by
 obtain ⟨f, fd, a, b, F⟩ := D
 exact pe_meth he c a F hr b .nil hx ha hst hpl ht
theorem pe_mdef0 {pl : Sem Bool} (ht : eval (.Call (.Attribute o m apos) [] [] pos) X.env = (do
 let ov ← eval o X.env
 standAt apos.atName
 let (f, first) ← holding [ov] (getMethod ov m pl)
 callWith pos f first (backTo pos (starEach [] X.env)) (backToKw pos (keywordEach [] X.env))))
 (he : PE X o ta) (c : Cls X.K C) (D : MDef X.prog X.w X.K X.mg X.base CX k C m ps sp) (hr : Room k X.A) (hx : Passes CX X E) :
 PE X (.Call (.Attribute o m apos) [] [] pos) (tMeth C m sp [] E ta tNil) := by
 obtain ⟨f, fd, a, b, F⟩ := D
 exact pe_meth0 he c a F hr b .nil hx ht
noncomputable def MkD (P : Program) (w : World) (K : PySem.W.Frag) (mg : Str → Option Value) (base : Heap) (CX : CXT) (k : Nat) (C : Addr) (x : Str) (ps : List Str) (sp : Sp) : Prop :=
 ∃ (f : Addr) (fd : FuncData), Mk K C f ∧ mg x = some (.ref C) ∧ Binds K fd ps [] ∧ FnOk P w K mg base CX k f fd ps sp
theorem pe_mkdef (hg : Gl X x) (he : starEach (e :: es) X.env = (false, eval e X.env) :: starEach es X.env) (hpl : (backTo pos (starEach es X.env)).any (·.1) = false) (hdb : (x == ("__debug__" : Str)) = false)
 (D : MkD X.prog X.w X.K X.mg X.base CX k C x ps sp) (hr : Room (k + 1) X.A) (hx : Passes CX X E) (ha : PA X (e :: es) t) :
 PE X (.Call (.Name x p) (e :: es) [] pos) (tMake C sp [] E t) := by
 obtain ⟨f, fd, a, b, c, F⟩ := D
 exact pe_make a F hr hg b c .nil hx ha hdb he hpl
end
theorem Def.also {P : Program} {w : World} {K : PySem.W.Frag} {mg : Str → Option Value} {base : Heap} {k : Nat} {nm nm' : Str} {ps : List Str} {sp : Sp} (D : Def P w K mg base k nm ps sp) (h : mg nm' = mg nm) : Def P w K mg base k nm' ps sp := by
 obtain ⟨f, fd, a, b, c, F⟩ := D
 exact ⟨f, fd, a, h.trans b, c, F⟩
noncomputable abbrev Wb := Int × List (Int × Int)
theorem kNL : ¬ (("now" : Str) = "leap") := by decide +kernel
theorem kNP : ¬ (("now" : Str) = "past") := by decide +kernel
theorem kLP : ¬ (("leap" : Str) = "past") := by decide +kernel
noncomputable def lvF (now lp pd : Addr) : List (Str × V) := putF "past" (.ref pd) (putF "leap" (.ref lp) (putF "now" (.ref now) []))
theorem lvF_eq (now lp pd : Addr) : lvF now lp pd = ([("now", V.ref now), ("leap", V.ref lp), ("past", V.ref pd)] : List (Str × V)) := by
 have e1 : putF "leap" (V.ref lp) (putF "now" (V.ref now) []) = ([("now", V.ref now), ("leap", V.ref lp)] : List (Str × V)) := by
  show (if ("now" : Str) = "leap" then [(("now" : Str), V.ref lp)] else (("now" : Str), V.ref now) :: putF "leap" (V.ref lp) []) = _
  rw [if_neg kNL]; rfl
 unfold lvF
 rw [e1]
 show (if ("now" : Str) = "past" then _ else (("now" : Str), V.ref now) :: (if ("leap" : Str) = "past" then _ else (("leap" : Str), V.ref lp) :: putF "past" (V.ref pd) [])) = _
 rw [if_neg kNP, if_neg kLP]; rfl
theorem lvF_now (now lp pd : Addr) : (lvF now lp pd).lookup ("now" : Str) = some (.ref now) := by
 unfold lvF; rw [lookup_putF, if_neg kNP, lookup_putF, if_neg kNL, lookup_putF, if_pos rfl]
theorem lvF_leap (now lp pd : Addr) : (lvF now lp pd).lookup ("leap" : Str) = some (.ref lp) := by
 unfold lvF; rw [lookup_putF, if_neg kLP, lookup_putF, if_pos rfl]
theorem lvF_past (now lp pd : Addr) : (lvF now lp pd).lookup ("past" : Str) = some (.ref pd) := by
 unfold lvF; rw [lookup_putF, if_pos rfl]
theorem lvF_no (now lp pd : Addr) {m : Str} (h1 : ¬ m = "past") (h2 : ¬ m = "leap") (h3 : ¬ m = "now") : (lvF now lp pd).lookup m = none := by
 unfold lvF
 rw [lookup_putF, if_neg h1, lookup_putF, if_neg h2, lookup_putF, if_neg h3]
 all_goals rfl
theorem lvF_set (now lp pd b : Addr) : putF "now" (.ref b) (lvF now lp pd) = lvF b lp pd := by
 rw [lvF_eq, lvF_eq]
 show (if ("now" : Str) = "now" then [(("now" : Str), V.ref b), ("leap", V.ref lp), ("past", V.ref pd)] else _) = _
 rw [if_pos rfl]
theorem lvF_few (now lp pd : Addr) : (lvF now lp pd).length < 1000 := by rw [lvF_eq]; show 3 < 1000; decide
structure LvT (K : PySem.W.Frag) (C : Addr) : Prop where
 cl : Cls K C
 nN : NoAttr K C "now"
 nL : NoAttr K C "leap"
 nP : NoAttr K C "past"
structure Lv (C : Addr) (H : Hp) (p now lp pd : Addr) (us : List V) : Prop where
 ob : ∃ dx, H p = some (.ins C dx (lvF now lp pd))
 pl : H pd = some (.lst us)
theorem Lv.same {C : Addr} {H H' : Hp} {p now lp pd : Addr} {us : List V} (l : Lv C H p now lp pd us) (s : Same H H') : Lv C H' p now lp pd us := ⟨let ⟨dx, h⟩ := l.ob; ⟨dx, s _ _ h⟩, s _ _ l.pl⟩
theorem Lv.kx {C : Addr} {H H' : Hp} {p now lp pd : Addr} {us : List V} {S : List Addr} (l : Lv C H p now lp pd us) (k : Kx S H H') (h1 : p ∉ S) (h2 : pd ∉ S) : Lv C H' p now lp pd us := ⟨let ⟨dx, h⟩ := l.ob; ⟨dx, k _ _ h h1⟩, k _ _ l.pl h2⟩
theorem Lv.ku {C : Addr} {H H' : Hp} {p now lp pd : Addr} {us : List V} (l : Lv C H p now lp pd us) (k : Kx [p, pd] H H') : KU H H' := by
 obtain ⟨⟨dx, h⟩, h2⟩ := l
 refine ⟨fun b xs e => k b _ e ?_, fun b o u e => k b _ e ?_⟩ <;>
 · intro z
   rcases List.mem_cons.mp z with rfl | z
   · rw [h] at e; cases e
   · obtain rfl := List.mem_singleton.mp z
     rw [h2] at e; cases e
noncomputable def Wbs (K : PySem.W.Frag) (H : Hp) (Ws : List Wb) (us : List V) : Prop := Paired (fun (W : Wb) (u : V) => ∃ a, u = .ref a ∧ WbAt K H a W.1 W.2) Ws us
theorem WbAt.ku {K : PySem.W.Frag} {H H' : Hp} {a : Addr} {n : Int} {ps : List (Int × Int)} (h : WbAt K H a n ps) (k : KU H H') : WbAt K H' a n ps := by
 obtain ⟨t, us, e1, e2, p⟩ := h
 exact ⟨t, us, k.tup _ _ e1, k.tup _ _ e2, Prs.ku k p⟩
theorem Wbs.ku {K : PySem.W.Frag} {H H' : Hp} {Ws : List Wb} {us : List V} (h : Wbs K H Ws us) (k : KU H H') : Wbs K H' Ws us := Paired.mapP h fun W u ⟨a, e, x⟩ => ⟨a, e, x.ku k⟩
theorem Wbs.nil {K : PySem.W.Frag} {H : Hp} : Wbs K H [] [] := Paired.nil
theorem Wbs.len {K : PySem.W.Frag} {H : Hp} {Ws : List Wb} {us : List V} (h : Wbs K H Ws us) : us.length = Ws.length := (Paired.length h).symm
theorem Wbs.snoc {K : PySem.W.Frag} {H : Hp} {W : Wb} {a : Addr} (ha : WbAt K H a W.1 W.2) : ∀ {Ws : List Wb} {us : List V}, Wbs K H Ws us → Wbs K H (Ws ++ [W]) (us ++ [.ref a])
 | _, _, Paired.nil => Paired.cons ⟨a, rfl, ha⟩ Paired.nil
 | _, _, Paired.cons x r => Paired.cons x (Wbs.snoc ha r)
theorem Wbs.unsnoc {K : PySem.W.Frag} {H : Hp} {W : Wb} : ∀ {Ws : List Wb} {us : List V}, Wbs K H (Ws ++ [W]) us → ∃ vs a, us = vs ++ [.ref a] ∧ Wbs K H Ws vs ∧ WbAt K H a W.1 W.2
 | [], _, Paired.cons ⟨a, e, x⟩ Paired.nil => ⟨[], a, by rw [e]; rfl, Paired.nil, x⟩
 | _ :: Ws, _, Paired.cons y r => by
   obtain ⟨vs, a, rfl, h1, h2⟩ := Wbs.unsnoc r
   exact ⟨_ :: vs, a, rfl, Paired.cons y h1, h2⟩
noncomputable def LvAt (K : PySem.W.Frag) (C : Addr) (H : Hp) (p pd lp : Addr) (W : Wb) (Ws : List Wb) : Prop := ∃ now us, Lv C H p now lp pd us ∧ WbAt K H now W.1 W.2 ∧ Wbs K H Ws us
theorem LvAt.same {K : PySem.W.Frag} {C : Addr} {H H' : Hp} {p pd lp : Addr} {W : Wb} {Ws : List Wb} (l : LvAt K C H p pd lp W Ws) (s : Same H H') : LvAt K C H' p pd lp W Ws := by
 obtain ⟨now, us, a, b, c⟩ := l
 exact ⟨now, us, a.same s, b.same s, c.ku s.ku⟩
theorem LvAt.kx {K : PySem.W.Frag} {C : Addr} {H H' : Hp} {p pd lp : Addr} {W : Wb} {Ws : List Wb} {S : List Addr} (l : LvAt K C H p pd lp W Ws) (k : Kx S H H') (u : KU H H') (h1 : p ∉ S) (h2 : pd ∉ S) : LvAt K C H' p pd lp W Ws := by
 obtain ⟨now, us, a, b, c⟩ := l
 exact ⟨now, us, a.kx k h1 h2, b.ku u, c.ku u⟩
theorem LvAt.ku {K : PySem.W.Frag} {C : Addr} {H H' : Hp} {p pd lp : Addr} {W : Wb} {Ws : List Wb} (l : LvAt K C H p pd lp W Ws) (k : Kx [p, pd] H H') : KU H H' := by
 obtain ⟨now, us, a, b, c⟩ := l
 exact a.ku k
noncomputable def spLInit (C : Addr) : Sp := fun vs H Q _ => ∃ (p dx wa lp : Addr), vs = [.ref p, .ref wa, .ref lp] ∧ H p = some (.ins C dx []) ∧ ∀ (pd : Addr) (H' : Hp), H pd = none → Lv C H' p wa lp pd [] → Kp p H H' → Q .non H'
noncomputable def spLTurn (C : Addr) : Sp := fun vs H Q _ => ∃ (p b now lp pd : Addr) (us : List V), vs = [.ref p, .ref b] ∧ Lv C H p now lp pd us ∧ us.length ≤ 5000 ∧ ∀ H', Lv C H' p b lp pd (us ++ [.ref now]) → Kx [p, pd] H H' → Q .non H'
noncomputable def spLUndo (K : PySem.W.Frag) (C : Addr) : Sp := fun vs H Q _ => ∃ (p pd lp : Addr) (W : Wb) (Ws : List Wb), vs = [.ref p] ∧ LvAt K C H p pd lp W Ws ∧ (Ws = [] → ∀ H', Same H H' → Q (.bl false) H') ∧
 (∀ W0 Ws0, Ws = Ws0 ++ [W0] → ∀ H', LvAt K C H' p pd lp W0 Ws0 → Kx [p, pd] H H' → Q (.bl true) H')
noncomputable def spLWeb (K : PySem.W.Frag) (C : Addr) : Sp := fun vs H Q _ => ∃ (p pd lp : Addr) (W : Wb) (Ws : List Wb), vs = [.ref p] ∧ LvAt K C H p pd lp W Ws ∧ ∀ a, WbAt K H a W.1 W.2 → Q (.ref a) H
noncomputable abbrev evL (n : Nat) : List (Int × Int) := List.replicate n (1, (n : Int))
noncomputable def spLShares (K : PySem.W.Frag) (C : Addr) : Sp := fun vs H Q _ => ∃ (p pd lp : Addr) (n : Nat) (ps : List (Int × Int)) (Ws : List Wb) (A : Int × Int), vs = [.ref p] ∧ LvAt K C H p pd lp ((n : Int), ps) Ws ∧ 1 ≤ n ∧ n ≤ 12 ∧ ps.length ≤ 62 ∧ (∀ q ∈ ps, 0 ≤ q.1 ∧ q.1 < (n : Int) ∧ 0 ≤ q.2 ∧ q.2 < (n : Int)) ∧ FrA K H lp A ∧ Pw.Canon A ∧ 0 < A.1 ∧ A.1 ≤ A.2 ∧ Sz2 41 A ∧
 ∀ (t : Addr) (H' : Hp) (Ss : List (Int × Int)) (ys : List V), Pw.ShOk ps A (evL n) n Ss → (∀ S ∈ Ss, Sz2 1983 S) → Same H H' → H' t = some (.tup ys) → FrL K H' Ss ys → Q (.ref t) H'
end L2
namespace L2
open PySem PySem.Spec PyProof PyProof.Rows PySem.W
noncomputable def MkF (K : PySem.W.Frag) (mg : Str → Option Value) (C : Addr) (x q : Str) (st : Stmt) (ps : List Str) : Prop := ∃ (f : Addr) (fd : FuncData), Fun K "__init__" q st f fd ∧ Mk K C f ∧ mg x = some (.ref C) ∧ Binds K fd ps []
theorem MkF.def {P : Program} {w : World} {K : PySem.W.Frag} {mg : Str → Option Value} {base : Heap} {CX : CXT} {k : Nat} {C : Addr} {x q : Str} {st : Stmt} {ps : List Str} {sp : Sp} (S : MkF K mg C x q st ps) (h : ∀ f fd, Fun K "__init__" q st f fd → FnOk P w K mg base CX k f fd ps sp) : MkD P w K mg base CX k C x ps sp := by
 obtain ⟨f, fd, F, a, m, b⟩ := S
 exact ⟨f, fd, a, m, b, h f fd F⟩
end L2

namespace L2
open PySem PySem.Spec PyProof PyProof.Rows PySem.W
section
variable {X : Cx}
end
structure OkL (W : Wb) : Prop where
 n1 : 1 ≤ W.1
 n12 : W.1 ≤ 12
 few : W.2.length ≤ 60
 up : W.2.Pairwise lexR
 rng : ∀ p ∈ W.2, 0 ≤ p.1 ∧ p.1 < W.1 ∧ 0 ≤ p.2 ∧ p.2 < W.1
end L2

namespace L2
open PySem PySem.Spec PyProof PyProof.Rows PySem.W
section
variable {K : PySem.W.Frag} {C : Addr} {G G' : Hp} {d p pd lp R wa f0 : Addr} {W0 : Wb} {A : Int × Int} {Ss : List (Int × Int)} {W W' : Wb} {Ws Ws' Rs Rs' : List Wb}
theorem FrA.ku (h : FrA K G lp A) (u : KU G G') : FrA K G' lp A := u.tup _ _ h
theorem LvAt.nel {d : Addr} {us : List V} (l : LvAt K C G p pd lp W Ws) (h : G d = some (.lst us)) : p ≠ d := by
 obtain ⟨now, vs, ⟨⟨dx, h1⟩, _⟩, _⟩ := l
 exact ne_of h1 h (by intro z; cases z)
theorem LvAt.pnl (l : LvAt K C G p pd lp W Ws) : ∃ us, G pd = some (.lst us) ∧ Wbs K G Ws us := by
 obtain ⟨now, vs, ⟨_, h⟩, _, hs⟩ := l
 exact ⟨vs, h, hs⟩
theorem LvAt.ins (l : LvAt K C G p pd lp W Ws) : ∃ dx now, G p = some (.ins C dx (lvF now lp pd)) := by
 obtain ⟨now, vs, ⟨⟨dx, h⟩, _⟩, _⟩ := l
 exact ⟨dx, now, h⟩
end
end L2

namespace L2
open PySem PySem.Spec PyProof PyProof.Rows PySem.W
structure ClAt (K : PySem.W.Frag) (x : Str) (C : Addr) : Prop where
 ns : PySem.W.nsIn K mainGlobals x = some (some (.ref C))
 cl : Cls K C
 makes : PySem.W.makesIn K C = true
 kp : PySem.W.keepIn K (.ref C) = true
theorem ClAt.of {K : PySem.W.Frag} {x : Str} {C : Addr} (a : PySem.W.nsIn K mainGlobals x = some (some (.ref C))) (pg : PySem.W.plainGet K C Str.empty = true) (hd : PySem.W.hasDictIn K C = true) (po : PySem.W.plainOver K C = true) (sa : PySem.W.findIn K (.ref C) "__setattr__" = some (some (.builtin "object.__setattr__"))) (mk : PySem.W.makesIn K C = true) (kc : PySem.W.keepIn K (.ref C) = true) : ClAt K x C := ⟨a, ⟨pg, hd, po, sa⟩, mk, kc⟩
theorem ClAt.mkf {K : PySem.W.Frag} {h : Heap} {mg : Str → Option Value} {x q : Str} {C : Addr} {st : Stmt} (ps : List Str) (c : ClAt K x C) (m : MAt K C "__init__" q st) (XK : K.In h) (G : h.Ns mainGlobals mg)
 (b : ∀ (kV doc pm : Value) (an : Option Addr) (cdv ct : Value) (us : List Value), us.length = ps.length → bindArgs (PySem.W.fnOf "__init__" q (defArgs st) (defBody st) (defScope st) .none kV doc pm an cdv ct) ⟨us, []⟩ = pure (ps.zip us)) : MkF K mg C x q st ps := by
 obtain ⟨f, fd, a, F⟩ := m
 exact ⟨f, fd, F, ⟨c.makes, a.at_, a.fn, c.kp⟩, PySem.W.mg_of XK G c.ns, F.binds b⟩
noncomputable def AlAt (K : PySem.W.Frag) (x y : Str) : Prop := ∃ f, PySem.W.nsIn K mainGlobals x = some (some f) ∧ PySem.W.nsIn K mainGlobals y = some (some f)
theorem AlAt.of {K : PySem.W.Frag} {x y : Str} {f : Value} (a : PySem.W.nsIn K mainGlobals x = some (some f)) (b : PySem.W.nsIn K mainGlobals y = some (some f)) : AlAt K x y := ⟨f, a, b⟩
theorem AlAt.mg {K : PySem.W.Frag} {h : Heap} {mg : Str → Option Value} {x y : Str} (a : AlAt K x y) (XK : K.In h) (G : h.Ns mainGlobals mg) : mg y = mg x := by
 obtain ⟨f, a, b⟩ := a
 rw [PySem.W.mg_of XK G a, PySem.W.mg_of XK G b]
noncomputable def InAt (K : PySem.W.Frag) (x : Str) (i : Int) : Prop := ∃ t, PySem.W.nsIn K mainGlobals x = some (some (.int i t))
theorem InAt.of {K : PySem.W.Frag} {x : Str} {i : Int} {t : Tok} (a : PySem.W.nsIn K mainGlobals x = some (some (.int i t))) : InAt K x i := ⟨t, a⟩
theorem InAt.mg {K : PySem.W.Frag} {h : Heap} {mg : Str → Option Value} {x : Str} {i : Int} (a : InAt K x i) (XK : K.In h) (G : h.Ns mainGlobals mg) : ∃ t, mg x = some (.int i t) := by
 obtain ⟨t, a⟩ := a
 exact ⟨t, PySem.W.mg_of XK G a⟩
end L2

namespace Pw
end Pw
namespace L2
open PySem PySem.Spec PyProof PyProof.Rows PySem.W
theorem Tab.kx {tb : Addr} {pos : Pos} {q : Str} {H H' : Hp} {S : List Addr} (t : Tab tb pos q H) (k : Kx S H H') (h : ∀ b ∈ S, (∃ xs, H b = some (.lst xs)) ∨ ∃ C dx fs, H b = some (.ins C dx fs)) : Tab tb pos q H' := by
 have ne : ∀ {b : Addr} {o : HO}, H b = some o → (∀ xs, o ≠ .lst xs) → (∀ C dx fs, o ≠ .ins C dx fs) → b ∉ S := fun {b o} e n1 n2 z => by
  rcases h b z with ⟨xs, e'⟩ | ⟨C, dx, fs, e'⟩
  · rw [e] at e'; cases e'; exact n1 _ rfl
  · rw [e] at e'; cases e'; exact n2 _ _ _ rfl
 rcases t with t | ⟨c, h1, h2⟩
 · exact .inl (k _ _ t (ne t (fun _ z => by cases z) fun _ _ _ z => by cases z))
 · exact .inr ⟨c, k _ _ h1 (ne h1 (fun _ z => by cases z) fun _ _ _ z => by cases z), k _ _ h2 (ne h2 (fun _ z => by unfold codeO at z; cases z) fun _ _ _ z => by unfold codeO at z; cases z)⟩
noncomputable def spLRanked (K : PySem.W.Frag) (C tb : Addr) (pos : Pos) : Sp := fun vs H Q _ => ∃ (p pd lp : Addr) (n : Nat) (ps : List (Int × Int)) (Ws : List Wb) (A : Int × Int), vs = [.ref p] ∧ LvAt K C H p pd lp ((n : Int), ps) Ws ∧ 1 ≤ n ∧ n ≤ 12 ∧ ps.length ≤ 62 ∧ (∀ q ∈ ps, 0 ≤ q.1 ∧ q.1 < (n : Int) ∧ 0 ≤ q.2 ∧ q.2 < (n : Int)) ∧ FrA K H lp A ∧ Pw.Canon A ∧ 0 < A.1 ∧ A.1 ≤ A.2 ∧ Sz2 41 A ∧ Tab tb pos qualR H ∧
 ∀ (D : Addr) (H' : Hp) (Ss : List (Int × Int)) (r : List Nat), Pw.ShOk ps A (evL n) n Ss → Pw.Rkd Ss n r → Kp tb H H' → H D = none → H' D = some (.lst (natV r)) → Tab tb pos qualR H' → Q (.ref D) H'
section
variable {K : PySem.W.Frag} {C : Addr} {pos : Pos} {G G' : Hp} {d tb p1 pd1 p2 pd2 lp wa L : Addr} {W1 W1' W2 W2' W0 : Wb} {Ws1 Ws1' Ws2 Ws2' : List Wb} {A : Int × Int} {qs : List (Int × Int)}
theorem LvAt.plst {p pd : Addr} {W : Wb} {Ws : List Wb} (l : LvAt K C G p pd lp W Ws) : ∃ xs, G pd = some (.lst xs) := let ⟨us, h, _⟩ := l.pnl; ⟨us, h⟩
theorem LvAt.kinds {p pd : Addr} {W : Wb} {Ws : List Wb} (l : LvAt K C G p pd lp W Ws) : ∀ b ∈ [p, pd], (∃ xs, G b = some (.lst xs)) ∨ ∃ C dx fs, G b = some (.ins C dx fs) := fun b hb => by
 rcases List.mem_cons.mp hb with rfl | hb
 · obtain ⟨dx, now, h⟩ := l.ins; exact .inr ⟨_, _, _, h⟩
 · rw [List.mem_singleton.mp hb]; exact .inl l.plst
end
theorem lv_new {C : Addr} {G G' : Hp} {p3 dx : Addr} (np : G p3 = none) (nx : G dx = none) (k : Kp p3 (upd (upd G dx (.own p3)) p3 (.ins C dx [])) G') : Same G G' := fun b o e => k _ _ (by rw [upd_ne (ne_of_none e np), upd_ne (ne_of_none e nx)]; exact e) (ne_of_none e np)
end L2
namespace L2
open PySem PySem.Spec PyProof PyProof.Rows PySem.W
end L2

namespace L2
open PySem PySem.Spec PyProof PyProof.Rows PySem.W
structure UnB (fs : List Addr) (H H' : Hp) (h B h' : Heap) : Prop where
 keep : ∀ b o, h.get? b = some o → H b = none → b ∉ fs → B.get? b = some o
 slot : ∀ b o, h.get? b = some o → H b = none → b ∈ fs → ∃ sl, h'.get? b = some { o with slots := sl }
 free : ∀ b o, h.get? b = some o → H b = none → H' b = none
 there : ∀ b o, h.get? b = some o → b ∉ fs → ∃ o', B.get? b = some o'
 tups : ∀ b xs, H b = some (.tup xs) → H' b = some (.tup xs)
 frzs : ∀ b o u, H b = some (.frz o u) → H' b = some (.frz o u)
 tbls : ∀ b ps, H b = some (.tbl ps) → ∃ more, H' b = some (.tbl (ps ++ more))
theorem UnB.un {fs : List Addr} {H H' : Hp} {h B h' : Heap} (u : UnB fs H H' h B h') (st : B.StaysIn h') (nf : ∀ b ∈ fs, H b = none) : Un fs [] H H' h h' where
 keep := fun b o q n hb _ => st _ _ (u.keep b o q n hb)
 slot := fun b o q n hb _ => u.slot b o q n hb
 free := fun b o q n _ => u.free b o q n
 there := fun b o q _ => by
  by_cases hb : b ∈ fs
  · obtain ⟨sl, e⟩ := u.slot b o q (nf b hb) hb
    exact ⟨_, e⟩
  · obtain ⟨o', e⟩ := u.there b o q hb
    exact ⟨o', st _ _ e⟩
 tups := u.tups
 frzs := u.frzs
 tbls := u.tbls
noncomputable def CXN (P : Program) (w : World) (C : Addr) : CXT := fun outer H s E e s' => ∃ (a t : Addr) (B : Heap) (H' : Hp), e = .ref a ∧ s'.os = s.os ∧ AllBare s'.gens ∧ Heap.FlyingW B outer a (.ref C) (.ref t) s'.heap ∧ HOk P w H' B ∧ UnB (frs outer) H H' s.heap B s'.heap ∧ E (.ref C) none H'
theorem hide_ok {P : Program} {w : World} {H : Hp} {h : Heap} {as : List Addr} (x : HOk P w H h) (n : ∀ b ∈ as, H b = none) : HOk P w H (hideAll h as) := fun a o e =>
 (x a o e).stay (fun b u hb q => hideAll_get _ q fun z => by
  have := n b z
  rcases hb with rfl | hb
  · rw [this] at e; cases e
  · rw [this] at hb; cases hb) (fun _ q => q) fun _ _ q => q
theorem frs_mem {env : Env} {outer : List Env} {L b : Addr} (hf : env.frame = some L) (h : b ∈ frs (env :: outer)) : b = L ∨ b ∈ frs outer := by
 unfold frs at h ⊢
 rw [List.filterMap_cons, hf] at h
 exact List.mem_cons.mp h
section
variable {P : Program} {w : World} {C : Addr} {K : PySem.W.Frag} {mg : Str → Option Value} {base : Heap} {N : List Str} {qual : Str} {scope : Scope} {f : Addr} {cd : Value} {A : Around} {outer : List Env} {s : Shared} {H : Hp} {E : XK}
theorem frame_data {X : Cx} {pins : List (Addr × Obj)} {σ : St} {H1 : Hp} {s1 : Shared} (I : Inv X pins σ H1 s1) {b : Addr} (hb : b ∈ frs X.stack) : ∃ o, s1.heap.get? b = some o ∧ ∀ vs, o.data ≠ .fields vs := by
 obtain ⟨_, o, ho, hd⟩ := I.stack.mem hb
 exact ⟨o, ho, hd⟩
theorem raise_out {pins : List (Addr × Obj)} {σ : St} {H1 : Hp} {s1 : Shared} {h2 : Heap} {e : Addr} {vs : List Value} (I : Inv (cxOf (CXN P w C) P w K mg base N qual scope f cd A outer s H E) pins σ H1 s1) (hx : Heap.MadeExcOf s1.heap h2 e (.ref C) vs) (hE : E (.ref C) none H1) :
 (cxOf (CXN P w C) P w K mg base N qual scope f cd A outer s H E).xe (.ref e) { s1 with heap := h2 } := by
 have hst : frs (cxOf (CXN P w C) P w K mg base N qual scope f cd A outer s H E).stack = frs (envOfC qual scope s.heap.objs.size f cd :: outer) := rfl
 have nof : ∀ b o, s.heap.get? b = some o → b ∉ frs outer → b ∉ frs (envOfC qual scope s.heap.objs.size f cd :: outer) := fun b o q n z => by
  rcases frs_mem rfl z with z | z
  · have := Heap.lt_size q
    rw [z] at this
    exact absurd this (Nat.lt_irrefl _)
  · exact n z
 show wpAny (model P w) (A.deeper (envOfC qual scope s.heap.objs.size f cd)) (leaving (envOfC qual scope s.heap.objs.size f cd) (.ref e)) _ _ _
 refine wpAny_leaves_madeW (base := hideAll s1.heap (frs (envOfC qual scope s.heap.objs.size f cd :: outer))) (h := s1.heap) (outer := outer) (L := s.heap.objs.size) I.ok.frames rfl (fun b o q => of_hideAll _ q) (funFrames_hide I.stack fun env he b hb => List.mem_filterMap.mpr ⟨env, he, hb⟩) hx fun h' t x1 x2 x3 x4 => ?_
 refine ⟨e, t, _, H1, rfl, I.os, I.bare, x1, hide_ok I.hok fun b hb => I.stkFree b hb, ⟨fun b o q n hb => hideAll_get _ (I.base.keep b o q n hb (by simp [cxOf])) (nof b o q hb), fun b o q n hb => ?_, fun b o q n => I.base.free b o q n (by simp [cxOf]), fun b o q hb => ?_, I.base.tups, I.base.frzs, I.base.tbls⟩, hE⟩
 · obtain ⟨sl, e1⟩ := I.base.slot b o q n hb (by simp [cxOf])
   obtain ⟨o', e2, hd⟩ := frame_data I (b := b) (by rw [hst]; unfold frs; rw [List.filterMap_cons]; exact List.mem_cons_of_mem _ hb)
   rw [e1] at e2; cases e2
   obtain ⟨sl', e3⟩ := x4 b _ (hx.keeps _ _ e1) hd
   exact ⟨sl', e3⟩
 · obtain ⟨o', e1⟩ := I.base.there b o q (by simp [cxOf])
   exact ⟨o', hideAll_get _ e1 (nof b o q hb)⟩
theorem passN : Passes (CXN P w C) (cxOf (CXN P w C) P w K mg base N qual scope f cd A outer s H E) E := by
 intro pins σ H1 s1 e s2 I h
 obtain ⟨a, t, B, H2, rfl, os, bare, fl, hok, u, hE⟩ := h
 have nof : ∀ b o, s.heap.get? b = some o → b ∉ frs outer → b ∉ frs (envOfC qual scope s.heap.objs.size f cd :: outer) := fun b o q n z => by
  rcases frs_mem rfl z with z | z
  · have := Heap.lt_size q
    rw [z] at this
    exact absurd this (Nat.lt_irrefl _)
  · exact n z
 show wpAny (model P w) (A.deeper (envOfC qual scope s.heap.objs.size f cd)) (leaving (envOfC qual scope s.heap.objs.size f cd) (.ref a)) _ _ _
 refine wpAny_leaves_onW (outer := outer) (L := s.heap.objs.size) I.ok.frames rfl fl fun h' x1 x2 => ?_
 refine ⟨a, t, B, H2, rfl, os.trans I.os, bare, x1, hok, ⟨fun b o q n hb => u.keep b o (I.base.keep b o q n hb (by simp [cxOf])) (I.base.free b o q n (by simp [cxOf])) (nof b o q hb), fun b o q n hb => ?_, fun b o q n => ?_, fun b o q hb => ?_, fun b xs q => u.tups b xs (I.base.tups b xs q), fun b o u' q => u.frzs b o u' (I.base.frzs b o u' q), fun b ps q => ?_⟩, hE⟩
 · have hb' : b ∈ frs (envOfC qual scope s.heap.objs.size f cd :: outer) := by unfold frs; rw [List.filterMap_cons]; exact List.mem_cons_of_mem _ hb
   obtain ⟨sl, e1⟩ := I.base.slot b o q n hb (by simp [cxOf])
   obtain ⟨o', e2, hd⟩ := frame_data I (b := b) hb'
   rw [e1] at e2; cases e2
   obtain ⟨sl', e3⟩ := u.slot b _ e1 (I.base.free b o q n (by simp [cxOf])) hb'
   obtain ⟨sl'', e4⟩ := x2 b _ e3 hd
   exact ⟨sl'', e4⟩
 · obtain ⟨o', e1⟩ := I.base.there b o q (by simp [cxOf])
   exact u.free b o' e1 (I.base.free b o q n (by simp [cxOf]))
 · obtain ⟨o', e1⟩ := I.base.there b o q (by simp [cxOf])
   exact u.there b o' e1 (nof b o q hb)
 · obtain ⟨m1, e1⟩ := I.base.tbls b ps q
   obtain ⟨m2, e2⟩ := u.tbls b _ e1
   exact ⟨m1 ++ m2, by rw [e2, Array.append_assoc]⟩
end
theorem passN0 {P : Program} {w : World} {C : Addr} {X : Cx} : Passes (CXN P w C) X E0 := fun _ _ _ _ _ _ _ h => by
 obtain ⟨_, _, _, _, _, _, _, _, _, _, z⟩ := h
 exact z.elim
end L2

namespace L2
open PySem PySem.Spec PyProof PyProof.Rows PySem.W
noncomputable abbrev bmVE : List Value := [.type "ValueError", .type "Exception", .type "BaseException", .type "object"]
structure XcT (K : PySem.W.Frag) (mg : Str → Option Value) (x : Str) (C : Addr) : Prop where
 ns : PySem.W.nsIn K mainGlobals x = some (some (.ref C))
 bound : mg x = some (.ref C)
 exc : PySem.W.excIn K C bmVE "ValueError.__new__" = true
 kts : PySem.W.ktsIn K C "BaseException" = true
theorem xc_obj {K : PySem.W.Frag} {h : Heap} {C : Addr} {bmB : List Value} {newId : String} (X : K.In h) (q : PySem.W.excIn K C bmB newId = true) : ∃ bm N nm qn bs hdct sn sub ab col dd k0 k1 k2 k3 k5 mN, h.get? C = some (excClassObj nm qn C N bs bm hdct sn sub ab col dd k0 k1 k2 k3 k5 newId) ∧ h.Ns N mN ∧ mN "__init__" = none ∧ OwnTail h bmB bm := by
 unfold excIn at q
 split at q
 next dd cx sls hl =>
  split at q
  next C0 bms z0 z1 z2 z3 nn z5 hmr hsl =>
   rw [Bool.and_eq_true, Bool.and_eq_true, Bool.and_eq_true, Bool.and_eq_true, Bool.and_eq_true] at q
   have e1 : C0 = C := beq_iff_eq.mp q.1.1.1.1.1
   have e2 : nn = newId := beq_iff_eq.mp q.1.1.1.1.2
   have e3 : cx.hasDel = false := by simpa using q.1.1.1.2
   have e4 : nsIn K cx.ns "__init__" = some none := beq_iff_eq.mp q.2
   have e5 : sls = #[z0, z1, z2, z3, some (.builtin nn), z5] := by
    cases sls with
    | mk l =>
      have hsl' : l = _ := hsl
      rw [hsl']
   have e6 : cx = { cx with mro := .ref C :: bms, hasDel := false } := by
    cases cx with
    | mk =>
      cases e1
      cases hmr
      cases e3
      rfl
   refine ⟨bms, cx.ns, cx.name, cx.qualname, cx.bases, cx.hasDict, cx.slotNames, cx.subclasses, cx.abstract, cx.collection, dd, z0, z1, z2, z3, z5, _, ?_, .of_isNs (isNs_of_in X q.1.2), nsMap_none_of_in X q.1.2 e4, tail_of_in X q.1.1.2⟩
   have e7 := X _ _ hl
   rw [e7, e5, e2]
   exact congrArg (fun y => some (Obj.mk (.type "type") dd (.cls y) #[z0, z1, z2, z3, some (.builtin newId), z5])) e6
  next => cases q
 next => cases q
section
variable {P : Program} {w : World} {C : Addr} {K : PySem.W.Frag} {mg : Str → Option Value} {base : Heap} {N : List Str} {qual : Str} {scope : Scope} {f : Addr} {cd : Value} {A : Around} {outer : List Env} {s : Shared} {H : Hp} {E : XK}
noncomputable def tRaise (E : XK) (C : Addr) (t : TA) : TS := fun _ σ H => t σ H fun vs H1 => vs.length ≤ 10 ∧ E (.ref C) none H1
theorem ps_raise {x : Str} {e : Expr} {es : List Expr} {t : TA} {np cpos pos : Pos} (T : XcT K mg x C) (hg : Gl (cxOf (CXN P w C) P w K mg base N qual scope f cd A outer s H E) x) (ha : PA (cxOf (CXN P w C) P w K mg base N qual scope f cd A outer s H E) (e :: es) t)
 (he : starEach (e :: es) (envOfC qual scope s.heap.objs.size f cd) = (false, eval e (envOfC qual scope s.heap.objs.size f cd)) :: starEach es (envOfC qual scope s.heap.objs.size f cd)) (hplain : (backTo cpos (starEach es (envOfC qual scope s.heap.objs.size f cd))).any (·.1) = false) (hdb : (x == ("__debug__" : Str)) = false) :
 PS (cxOf (CXN P w C) P w K mg base N qual scope f cd A outer s H E) (.Raise (some (.Call (.Name x np) (e :: es) [] cpos)) none pos) (tRaise E C t) := by
 intro pins s1 σ H1 D I h
 obtain ⟨bm, Nn, nm, qn, bs, hdct, sn, sub, ab, col, dd, k0, k1, k2, k3, k5, mN, hC, hN, hni, Tl⟩ := xc_obj (h := base) I.ok.mod.kin T.exc
 have hpl : (backTo cpos (starEach (e :: es) (envOfC qual scope s.heap.objs.size f cd))).any (·.1) = false := by rw [he]; show (false || (backTo cpos (starEach es (envOfC qual scope s.heap.objs.size f cd))).any (·.1)) = false; rw [hplain]; rfl
 refine wpAny_Raise_call_subU (C := C) (nm := nm) (q := qn) (N := Nn) (bs := bs) (bm := bm) (hdct := hdct) (sn := sn) (sub := sub) (ab := ab) (col := col) (dd := dd) (k0 := k0) (k1 := k1) (k2 := k2) (k3 := k3) (k5 := k5)
  PySem.F.excBase_ValueError (by decide +kernel) PySem.F.excBase_ValueError (mN := mN) (Tl.hasType PySem.F.excBase_ValueError.hasBase) (I.ok.hd rfl) hpl hni (ld_glob I hg T.bound ⟨rfl, ?_⟩ hdb)
 have hh := ha cpos pins s1 σ H1 _ I h
 have hh' : wpAny (model P w) (A.deeper (envOfC qual scope s.heap.objs.size f cd)) (spliced (backTo cpos (starEach (e :: es) (envOfC qual scope s.heap.objs.size f cd)))) _ _ s1 := hh
 show wpAny (model P w) (A.deeper (envOfC qual scope s.heap.objs.size f cd)) (evalArgs (.ref C) true (backTo cpos (starEach (e :: es) (envOfC qual scope s.heap.objs.size f cd))) []) _ _ s1
 rw [he] at hh' ⊢
 refine Calls.evalArgs_plain (wpAny_mono hh' (fun us s2 q => ?_) fun _ _ y => y)
 obtain ⟨vs, H2, I2, rv, lv, hE⟩ := q
 have ks : ∀ b o, base.get? b = some o → s2.heap.get? b = some o := I2.bk
 refine ⟨rfl, ?_, ks _ _ hC, hN.keeps ks, Tl.keeps ks, fun h' e' hm => raise_out I2 hm hE⟩
 show us.length ≤ sizeLine
 rw [← rv.length, sizeLine_eq]
 omega
end
theorem Fun.okN {P : Program} {w : World} {K : PySem.W.Frag} {mg : Str → Option Value} {base : Heap} {CX : CXT} {x qual : Str} {st : Stmt} {f : Addr} {fd : FuncData} {N ps : List Str} {k : Nat} {sp : Sp} (F : Fun K x qual st f fd) (S : FnScope N ps (defScope st)) (len : ∀ vs H Q E, sp vs H Q E → vs.length = ps.length)
 (hbody : ∀ (cdv : Value) (A : Around) (outer : List Env) (s : Shared) (H : Hp) (vs : List V) (Q : VK) (E : XK), Room k (A.deeper (envOfC qual (defScope st) s.heap.objs.size f cdv)) → sp vs H Q E →
  ∃ t, PSs (cxOf CX P w K mg base N qual (defScope st) f cdv A outer s H E) (defBody st) t ∧ t { nx := fun _ H' => Q .non H', rt := Q } (start N vs) H) : FnOk P w K mg base CX (k + 1) f fd ps sp := by
 obtain ⟨oc, od, kV, doc, pm, an, cdv, ct, osl, rfl, lk, hcd⟩ := F.ex
 exact fn_of lk hcd S len fun A outer s H vs Q E hr hsp => hbody cdv A outer s H vs Q E hr hsp
noncomputable def XW (C : Addr) (X : Cx) (pins : List (Addr × Obj)) (Rx : Hp → Prop) : Value → Shared → Prop := fun e s2 => ∃ σ1 H1 s1, Inv X pins σ1 H1 s1 ∧ CXN X.prog X.w C X.stack H1 s1 (fun _ _ H' => Rx H') e s2
noncomputable abbrev Cx.tryC (X : Cx) (C : Addr) (pins : List (Addr × Obj)) (Rx : Hp → Prop) : Cx := { X with pn := X.pn ++ pins, xe := XW C X pins Rx }
noncomputable abbrev Cx.exc (X : Cx) (a : Addr) : Cx := { X with A := X.A.mark (some (.ref a)), calm := false, xe := fun _ _ => False }
section
variable {X : Cx} {C a : Addr} {pins : List (Addr × Obj)} {Rx : Hp → Prop} {σ : St} {H : Hp} {s : Shared}
theorem Inv.tryC (I : Inv X pins σ H s) : Inv (X.tryC C pins Rx) [] σ H s :=
 ⟨⟨I.ok.mod, I.ok.kind, I.ok.glob, I.ok.blt, I.ok.above, I.ok.inj, I.ok.has, I.ok.cab, I.ok.hd, I.ok.frames, I.ok.stk, I.ok.exf, I.ok.bs, I.ok.bsz, I.ok.noex, I.ok.exfs, I.ok.funs, I.ok.frf⟩, I.os, I.bare, I.base, I.loc, I.cell, I.free, I.freeC, fun p hp => I.pin p (by simpa using hp), I.hok, I.len⟩
theorem Inv.untryC {pins' : List (Addr × Obj)} (I : Inv (X.tryC C pins Rx) pins' σ H s) : Inv X pins σ H s :=
 ⟨⟨I.ok.mod, I.ok.kind, I.ok.glob, I.ok.blt, I.ok.above, I.ok.inj, I.ok.has, I.ok.cab, I.ok.hd, I.ok.frames, I.ok.stk, I.ok.exf, I.ok.bs, I.ok.bsz, I.ok.noex, I.ok.exfs, I.ok.funs, I.ok.frf⟩, I.os, I.bare, I.base, I.loc, I.cell, I.free, I.freeC, fun p hp => I.pin p (List.mem_append_left _ hp), I.hok, I.len⟩
theorem Inv.exc (I : Inv X pins σ H s) : Inv (X.exc a) pins σ H s :=
 ⟨⟨I.ok.mod, I.ok.kind, I.ok.glob, I.ok.blt, I.ok.above, I.ok.inj, I.ok.has, I.ok.cab, (fun z => Bool.noConfusion z), I.ok.frames, I.ok.stk, I.ok.exf, I.ok.bs, I.ok.bsz, I.ok.noex, I.ok.exfs, I.ok.funs, I.ok.frf⟩, I.os, I.bare, I.base, I.loc, I.cell, I.free, I.freeC, I.pin, I.hok, I.len⟩
theorem passT : Passes (CXN X.prog X.w C) (X.tryC C pins Rx) (fun _ _ H' => Rx H') := fun pins' σ H s e s' I h => ⟨σ, H, s, I.untryC, h⟩
theorem Inv.calm_none (I : Inv X pins σ H s) : Inv X pins (List.replicate X.N.length none) H s := I.weak (by rw [List.length_replicate, I.len]) fun i v h => by
 rw [List.getElem?_replicate] at h
 split at h <;> cases h
theorem UnB.on {fs : List Addr} {H H' : Hp} {h B h2 h5 : Heap} (u : UnB fs H H' h B h2) (sm : h2.UpToSlots h5) (fr : ∀ b ∈ fs, ∃ o, h.get? b = some o ∧ ∀ vs, o.data ≠ .fields vs) : UnB fs H H' h B h5 := by
 refine ⟨u.keep, fun b o q n hb => ?_, u.free, u.there, u.tups, u.frzs, u.tbls⟩
 obtain ⟨sl, e⟩ := u.slot b o q n hb
 obtain ⟨o', e', hd⟩ := fr b hb
 rw [q] at e'
 cases e'
 obtain ⟨sl', e2⟩ := sm b _ e hd
 exact ⟨sl', e2⟩
end
end L2

namespace L2
open PySem PySem.Spec PyProof PyProof.Rows PySem.W
noncomputable abbrev InB (n x y : Int) : Prop := 0 ≤ x ∧ x < n ∧ 0 ≤ y ∧ y < n
noncomputable def spLPageX (K : PySem.W.Frag) (C Xc : Addr) : Sp := fun vs H Q E => ∃ (p pd lp : Addr) (W : Wb) (Ws : List Wb), vs = [.ref p] ∧ LvAt K C H p pd lp W Ws ∧ Ws.length ≤ 5000 ∧
 (W.1 < 12 → ∀ (H' : Hp), LvAt K C H' p pd lp (W.1 + 1, W.2) (Ws ++ [W]) → Kx [p, pd] H H' → Q (.int W.1) H') ∧ (¬ W.1 < 12 → ∀ H', Same H H' → E (.ref Xc) none H')
end L2

namespace L2
open PySem PySem.Spec PyProof PyProof.Rows PySem.W
section
variable {K : PySem.W.Frag} {C : Addr} {G G' : Hp} {d LL RR LP : Addr} {p pd lp R : Nat → Addr} {W : Nat → Wb} {Ws Rs : Nat → List Wb} {A : Nat → Int × Int}
end
end L2
namespace L2
open PySem PySem.Spec PyProof PyProof.Rows PySem.W
theorem lv_ne {C : Addr} {G : Hp} {p dx pd x : Addr} {o : HO} (np : G p = none) (nx : G dx = none) (mp : (upd (upd G dx (.own p)) p (.ins C dx [])) pd = none) (e : G x = some o) : x ≠ pd :=
 ne_of_none (show (upd (upd G dx (.own p)) p (.ins C dx [])) x = some o by rw [upd_ne (ne_of_none e np), upd_ne (ne_of_none e nx)]; exact e) mp
end L2
namespace L2
open PySem PySem.Spec PyProof PyProof.Rows PySem.W
end L2
namespace L2
open PySem PySem.Spec PyProof PyProof.Rows PySem.W
structure XcAt (K : PySem.W.Frag) (x : Str) (C : Addr) : Prop where
 ns : PySem.W.nsIn K mainGlobals x = some (some (.ref C))
 exc : PySem.W.excIn K C bmVE "ValueError.__new__" = true
 kts : PySem.W.ktsIn K C "BaseException" = true
theorem XcAt.of {K : PySem.W.Frag} {x : Str} {C : Addr} (a : PySem.W.nsIn K mainGlobals x = some (some (.ref C))) (e : PySem.W.excIn K C bmVE "ValueError.__new__" = true) (t : PySem.W.ktsIn K C "BaseException" = true) : XcAt K x C := ⟨a, e, t⟩
theorem XcAt.xt {K : PySem.W.Frag} {h : Heap} {mg : Str → Option Value} {x : Str} {C : Addr} (a : XcAt K x C) (XK : K.In h) (G : h.Ns mainGlobals mg) : XcT K mg x C := ⟨a.ns, PySem.W.mg_of XK G a.ns, a.exc, a.kts⟩
end L2

namespace L2
open PySem PySem.Spec PyProof PyProof.Rows PySem.W
section
open PySem.SeqAt
open PySem.AutoSeq1 (wpAny_loadPart')
open PySem.MeetsSeq PySem.MeetsSeq2 PySem.MeetsSeq3
end
section
variable {X : Cx}
end
end L2
namespace L2
open PySem PySem.Spec PyProof PyProof.Rows PySem.W
end L2
namespace L2
open PySem PySem.Spec PyProof PyProof.Rows PySem.W
section
variable {K : PySem.W.Frag} {C : Addr} {pos : Pos} {G G' : Hp} {d tb p pd lp : Addr} {W W' : Wb} {Ws Ws' : List Wb} {A : Int × Int}
theorem LvAt.kt {Rp : Tab tb pos qualR G} (l : LvAt K C G p pd lp W Ws) (k : Kp tb G G') : LvAt K C G' p pd lp W Ws := by
 obtain ⟨xs, h⟩ := l.plst
 obtain ⟨dx, now, i⟩ := l.ins
 exact l.kx (S := [tb]) (k.kx (by simp)) (k.ku (.inr Rp.tbl)) (by simp [Rp.ne i (fun _ z => by cases z)]) (by simp [Rp.ne h (fun _ z => by cases z)])
end
end L2

namespace Pw
end Pw
namespace L2
open PySem PySem.Spec PyProof PyProof.Rows PySem.W
section
variable {X : Cx}
end
end L2

namespace L2
open PySem PySem.Spec PyProof PyProof.Rows PySem.W
section
variable {K : PySem.W.Frag} {C : Addr} {pos : Pos} {G G' : Hp} {d tb p pd lp R : Addr} {W W' : Wb} {Ws Ws' : List Wb} {A : Int × Int}
end
end L2

namespace L2
open PySem PySem.Spec PyProof PyProof.Rows PySem.W
theorem excMatches_up {M : Model} {A : Around} {E : Value → Shared → Prop} {nm q nm' q' : Str} {C N D N' : Addr} {bs bm bs' bm' : List Value} {hdct hdct' : Bool} {sn sn' : List Str} {sub sub' : List Value} {ab ab' : Bool} {col col' : Option Bool} {dd dd' : Option Addr} {k0 k1 k2 k3 k5 j0 j1 j2 j3 j5 : Option Value} {newId newId' : String}
 {h : Heap} {g : Array GenState} {d : Drawn} {t : Nat} {os : OsState} {e : Addr} {oe : Obj} {Q : Bool → Shared → Prop}
 (hC : h.get? C = some (excClassObj nm q C N bs bm hdct sn sub ab col dd k0 k1 k2 k3 k5 newId)) (hD : h.get? D = some (excClassObj nm' q' D N' bs' bm' hdct' sn' sub' ab' col' dd' j0 j1 j2 j3 j5 newId')) (he : h.get? e = some oe) (hcls : oe.cls = .ref C) (hbase : bm'.contains (.type "BaseException") = true) (hin : bm.contains (.ref D) = true)
 (hq : Q true ⟨h, g, d, t, os⟩) : wpAny M A (excMatches (.ref e) (.ref D)) Q E ⟨h, g, d, t, os⟩ := by
 have hcB : (Value.ref D :: bm').contains (.type "BaseException") = true := by rw [List.contains_cons, hbase, Bool.or_true]
 have hcC : (Value.ref C :: bm).contains (.ref D) = true := by rw [List.contains_cons, hin, Bool.or_true]
 have f := tc_notTuple
 unfold excMatches
 repeat (first | (with_reducible refine wpAny_loadPart_at he ?_; rw [hcls]) | with_reducible refine wpAny_loadPart_at hD ?_ | (with_reducible refine wpAny_isSubtype_exc hD ?_; rw [hcB]) | (with_reducible refine wpAny_isSubtype_exc hC ?_; rw [hcC]) | wp_step)
 exact hq
theorem HOk.none_of {P : Program} {w : World} {H : Hp} {h : Heap} {a : Addr} (x : HOk P w H h) (e : h.get? a = none) : H a = none := by
 cases q : H a with
 | none => rfl
 | some o => obtain ⟨u, z⟩ := (x a o q).there; rw [e] at z; cases z
section
variable {X : Cx} {pins : List (Addr × Obj)} {σ : St} {H : Hp} {s : Shared}
theorem goes_ok {M : Model} {A : Around} {E : Value → Shared → Prop} {i : Nat} {x : Str} {pos : Pos} {Q : Unit → Shared → Prop} (I : Inv X pins σ H s) (hN : X.N.Nodup) (hi : X.N[i]? = some x) (hk : X.env.kindOf x = some .local)
 (h : ∀ s', Inv X pins (σ.set i none) H s' → Q () s') : wpAny M A (do bindName X.env x .none; unbindBehindTheSuite X.env x pos) Q E s := by
 obtain ⟨m, hn, hl⟩ := id I.loc
 have hcls : (X.env.scope.kind == .class || (X.env.scope.kind == .module && X.env.locals != X.env.globals)) = false := by rw [I.ok.kind]; rfl
 have hiσ : i < σ.length := by rw [I.len]; exact (List.getElem?_eq_some_iff.mp hi).1
 have cne := I.cne
 obtain ⟨oL, _, _, hoL, _⟩ := id hn
 refine wpAny_nameGoes_keeps hk hn hcls fun h' v hn' hs => ?_
 have trk : HOk X.prog X.w H h' := fun b ob e => by
  refine (I.hok b ob e).stay (fun c w' hc q => (hs.2 c ?_).trans q) (fun _ q => q) fun _ _ q => q
  rintro rfl
  have hfree := I.free
  rcases hc with rfl | hc
  · rw [hfree] at e; cases e
  · rw [hfree] at hc; cases hc
 refine h _ ⟨I.ok, I.os, I.bare, ⟨fun b o e n hb hx => ?_, fun b o e n hb hx => ?_, I.base.free, fun b o e hx => ?_, I.base.tups, I.base.frzs, I.base.tbls⟩, ⟨_, hn', fun j y v' e1 e2 e3 => ?_⟩, fun y c e => ?_, I.free, I.freeC, fun p hp => ?_, trk, by rw [List.length_set]; exact I.len⟩
 · exact (hs.2 b (Nat.ne_of_lt (Nat.lt_of_lt_of_le (Heap.lt_size e) I.ok.above))).trans (I.base.keep b o e n hb hx)
 · obtain ⟨sl, e1⟩ := I.base.slot b o e n hb hx
   exact ⟨sl, (hs.2 b (Nat.ne_of_lt (Nat.lt_of_lt_of_le (Heap.lt_size e) I.ok.above))).trans e1⟩
 · obtain ⟨o', e1⟩ := I.base.there b o e hx
   exact ⟨o', (hs.2 b (Nat.ne_of_lt (Nat.lt_of_lt_of_le (Heap.lt_size e) I.ok.above))).trans e1⟩
 · by_cases hj : j = i
   · subst hj
     rw [List.getElem?_set_self hiσ] at e2
     cases e2
   · rw [List.getElem?_set_ne (Ne.symm hj)] at e2
     obtain ⟨u', r', q⟩ := hl j y v' e1 e2 e3
     refine ⟨u', r', ?_⟩
     rcases q with ⟨k, e⟩ | ⟨k, c, e, z⟩
     · refine .inl ⟨k, ?_⟩
       have : y ≠ x := fun e => hj (nodup_ix hN e1 (e ▸ hi))
       simp [this, e]
     · exact .inr ⟨k, c, e, z.sameBut hs (cne y c e)⟩
 · obtain ⟨w', z⟩ := I.cell y c e
   exact ⟨w', z.sameBut hs (cne y c e)⟩
 · obtain ⟨e, n, ne, nf, d⟩ := I.pin p hp
   exact ⟨(hs.2 p.1 ne).trans e, n, ne, nf, d⟩
end
theorem up_in {K : PySem.W.Frag} {h : Heap} {nm q : Str} {C N D : Addr} {bs bm : List Value} {hdct : Bool} {sn : List Str} {sub : List Value} {ab : Bool} {col : Option Bool} {dd : Option Addr} {k0 k1 k2 k3 k5 : Option Value} {newId : String} (X : K.In h) (hC : h.get? C = some (excClassObj nm q C N bs bm hdct sn sub ab col dd k0 k1 k2 k3 k5 newId)) (e : PySem.W.mroIn K C (.ref D) = some true) (ne : D ≠ C) : bm.contains (.ref D) = true := by
 unfold PySem.W.mroIn at e
 obtain ⟨cd, a, b⟩ := Option.bind_eq_some_iff.mp e
 have hcd : cd.mro = .ref C :: bm := by
  unfold PySem.W.clsIn at a
  split at a
  · rename_i ho
    have := X _ _ ho
    rw [hC] at this
    cases a
    have := congrArg Obj.data (Option.some.inj this)
    cases this
    rfl
  · cases a
 split at b
 · cases b
 · have e := Option.some.inj b
   rw [hcd, List.contains_cons] at e
   have : (Value.ref D == Value.ref C) = false := beq_eq_false_iff_ne.mpr fun z => ne (by cases z; rfl)
   rw [this, Bool.false_or] at e
   exact e
noncomputable abbrev Cx.excE (X : Cx) (a : Addr) (oe : Obj) (pins : List (Addr × Obj)) : Cx := { X with A := X.A.mark (some (.ref a)), calm := false, xe := fun _ _ => False, pn := X.pn ++ pins ++ [(a, oe)] }
section
variable {X : Cx} {C D a : Addr} {oe : Obj} {pins : List (Addr × Obj)} {Rx : Hp → Prop} {σ : St} {H : Hp} {s : Shared}
theorem Inv.excE (I : Inv X pins σ H s) (e : s.heap.get? a = some oe) (n : H a = none) (ne : a ≠ X.env.locals) (nf : a ∉ X.fs) (d : ∀ v, oe.data ≠ .cell v) : Inv (X.excE a oe pins) [] σ H s :=
 ⟨⟨I.ok.mod, I.ok.kind, I.ok.glob, I.ok.blt, I.ok.above, I.ok.inj, I.ok.has, I.ok.cab, (fun z => Bool.noConfusion z), I.ok.frames, I.ok.stk, I.ok.exf, I.ok.bs, I.ok.bsz, I.ok.noex, I.ok.exfs, I.ok.funs, I.ok.frf⟩, I.os, I.bare, I.base, I.loc, I.cell, I.free, I.freeC, fun p hp => by
   rw [List.append_nil] at hp
   rcases List.mem_append.mp hp with z | z
   · exact I.pin p z
   · rw [List.mem_singleton.mp z]; exact ⟨e, n, ne, nf, d⟩, I.hok, I.len⟩
theorem Inv.unexcE {pins' : List (Addr × Obj)} (ok : X.Ok) (I : Inv (X.excE a oe pins) pins' σ H s) : Inv X pins σ H s := ⟨ok, I.os, I.bare, I.base, I.loc, I.cell, I.free, I.freeC, fun p hp => I.pin p (List.mem_append_left _ (List.mem_append_left _ hp)), I.hok, I.len⟩
noncomputable def tTryE (n i : Nat) (Rx : Hp → Prop) (tb : TS) (ts : Addr → TS) : TS := fun D σ H => tb D σ H ∧ ∀ (a : Addr) (H' : Hp), Rx H' → ts a { nx := fun σ H => D.nx (σ.set i none) H, bk := fun σ H => D.bk (σ.set i none) H, ct := fun σ H => D.ct (σ.set i none) H, rt := D.rt } ((List.replicate n none).set i (some (.ref a))) H'
theorem ps_tryE {x n : Str} {i : Nat} {body : List Stmt} {b₀ : Stmt} {suite : List Stmt} {tb : TS} {ts : Addr → TS} {np hpos pos : Pos} (T : XcT X.K X.mg x D) (kC : PySem.W.ktsIn X.K C "BaseException" = true) (up : PySem.W.mroIn X.K C (.ref D) = some true) (ne : D ≠ C) (hst : X.stack = X.env :: X.outer) (hfr : X.env.frame = some X.env.locals) (hg : Gl X x) (hdb : (x == ("__debug__" : Str)) = false)
 (hN : X.N.Nodup) (hi : X.N[i]? = some n) (hk : X.env.scope.names.lookup n = some .local)
 (hb : ∀ pins, PSs (X.tryC C pins Rx) body tb) (hs : ∀ a oe pins, oe.cls = .ref C → PSs (X.excE a oe pins) (b₀ :: suite) (ts a)) : PS X (.Try body [.ExceptHandler (some (.Name x np)) (some n) (b₀ :: suite) hpos] [] [] pos) (tTryE X.N.length i Rx tb ts) := by
 intro pins s σ H D' I h
 obtain ⟨h1, h2⟩ := h
 refine wpAny_Try_except (wpAny_mono (hb pins [] s σ H D' I.tryC h1) (fun f s1 hf => ?_) fun e s2 he => ?_)
 · have cv : SP X pins D' f s1 := by
    cases f with
    | next => obtain ⟨σ', H', J, q⟩ := hf; exact ⟨σ', H', J.untryC, q⟩
    | brk => obtain ⟨σ', H', J, q⟩ := hf; exact ⟨σ', H', J.untryC, q⟩
    | cont => obtain ⟨σ', H', J, q⟩ := hf; exact ⟨σ', H', J.untryC, q⟩
    | ret u => obtain ⟨v, σ', H', J, r, q⟩ := hf; exact ⟨v, σ', H', J.untryC, r, q⟩
   cases f with
   | next => exact wpAny_execs_nil cv
   | brk => exact cv
   | cont => exact cv
   | ret u => exact cv
 · obtain ⟨σ1, H1, s1, I1, a, t, B, H2, rfl, os, bare, fl, hok, u, hE⟩ := he
   have okX := I1.ok
   have frD : ∀ b ∈ frs X.stack, ∃ o, s1.heap.get? b = some o ∧ ∀ vs, o.data ≠ .fields vs := fun b hb => frame_data I1 hb
   have fl' : Heap.FlyingW B (X.env :: X.outer) a (.ref C) (.ref t) s2.heap := by rw [← hst]; exact fl
   have mk : ∀ h5 : Heap, B.StaysIn h5 → s2.heap.UpToSlots h5 → Inv X pins (List.replicate X.N.length none) H2 { s2 with heap := h5 } := fun h5 st sm =>
    (I1.calm_none.call' (s' := { s2 with heap := h5 }) (ch := []) os ((u.on sm frD).un st fun b hb => I1.stkFree b hb) (hok.kept st) bare fun b z => absurd z (by simp))
   refine wpAny_looks_onW (outer := X.outer) (by rw [okX.frames, hst]) hfr fl' fun h4 held4 sm4 => ?_
   refine wpAny_landsW held4 fun h5 fl5 sm5 => ?_
   have J5 := mk h5 fl5.1 (sm4.trans sm5)
   obtain ⟨nm', q', Nn', bs', bm', hdct', sn', sub', ab', col', dd', j0, j1, j2, j3, j5, newId', hD, hbase', _⟩ := kts_cls J5.kIn T.kts
   obtain ⟨nm, q, Nn, bs, bm, hdct, sn, sub, ab, col, dd, k0, k1, k2, k3, k5, newId, hC, hbase, _⟩ := kts_cls J5.kIn kC
   obtain ⟨ob, hob, hobc⟩ := fl5.there
   refine wpAny_handleBy_cons (codeAny_handlers_test ?_) (by intro q; cases q)
   refine ld_glob (X := X.exc a) (J5.exc (a := a)) hg T.bound ?_ hdb
   refine excMatches_up hC hD hob hobc hbase' (up_in J5.kIn hC up ne) (codeAny_handlers_suite_as ?_)
   refine lands_againW fl5 fun h6 fl6 sm6 => ?_
   have sm := (sm4.trans sm5).trans sm6
   have J6 := mk h6 fl6.1 sm
   obtain ⟨oe, ws, hoe, hoec, hoed, _⟩ := fl6.first
   have na : H2 a = none := hok.none_of fl6.2.1
   have nfr : a ∉ frs X.stack := fun z => by
    obtain ⟨o', e', hd⟩ := frD a z
    obtain ⟨sl, e2⟩ := (u.on sm frD).slot a o' e' (I1.stkFree a z) z
    rw [hoe] at e2
    cases e2
    exact hd _ hoed
   have nl : a ≠ X.env.locals := fun z => nfr (by unfold frs; rw [hst, z]; exact List.mem_filterMap.mpr ⟨X.env, List.mem_cons_self, hfr⟩)
   have nf : a ∉ X.fs := fun z => nfr (by unfold frs; rw [hst]; obtain ⟨e, he, hf⟩ := List.mem_filterMap.mp z; exact List.mem_filterMap.mpr ⟨e, List.mem_cons_of_mem _ he, hf⟩)
   have J6' : Inv (X.excE a oe pins) [] (List.replicate X.N.length none) H2 { s2 with heap := h6 } := J6.excE hoe na nl nf (fun v z => by rw [hoed] at z; cases z)
   refine store_ok2 (X := X.excE a oe pins) (v := .ref a) (i := i) J6' hN hi (.inl hk) rfl (fun s7 J7 _ => ?_) (.inr hk)
   refine wpAny_mono (hs a oe pins hoec [] s7 _ H2 _ J7 (h2 a H2 hE)) (fun f s8 hf => ?_) fun e s3 z => z.elim
   cases f with
   | next => obtain ⟨σ', H', J, q⟩ := hf; exact goes_ok (J.unexcE okX) hN hi hk fun s9 J9 => ⟨_, H', J9, q⟩
   | brk => obtain ⟨σ', H', J, q⟩ := hf; exact goes_ok (J.unexcE okX) hN hi hk fun s9 J9 => ⟨_, H', J9, q⟩
   | cont => obtain ⟨σ', H', J, q⟩ := hf; exact goes_ok (J.unexcE okX) hN hi hk fun s9 J9 => ⟨_, H', J9, q⟩
   | ret u => obtain ⟨v, σ', H', J, r, q⟩ := hf; exact goes_ok (J.unexcE okX) hN hi hk fun s9 J9 => ⟨v, _, H', J9, r, q⟩
end
end L2

namespace L2
open PySem PySem.Spec PySem.Calls PyProof PyProof.Rows PySem.W
structure XcI (K : PySem.W.Frag) (D : Addr) : Prop where
 ga : findIn K (.ref D) "__getattribute__" = some (some (.builtin "BaseException.__getattribute__"))
 gn : findIn K (.ref D) "__getattr__" = some none
 ca : findIn K (.ref D) "__class__" = some (some (.builtin "object.__class__"))
 mo : mroIn K D (.type "object") = some true
 mb : mroIn K D (.type "BaseException") = some true
noncomputable def ExAt (h : Heap) (x D : Addr) : Prop := ∃ o, h.get? x = some o ∧ o.cls = .ref D
section
variable {prog : Program} {w : World} {A : Around} {E : Value → Shared → Prop} {s : Shared} {K : Frag} {x D : Addr}
theorem ExAt.type {M : Model} {h : Heap} (I : ExAt h x D) : Looks M h (typeOf (.ref x)) (.ref D) := by
 obtain ⟨o, e, c⟩ := I
 exact c ▸ (Looks.ld e).andThen .now
theorem xc_get {R : Result → Shared → Prop} {tp : Value} (Z : XcI K D) (X : K.In s.heap) (I : ExAt s.heap x D) (h : R (.ok (.ret (.ref D))) s) : codeAny (model prog w) A (.call (.builtin "getset_descriptor.__get__") ⟨[.builtin "object.__class__", .ref x, tp], []⟩) R s := by
 obtain ⟨hh, g, dr, t, os⟩ := s
 have L0 := I.type (M := model prog w)
 have L1 := looks_mroIn (M := model prog w) X Z.mo
 refine codeAny_call_builtin KF.slot_gs.plain KF.entry_gs (KF.slot_gs.check _ _ _ _ _ _ _ _ KF.type_class (KF.args_gs _ _ _) ?_)
 unfold Builtin.«getset_descriptor.__get__» Builtin.Getset_descriptor.descrGet
 rw [dga_obj]
 refine wpAny_bind (wpAny_pure ?_)
 unfold Builtin.Getset_descriptor.descrGetter Builtin.Getset_descriptor.descrCheckInstance Builtin.Getset_descriptor.descrNameAndClass isInstance
 simp only [KF.owner_class]
 repeat lk
 refine ⟨Code.quiet_builtin _ (by decide +kernel), codeAny_builtin KF.entry_class ?_⟩
 unfold Builtin.«object.__class__» shownTypeOf
 repeat lk
 exact h
theorem xc_entry {tk : Tok} {Q : Fin → Shared → Prop} (Z : XcI K D) (X : K.In s.heap) (I : ExAt s.heap x D) (h : Q (.done (.ret (.ref D))) s) : wpAny (model prog w) A (Builtin.«object.__getattribute__» ⟨[.ref x, .str "__class__" tk], []⟩) Q E s := by
 obtain ⟨o, hx, hc⟩ := id I
 have L2 := looks_findIn (M := model prog w) X Z.ca
 obtain ⟨hh, g, dr, t, os⟩ := s
 have hT5 : (⟨hh, g, dr, t, os⟩ : Shared).TypeIs (.builtin "object.__class__") "getset_descriptor" := F.typeOf_object_class
 have f5 := F.typeOf_object_class
 have f6 := F.slot_gs_get.lookup
 have f7 := F.slot_gs_set.lookup
 repeat (any_goals (first | assumption | (with_reducible refine wpAny_loadPart_at hx ?_; rw [hc]) | with_reducible refine L2.at ?_ | wp_step))
 refine xc_get Z X I ?_
 repeat (any_goals (first | assumption | wp_step))
theorem xc_check {M : Model} {nameV : Value} {Q : Unit → Shared → Prop} (Z : XcI K D) (X : K.In s.heap) (I : ExAt s.heap x D) (h : Q () s) : wpAny M A (checkBuiltinCall "BaseException.__getattribute__" ⟨[.ref x, nameV], []⟩) Q E s := by
 have hk : builtinKind "BaseException.__getattribute__" = some .slot := by decide +kernel
 have hsplit : splitId "BaseException.__getattribute__" = some ("BaseException", "__getattribute__") := by decide +kernel
 have L0 := I.type (M := M)
 have L1 := looks_mroIn (M := M) X Z.mb
 have ha := F.args_bexc_ga (.ref x) nameV
 obtain ⟨hh, g, dr, t, os⟩ := s
 simp only [checkBuiltinCall, hk, hsplit]
 refine wpAny_bind ?_
 · unfold isInstance
   repeat (first | with_reducible refine L0.at ?_ | with_reducible refine L1.at ?_ | wp_step)
   exact h
theorem xc_by {tk : Tok} {Q : Value → Shared → Prop} (Z : XcI K D) (X : K.In s.heap) (I : ExAt s.heap x D) (h : Q (.ref D) s) : wpAny (model prog w) A (getAttrBy (.ref x) (.str "__class__" tk) false) Q E s := by
 have L0 := I.type (M := model prog w)
 have L1 := looks_findIn (M := model prog w) X Z.ga
 have L2 := looks_findIn (M := model prog w) X Z.gn
 have f3 := F.excAttr_ValueError.ga.bind (.ref x)
 have hx0 : (false && onTheHeap (Value.builtin "BaseException.__getattribute__")) = false := rfl
 have hx2 : (Value.builtin "BaseException.__getattribute__" == Value.builtin "object.__getattribute__") = false := by decide +kernel
 have hx1 : (onTheHeap (Value.ref D) && Value.builtin "BaseException.__getattribute__" == Value.builtin "object.__getattribute__") = false := by rw [hx2]; rfl
 obtain ⟨hh, g, dr, t, os⟩ := s
 repeat (any_goals (first | assumption | with_reducible refine L0.at ?_ | with_reducible refine L1.at ?_ | with_reducible refine L2.at ?_ | wp_step))
 refine codeAny_call_builtin F.excAttr_ValueError.ga.plain F.entry_bexc_ga (xc_check Z X I (xc_entry Z X I ?_))
 repeat (any_goals (first | assumption | wp_step))
theorem xc_attr {Q : Option Value → Shared → Prop} (Z : XcI K D) (X : K.In s.heap) (I : ExAt s.heap x D) (h : Q (some (.ref D)) { s with toks := s.toks + 1 }) : wpAny (model prog w) A (getAttr? (.ref x) "__class__") Q E s := by
 obtain ⟨hh, g, dr, t, os⟩ := s
 unfold getAttr? getAttrBy?
 refine wpAny_bind (wpAny_mkText (wpAny_bind (wpAny_attempt ?_)))
 exact xc_by (s := ⟨hh, g, dr, t + 1, os⟩) Z X I (wpAny_pure h)
theorem kitx_exc (Z : XcI K D) : KitX K (.ref x) (.ref D) (fun h => ExAt h x D) where
 ty := fun _ _ _ I => I.type
 it := fun _ _ X _ => by
  have q := Z.mo
  unfold mroIn at q
  obtain ⟨cd, hc, _⟩ := Option.bind_eq_some_iff.mp q
  unfold clsIn at hc
  split at hc
  · rename_i c' d' cd' sl' ho
    intro A' Q' E' s' k q
    unfold isType loadHead
    exact wpAny_bind (wpAny_loadPart (k _ _ (X _ _ ho)) (wpAny_pure q))
  · cases hc
 ne := fun h tp dd its n sl X htp => by
  have q := Z.mo
  unfold mroIn at q
  obtain ⟨cd, hc, _⟩ := Option.bind_eq_some_iff.mp q
  refine Bool.eq_false_iff.mpr fun q => ?_
  have e : D = tp := Value.ref.inj (beq_iff_eq.mp q)
  subst e
  unfold clsIn at hc
  split at hc
  · rename_i c' d' cd' sl' ho
    have z := (X _ _ ho).symm.trans htp
    cases z
  · cases hc
 ca := fun X I k => xc_attr Z X I k
end
theorem boot_VE : bootBuiltins "ValueError" = some (.type "ValueError") := by decide +kernel
noncomputable def rIsiX (K : PySem.W.Frag) (a D : Addr) : List V → Hp → VK → Prop := fun xs H Q => (∃ c b, xs = [.ref a, .ref c] ∧ kitOne K (.ref D) (.ref c) = some b ∧ Q (.bl b) H) ∨ (∃ T b, xs = [.ref a, .ty T] ∧ kitOne K (.ref D) (.type T) = some b ∧ Q (.bl b) H) ∨
 ∃ (t : Addr) (cs : List Addr) (b : Bool), xs = [.ref a, .ref t] ∧ H t = some (.tup (cs.map V.ref)) ∧ kitAny K (.ref D) (cs.map Value.ref) = some b ∧ Q (.bl b) H
theorem vals_refs : ∀ {cs : List Addr} {its : List Value}, Vals (cs.map V.ref) its → its = cs.map Value.ref
 | [], its, h => by cases h; rfl
 | c :: cs, its, h => by
   cases h with
   | cons r h => rw [vals_refs h, show _ = Value.ref c from r]; rfl
theorem call_isiX {X : Cx} {a D : Addr} {oe : Obj} {pins : List (Addr × Obj)} (Z : XcI X.K D) (hc : oe.cls = .ref D) : CallR (X.excE a oe pins) (.builtin "isinstance") (rIsiX X.K a D) := by
 intro pins' s σ H xs us Q I r h
 have ex : ExAt s.heap a D := ⟨oe, (I.pin (a, oe) (List.mem_append_left _ (List.mem_append_right _ List.mem_cons_self))).1, hc⟩
 have kin : X.K.In s.heap := I.kIn
 rcases h with ⟨c, b, rfl, e, q⟩ | ⟨T, b, rfl, e, q⟩ | ⟨t, cs, b, rfl, ht, e, q⟩
 · obtain ⟨u, w', rfl, ru, rw'⟩ := vals2 r
   cases (show u = Value.ref a from ru)
   cases (show w' = Value.ref c from rw')
   exact kia_one (kitx_exc Z) kin ex e (fun z => nomatch z) fun tk => ⟨.bl b, H, I.tok tk, rfl, q⟩
 · obtain ⟨u, w', rfl, ru, rw'⟩ := vals2 r
   cases (show u = Value.ref a from ru)
   cases rw'
   exact kia_one (kitx_exc Z) kin ex e (fun z => nomatch z) fun tk => ⟨.bl b, H, I.tok tk, rfl, q⟩
 · obtain ⟨u, w', rfl, ru, rw'⟩ := vals2 r
   cases (show u = Value.ref a from ru)
   cases (show w' = Value.ref t from rw')
   obtain ⟨its, rv, ⟨o, h1, h2, n, h3⟩, _⟩ := I.tuple (SqT.of ht)
   have ei := vals_refs rv
   subst ei
   obtain ⟨oc, od, oda, osl⟩ := o
   cases h2
   cases h3
   exact kia_tup (kitx_exc Z) kin ex h1 e (fun z => nomatch z) fun tk => ⟨.bl b, H, I.tok tk, rfl, q⟩
end L2

namespace L2
open PySem PySem.Spec PyProof PyProof.Rows PySem.W
inductive Tg (K : PySem.W.Frag) (H : Hp) : V → Option Int → Prop where
 | int (i : Int) : Tg K H (.int i) (some i)
 | bl (b : Bool) : Tg K H (.bl b) none
 | oth {v : V} {t : Value} (ty : TyOf K H v t) (e : PySem.W.kitOne K t (.type "int") = some false) : Tg K H v none
theorem Tg.same {K : PySem.W.Frag} {H H' : Hp} {v : V} {o : Option Int} (h : Tg K H v o) (s : Same H H') : Tg K H' v o := by
 cases h with
 | int i => exact .int i
 | bl b => exact .bl b
 | oth ty e => exact .oth (ty.kt s.kt) e
theorem Tg.some {K : PySem.W.Frag} {H : Hp} {v : V} {i : Int} (h : Tg K H v (Option.some i)) : v = .int i := by cases h; rfl
noncomputable def pgO (n : Int) : Option Int → Bool
 | some i => decide (0 ≤ i ∧ i < n)
 | none => false
theorem pgO_two {K : PySem.W.Frag} {H : Hp} {x y : V} {ox oy : Option Int} {n : Int} (hx : Tg K H x ox) (hy : Tg K H y oy) (h : (pgO n ox && pgO n oy) = true) : ∃ i j, x = .int i ∧ y = .int j ∧ InB n i j := by
 rw [Bool.and_eq_true] at h
 obtain ⟨h1, h2⟩ := h
 cases ox with
 | none => cases h1
 | some i =>
   cases oy with
   | none => cases h2
   | some j =>
     have a := of_decide_eq_true h1
     have b := of_decide_eq_true h2
     exact ⟨i, j, hx.some, hy.some, a.1, a.2, b.1, b.2⟩
theorem pgO_in {K : PySem.W.Frag} {H : Hp} {i j : Int} {ox oy : Option Int} {n : Int} (hx : Tg K H (.int i) ox) (hy : Tg K H (.int j) oy) (h : InB n i j) : (pgO n ox && pgO n oy) = true := by
 have e1 : ox = Option.some i := by
  cases hx with
  | int => rfl
  | oth ty e => cases ty; rw [isi_ii] at e; cases e
 have e2 : oy = Option.some j := by
  cases hy with
  | int => rfl
  | oth ty e => cases ty; rw [isi_ii] at e; cases e
 rw [e1, e2]
 obtain ⟨a, b, c, d⟩ := h
 simp [pgO, a, b, c, d]
noncomputable def spWholeT (K : PySem.W.Frag) : Sp := fun vs H Q _ => ∃ (v : V) (o : Option Int), vs = [v] ∧ Tg K H v o ∧ Q (.bl o.isSome) H
noncomputable def spPairT (K : PySem.W.Frag) : Sp := fun vs H Q _ => ∃ (q : Addr) (x y : V) (ox oy : Option Int), vs = [.ref q] ∧ H q = some (.tup [x, y]) ∧ Tg K H x ox ∧ Tg K H y oy ∧ Q (.bl (ox.isSome && oy.isSome)) H
noncomputable def spIsLinkT (K : PySem.W.Frag) : Sp := fun vs H Q _ => ∃ (n : Int) (q : Addr) (x y : V) (ox oy : Option Int), vs = [.int n, .ref q] ∧ H q = some (.tup [x, y]) ∧ Tg K H x ox ∧ Tg K H y oy ∧ Q (.bl (pgO n ox && pgO n oy)) H
noncomputable def spLCheckT (K : PySem.W.Frag) (C Xc : Addr) : Sp := fun vs H Q E => ∃ (p pd lp : Addr) (W : Wb) (Ws : List Wb) (x y : V) (ox oy : Option Int), vs = [.ref p, x, y] ∧ LvAt K C H p pd lp W Ws ∧ Tg K H x ox ∧ Tg K H y oy ∧ ((pgO W.1 ox && pgO W.1 oy) = true → ∀ H', Same H H' → Q .non H') ∧ ((pgO W.1 ox && pgO W.1 oy) = false → ∀ H', Same H H' → E (.ref Xc) none H')
noncomputable def spLLinkT (K : PySem.W.Frag) (C Xc : Addr) : Sp := fun vs H Q E => ∃ (p pd lp : Addr) (W : Wb) (Ws : List Wb) (x y : V) (ox oy : Option Int), vs = [.ref p, x, y] ∧ LvAt K C H p pd lp W Ws ∧ Tg K H x ox ∧ Tg K H y oy ∧ Ws.length ≤ 5000 ∧ W.2.length ≤ 60 ∧
 (∀ i j, x = .int i → y = .int j → InB W.1 i j → W.2.length < 60 → ∀ (H' : Hp) (ms : List (Int × Int)), ms.Perm (W.2 ++ [(i, j)]) → ms.Pairwise lexR → LvAt K C H' p pd lp (W.1, ms) (Ws ++ [W]) → Kx [p, pd] H H' → Q .non H') ∧ (¬ ((pgO W.1 ox && pgO W.1 oy) = true ∧ W.2.length < 60) → ∀ H', Same H H' → E (.ref Xc) none H')
noncomputable def spLUnlinkT (K : PySem.W.Frag) (C Xc : Addr) : Sp := fun vs H Q E => ∃ (p pd lp : Addr) (W : Wb) (Ws : List Wb) (x y : V) (ox oy : Option Int), vs = [.ref p, x, y] ∧ LvAt K C H p pd lp W Ws ∧ Tg K H x ox ∧ Tg K H y oy ∧ Ws.length ≤ 5000 ∧ W.2.length ≤ 60 ∧
 (∀ i j, x = .int i → y = .int j → InB W.1 i j → (i, j) ∈ W.2 → ∀ (H' : Hp), LvAt K C H' p pd lp (W.1, W.2.erase (i, j)) (Ws ++ [W]) → Kx [p, pd] H H' → Q .non H') ∧ (¬ (∃ i j, x = .int i ∧ y = .int j ∧ InB W.1 i j ∧ (i, j) ∈ W.2) → ∀ H', Same H H' → E (.ref Xc) none H')
noncomputable def Rfs (W : Wb) (w : Int) (x y : V) (ox oy : Option Int) : Prop := (w = 0 ∧ ¬ ((pgO W.1 ox && pgO W.1 oy) = true ∧ W.2.length < 60)) ∨ (w = 1 ∧ ¬ (∃ i j, x = .int i ∧ y = .int j ∧ InB W.1 i j ∧ (i, j) ∈ W.2)) ∨ (w = 2 ∧ ¬ W.1 < 12)
noncomputable def spRefused (K : PySem.W.Frag) (C : Addr) : Sp := fun vs H Q _ => ∃ (p pd lp : Addr) (W : Wb) (Ws : List Wb) (w : Int) (x y : V) (ox oy : Option Int), vs = [.ref p, .int w, x, y] ∧ LvAt K C H p pd lp W Ws ∧ Ws.length ≤ 5000 ∧ W.2.length ≤ 60 ∧ Tg K H x ox ∧ Tg K H y oy ∧ Rfs W w x y ox oy ∧ ∀ H', Same H H' → Q (.bl true) H'
noncomputable def PurN (H : Hp) (d : Addr) : Prop := ∃ ns : List Nat, H d = some (.lst (natV ns))
theorem PurN.kl {H H' : Hp} {l : Addr} (h : PurN H l) (k : Kp l H H') : KL H H' := by
 obtain ⟨ns, e⟩ := h
 exact k.kl e
theorem PurN.ne {H : Hp} {d b : Addr} (h : PurN H d) (hb : H b = none) : b ≠ d := by
 rintro rfl
 obtain ⟨ns, e⟩ := h
 rw [e] at hb; cases hb
theorem PurN.same {H H' : Hp} {d : Addr} (h : PurN H d) (s : Same H H') : PurN H' d := by
 obtain ⟨ns, e⟩ := h
 exact ⟨ns, s _ _ e⟩
theorem Kp.freeN {H H' : Hp} {d b : Addr} (k : Kp d H H') (h : PurN H' d) (hb : H' b = none) : H b = none := by
 cases e : H b with
 | none => rfl
 | some o => rw [k b o e (h.ne hb)] at hb; cases hb
theorem nats_of : ∀ {zs : List Int}, (∀ z ∈ zs, 0 ≤ z) → ∃ ns : List Nat, zs.map V.int = natV ns
 | [], _ => ⟨[], rfl⟩
 | z :: zs, h => by
   obtain ⟨ns, e⟩ := nats_of (zs := zs) fun z' hz => h z' (List.mem_cons_of_mem _ hz)
   refine ⟨z.toNat :: ns, ?_⟩
   have := h z List.mem_cons_self
   rw [List.map_cons, e]
   unfold natV
   rw [List.map_cons, Int.toNat_of_nonneg this]
noncomputable def spMixedN : Sp := fun vs H Q _ => ∃ c k : Int, vs = [.int c, .int k] ∧ ∀ v : Int, 0 ≤ v → Q (.int v) H
noncomputable def spPurseN (K : PySem.W.Frag) : Sp := fun vs H Q _ => ∃ (a : Addr) (ns : List Int) (at' st many : Int), vs = [.ref a, .int at', .int st, .int many] ∧ SqL K H a (ns.map V.int) ∧ ns.length ≤ 63 ∧ 0 < st ∧ 0 ≤ many ∧ many ≤ 10000 ∧ ∀ (d : Addr) (H' : Hp), Same H H' → H d = none → PurN H' d → Q (.ref d) H'
noncomputable def spNextN : Sp := fun vs H Q _ => ∃ d : Addr, vs = [.ref d] ∧ PurN H d ∧ ∀ (v : Nat) (H' : Hp), PurN H' d → Kp d H H' → Q (.int (v : Int)) H'
noncomputable def spNextZ : Sp := fun vs H Q _ => ∃ d : Addr, vs = [.ref d] ∧ PurN H d ∧ ∀ (v : Int) (H' : Hp), PurN H' d → Kp d H H' → Q (.int v) H'
noncomputable def spGreatN (K : PySem.W.Frag) : Sp := fun vs H Q _ => ∃ (d : Addr), vs = [.ref d] ∧ PurN H d ∧ ∀ (a : Addr) (H' : Hp) (ps : List (Int × Int)), PurN H' d → Kp d H H' → WbAt K H' a 12 ps → OkW 12 ps → ps.length = 60 → ps.Pairwise lexR → Q (.ref a) H'
noncomputable def spWebHN (K : PySem.W.Frag) : Sp := fun vs H Q _ => ∃ (d : Addr) (lo hi : Int), vs = [.ref d, .int lo, .int hi] ∧ PurN H d ∧ 1 ≤ lo ∧ lo ≤ hi ∧ hi ≤ 12 ∧ ∀ (a : Addr) (H' : Hp) (n : Int) (ps : List (Int × Int)), PurN H' d → Kp d H H' → WbAt K H' a n ps → OkW n ps → lo ≤ n → n ≤ hi → ps.length ≤ 24 → ps.Pairwise lexR → Q (.ref a) H'
noncomputable def spLeapN (K : PySem.W.Frag) : Sp := fun vs H Q _ => ∃ d : Addr, vs = [.ref d] ∧ PurN H d ∧ ∀ (p : Addr) (H' : Hp) (A : Int × Int), PurN H' d → Kp d H H' → FrA K H' p A → Pw.Canon A → 0 < A.1 → A.1 ≤ A.2 → Sz2 41 A → Q (.ref p) H'
noncomputable def spOdd (K : PySem.W.Frag) : Sp := fun vs H Q _ => ∃ (d dp : Addr) (n : Int) (xs : List V), vs = [.ref d, .int n, .ref dp] ∧ PurN H d ∧ 1 ≤ n ∧ n ≤ 12 ∧ H dp = some (.tup xs) ∧ ∀ (D : Addr) (H' : Hp) (us : List V), PurN H' d → Kp d H H' → H D = none → H' D = some (.lst us) → us.length ≤ 16 → (∀ v ∈ us, ∃ o, Tg K H' v o ∧ pgO n o = false) → Q (.ref D) H'
noncomputable def spThings (K : PySem.W.Frag) (C : Addr) : Sp := fun vs H Q _ => ∃ (d p pd lp wa : Addr) (W : Wb), vs = [.ref d, .ref p, .ref wa] ∧ PurN H d ∧ LvAt K C H p pd lp W [] ∧ WbAt K H wa W.1 W.2 ∧ d ≠ pd ∧ OkL W ∧ ∀ H', PurN H' d → Kp d H H' → Q (.bl true) H'
structure B32 (K : PySem.W.Frag) (C : Addr) (pos : Pos) (G : Hp) (d tb p pd lp wa : Addr) (W : Wb) (Ws : List Wb) (W0 : Wb) (A : Int × Int) : Prop where
 pur : PurN G d
 tab : Tab tb pos qualR G
 l : LvAt K C G p pd lp W Ws
 web : WbAt K G wa W0.1 W0.2
 fA : FrA K G lp A
 dq : d ≠ pd
section
variable {K : PySem.W.Frag} {C : Addr} {pos : Pos} {G G' : Hp} {d tb p pd lp wa : Addr} {W W' : Wb} {Ws Ws' : List Wb} {W0 : Wb} {A : Int × Int}
theorem B32.same (b : B32 K C pos G d tb p pd lp wa W Ws W0 A) (s : Same G G') : B32 K C pos G' d tb p pd lp wa W Ws W0 A := ⟨b.pur.same s, b.tab.same s, b.l.same s, b.web.same s, FrA.ku b.fA s.ku, b.dq⟩
theorem B32.kp (b : B32 K C pos G d tb p pd lp wa W Ws W0 A) (k : Kp d G G') (h : PurN G' d) : B32 K C pos G' d tb p pd lp wa W Ws W0 A := by
 obtain ⟨ns, ed⟩ := b.pur
 have u : KU G G' := k.ku (.inl ⟨_, ed⟩)
 exact ⟨h, b.tab.kp k ed, b.l.kx (S := [d]) (k.kx (by simp)) u (by simp [b.l.nel ed]) (by simp [b.dq.symm]), b.web.ku u, FrA.ku b.fA u, b.dq⟩
theorem B32.kt (b : B32 K C pos G d tb p pd lp wa W Ws W0 A) (k : Kp tb G G') (h : Tab tb pos qualR G') : B32 K C pos G' d tb p pd lp wa W Ws W0 A := by
 obtain ⟨ns, ed⟩ := b.pur
 have u : KU G G' := k.ku (.inr b.tab.tbl)
 exact ⟨⟨ns, k _ _ ed (b.tab.ne ed fun _ z => by cases z)⟩, h, b.l.kt (Rp := b.tab) k, b.web.ku u, FrA.ku b.fA u, b.dq⟩
theorem B32.live (b : B32 K C pos G d tb p pd lp wa W Ws W0 A) (k : Kx [p, pd] G G') (h : LvAt K C G' p pd lp W' Ws') : B32 K C pos G' d tb p pd lp wa W' Ws' W0 A := by
 obtain ⟨ns, ed⟩ := b.pur
 exact ⟨⟨ns, k _ _ ed (by simp [(b.l.nel ed).symm, b.dq])⟩, b.tab.kx k b.l.kinds, h, b.web.ku (b.l.ku k), FrA.ku b.fA (b.l.ku k), b.dq⟩
end
theorem Rfs.odd {K : PySem.W.Frag} {H : Hp} {W : Wb} {w : Int} {x y : V} {ox oy : Option Int} (hw : w = 0 ∨ w = 1) (hx : Tg K H x ox) (hy : Tg K H y oy) (h : (pgO W.1 ox && pgO W.1 oy) = false) : Rfs W w x y ox oy := by
 rcases hw with rfl | rfl
 · exact .inl ⟨rfl, fun z => by rw [h] at z; cases z.1⟩
 · refine .inr (.inl ⟨rfl, fun ⟨i, j, e1, e2, hb, _⟩ => ?_⟩)
   subst e1; subst e2
   rw [pgO_in hx hy hb] at h; cases h
theorem ix01 {j : Nat} {x : V} (h : ([V.int 0, V.int 1] : List V)[j]? = some x) : ∃ w : Int, x = .int w ∧ (w = 0 ∨ w = 1) := by
 match j, h with
 | 0, h => exact ⟨0, (Option.some.inj h).symm, .inl rfl⟩
 | 1, h => exact ⟨1, (Option.some.inj h).symm, .inr rfl⟩
theorem ix02 {j : Nat} {x : V} (h : ([V.int 0, V.int 2] : List V)[j]? = some x) : ∃ w : Int, x = .int w ∧ (w = 0 ∨ w = 2) := by
 match j, h with
 | 0, h => exact ⟨0, (Option.some.inj h).symm, .inl rfl⟩
 | 1, h => exact ⟨2, (Option.some.inj h).symm, .inr rfl⟩
theorem pgo_no {n i : Int} (h : ¬ (0 ≤ i ∧ i < n)) : pgO n (some i) = false := decide_eq_false h
theorem eqW {K : PySem.W.Frag} {H : Hp} {a b : Addr} {n : Int} {ps : List (Int × Int)} {Q : VK} (h1 : WbAt K H a n ps) (h2 : WbAt K H b n ps) (k : Q (.bl true) H) : rEqD K false (.ref a) (.ref b) H Q := by
 obtain ⟨t3, u3, a3, b3, c3⟩ := h1
 obtain ⟨t4, u4, a4, b4, c4⟩ := h2
 have dep : depDs [Dt.int n, Dt.tup (ps.map dtP)] ≤ 20 := by
  have := prs_dep2 ps
  simp only [depDs, depD]
  omega
 refine ⟨a, b, _, _, [.int n, .tup (ps.map dtP)], [.int n, .tup (ps.map dtP)], rfl, rfl, .inl ⟨SqT.of a3, SqT.of a4⟩, ?_, ?_, dep, ?_⟩
 · simp only [Dens, Den]
   exact ⟨_, _, rfl, rfl, _, _, rfl, ⟨t3, u3, rfl, SqT.of b3, c3⟩, rfl⟩
 · simp only [Dens, Den]
   exact ⟨_, _, rfl, rfl, _, _, rfl, ⟨t4, u4, rfl, SqT.of b4, c4⟩, rfl⟩
 rw [if_neg Bool.false_ne_true, eqDs_refl]
 exact k
theorem nextNZ {P : Program} {w : World} {K : PySem.W.Frag} {mg : Str → Option Value} {base : Heap} {k : Nat} {nm : Str} {ps : List Str} (D : Def P w K mg base k nm ps spNextN) : Def P w K mg base k nm ps spNextZ := D.imp fun vs H Q E h => by
 obtain ⟨d, rfl, hd, k⟩ := h
 exact ⟨d, rfl, hd, fun v H' a b => k _ H' a b⟩
theorem kit_self {K : PySem.W.Frag} {t : Value} : PySem.W.kitOne K t t = some true := by unfold PySem.W.kitOne; rw [if_pos (beq_self_eq_true _)]
end L2

set_option pp.maxSteps 800
namespace Lw
open PySem L2 PyProof.Rows
noncomputable def top (i : Nat) : Stmt := PySem.Challenge.pw_pagewalks_k32_live_webs_refused.main.body.getD i (.Pass ⟨0, 0, 0, 0⟩)
noncomputable abbrev sWhole : Stmt := top 7
noncomputable abbrev sCommon : Stmt := top 8
noncomputable abbrev sPair : Stmt := top 9
noncomputable abbrev sMade : Stmt := top 10
noncomputable abbrev sBelow : Stmt := top 11
noncomputable abbrev sAboves : Stmt := top 12
noncomputable abbrev sCleared : Stmt := top 14
noncomputable abbrev sSolved : Stmt := top 15
noncomputable abbrev s_is_link : Stmt := top 19
noncomputable abbrev sLeads : Stmt := top 20
noncomputable abbrev sEven : Stmt := top 21
noncomputable abbrev sParts : Stmt := top 23
noncomputable abbrev sFactor : Stmt := top 24
noncomputable abbrev sEquation : Stmt := top 25
noncomputable abbrev sVisits : Stmt := top 26
noncomputable abbrev sShares : Stmt := top 27
noncomputable abbrev sRanked : Stmt := top 29
noncomputable abbrev sWith : Stmt := top 32
noncomputable abbrev sWithout : Stmt := top 33
noncomputable abbrev s_law_mixed : Stmt := top 37
noncomputable abbrev s_law_purse : Stmt := top 38
noncomputable abbrev s_law_next : Stmt := top 39
noncomputable abbrev sWeb : Stmt := top 40
noncomputable abbrev sGreat : Stmt := top 41
noncomputable abbrev sFrac : Stmt := top 42
noncomputable abbrev sLLeap : Stmt := top 43
noncomputable abbrev s_law_refused : Stmt := top 45
noncomputable abbrev s_law_odd : Stmt := top 46
noncomputable abbrev s_law_things_right : Stmt := top 47
noncomputable abbrev sLaw : Stmt := top 48
noncomputable abbrev sLv_init : Stmt := inClass (top 35) 0
noncomputable abbrev sLv_turn : Stmt := inClass (top 35) 1
noncomputable abbrev sLv_check : Stmt := inClass (top 35) 2
noncomputable abbrev sLv_link : Stmt := inClass (top 35) 3
noncomputable abbrev sLv_unlink : Stmt := inClass (top 35) 4
noncomputable abbrev sLv_page : Stmt := inClass (top 35) 5
noncomputable abbrev sLv_undo : Stmt := inClass (top 35) 6
noncomputable abbrev sLv_web : Stmt := inClass (top 35) 7
noncomputable abbrev sLv_shares : Stmt := inClass (top 35) 8
noncomputable abbrev sLv_ranked : Stmt := inClass (top 35) 9
section
variable {P : Program} {w : World} {K : PySem.W.Frag} {mg : Str → Option Value} {base : Heap}
theorem scCommon : FnScope ["one", "other", "rest"] ["one", "other"] (defScope sCommon) := ⟨rfl, rfl, rfl, by decide +kernel, rfl, by decide +kernel, by decide +kernel⟩
theorem ok_common {f : Addr} {fd : FuncData} (F : Fun K "common" "common" sCommon f fd) : FnOk P w K mg base CX0 1 f fd ["one", "other"] spCommon := by
 refine F.ok scCommon (fun vs H Q E h => ?_) (fun cdv A outer s H vs Q E hr h => ?_)
 · obtain ⟨x, y, rfl, _⟩ := h
   rfl
 · obtain ⟨x, y, rfl, hx, hy, k⟩ := h
   refine ⟨_, pss_cons (ps_while PassesOwn.never (pt_cmpR op_ne (pv 1) pe_int (nomark _))
    (pss_cons (ps_set (i := 2) scCommon.nd rfl (Or.inl rfl) (pe_op op_mod (pv 0) (pv 1)))
    (pss_cons (ps_set (i := 0) scCommon.nd rfl (Or.inl rfl) (pv 1))
    (pss_one (ps_set (i := 1) scCommon.nd rfl (Or.inl rfl) (pv 2))))))
    (pss_one (ps_ret (pv 0))), ?_⟩
   refine while_by (fun σ H' => ∃ (a b : Int) (r : Option V), σ = [some (.int a), some (.int b), r] ∧ 0 ≤ a ∧ 0 ≤ b ∧ Int.gcd a b = Int.gcd x y ∧ H' = H)
    (fun σ _ => match σ with | [_, some (.int b), _] => b.toNat | _ => 0) ⟨x, y, none, rfl, hx, hy, rfl, rfl⟩ ?_ ?_
   · rintro σ H' ⟨a, b, r, rfl, ha, hb, hg, rfl⟩
     refine ⟨_, rfl, rfl, _, rfl, ?_⟩
     by_cases h0 : b = 0
     · refine ifF (veq h0) ?_
       subst h0
       refine ⟨_, rfl, ?_⟩
       have e : (a : Int) = (Int.gcd x y : Int) := by rw [← hg, Int.gcd_zero_right]; omega
       show Q (.int a) _
       rw [e]; exact k
     · refine ifT (vne h0) ?_
       have hb0 : 0 < b := by omega
       refine ⟨_, rfl, _, rfl, _, _, rfl, rfl, hb0, ?_⟩
       refine ⟨_, rfl, ?_⟩
       refine ⟨_, rfl, ?_⟩
       refine ⟨⟨b, a % b, _, rfl, hb, Int.emod_nonneg _ (by omega), ?_, rfl⟩, ?_⟩
       · rw [Pw.gcd_turn ha hb0, hg]
       · show (a % b).toNat < b.toNat
         have h1 := Int.emod_nonneg a (show b ≠ 0 by omega)
         have h2 := Int.emod_lt_of_pos a hb0
         omega
   · rintro σ H' q q' hq ⟨v, e, hs, kk, ek, z⟩
     exact ⟨v, e, hs, kk, ek, hq _ _ z⟩
theorem abs_nn (x : Int) : 0 ≤ (if x < 0 then -x else x) := by split <;> omega
theorem abs_gcd (x y : Int) : Int.gcd (if x < 0 then -x else x) (if y < 0 then -y else y) = Int.gcd x y := by
 split <;> split <;> simp [Int.neg_gcd, Int.gcd_neg]
theorem gcd_sz {n : Nat} {x y : Int} (h : Sz n y) (hy : y ≠ 0) : Sz n (Int.gcd x y : Int) := by
 show (Int.gcd x y : Int).natAbs < 2 ^ n
 have : Int.gcd x y ≤ y.natAbs := Nat.le_of_dvd (by omega) (Int.gcd_dvd_natAbs_right ..)
 have h' : y.natAbs < 2 ^ n := h
 omega
theorem scMade : FnScope ["above", "below", "divisor"] ["above", "below"] (defScope sMade) := ⟨rfl, rfl, rfl, by decide +kernel, rfl, by decide +kernel, by decide +kernel⟩
theorem ok_made {f fC : Addr} {fd fdC : FuncData} (F : Fun K "made" "made" sMade f fd) (zabs : mg "abs" = none) (FC : Fun K "common" "common" sCommon fC fdC) (mC : mg "common" = some (.ref fC)) (bC : Binds K fdC ["one", "other"] []) :
 FnOk P w K mg base CX0 2 f fd ["above", "below"] spMade := by
 have GC : FnOk P w K mg base CX0 1 fC fdC ["one", "other"] spCommon := ok_common FC
 refine F.ok scMade (fun vs H Q E h => ?_) (fun cdv A outer s H vs Q E hr h => ?_)
 · obtain ⟨x, y, rfl, _⟩ := h
   rfl
 · obtain ⟨x, y, rfl, hy, sx, sy, k⟩ := h
   refine ⟨_, pss_cons (ps_set (i := 2) scMade.nd rfl (Or.inl rfl) (pe_call GC hr rfl mC FC.kp bC .nil pass0 (pa_cons (pe_callB call_abs (by rfl) zabs boot_abs (pa_cons (pv 0) pa_nil)) (pa_cons (pe_callB call_abs (by rfl) zabs boot_abs (pa_cons (pv 1) pa_nil)) pa_nil))))
    (pss_cons (ps_if (pt_cmpR op_lt (pv 1) pe_int (nomark _)) (pss_one (ps_set (i := 2) scMade.nd rfl (Or.inl rfl) (pe_un un_neg (pv 2)))) pss_nil)
    (pss_one (ps_ret (pe_tup (pa_cons (pe_op op_fdivB (pv 0) (pv 2)) (pa_cons (pe_op op_fdivB (pv 1) (pv 2)) pa_nil)))))), ?_⟩
   refine ⟨_, rfl, x, rfl, _, rfl, y, rfl, _, _, rfl, abs_nn x, abs_nn y, ?_⟩
   rw [abs_gcd]
   have hg := Pw.gpos (a := x) hy
   have sg := (gcd_sz (x := x) sy hy).mono (show 8000 ≤ 9000 by decide)
   refine ⟨_, rfl, _, _, rfl, rfl, _, rfl, ?_⟩
   refine if2 (fun h => ?_) (fun h => ?_)
   · have h : y < 0 := of_decide_eq_true h
     refine ⟨_, rfl, _, rfl, ?_⟩
     refine ⟨_, rfl, _, rfl, _, _, rfl, rfl, ⟨by omega, sg.neg⟩, _, rfl, _, rfl, _, _, rfl, rfl, ⟨by omega, sg.neg⟩, (by show 2 ≤ sizeLine; decide), fun p hp => ?_⟩
     have := k p hp
     unfold Pw.mk at this
     rw [if_pos h] at this
     exact this
   · have h : ¬ y < 0 := of_decide_eq_false h
     refine ⟨_, rfl, _, rfl, _, _, rfl, rfl, ⟨by omega, sg⟩, _, rfl, _, rfl, _, _, rfl, rfl, ⟨by omega, sg⟩, (by show 2 ≤ sizeLine; decide), fun p hp => ?_⟩
     have := k p hp
     unfold Pw.mk at this
     rw [if_neg h] at this
     exact this
theorem ndL : (["here", "there", "page"] : List Str).Nodup := by decide +kernel
theorem scLeads : FnScope ["web", "page"] ["web", "page"] (defScope sLeads) := ⟨rfl, rfl, rfl, by decide +kernel, rfl, by decide +kernel, by decide +kernel⟩
theorem ok_leads {f : Addr} {fd : FuncData} (F : Fun K "leads" "leads" sLeads f fd) : FnOk P w K mg base CX0 1 f fd ["web", "page"] (spLinks K Pw.outs) := by
 refine F.ok scLeads (fun vs H Q E h => ?_) (fun cdv A outer s H vs Q E hr h => ?_)
 · obtain ⟨x, y, z, ps, rfl, _⟩ := h
   rfl
 · obtain ⟨wa, pages, page, ps, rfl, ⟨ws, us, hw, hws, hp⟩, few, k⟩ := h
   refine ⟨_, pss_one (ps_ret (pe_compC ["here", "there", "page"] [none, none, some 1] rfl (pi_tup (pe_ix ix_tup (pv 0) pe_int (fun _ _ => rfl))) (by show ∀ y : Str × NameKind, y ∈ _ → y.2 = NameKind.free → (defScope sLeads).names.lookup y.1 = some .cell; decide +kernel) (by decide) rfl (by decide +kernel) ⟨⟨rfl, rfl, .inl rfl⟩, trivial⟩
    (fun cl C s H fp => pg_tupK (K := K) 2 rfl rfl (pgs_cons (pg_name (i := 0) ndL rfl (Or.inl rfl) (.inr rfl)) (pgs_cons (pg_name (i := 1) ndL rfl (Or.inl rfl) (.inr rfl)) pgs_nil)))
    (fun cl C s H fp => pts_one (pt_cmpR op_eq (pv 0) (pv 2) (nomark _)))
    (fun cl C s H fp => pv 1))), ?_⟩
   refine ⟨_, rfl, wa, _, _, _, rfl, rfl, SqT.of hw, rfl, ws, rfl, ⟨_, SqT.of hws⟩, fun D hD => ?_⟩
   have hl := hp.len
   refine comp_tup (K := K) (a := ws) (D := D) (xs := us) (fun i ys σ H' => Same H H' ∧ H' ws = some (.tup us) ∧ H' D = some (.lst ys) ∧ ys = (Pw.outs (ps.take i) page).map V.int ∧ ∃ x y, σ = [x, y, some (.int page)]) ?_ ?_ ?_ ?_
   · exact ⟨Same.new hD, Same.new hD _ _ hws, upd_same, rfl, none, none, rfl⟩
   · rintro i ys σ H' ⟨s1, hw1, hD1, _, _⟩
     exact ⟨SqT.of hw1, hD1⟩
   · rintro i v ys σ H' hi hlt ⟨s1, hw1, hD1, rfl, x, y, rfl⟩
     obtain ⟨a, p, e1, rfl, e2⟩ := hp.get hi
     have et : ps.take (i + 1) = ps.take i ++ [p] := by rw [List.take_succ, e1]; rfl
     refine ⟨a, _, rfl, s1.seqT e2, rfl, _, _, rfl, _, _, rfl, rfl, ?_⟩
     refine ⟨_, rfl, _, rfl, rfl, _, rfl, ?_⟩
     have hlen : ((Pw.outs (ps.take i) page).map V.int).length < sizeLine := by
      rw [List.length_map]
      have h1 := Pw.outs_len (ps.take i) page
      have h2 : (ps.take i).length ≤ ps.length := by rw [List.length_take]; omega
      have : (sizeLine : Nat) = 16777216 := sizeLine_eq
      omega
     by_cases c : p.1 = page
     · refine ifT (by rw [c]; simp) ?_
       refine ⟨_, rfl, hD1, hlen, Wt.next hlt ⟨fun b o e => ?_, ?_, upd_same, ?_, _, _, rfl⟩⟩
       · rw [upd_ne (ne_of_none e hD)]; exact s1 b o e
       · rw [upd_ne (ne_of_none hws hD)]; exact hw1
       · rw [et, Pw.outs_snoc, if_pos c, List.map_append]; rfl
     · refine ifF (by simpa using c) ?_
       exact Wt.next hlt ⟨s1, hw1, hD1, by rw [et, Pw.outs_snoc, if_neg c, List.append_nil], _, _, rfl⟩
   · rintro ys σ H' ⟨s1, hw1, hD1, rfl, _⟩
     rw [hl, List.take_of_length_le (Nat.le_refl _)] at hD1
     exact k D H' s1 hD hD1
theorem d_made (S : Fnd K mg "made" sMade ["above", "below"]) (C : Fnd K mg "common" sCommon ["one", "other"]) (T : Txt mg) : Def P w K mg base 2 "made" ["above", "below"] spMadeS := by
 obtain ⟨fC, fdC, FC, mC, bC⟩ := C
 exact S.def fun f fd F => (ok_made F T.abs FC mC bC).imp fun vs H Q E ⟨x, y, e, h1, h2, h3, h4⟩ => ⟨x, y, e, h1, h2, h3, fun p hp => h4 p _ (Same.new hp) upd_same⟩
theorem d_leads (S : Fnd K mg "leads" sLeads ["web", "page"]) : Def P w K mg base 1 "leads" ["web", "page"] (spLinks K Pw.outs) := S.def fun f fd F => ok_leads F
end
end Lw

set_option pp.maxSteps 800
namespace Lw
open PySem L2 PyProof.Rows
section
variable {P : Program} {w : World} {K : PySem.W.Frag} {mg : Str → Option Value} {base : Heap}
theorem d_common (S : Fnd K mg "common" sCommon ["one", "other"]) : Def P w K mg base 1 "common" ["one", "other"] spCommon := S.def fun f fd F => ok_common F
theorem scBelow : FnScope ["some", "whole", "each"] ["some"] (defScope sBelow) := ⟨rfl, rfl, rfl, by decide +kernel, rfl, by decide +kernel, by decide +kernel⟩
theorem d_below (S : Fnd K mg "shared_below" sBelow ["some"]) (C : Def P w K mg base 1 "common" ["one", "other"] spCommon) : Def P w K mg base 2 "shared_below" ["some"] (spBelow K) := S.def fun f fd F => by
 have nd := scBelow.nd
 refine F.ok scBelow (fun vs H Q E h => ?_) (fun cdv A' outer s H vs Q E hr h => ?_)
 · obtain ⟨_, _, _, _, _, rfl, _⟩ := h
   rfl
 · obtain ⟨b, a, us, As, M, rfl, hq, fl, pos, hM, zM, dv, k⟩ := h
   refine ⟨_, @pss_cons _ _ _ _ _ (@ps_setX _ _ 1 _ _ _ _ (by rfl) (Or.inl rfl) nd rfl (Or.inl rfl) pe_int)
    (@pss_cons _ _ _ _ _ (@ps_forX _ _ _ _ _ _ _ _ (fun _ => rfl) PassesOwn.never rfl (pi_seq (pv 0)) (pg_name (i := 2) nd rfl (Or.inl rfl))
     (@pss_one _ _ _ (@ps_setX _ _ 1 _ _ _ _ (by rfl) (Or.inl rfl) nd rfl (Or.inl rfl) (pe_op op_mulB (pe_op op_fdivB (pv 1) (pe_def (by rfl) (by rfl) (by rfl) (by decide) C hr (@pa_consX _ _ _ _ _ (by rfl) (pv 1) (@pa_consX _ _ _ _ _ (by rfl) (pe_ix ix_tup (pv 2) pe_int (fun _ _ => rfl)) pa_nil)))) (pe_ix ix_tup (pv 2) pe_int (fun _ _ => rfl))))))
    (@pss_one _ _ _ (@ps_ret _ _ _ _ (pv 1)))), ?_⟩
   refine ⟨_, rfl, b, a, rfl, ⟨us, hq⟩, ?_⟩
   have hl := fl.len
   refine for_seq (b := b) (K := K) (a := a) (xs := us) (fun i σ G => G = H ∧ ∃ (L : Int) (v : Option V), Pw.IsLcm (As.take i) L ∧ σ = [some (.ref a), some (.int L), v]) ⟨rfl, 1, none, Pw.IsLcm.nil, rfl⟩ (fun i σ G _ h => h.1 ▸ hq) ?_ ?_
   · rintro i x σ G hi ⟨rfl, L, v, hL, rfl⟩
     have hlt : i < us.length := (List.getElem?_eq_some_iff.mp hi).1
     have hA : As[i]? = some As[i] := by simp
     obtain ⟨p, ep, fp⟩ := fl.at hA
     rw [hi] at ep
     cases ep
     have mA := List.mem_of_getElem? hA
     have pA := pos _ mA
     have zL : Sz 8000 L := IsLcm.takeM hL hM (fun A hA => dv A (List.mem_of_mem_take hA)) zM
     have zA : Sz 8000 As[i].2 := le_sz (by omega) (Int.le_of_dvd hM (dv _ mA)) zM
     obtain ⟨g1, g2⟩ := gcd_le (x := L) pA
     have hLp := hL.pos
     refine ⟨_, rfl, _, rfl, _, rfl, p, _, _, _, rfl, rfl, SqT.of fp, rfl, L, As[i].2, rfl, by omega, by omega, _, _, rfl, rfl, ⟨by omega, (le_sz (by omega) g2 zA).mono (by decide)⟩, _, rfl, p, _, _, _, rfl, rfl, SqT.of fp, rfl, _, _, rfl, rfl, ⟨(fdiv_sz hLp g1 zL).mono (by decide), zA.mono (by decide)⟩, rfl, _, _, ?_, rfl⟩
     rw [List.take_succ, hA]
     exact hL.snoc pA
   · rintro σ G ⟨rfl, L, v, hL, rfl⟩
     rw [hl, List.take_of_length_le (Nat.le_refl _)] at hL
     exact ⟨_, rfl, k L hL⟩
theorem ndAb : (["each", "below"] : List Str).Nodup := by decide +kernel
theorem scAboves : FnScope ["some", "below"] ["some", "below"] (defScope sAboves) := ⟨rfl, rfl, rfl, by decide +kernel, rfl, by decide +kernel, by decide +kernel⟩
theorem d_aboves (S : Fnd K mg "aboves" sAboves ["some", "below"]) : Def P w K mg base 1 "aboves" ["some", "below"] (spAboves K) := S.def fun f fd F => by
 refine F.ok scAboves (fun vs H Q E h => ?_) (fun cdv A' outer s H vs Q E hr h => ?_)
 · obtain ⟨_, _, _, _, _, rfl, _⟩ := h
   rfl
 · obtain ⟨b, a, us, As, L, rfl, hq, fl, few, pos, hL, zL, k⟩ := h
   refine ⟨_, @pss_one _ _ _ (@ps_ret _ _ _ _ (pe_compC ["each", "below"] [none, some 1] rfl (pi_seq (pv 0)) (by show ∀ y : Str × NameKind, y ∈ _ → y.2 = NameKind.free → (defScope sAboves).names.lookup y.1 = some .cell; decide +kernel) (by decide) rfl (by decide +kernel) ⟨⟨rfl, rfl, .inl rfl⟩, trivial⟩
    (fun cl C s H fp => pg_name (i := 0) ndAb rfl (Or.inl rfl) (.inr rfl)) (fun cl C s H fp => pts_nil)
    (fun cl C s H fp => pe_op op_mulB (pe_ix (ix_tupK (K := K) rfl) (pv 0) pe_int (fun _ _ => rfl)) (pe_op op_fdivB (pv 1) (pe_ix (ix_tupK (K := K) rfl) (pv 0) pe_int (fun _ _ => rfl)))))), ?_⟩
   refine ⟨_, rfl, b, a, rfl, ⟨us, hq⟩, fun D hD => ?_⟩
   have hl := fl.len
   refine comp_seq (b := b) (K := K) (a := a) (D := D) (xs := us) (fun i ys σ H' => Same H H' ∧ H' D = some (.lst ys) ∧ ys = (Pw.abv (As.take i) L).map V.int ∧ ∃ x, σ = [x, some (.int L)]) ?_ ?_ ?_ ?_
   · exact ⟨Same.new hD, upd_same, rfl, none, rfl⟩
   · rintro i ys σ H' ⟨s1, e1, _⟩
     exact ⟨hq.same s1, e1⟩
   · rintro i x ys σ H' hi hlt ⟨s1, e1, rfl, x', rfl⟩
     have hA : As[i]? = some As[i] := by simp
     obtain ⟨p, ep, fp⟩ := fl.at hA
     rw [hi] at ep
     cases ep
     have mA := List.mem_of_getElem? hA
     obtain ⟨pA, zA⟩ := pos _ mA
     have fp' := s1 _ _ fp
     dsimp only [gName]
     rw [if_pos rfl]
     refine ⟨_, rfl, p, _, _, _, rfl, rfl, SqT.of fp', rfl, _, rfl, _, rfl, p, _, _, _, rfl, rfl, SqT.of fp', rfl, _, _, rfl, rfl, ⟨by omega, zA.2.mono (by decide)⟩, _, _, rfl, rfl, ⟨zA.1.mono (by decide), (fdiv_sz hL pA zL).mono (by decide)⟩, e1, ?_, Wt.next hlt ⟨fun b o e => ?_, upd_same, ?_, _, rfl⟩⟩
     · unfold Pw.abv
       rw [List.length_map, List.length_map, List.length_take]
       exact small1000 (by omega)
     · rw [upd_ne (ne_of_none e hD)]; exact s1 _ _ e
     · unfold Pw.abv
       rw [List.take_succ, hA, List.map_append, List.map_append]
       rfl
   · rintro ys σ H' ⟨s1, e1, rfl, _⟩
     rw [hl, List.take_of_length_le (Nat.le_refl _)] at e1
     exact k D H' s1 hD e1
theorem scParts : FnScope ["web", "page"] ["web", "page"] (defScope sParts) := ⟨rfl, rfl, rfl, by decide +kernel, rfl, by decide +kernel, by decide +kernel⟩
theorem d_parts (S : Fnd K mg "parts" sParts ["web", "page"]) (T : Txt mg) (Ld : Def P w K mg base 1 "leads" ["web", "page"] (spLinks K Pw.outs)) : Def P w K mg base 2 "parts" ["web", "page"] (spParts K) := S.def fun f fd F => by
 refine F.ok scParts (fun vs H Q E h => ?_) (fun cdv A' outer s H vs Q E hr h => ?_)
 · obtain ⟨_, _, _, _, rfl, _⟩ := h
   rfl
 · obtain ⟨wa, pages, j, ps, rfl, hw, few, k⟩ := h
   refine ⟨_, @pss_one _ _ _ (@ps_ret _ _ _ _ (pe_callB (call_max2 rfl) (by rfl) T.max boot_max (@pa_consX _ _ _ _ _ (by rfl) pe_int (@pa_consX _ _ _ _ _ (by rfl) (pe_callB call_len_seq (by rfl) T.len PySem.boot_len (@pa_consX _ _ _ _ _ (by rfl) (pe_def (by rfl) (by rfl) (by rfl) (by decide) Ld hr (@pa_consX _ _ _ _ _ (by rfl) (pv 0) (@pa_consX _ _ _ _ _ (by rfl) (pv 1) pa_nil))) pa_nil)) pa_nil)))), ?_⟩
   refine ⟨_, rfl, _, rfl, wa, pages, j, ps, rfl, hw, few, fun l H1 s1 n1 e1 => ?_⟩
   refine ⟨l, _, rfl, .inl (SqL.of e1), _, _, rfl, ?_⟩
   have := k H1 s1
   unfold Pw.mp at this
   rw [List.length_map]
   have e : (if (((Pw.outs ps (j : Int)).length : Nat) : Int) > 1 then (((Pw.outs ps (j : Int)).length : Nat) : Int) else 1) = ((max 1 (Pw.outs ps (j : Int)).length : Nat) : Int) := by split <;> omega
   rw [e]
   exact this
theorem scFactor : FnScope ["web", "leap", "here", "there", "along"] ["web", "leap", "here", "there"] (defScope sFactor) := ⟨rfl, rfl, rfl, by decide +kernel, rfl, by decide +kernel, by decide +kernel⟩
theorem d_factor (S : Fnd K mg "factor" sFactor ["web", "leap", "here", "there"]) (T : Txt mg) (Pa : Def P w K mg base 2 "parts" ["web", "page"] (spParts K)) : Def P w K mg base 3 "factor" ["web", "leap", "here", "there"] (spFactor K) := S.def fun f fd F => by
 have nd := scFactor.nd
 refine F.ok scFactor (fun vs H Q E h => ?_) (fun cdv A' outer s H vs Q E hr h => ?_)
 · obtain ⟨_, _, _, _, _, _, _, rfl, _⟩ := h
   rfl
 · obtain ⟨wa, lp, pages, j, i, ps, A, rfl, hw, few, hA, sa, k⟩ := h
   refine ⟨_, @pss_cons _ _ _ _ _ (@ps_setX _ _ 4 _ _ _ _ (by rfl) (Or.inl rfl) nd rfl (Or.inl rfl) (pe_op op_mulB (pe_op op_sub (pe_ix ix_tup (pv 1) pe_int (fun _ _ => rfl)) (pe_ix ix_tup (pv 1) pe_int (fun _ _ => rfl))) (pe_bmT (by rfl) (by rfl) (by rfl) (by rfl) (by rfl) PySem.F.plainAttrs_tuple PySem.F.slot_tuple_count PySem.F.type_tuple_count (mt_countT hr) (pe_ix ix_tup (pv 0) pe_int (fun _ _ => rfl)) (@pa_consX _ _ _ _ _ (by rfl) (@pe_tupS _ _ _ _ _ (@pa_consX _ _ _ _ _ (by rfl) (pv 2) (@pa_consX _ _ _ _ _ (by rfl) (pv 3) pa_nil))) pa_nil))))
    (@pss_cons _ _ _ _ _ (@ps_if _ _ _ _ _ _ _ _ (pt_cmpR op_eq (pv 2) (pv 3) (nomark _)) (@pss_one _ _ _ (@ps_ret _ _ _ _ (pe_op op_sub (pe_op op_mulB (pe_ix ix_tup (pv 1) pe_int (fun _ _ => rfl)) (pe_def (by rfl) (by rfl) (by rfl) (by decide) Pa hr (@pa_consX _ _ _ _ _ (by rfl) (pv 0) (@pa_consX _ _ _ _ _ (by rfl) (pv 2) pa_nil)))) (pv 4)))) pss_nil)
    (@pss_one _ _ _ (@ps_ret _ _ _ _ (pe_un un_neg (pv 4))))), ?_⟩
   obtain ⟨ws, uw, hwa, hws, hpw⟩ := id hw
   have hol := Pw.outs_len ps (j : Int)
   have hcc := List.count_le_length (a := (i : Int)) (l := Pw.outs ps (j : Int))
   refine ⟨_, rfl, lp, _, _, _, rfl, rfl, SqT.of hA, rfl, _, rfl, lp, _, _, _, rfl, rfl, SqT.of hA, rfl, _, _, rfl, rfl, ?_⟩
   refine ⟨_, rfl, wa, _, _, _, rfl, rfl, SqT.of hwa, rfl, ⟨ws, uw, rfl, hws⟩, _, rfl, _, rfl, (by show 2 ≤ sizeLine; decide), fun q H1 s1 n1 e1 => ?_⟩
   refine ⟨ws, q, uw, ps, ((j : Int), (i : Int)), rfl, rfl, s1 _ _ hws, hpw.kl s1.kl, SqT.of e1, ?_⟩
   rw [Pw.cn_count]
   have zc : Sz 10 (Pw.cn ps j i) := sz_of 10 (by unfold Pw.cn; omega)
   refine ⟨_, _, rfl, rfl, ⟨(sa.2.sub sa.1).mono (by decide), zc.mono (by decide)⟩, ?_⟩
   refine ⟨_, rfl, _, rfl, rfl, _, rfl, ?_⟩
   unfold Pw.fac at k
   by_cases e : j = i
   · refine ifT (by subst e; simp) ?_
     rw [if_pos e] at k
     refine ⟨_, rfl, lp, _, _, _, rfl, rfl, SqT.of (s1 _ _ hA), rfl, _, rfl, _, rfl, wa, pages, j, ps, rfl, hw.same s1, few, fun H2 s2 => ?_⟩
     have zm : Sz 10 (Pw.mp ps j) := sz_of 10 (by unfold Pw.mp; omega)
     exact ⟨_, _, rfl, rfl, ⟨sa.2.mono (by decide), zm.mono (by decide)⟩, _, rfl, _, _, rfl, rfl, k H2 (s1.trans s2)⟩
   · refine ifF (by simp; omega) ?_
     rw [if_neg e] at k
     exact ⟨_, rfl, _, rfl, k H1 s1⟩
theorem ndEq : (["here", "web", "leap", "page"] : List Str).Nodup := by decide +kernel
theorem scEquation : FnScope ["web", "leap", "page", "start"] ["web", "leap", "page", "start"] (defScope sEquation) := ⟨rfl, rfl, rfl, by decide +kernel, rfl, by decide +kernel, by decide +kernel⟩
theorem d_equation (S : Fnd K mg "equation" sEquation ["web", "leap", "page", "start"]) (T : Txt mg) (Fa : Def P w K mg base 3 "factor" ["web", "leap", "here", "there"] (spFactor K)) : Def P w K mg base 4 "equation" ["web", "leap", "page", "start"] (spEquation K) := S.def fun f fd F => by
 refine F.ok scEquation (fun vs H Q E h => ?_) (fun cdv A' outer s H vs Q E hr h => ?_)
 · obtain ⟨_, _, _, _, _, _, _, rfl, _⟩ := h
   rfl
 · obtain ⟨wa, lp, pages, i, st, ps, A, rfl, hw, plo, phi, few, hA, sa, k⟩ := h
   refine ⟨_, @pss_one _ _ _ (@ps_ret _ _ _ _ (pe_op op_catS (pe_compC ["here", "web", "leap", "page"] [none, some 0, some 1, some 2] rfl (pi_range1 rfl T.range (@pa_consX _ _ _ _ _ (by rfl) (pe_ix ix_tup (pv 0) pe_int (fun _ _ => rfl)) pa_nil))
    (by show ∀ y : Str × NameKind, y ∈ _ → y.2 = NameKind.free → (defScope sEquation).names.lookup y.1 = some .cell; decide +kernel) (by decide) rfl (by decide +kernel) ⟨⟨rfl, rfl, .inl rfl⟩, ⟨rfl, rfl, .inl rfl⟩, ⟨rfl, rfl, .inl rfl⟩, trivial⟩
    (fun cl C s H fp => pg_name (i := 0) ndEq rfl (Or.inl rfl) (.inr rfl)) (fun cl C s H fp => pts_nil)
    (fun cl C s H fp => pe_def (by rfl) (by rfl) (by rfl) (by decide) Fa hr (@pa_consX _ _ _ _ _ (by rfl) (pv 1) (@pa_consX _ _ _ _ _ (by rfl) (pv 2) (@pa_consX _ _ _ _ _ (by rfl) (pv 0) (@pa_consX _ _ _ _ _ (by rfl) (pv 3) pa_nil)))))) (@pe_lstS _ _ _ _ (@pa_consX _ _ _ _ _ (by rfl) (pv 3) pa_nil)))), ?_⟩
   obtain ⟨ws, uw, hwa, hws, hpw⟩ := id hw
   refine ⟨_, rfl, wa, _, _, _, rfl, rfl, SqT.of hwa, rfl, pages, rfl, by omega, by omega, fun D hD => ?_⟩
   refine comp_rng (lo := 0) (n := pages.toNat) (D := D) (fun j ys σ H' => Same H H' ∧ H' D = some (.lst ys) ∧ ys = rowI (fun j => Pw.fac ps A j i) j ∧ ∃ x, σ = [x, some (.ref wa), some (.ref lp), some (.int i)]) ?_ ?_ ?_ ?_
   · exact ⟨Same.new hD, upd_same, rfl, none, rfl⟩
   · rintro j ys σ H' ⟨_, e, _⟩
     exact e
   · rintro j ys σ H' hj ⟨s1, e1, rfl, x, rfl⟩
     rw [Int.zero_add]
     dsimp only [gName]
     rw [if_pos rfl]
     refine ⟨_, rfl, _, rfl, _, rfl, _, rfl, wa, lp, pages, j, i, ps, A, rfl, hw.same s1, few, s1 _ _ hA, sa, fun H2 s2 => ?_⟩
     refine ⟨s2 _ _ e1, by rw [rowI_len]; exact small1000 (by omega), Wt.next hj ⟨fun b o e => ?_, upd_same, (rowI_succ _ _).symm, _, rfl⟩⟩
     rw [upd_ne (ne_of_none e hD)]; exact s2 _ _ (s1 _ _ e)
   rintro ys σ H1 ⟨s1, e1, rfl, _⟩
   refine ⟨_, rfl, (by show 1 ≤ sizeLine; decide), fun l H2 s2 n2 e2 => ?_⟩
   refine ⟨D, l, _, _, rfl, rfl, s2 _ _ e1, e2, by rw [rowI_len]; exact Nat.le_of_lt (small1000 (by show pages.toNat + 1 ≤ 1000; omega)), fun p H3 s3 n3 e3 => ?_⟩
   have n : H p = none := (s1.trans s2).free n3
   exact k p H3 (s1.trans (s2.trans s3)) n e3
theorem ndCl : (["one", "two", "chosen", "place", "equation", "before"] : List Str).Nodup := by decide +kernel
theorem scCleared : FnScope ["equation", "chosen", "place", "before"] ["equation", "chosen", "place", "before"] (defScope sCleared) := ⟨rfl, rfl, rfl, by decide +kernel, rfl, by decide +kernel, by decide +kernel⟩
theorem d_cleared (S : Fnd K mg "cleared" sCleared ["equation", "chosen", "place", "before"]) (T : Txt mg) : Def P w K mg base 1 "cleared" ["equation", "chosen", "place", "before"] (spCleared K) := S.def fun f fd F => by
 refine F.ok scCleared (fun vs H Q E h => ?_) (fun cdv A' outer s H vs Q E hr h => ?_)
 · obtain ⟨_, _, _, _, _, _, _, rfl, _⟩ := h
   rfl
 · obtain ⟨e, c, kk, m, d, f1, g1, rfl, he, hc, hk, hm, hd, zd, zz, k⟩ := h
   refine ⟨_, @pss_one _ _ _ (@ps_ret _ _ _ _ (pe_compC ["one", "two", "chosen", "place", "equation", "before"] [none, none, some 1, some 2, some 0, some 3] rfl (pi_zipK (by rfl) (by rfl) (by rfl) rfl T.zip (@pa_consX _ _ _ _ _ (by rfl) (pv 0) (@pa_consX _ _ _ _ _ (by rfl) (pv 1) pa_nil)))
    (by show ∀ y : Str × NameKind, y ∈ _ → y.2 = NameKind.free → (defScope sCleared).names.lookup y.1 = some .cell; decide +kernel) (by decide) rfl (by decide +kernel) ⟨⟨rfl, rfl, .inl rfl⟩, ⟨rfl, rfl, .inl rfl⟩, ⟨rfl, rfl, .inl rfl⟩, ⟨rfl, rfl, .inl rfl⟩, trivial⟩
    (fun cl C s H fp => pg_tupK (K := K) 2 rfl rfl (pgs_cons (pg_name (i := 0) ndCl rfl (Or.inl rfl) (.inr rfl)) (pgs_cons (pg_name (i := 1) ndCl rfl (Or.inl rfl) (.inr rfl)) pgs_nil)))
    (fun cl C s H fp => pts_nil)
    (fun cl C s H fp => pe_op op_fdivB (pe_op op_sub (pe_op op_mulB (pe_ix (ix_listK (K := K) rfl) (pv 2) (pv 3) (fun _ _ => rfl)) (pv 0)) (pe_op op_mulB (pe_ix (ix_listK (K := K) rfl) (pv 4) (pv 3) (fun _ _ => rfl)) (pv 1))) (pv 5)))), ?_⟩
   refine ⟨_, rfl, _, rfl, e, c, _, _, rfl, SqL.of he, SqL.of hc, fun D hD => ?_⟩
   refine comp_zip (K := K) (a := e) (b := c) (D := D) (xs := rowI f1 m) (zs := rowI g1 m) (by rw [rowI_len, rowI_len]) (fun i ys σ H' => Same H H' ∧ H' D = some (.lst ys) ∧ ys = rowI (fun j => (g1 kk * f1 j - f1 kk * g1 j).fdiv d) i ∧ ∃ x y, σ = [x, y, some (.ref c), some (.int kk), some (.ref e), some (.int d)]) ?_ ?_ ?_ ?_
   · exact ⟨Same.new hD, upd_same, rfl, none, none, rfl⟩
   · rintro i ys σ H' ⟨s2, e2, _⟩
     exact ⟨SqL.of (s2 _ _ he), SqL.of (s2 _ _ hc), e2⟩
   · rintro i x z ys σ H' TT G hi hz hlt ⟨s2, e2, rfl, x', y', rfl⟩ hTT sG eT
     rw [rowI_len] at hlt
     rw [rowI_get hlt] at hi hz
     cases hi
     cases hz
     obtain ⟨z1, z2⟩ := zz i hlt
     obtain ⟨z3, z4⟩ := zz kk hk
     refine ⟨TT, _, rfl, SqT.of eT, rfl, _, _, rfl, _, _, rfl, rfl, ?_⟩
     dsimp only [gName]
     rw [if_pos rfl]
     refine ⟨_, rfl, _, rfl, c, _, (kk : Nat), .int (g1 kk), rfl, rfl, SqL.of (sG _ _ (s2 _ _ hc)), atI_nat (rowI_get hk), _, rfl, _, _, rfl, rfl, ⟨z4.mono (by decide), z1.mono (by decide)⟩, ?_⟩
     refine ⟨_, rfl, _, rfl, e, _, (kk : Nat), .int (f1 kk), rfl, rfl, SqL.of (sG _ _ (s2 _ _ he)), atI_nat (rowI_get hk), _, rfl, _, _, rfl, rfl, ⟨z3.mono (by decide), z2.mono (by decide)⟩, _, _, rfl, rfl, _, rfl, _, _, rfl, rfl, ⟨hd, zd.mono (by decide)⟩, ?_⟩
     refine ⟨sG _ _ e2, by rw [rowI_len]; exact small1000 (by omega), Wt.next (by rw [rowI_len]; exact hlt) ⟨fun b o eb => ?_, upd_same, (rowI_succ _ _).symm, _, _, rfl⟩⟩
     rw [upd_ne (ne_of_none eb hD)]; exact sG _ _ (s2 _ _ eb)
   · rintro ys σ H' ⟨s2, e2, rfl, _⟩
     rw [rowI_len] at e2
     exact k D H' s2 hD e2
theorem ndSo : (["turn", "each", "place", "chosen", "before"] : List Str).Nodup := by decide +kernel
theorem scSolved : FnScope ["equations", "before", "place", "chosen"] ["equations"] (defScope sSolved) := ⟨rfl, rfl, rfl, by decide +kernel, rfl, by decide +kernel, by decide +kernel⟩
theorem d_solved (S : Fnd K mg "solved" sSolved ["equations"]) (T : Txt mg) (Cl : Def P w K mg base 1 "cleared" ["equation", "chosen", "place", "before"] (spCleared K)) : Def P w K mg base 2 "solved" ["equations"] (spSolved K) := S.def fun f fd F => by
 have nd := scSolved.nd
 refine F.ok scSolved (fun vs H Q E h => ?_) (fun cdv A' outer s H vs Q E hr h => ?_)
 · obtain ⟨_, _, _, _, _, rfl, _⟩ := h
   rfl
 · obtain ⟨e0, us0, n, z, f0, rfl, he0, mt0, sg, n1, n12, hz, hb, k⟩ := h
   refine ⟨_, @pss_cons _ _ _ _ _ (@ps_setX _ _ 1 _ _ _ _ (by rfl) (Or.inl rfl) nd rfl (Or.inr rfl) pe_int)
    (@pss_cons _ _ _ _ _ (@ps_forX _ _ _ _ _ _ _ _ (fun _ => rfl) PassesOwn.never rfl (pi_range1 rfl T.range (@pa_consX _ _ _ _ _ (by rfl) (pe_callB call_len_seq (by rfl) T.len PySem.boot_len (@pa_consX _ _ _ _ _ (by rfl) (pv 0) pa_nil)) pa_nil)) (pg_name (i := 2) nd rfl (Or.inr rfl))
     (@pss_cons _ _ _ _ _ (@ps_setX _ _ 3 _ _ _ _ (by rfl) (Or.inl rfl) nd rfl (Or.inr rfl) (pe_ix ix_list (pv 0) (pv 2) (fun _ _ => rfl)))
     (@pss_cons _ _ _ _ _ (ps_setC 0 ["turn", "each", "place", "chosen", "before"] [none, none, some 2, some 3, some 1] (by rfl) nd rfl rfl rfl (pi_enLK (by rfl) (by rfl) rfl T.enu (@pa_consX _ _ _ _ _ (by rfl) (pv 0) pa_nil))
      (by show ∀ y : Str × NameKind, y ∈ _ → y.2 = NameKind.free → (defScope sSolved).names.lookup y.1 = some .cell; decide +kernel) (by decide) rfl (by decide +kernel) ⟨⟨rfl, rfl, .inl rfl⟩, ⟨rfl, rfl, .inl rfl⟩, ⟨rfl, rfl, .inl rfl⟩, trivial⟩
      (fun cl C s H fp => pg_tupK (K := K) 2 rfl rfl (pgs_cons (pg_name (i := 0) ndSo rfl (Or.inl rfl) (.inr rfl)) (pgs_cons (pg_name (i := 1) ndSo rfl (Or.inl rfl) (.inr rfl)) pgs_nil)))
      (fun cl C s H fp => pts_nil)
      (fun cl C s H fp => pe_ifExp (pt_cmpR op_eq (pv 0) (pv 2) (nomark _)) (pv 3) (pe_def (by rfl) (by rfl) (by rfl) (by decide) Cl hr (@pa_consX _ _ _ _ _ (by rfl) (pv 1) (@pa_consX _ _ _ _ _ (by rfl) (pv 3) (@pa_consX _ _ _ _ _ (by rfl) (pv 2) (@pa_consX _ _ _ _ _ (by rfl) (pv 4) pa_nil)))))))
     (@pss_one _ _ _ (@ps_setX _ _ 1 _ _ _ _ (by rfl) (Or.inl rfl) nd rfl (Or.inr rfl) (pe_ix ix_list (pv 3) (pv 2) (fun _ _ => rfl)))))))
    (@pss_one _ _ _ (@ps_ret _ _ _ _ (@pe_tupS _ _ _ _ _ (@pa_consX _ _ _ _ _ (by rfl) (pe_compC ["each"] [none] rfl (@pi_list _ _ _ _ (pv 0)) (by show ∀ y : Str × NameKind, y ∈ _ → y.2 = NameKind.free → (defScope sSolved).names.lookup y.1 = some .cell; decide +kernel) (by decide) rfl (by decide +kernel) trivial
     (fun cl C s H fp => pg_name (i := 0) (show (["each"] : List Str).Nodup by decide +kernel) rfl (Or.inl rfl) (.inr rfl)) (fun cl C s H fp => pts_nil)
     (fun cl C s H fp => pe_ix (ix_listK (K := K) rfl) (pv 0) pe_neg1 (fun _ _ => rfl))) (@pa_consX _ _ _ _ _ (by rfl) (pv 1) pa_nil)))))), ?_⟩
   have hlu := mt0.1
   refine ⟨_, rfl, e0, us0, rfl, .inl (SqL.of he0), (us0.length : Int), rfl, by omega, by omega, ?_⟩
   rw [hlu]
   refine for_range (lo := 0) (n := (n : Int).toNat) (fun j σ G => Same H G ∧ ∃ (eq : Addr) (us : List V) (v2 v3 : Option V), G eq = some (.lst us) ∧ MatL G n (n + 1) (Pw.fF f0 j).1 us ∧ σ = [some (.ref eq), some (.int (Pw.fF f0 j).2), v2, v3]) ?_ ?_ ?_
   · exact ⟨Same.refl _, e0, us0, none, none, he0, mt0, rfl⟩
   · rintro j σ G hj ⟨sG, eq, us, v2, v3, eE, mt, rfl⟩
     rw [Int.zero_add]
     have hjn : j < n := by omega
     obtain ⟨st, sgn, dp, dl⟩ := Pw.fF_ok sg j (by omega)
     obtain ⟨zf, zd⟩ := fF_sz sg n12 hb (k := j) (by omega)
     obtain ⟨q, eq1, hq⟩ := mt.2 j hjn
     have hlm := mt.1
     refine ⟨_, rfl, _, rfl, eq, us, (j : Nat), .ref q, rfl, rfl, SqL.of eE, atI_nat eq1, ?_⟩
     refine ⟨_, rfl, eq, us, rfl, SqL.of eE, fun D hD => ?_⟩
     refine comp_enL (K := K) (a := eq) (D := D) (xs := us) (fun i ys σ H' => Same G H' ∧ H' D = some (.lst ys) ∧ (∀ i : Nat, ys[i]? ≠ some (V.ref D)) ∧ MatL H' i (n + 1) (Pw.stepF (Pw.fF f0 j).1 j (Pw.fF f0 j).2) ys ∧ ∃ x y, σ = [x, y, some (.int j), some (.ref q), some (.int (Pw.fF f0 j).2)]) ?_ ?_ ?_ ?_
     · exact ⟨Same.new hD, upd_same, fun i => by simp, ⟨rfl, fun i hi => by omega⟩, none, none, rfl⟩
     · rintro i ys σ H' ⟨s1, e1, _⟩
       exact ⟨SqL.of (s1 _ _ eE), e1⟩
     · rintro i x ys σ H' TT G1 hi hlt ⟨s1, e1, nD, mt1, x', y', rfl⟩ hTT s2 eT
       obtain ⟨q2, eq2, hq2⟩ := mt.2 i (by omega)
       rw [hi] at eq2
       cases eq2
       have s12 := s1.trans s2
       refine ⟨TT, _, rfl, SqT.of eT, rfl, _, _, rfl, _, _, rfl, rfl, ?_⟩
       dsimp only [gName]
       rw [if_pos rfl]
       have e1' := s2 _ _ e1
       have fin : ∀ (r : Addr) (G2 : Hp), Same G1 G2 → r ≠ D → G2 r = some (.lst (rowI (Pw.stepF (Pw.fF f0 j).1 j (Pw.fF f0 j).2 i) (n + 1))) → G2 D = some (.lst ys) ∧ ys.length < sizeLine ∧ ∃ m', m' < us.length - i ∧ Wt (fun i ys σ H' => Same G H' ∧ H' D = some (.lst ys) ∧ (∀ i : Nat, ys[i]? ≠ some (V.ref D)) ∧ MatL H' i (n + 1) (Pw.stepF (Pw.fF f0 j).1 j (Pw.fF f0 j).2) ys ∧ ∃ x y, σ = [x, y, some (.int j), some (.ref q), some (.int (Pw.fF f0 j).2)]) us.length (i + 1) m' (ys ++ [.ref r]) [some (.int i), some (.ref q2), some (.int j), some (.ref q), some (.int (Pw.fF f0 j).2)] (upd G2 D (.lst (ys ++ [.ref r]))) := fun r G2 s3 hrD hr2 => by
        have nD' : ∀ i : Nat, (ys ++ [V.ref r])[i]? ≠ some (V.ref D) := fun i' z => by
         by_cases hi' : i' < ys.length
         · rw [List.getElem?_append_left hi'] at z
           exact nD i' z
         · rw [List.getElem?_append_right (by omega)] at z
           cases hz' : i' - ys.length with
           | zero => rw [hz'] at z; simp at z; exact hrD z
           | succ m => rw [hz'] at z; simp at z
        refine ⟨s3 _ _ e1', by rw [mt1.1]; exact small1000 (by omega), Wt.next hlt ⟨fun b o eb => ?_, upd_same, nD', ?_, _, _, rfl⟩⟩
        · rw [upd_ne (ne_of_none eb hD)]; exact s3 _ _ (s12 _ _ eb)
        · exact MatL.put (xs := []) ((mt1.same (s2.trans s3)).snoc hr2) fun i' _ => nD' i'
       refine ⟨_, rfl, _, rfl, rfl, _, rfl, ?_⟩
       by_cases hij : i = j
       · refine ifT (by subst hij; simp) ?_
         refine ⟨_, rfl, fin q G1 (Same.refl _) (ne_of_none hq hD) ?_⟩
         · have e : rowI (Pw.stepF (Pw.fF f0 j).1 j (Pw.fF f0 j).2 i) (n + 1) = rowI ((Pw.fF f0 j).1 j) (n + 1) := rowI_congr fun t ht => by unfold Pw.stepF; rw [if_pos hij]
           rw [e]
           exact s12 _ _ hq
       · refine ifF (by simp; omega) ?_
         refine ⟨_, rfl, _, rfl, _, rfl, _, rfl, q2, q, j, n + 1, _, (Pw.fF f0 j).1 i, (Pw.fF f0 j).1 j, rfl, s12 _ _ hq2, s12 _ _ hq, by omega, by omega, by omega, zd.mono (by omega), fun t ht => ⟨(zf i t (by omega) (by omega)).mono (by omega), (zf j t (by omega) (by omega)).mono (by omega)⟩, fun r G2 s3 n3 e3 => ?_⟩
         refine fin r G2 s3 (fun z => ?_) ?_
         · rw [z, e1'] at n3
           cases n3
         · have e : rowI (Pw.stepF (Pw.fF f0 j).1 j (Pw.fF f0 j).2 i) (n + 1) = rowI (fun t => ((Pw.fF f0 j).1 j j * (Pw.fF f0 j).1 i t - (Pw.fF f0 j).1 i j * (Pw.fF f0 j).1 j t).fdiv (Pw.fF f0 j).2) (n + 1) := rowI_congr fun t ht => by unfold Pw.stepF; rw [if_neg hij]
           rw [e]
           exact e3
     rintro ys σ G1 ⟨s1, e1, _, mt1, _⟩
     rw [hlm] at mt1
     refine ⟨_, rfl, _, rfl, q, _, (j : Nat), .int ((Pw.fF f0 j).1 j j), rfl, rfl, SqL.of (s1 _ _ hq), atI_nat (rowI_get (by omega)), ?_⟩
     exact ⟨sG.trans s1, D, ys, _, _, e1, mt1, rfl⟩
   · rintro σ G ⟨sG, eq, us, v2, v3, eE, mt, rfl⟩
     have hnn : (n : Int).toNat = n := by omega
     rw [hnn] at mt
     rw [hnn]
     refine ⟨_, rfl, eq, rfl, ⟨_, SqL.of eE⟩, fun D hD => ?_⟩
     have hlm := mt.1
     refine comp_lst (K := K) (a := eq) (D := D) (xs := us) (fun i ys σ H' => Same G H' ∧ H' D = some (.lst ys) ∧ ys = rowI (fun i => (Pw.fF f0 n).1 i n) i ∧ ∃ x, σ = [x]) ?_ ?_ ?_ ?_
     · exact ⟨Same.new hD, upd_same, rfl, none, rfl⟩
     · rintro i ys σ H' ⟨s1, e1, _⟩
       exact ⟨SqL.of (s1 _ _ eE), e1⟩
     · rintro i x ys σ H' hi hlt ⟨s1, e1, rfl, x', rfl⟩
       obtain ⟨q2, eq2, hq2⟩ := mt.2 i (by omega)
       rw [hi] at eq2
       cases eq2
       dsimp only [gName]
       rw [if_pos rfl]
       have hat : atI (rowI ((Pw.fF f0 n).1 i) (n + 1)) (-1) = some (.int ((Pw.fF f0 n).1 i n)) := by rw [rowI_succ]; exact atI_last _ _
       refine ⟨_, rfl, q2, _, (-1 : Int), _, rfl, rfl, SqL.of (s1 _ _ hq2), hat, e1, by rw [rowI_len]; exact small1000 (by omega), Wt.next hlt ⟨fun b o eb => ?_, upd_same, (rowI_succ _ _).symm, _, rfl⟩⟩
       rw [upd_ne (ne_of_none eb hD)]; exact s1 _ _ eb
     rintro ys σ G1 ⟨s1, e1, rfl, _⟩
     rw [hlm] at e1
     refine ⟨_, rfl, (by show 2 ≤ sizeLine; decide), fun t G2 s2 n2 e2 => ?_⟩
     exact k t D G2 (sG.trans (s1.trans s2)) e2 (s2 _ _ e1)
theorem ndV1 : (["page", "start", "web", "leap"] : List Str).Nodup := by decide +kernel
theorem ndV2 : (["page", "number", "web"] : List Str).Nodup := by decide +kernel
theorem scVisits : FnScope ["web", "leap", "leaps", "starts", "found"] ["web", "leap", "leaps"] (defScope sVisits) := ⟨rfl, rfl, rfl, by decide +kernel, rfl, by decide +kernel, by decide +kernel⟩
theorem d_visits (S : Fnd K mg "visits" sVisits ["web", "leap", "leaps"]) (T : Txt mg) (Ab : Def P w K mg base 1 "aboves" ["some", "below"] (spAboves K)) (Be : Def P w K mg base 2 "shared_below" ["some"] (spBelow K)) (So : Def P w K mg base 2 "solved" ["equations"] (spSolved K)) (Eq : Def P w K mg base 4 "equation" ["web", "leap", "page", "start"] (spEquation K)) (Pa : Def P w K mg base 2 "parts" ["web", "page"] (spParts K)) : Def P w K mg base 5 "visits" ["web", "leap", "leaps"] (spVisits K) := S.def fun f fd F => by
 have nd := scVisits.nd
 refine F.ok scVisits (fun vs H Q E h => ?_) (fun cdv A' outer s H vs Q E hr h => ?_)
 · obtain ⟨_, _, _, _, _, _, _, _, _, _, rfl, _⟩ := h
   rfl
 · obtain ⟨wa, lp, ls, pages, ps, A, Bs, us, SS, z, rfl, g, pr, p12, hz, sz, sS, k⟩ := h
   have hr1 := hr.mono (show 1 ≤ 4 by decide)
   have hr2 := hr.mono (show 2 ≤ 4 by decide)
   refine ⟨_, @pss_cons _ _ _ _ _ (@ps_setX _ _ 3 _ _ _ _ (by rfl) (Or.inl rfl) nd rfl (Or.inl rfl) (pe_def (by rfl) (by rfl) (by rfl) (by decide) Ab hr1 (@pa_consX _ _ _ _ _ (by rfl) (pv 2) (@pa_consX _ _ _ _ _ (by rfl) (pe_def (by rfl) (by rfl) (by rfl) (by decide) Be hr2 (@pa_consX _ _ _ _ _ (by rfl) (pv 2) pa_nil)) pa_nil))))
    (@pss_cons _ _ _ _ _ (@ps_setX _ _ 4 _ _ _ _ (by rfl) (Or.inl rfl) nd rfl (Or.inl rfl) (pe_def (by rfl) (by rfl) (by rfl) (by decide) So hr2 (@pa_consX _ _ _ _ _ (by rfl) (pe_compC ["page", "start", "web", "leap"] [none, none, some 0, some 1] rfl (pi_enLK (by rfl) (by rfl) rfl T.enu (@pa_consX _ _ _ _ _ (by rfl) (pv 3) pa_nil))
     (by show ∀ y : Str × NameKind, y ∈ _ → y.2 = NameKind.free → (defScope sVisits).names.lookup y.1 = some .cell; decide +kernel) (by decide) rfl (by decide +kernel) ⟨⟨rfl, rfl, .inl rfl⟩, ⟨rfl, rfl, .inl rfl⟩, trivial⟩
     (fun cl C s H fp => pg_tupK (K := K) 2 rfl rfl (pgs_cons (pg_name (i := 0) ndV1 rfl (Or.inl rfl) (.inr rfl)) (pgs_cons (pg_name (i := 1) ndV1 rfl (Or.inl rfl) (.inr rfl)) pgs_nil)))
     (fun cl C s H fp => pts_nil)
     (fun cl C s H fp => pe_def (by rfl) (by rfl) (by rfl) (by decide) Eq hr (@pa_consX _ _ _ _ _ (by rfl) (pv 2) (@pa_consX _ _ _ _ _ (by rfl) (pv 3) (@pa_consX _ _ _ _ _ (by rfl) (pv 0) (@pa_consX _ _ _ _ _ (by rfl) (pv 1) pa_nil)))))) pa_nil)))
    (@pss_one _ _ _ (@ps_ret _ _ _ _ (pe_compC ["page", "number", "web"] [none, none, some 0] rfl (pi_enLK (by rfl) (by rfl) rfl T.enu (@pa_consX _ _ _ _ _ (by rfl) (pe_ix ix_tup (pv 4) pe_int (fun _ _ => rfl)) pa_nil))
     (by show ∀ y : Str × NameKind, y ∈ _ → y.2 = NameKind.free → (defScope sVisits).names.lookup y.1 = some .cell; decide +kernel) (by decide) rfl (by decide +kernel) ⟨⟨rfl, rfl, .inl rfl⟩, trivial⟩
     (fun cl C s H fp => pg_tupK (K := K) 2 rfl rfl (pgs_cons (pg_name (i := 0) ndV2 rfl (Or.inl rfl) (.inr rfl)) (pgs_cons (pg_name (i := 1) ndV2 rfl (Or.inl rfl) (.inr rfl)) pgs_nil)))
     (fun cl C s H fp => pts_nil)
     (fun cl C s H fp => pe_op op_mulB (pe_def (by rfl) (by rfl) (by rfl) (by decide) Pa hr2 (@pa_consX _ _ _ _ _ (by rfl) (pv 2) (@pa_consX _ _ _ _ _ (by rfl) (pv 0) pa_nil))) (pv 1)))))), ?_⟩
   have plo := g.plo
   have hlen := g.len
   have hlB := g.row.len
   have few := g.few
   have hBn : Bs.length = pages.toNat := by omega
   refine ⟨_, rfl, _, rfl, false, ls, us, Bs, SS, rfl, SqT.of g.leaps, g.row, Canons.pos g.cb, pr.spos, pr.ssz.mono (by decide), pr.sdvd, fun L hL => ?_⟩
   have hLp := hL.pos
   have hLS := hL.le pr.spos pr.sdvd
   have zL : Sz 700 L := IsLcm.takeM hL pr.spos pr.sdvd pr.ssz
   refine ⟨false, ls, us, Bs, L, rfl, SqT.of g.leaps, g.row, by omega, fun B hB => ⟨(g.cb B hB).1, (g.sb B hB).mono (by decide)⟩, hLp, zL.mono (by decide), fun sa H1 s1 n1 e1 => ?_⟩
   -- the equations
   have hss : (Pw.abv Bs L).length = pages.toNat := by unfold Pw.abv; rw [List.length_map]; exact hBn
   have hB : ∀ t, t < pages.toNat → ((Pw.abv Bs L).getD t 0 : Rat) = Pw.val (Bs.getD t (0, 1)) * (L : Rat) := fun t ht => by
    have hi' : t < Bs.length := by omega
    have hR : Bs[t]? = some Bs[t] := by simp
    have e1 : (Pw.abv Bs L).getD t 0 = Bs[t].1 * (L.fdiv Bs[t].2) := by
     unfold Pw.abv
     rw [List.getD_eq_getElem?_getD, List.getElem?_map, hR]; rfl
    have e2 : Bs.getD t (0, 1) = Bs[t] := by rw [List.getD_eq_getElem?_getD, hR]; rfl
    have mR := List.getElem_mem hi'
    rw [e1, e2, Pw.abv_val (g.cb _ mR).1 hLp (hL.dvd _ mR)]
   have one := pr.one
   rw [hBn] at one
   have snn : ∀ s ∈ Pw.abv Bs L, 0 ≤ s := fun s hs => by
    obtain ⟨B, hB', rfl⟩ := List.mem_map.mp hs
    have c := (g.cb B hB').1
    exact Int.mul_nonneg (pr.nn B hB') (by rw [Int.fdiv_eq_ediv_of_nonneg _ (by omega)]; exact Int.ediv_nonneg (by omega) (by omega))
   have ssum : (Pw.abv Bs L).sum = L := by
    have h3 := Pw.qs_list (Pw.abv Bs L)
    rw [hss, Pw.qs_congr (g := fun t => (L : Rat) * Pw.val (Bs.getD t (0, 1))) fun t ht => by rw [hB t ht]; grind, Pw.qs_mul, one] at h3
    have : (L : Rat) = ((Pw.abv Bs L).sum : Rat) := by rw [← h3]; grind
    exact_mod_cast this.symm
   have lk : ∀ p ∈ ps, 0 ≤ p.2 ∧ p.2 < ((pages.toNat : Nat) : Int) := fun p hp => by
    have := g.lk p hp
    omega
   have eo : Pw.EqOk ps A (Pw.abv Bs L) pages.toNat := ⟨lk, pr.a0, pr.a1, hss, snn, by rw [ssum]; exact hLp⟩
   have sle : ∀ s ∈ Pw.abv Bs L, s ≤ 2 ^ z := fun s hs => by
    have h1 : s ≤ (Pw.abv Bs L).sum := le_sum snn hs
    have h2 : SS.natAbs < 2 ^ z := sS
    have : ((2 : Int) ^ z) = ((2 ^ z : Nat) : Int) := by push_cast; rfl
    rw [this]
    omega
   have ez := eqF_sz few eo sz.2 sle
   have g1 := g.same s1
   refine ⟨_, rfl, sa, _, rfl, SqL.of e1, fun D hD => ?_⟩
   refine comp_enL (K := K) (a := sa) (D := D) (xs := (Pw.abv Bs L).map V.int) (fun i ys σ H' => Same H1 H' ∧ H' D = some (.lst ys) ∧ (∀ i : Nat, ys[i]? ≠ some (V.ref D)) ∧ MatL H' i (pages.toNat + 1) (Pw.eqF ps A (Pw.abv Bs L) pages.toNat) ys ∧ ∃ x y, σ = [x, y, some (.ref wa), some (.ref lp)]) ?_ ?_ ?_ ?_
   · exact ⟨Same.new hD, upd_same, fun i => by simp, ⟨rfl, fun i hi => by omega⟩, none, none, rfl⟩
   · rintro i ys σ H' ⟨s2, e2, _⟩
     exact ⟨SqL.of (s2 _ _ e1), e2⟩
   · rintro i x ys σ H' TT G hi hlt ⟨s2, e2, nD, mt, x', y', rfl⟩ hTT sG eT
     rw [List.length_map] at hlt
     have ex : x = .int ((Pw.abv Bs L).getD i 0) := by
      rw [List.getElem?_map, getD_mapI (by omega)] at hi
      cases hi; rfl
     subst ex
     have s2G := s2.trans sG
     refine ⟨TT, _, rfl, SqT.of eT, rfl, _, _, rfl, _, _, rfl, rfl, ?_⟩
     dsimp only [gName]
     rw [if_pos rfl]
     refine ⟨_, rfl, _, rfl, _, rfl, _, rfl, wa, lp, pages, i, _, ps, A, rfl, (g1.same s2G).web, plo, by omega, few, (g1.same s2G).leap, g.sa.mono (by decide), fun r G2 s3 n3 e3 => ?_⟩
     have eD := sG _ _ e2
     have hrD : r ≠ D := fun zz => by rw [zz, eD] at n3; cases n3
     have nD' : ∀ i : Nat, (ys ++ [V.ref r])[i]? ≠ some (V.ref D) := fun i' zz => by
      by_cases hi' : i' < ys.length
      · rw [List.getElem?_append_left hi'] at zz
        exact nD i' zz
      · rw [List.getElem?_append_right (by omega)] at zz
        cases hz' : i' - ys.length with
        | zero => rw [hz'] at zz; simp at zz; exact hrD zz
        | succ m => rw [hz'] at zz; simp at zz
     refine ⟨s3 _ _ eD, by rw [mt.1]; exact small1000 (by omega), Wt.next (by rw [List.length_map]; exact hlt) ⟨fun b o eb => ?_, upd_same, nD', ?_, _, _, rfl⟩⟩
     · rw [upd_ne (ne_of_none eb hD)]; exact s3 _ _ (s2G _ _ eb)
     · refine MatL.put (xs := []) ((mt.same (sG.trans s3)).snoc ?_) fun i' _ => nD' i'
       have e : rowI (Pw.eqF ps A (Pw.abv Bs L) pages.toNat i) (pages.toNat + 1) = rowI (fun j => Pw.fac ps A j i) pages.toNat ++ [.int ((Pw.abv Bs L).getD i 0)] := by
        rw [rowI_succ]
        have a1 : rowI (Pw.eqF ps A (Pw.abv Bs L) pages.toNat i) pages.toNat = rowI (fun j => Pw.fac ps A j i) pages.toNat := rowI_congr fun t ht => by unfold Pw.eqF; rw [if_pos (by omega), if_pos ht]
        have a2 : Pw.eqF ps A (Pw.abv Bs L) pages.toNat i pages.toNat = (Pw.abv Bs L).getD i 0 := by unfold Pw.eqF; rw [if_pos (by omega), if_neg (by omega), if_pos rfl]
        rw [a1, a2]
       rw [e]
       exact e3
   rintro ys σ H2 ⟨s2, e2, _, mt, _⟩
   rw [List.length_map, hss] at mt
   refine ⟨D, ys, pages.toNat, z + 7, Pw.eqF ps A (Pw.abv Bs L) pages.toNat, rfl, e2, mt, eo.sgn, by omega, by omega, by omega, ez, fun t l H3 s3 e3 e4 => ?_⟩
   obtain ⟨zf, zd⟩ := fF_sz eo.sgn (by omega) ez (k := pages.toNat) (Nat.le_refl _)
   have s13 := s1.trans (s2.trans s3)
   have g3 := g.same s13
   refine ⟨_, rfl, t, _, _, _, rfl, rfl, SqT.of e3, rfl, l, _, rfl, SqL.of e4, fun D2 hD2 => ?_⟩
   refine comp_enL (K := K) (a := l) (D := D2) (xs := rowI (fun i => (Pw.fF (Pw.eqF ps A (Pw.abv Bs L) pages.toNat) pages.toNat).1 i pages.toNat) pages.toNat) (fun i ys σ H' => Same H3 H' ∧ H' D2 = some (.lst ys) ∧ ys = rowI (Pw.vS ps A (Pw.abv Bs L) pages.toNat) i ∧ ∃ x y, σ = [x, y, some (.ref wa)]) ?_ ?_ ?_ ?_
   · exact ⟨Same.new hD2, upd_same, rfl, none, none, rfl⟩
   · rintro i ys σ H' ⟨s5, e5, _⟩
     exact ⟨SqL.of (s5 _ _ e4), e5⟩
   · rintro i x ys σ H' TT G hi hlt ⟨s5, e5, rfl, x', y', rfl⟩ hTT sG eT
     rw [rowI_len] at hlt
     rw [rowI_get hlt] at hi
     cases hi
     refine ⟨TT, _, rfl, SqT.of eT, rfl, _, _, rfl, _, _, rfl, rfl, ?_⟩
     dsimp only [gName]
     rw [if_pos rfl]
     have hol := Pw.outs_len ps (i : Int)
     have zm : Sz 7 (Pw.mp ps i) := sz_of 7 (by unfold Pw.mp; omega)
     refine ⟨_, rfl, _, rfl, wa, pages, i, ps, rfl, (g3.same (s5.trans sG)).web, few, fun G2 s6 => ?_⟩
     refine ⟨_, rfl, _, _, rfl, rfl, ⟨zm.mono (by decide), (zf i _ hlt (Nat.le_refl _)).mono (by omega)⟩, s6 _ _ (sG _ _ e5), by rw [rowI_len]; exact small1000 (by omega), Wt.next (by rw [rowI_len]; exact hlt) ⟨fun b o eb => ?_, upd_same, (rowI_succ _ _).symm, _, _, rfl⟩⟩
     rw [upd_ne (ne_of_none eb hD2)]; exact s6 _ _ (sG _ _ (s5 _ _ eb))
   rintro ys σ H4 ⟨s5, e5, rfl, _⟩
   rw [rowI_len] at e5
   refine k D2 H4 (Pw.abv Bs L) L eo hLp hB (fun j hj => ?_) (s13.trans s5) e5
   have hol := Pw.outs_len ps (j : Int)
   have zm : Sz 7 (Pw.mp ps j) := sz_of 7 (by unfold Pw.mp; omega)
   exact (zm.mul (zf j _ hj (Nat.le_refl _))).mono (by omega)
theorem ndSh : (["each", "numbers"] : List Str).Nodup := by decide +kernel
theorem scShares : FnScope ["web", "leap", "leaps", "numbers"] ["web", "leap", "leaps"] (defScope sShares) := ⟨rfl, rfl, rfl, by decide +kernel, rfl, by decide +kernel, by decide +kernel⟩
theorem d_shares (S : Fnd K mg "shares" sShares ["web", "leap", "leaps"]) (T : Txt mg) (Vi : Def P w K mg base 5 "visits" ["web", "leap", "leaps"] (spVisits K)) (M : Def P w K mg base 2 "made" ["above", "below"] spMadeS) : Def P w K mg base 6 "shares" ["web", "leap", "leaps"] (spShares K) := S.def fun f fd F => by
 have nd := scShares.nd
 refine F.ok scShares (fun vs H Q E h => ?_) (fun cdv A' outer s H vs Q E hr h => ?_)
 · obtain ⟨_, _, _, _, _, _, _, _, _, _, rfl, _⟩ := h
   rfl
 · obtain ⟨wa, lp, ls, pages, ps, A, Bs, us, SS, z, rfl, g, pr, p12, hz, sz, sS, k⟩ := h
   have hr2 := hr.mono (show 2 ≤ 5 by decide)
   refine ⟨_, @pss_cons _ _ _ _ _ (@ps_setX _ _ 3 _ _ _ _ (by rfl) (Or.inl rfl) nd rfl (Or.inr rfl) (pe_def (by rfl) (by rfl) (by rfl) (by decide) Vi hr (@pa_consX _ _ _ _ _ (by rfl) (pv 0) (@pa_consX _ _ _ _ _ (by rfl) (pv 1) (@pa_consX _ _ _ _ _ (by rfl) (pv 2) pa_nil)))))
    (@pss_one _ _ _ (@ps_ret _ _ _ _ (pe_callTy call_tupOf (by rfl) T.tup boot_tuple (@pa_consX _ _ _ _ _ (by rfl) (pe_compC ["each", "numbers"] [none, some 3] rfl (@pi_list _ _ _ _ (pv 3))
     (by show ∀ y : Str × NameKind, y ∈ _ → y.2 = NameKind.free → (defScope sShares).names.lookup y.1 = some .cell; decide +kernel) (by decide) rfl (by decide +kernel) ⟨⟨rfl, rfl, .inl rfl⟩, trivial⟩
     (fun cl C s H fp => pg_name (i := 0) ndSh rfl (Or.inl rfl) (.inr rfl)) (fun cl C s H fp => pts_nil)
     (fun cl C s H fp => pe_def (by rfl) (by rfl) (by rfl) (by decide) M hr2 (@pa_consX _ _ _ _ _ (by rfl) (pv 0) (@pa_consX _ _ _ _ _ (by rfl) (pe_callB (call_sumK (K := K) rfl rfl) (by rfl) T.sum boot_sum (@pa_consX _ _ _ _ _ (by rfl) (pv 1) pa_nil)) pa_nil)))) pa_nil)))), ?_⟩
   have plo := g.plo
   have hlen := g.len
   refine ⟨_, rfl, _, rfl, _, rfl, wa, lp, ls, pages, ps, A, Bs, us, SS, z, rfl, g, pr, p12, hz, sz, sS, fun nu H1 ss L eo hLp hB zv s1 e1 => ?_⟩
   have hV := eo.V_pos
   have zV : Sz ((z + 11) * 13 + 20) (Pw.VS ps A ss pages.toNat) := by
    refine (sum_sz (k := (z + 11) * 13 + 8) fun n hn => ?_).mono (by rw [List.length_map, List.length_range]; omega)
    obtain ⟨t, ht, rfl⟩ := List.mem_map.mp hn
    exact zv t (List.mem_range.mp ht)
   refine ⟨_, rfl, nu, rfl, ⟨_, SqL.of e1⟩, fun D hD => ?_⟩
   refine comp_lst (K := K) (a := nu) (D := D) (xs := rowI (Pw.vS ps A ss pages.toNat) pages.toNat) (fun i ys σ H' => Same H1 H' ∧ H' D = some (.lst ys) ∧ FrL K H' ((List.range i).map fun j => Pw.mk (Pw.vS ps A ss pages.toNat j) (Pw.VS ps A ss pages.toNat)) ys ∧ ∃ x, σ = [x, some (.ref nu)]) ?_ ?_ ?_ ?_
   · exact ⟨Same.new hD, upd_same, rfl, none, rfl⟩
   · rintro i ys σ H' ⟨s2, e2, _⟩
     exact ⟨SqL.of (s2 _ _ e1), e2⟩
   · rintro i x ys σ H' hi hlt ⟨s2, e2, fl, x', rfl⟩
     rw [rowI_len] at hlt
     rw [rowI_get hlt] at hi
     cases hi
     dsimp only [gName]
     rw [if_pos rfl]
     refine ⟨_, rfl, _, rfl, nu, (List.range pages.toNat).map (Pw.vS ps A ss pages.toNat), rfl, SqL.of (s2 _ _ e1), _, _, rfl, (by show Pw.VS ps A ss pages.toNat ≠ 0; omega), (zv i hlt).mono (by omega), zV.mono (by omega), fun r G2 s3 f3 => ?_⟩
     have e3 := s3 _ _ e2
     refine ⟨e3, by rw [fl.len, List.length_map, List.length_range]; exact small1000 (by omega), Wt.next (by rw [rowI_len]; exact hlt) ⟨fun b o eb => ?_, upd_same, ?_, _, rfl⟩⟩
     · rw [upd_ne (ne_of_none eb hD)]; exact s3 _ _ (s2 _ _ eb)
     · rw [List.range_succ, List.map_append]
       exact ((fl.same s3).snoc (A := Pw.mk (Pw.vS ps A ss pages.toNat i) (Pw.VS ps A ss pages.toNat)) f3).kp (KL.set e3)
   rintro ys σ H2 ⟨s2, e2, fl, _⟩
   rw [rowI_len] at fl
   refine ⟨D, ys, rfl, SqL.of e2, fun t H3 s3 n3 e3 => ?_⟩
   have hBn : Bs.length = pages.toNat := by omega
   have one := pr.one
   rw [hBn] at one
   refine k t H3 (Pw.shL ps A ss pages.toNat) (Pw.VS ps A ss pages.toNat) ys (Pw.shL_ok eo g.ca g.cb hBn hLp hB one) hV zV (fun S hS => ?_) (s1.trans (s2.trans s3)) e3 (fl.same s3)
   obtain ⟨t, _, rfl⟩ := List.mem_map.mp hS
   exact Pw.fr_dvd (Pw.Fr.made (by omega))
noncomputable abbrev posR : Pos := ⟨75, 37, 75, 64⟩
theorem scRanked : FnScope ["web", "leap", "leaps", "row", "numbers"] ["web", "leap", "leaps"] (defScope sRanked) := ⟨rfl, rfl, rfl, by decide +kernel, rfl, by decide +kernel, by decide +kernel⟩
theorem d_ranked {c tb : Addr} {h : Heap} (S : Fnd K mg "ranked" sRanked ["web", "leap", "leaps"]) (T : Txt mg) (B : Bm base mg) (KB : K.In base) (CO : CodeOf K "ranked" c) (XK : K.In h) (G : h.Ns mainGlobals mg) (hC : PySem.W.codeHdIn K c tb = true) (Sh : Def P w K mg base 6 "shares_shares" ["web", "leap", "leaps"] (spShares K)) (Ab : Def P w K mg base 1 "aboves" ["some", "below"] (spAboves K)) (Be : Def P w K mg base 2 "shared_below" ["some"] (spBelow K)) : Def P w K mg base 7 "ranked" ["web", "leap", "leaps"] (spRanked K tb posR) := Fnd.defC S CO XK G fun f fd F hcd => by
 have nd := scRanked.nd
 refine Fun.okC F scRanked (fun vs H Q E h => ?_) (fun cdv A' outer s H vs Q E hcv hr h => ?_)
 · obtain ⟨_, _, _, _, _, _, _, _, _, _, rfl, _⟩ := h
   rfl
 · obtain ⟨wa, lp, ls, pages, ps, A, Bs, us, SS, z, rfl, g, pr, p12, hz, sz, sS, tab, k⟩ := h
   have ecd : cdv = .ref c := hcv.symm.trans hcd
   refine ⟨_, @pss_cons _ _ _ _ _ (@ps_setX _ _ 3 _ _ _ _ (by rfl) (Or.inl rfl) nd rfl (Or.inl rfl) (pe_def (by rfl) (by rfl) (by rfl) (by decide) Sh hr (@pa_consX _ _ _ _ _ (by rfl) (pv 0) (@pa_consX _ _ _ _ _ (by rfl) (pv 1) (@pa_consX _ _ _ _ _ (by rfl) (pv 2) pa_nil)))))
    (@pss_cons _ _ _ _ _ (@ps_setX _ _ 4 _ _ _ _ (by rfl) (Or.inl rfl) nd rfl (Or.inr rfl) (pe_def (by rfl) (by rfl) (by rfl) (by decide) Ab (hr.mono (by decide)) (@pa_consX _ _ _ _ _ (by rfl) (pv 3) (@pa_consX _ _ _ _ _ (by rfl) (pe_def (by rfl) (by rfl) (by rfl) (by decide) Be (hr.mono (by decide)) (@pa_consX _ _ _ _ _ (by rfl) (pv 3) pa_nil)) pa_nil))))
    (@pss_one _ _ _ (@ps_ret _ _ _ _ (pe_sortLam (i := 4) (P := tb) (c := c) (qual := qualR) (hr.mono (by decide)) rfl B (PySem.W.codeHd_of_K KB hC) ecd rfl rfl T.srt rfl T.range rfl rfl (@pa_consX _ _ _ _ _ (by rfl) (pe_ix ix_tup (pv 0) pe_int (fun _ _ => rfl)) pa_nil))))), ?_⟩
   refine ⟨_, rfl, _, rfl, _, rfl, wa, lp, ls, pages, ps, A, Bs, us, SS, z, rfl, g, pr, p12, hz, sz, sS, fun t H1 Ss V' ys ok v0 zV dv s1 et fl => ?_⟩
   have zV' : Sz ((140 + 11) * 13 + 20) V' := zV.mono (by omega)
   have ssz := sh_sz ok v0 zV' dv
   have spos : ∀ S ∈ Ss, 0 < S.2 := fun S hS => (ok.canon S hS).1
   have hl := ok.len
   have sqf : Sq false K H1 t ys := by
    unfold Sq
    rw [if_neg (by decide)]
    exact SqT.of et
   refine ⟨_, rfl, _, rfl, false, t, ys, Ss, V', rfl, sqf, fl, spos, v0, zV'.mono (by decide), dv, fun L hL => ?_⟩
   have zL : Sz 8000 L := by
    have h1 : L ≤ V' := Int.le_of_dvd v0 (hL.least V' v0 dv)
    have h2 := hL.pos
    have h3 : Sz 8000 V' := zV'.mono (by decide)
    unfold Sz at *
    omega
   refine ⟨false, t, ys, Ss, L, rfl, sqf, fl, by omega, fun S hS => ⟨spos S hS, (ssz S hS).mono (by decide)⟩, hL.pos, zL, fun nl H2 s2 hn2 en2 => ?_⟩
   obtain ⟨lk, uw, hw, _, _⟩ := g.web.same (s1.trans s2)
   refine ⟨_, rfl, wa, _, _, _, rfl, rfl, SqT.of hw, rfl, pages.toNat, nl, Pw.abv Ss L, ?_, by omega, rfl, SqL.of en2, by unfold Pw.abv; rw [List.length_map, hl]; exact Nat.le_refl _, ?_, fun p D H' pm st kp hD eD tab' => ?_⟩
   · rw [Int.toNat_of_nonneg (by have := g.plo; omega)]
   · rcases tab with tab | ⟨c', h1, h2⟩
     · exact .inl ((s1.trans s2) _ _ tab)
     · exact .inr ⟨c', (s1.trans s2) _ _ h1, (s1.trans s2) _ _ h2⟩
   · refine k D H' Ss p ok (Pw.rk_of hl spos hL.pos hL.dvd pm st) (fun b o e n => kp b o n ((s1.trans s2) _ _ e)) ((s1.trans s2).free hD) eD tab'
end
end Lw

set_option pp.maxSteps 800
namespace Lw
open PySem L2 PyProof.Rows
section
variable {P : Program} {w : World} {K : PySem.W.Frag} {mg : Str → Option Value} {base : Heap}
theorem scWith : FnScope ["web", "one", "other"] ["web", "one", "other"] (defScope sWith) := ⟨rfl, rfl, rfl, by decide +kernel, rfl, by decide +kernel, by decide +kernel⟩
set_option maxHeartbeats 0 in
theorem d_with_link (S : Fnd K mg "with_link" sWith ["web", "one", "other"]) (T : Txt mg)  : Def P w K mg base 1 "with_link" ["web", "one", "other"] (spWith K) := S.def fun f fd F => by
 have nd := scWith.nd
 refine F.ok scWith (fun vs H Q E h => ?_) (fun cdv A' outer s H vs Q E hr h => ?_)
 · obtain ⟨_, _, _, _, _, rfl, _⟩ := h
   rfl
 · obtain ⟨a, n, x, y, ps, rfl, hw, few, k⟩ := h
   refine ⟨_, (@pss_one _ _ _ (@ps_ret _ _ _ _ (@pe_tupS _ _ _ _ _ (@pa_consX _ _ _ _ _ (by rfl) (pe_ix ix_tup (pv 0) pe_int (fun _ _ => rfl)) (@pa_consX _ _ _ _ _ (by rfl) (pe_callTy call_tupOf (by rfl) T.tup boot_tuple (@pa_consX _ _ _ _ _ (by rfl) (pe_callB call_sortedPT (by rfl) T.srt boot_sorted (@pa_consX _ _ _ _ _ (by rfl) (pe_op op_catTS (pe_ix ix_tup (pv 0) pe_int (fun _ _ => rfl)) (@pe_tupS _ _ _ _ _ (@pa_consX _ _ _ _ _ (by rfl) (@pe_tupS _ _ _ _ _ (@pa_consX _ _ _ _ _ (by rfl) (pv 1) (@pa_consX _ _ _ _ _ (by rfl) (pv 2) pa_nil))) pa_nil))) pa_nil)) pa_nil)) pa_nil))))), ?_⟩
   obtain ⟨t, us, ea, et, hp⟩ := hw
   have hl := hp.len
   refine ⟨_, rfl, a, _, _, _, rfl, rfl, SqT.of ea, rfl, ?_⟩
   refine ⟨_, rfl, a, _, _, _, rfl, rfl, SqT.of ea, rfl, _, rfl, _, rfl, (by show 2 ≤ sizeLine; decide), fun q G1 s1 m1 e1 => ⟨(by show 1 ≤ sizeLine; decide), fun q1 G2 s2 m2 e2 => ?_⟩⟩
   have s12 := s1.trans s2
   refine ⟨t, q1, us, [.ref q], rfl, rfl, s12 _ _ et, e2, ?_, fun p G3 s3 e3 => ?_⟩
   · rw [sizeLine_eq]; simp only [List.length_cons, List.length_nil]; omega
   have s13 := s12.trans s3
   have hp3 : Prs K G3 (ps ++ [(x, y)]) (us ++ [.ref q]) := Prs.snoc (p := (x, y)) (SqT.of (s3 _ _ (s2 _ _ e1))) (hp.kl s13.kl)
   refine ⟨p, _, _, rfl, SqT.of e3, hp3, ?_, fun ws ms D2 G4 pm pw hp4 s4 m4 e4 => ?_⟩
   · rw [List.length_append, List.length_singleton]; omega
   refine ⟨D2, ws, rfl, SqL.of e4, fun t2 G5 s5 m5 e5 => ⟨(by show 2 ≤ sizeLine; decide), fun b G6 s6 m6 e6 => ?_⟩⟩
   have s16 := s13.trans (s4.trans (s5.trans s6))
   exact k b G6 ms s16 ((s13.trans (s4.trans s5)).free m6) ⟨t2, ws, e6, s6 _ _ e5, hp4.kl (s5.trans s6).kl⟩ pm pw
theorem scWithout : FnScope ["web", "one", "other", "links", "place"] ["web", "one", "other"] (defScope sWithout) := ⟨rfl, rfl, rfl, by decide +kernel, rfl, by decide +kernel, by decide +kernel⟩
set_option maxHeartbeats 0 in
theorem d_without_link (S : Fnd K mg "without_link" sWithout ["web", "one", "other"]) (T : Txt mg)  : Def P w K mg base 1 "without_link" ["web", "one", "other"] (spWithout K) := S.def fun f fd F => by
 have nd := scWithout.nd
 refine F.ok scWithout (fun vs H Q E h => ?_) (fun cdv A' outer s H vs Q E hr h => ?_)
 · obtain ⟨_, _, _, _, _, rfl, _⟩ := h
   rfl
 · obtain ⟨a, n, x, y, ps, rfl, hw, few, k1, k2⟩ := h
   refine ⟨_, (@pss_cons _ _ _ _ _ (@ps_setX _ _ 3 _ _ _ _ (by rfl) (Or.inl rfl) nd rfl (Or.inl rfl) (pe_ix ix_tup (pv 0) pe_int (fun _ _ => rfl)))
    (@pss_cons _ _ _ _ _ (@ps_if _ _ _ _ _ _ _ _ (pt_cmpR (op_notInP hr) (@pe_tupS _ _ _ _ _ (@pa_consX _ _ _ _ _ (by rfl) (pv 1) (@pa_consX _ _ _ _ _ (by rfl) (pv 2) pa_nil))) (pv 3) (by rfl))
     (@pss_one _ _ _ (@ps_ret _ _ _ _ pe_non))
     pss_nil)
    (@pss_cons _ _ _ _ _ (@ps_setX _ _ 4 _ _ _ _ (by rfl) (Or.inl rfl) nd rfl (Or.inl rfl) (pe_bmT (by rfl) (by rfl) (by rfl) (by rfl) (by rfl) PySem.F.plainAttrs_tuple PySem.F.slot_tuple_index PySem.F.type_tuple_index (mt_indexT hr) (pv 3) (@pa_consX _ _ _ _ _ (by rfl) (@pe_tupS _ _ _ _ _ (@pa_consX _ _ _ _ _ (by rfl) (pv 1) (@pa_consX _ _ _ _ _ (by rfl) (pv 2) pa_nil))) pa_nil)))
    (@pss_one _ _ _ (@ps_ret _ _ _ _ (@pe_tupS _ _ _ _ _ (@pa_consX _ _ _ _ _ (by rfl) (pe_ix ix_tup (pv 0) pe_int (fun _ _ => rfl)) (@pa_consX _ _ _ _ _ (by rfl) (pe_op op_catTS (pe_slice sl_tupS (pv 3) po_none (po_some (pv 4))) (pe_slice sl_tupS (pv 3) (po_some (pe_op op_add (pv 4) pe_int)) po_none)) pa_nil)))))))), ?_⟩
   obtain ⟨t, us, ea, et, hp⟩ := hw
   have hl := hp.len
   refine ⟨_, rfl, a, _, _, _, rfl, rfl, SqT.of ea, rfl, ?_⟩
   refine ⟨_, rfl, _, rfl, (by show 2 ≤ sizeLine; decide), fun q G1 s1 m1 e1 => ⟨_, rfl, q, t, us, ps, (x, y), rfl, rfl, SqT.of e1, SqT.of (s1 _ _ et), hp.kl s1.kl, _, rfl, ?_⟩⟩
   by_cases hm : (x, y) ∈ ps
   · rw [decide_eq_true hm]
     refine ifF rfl ?_
     have hi := List.idxOf_lt_length_of_mem hm
     refine ⟨_, rfl, ⟨t, us, rfl, s1 _ _ et⟩, _, rfl, _, rfl, (by show 2 ≤ sizeLine; decide), fun q2 G2 s2 m2 e2 => ?_⟩
     have s12 := s1.trans s2
     refine ⟨t, q2, us, ps, (x, y), rfl, rfl, s12 _ _ et, hp.kl s12.kl, SqT.of e2, hm, ?_⟩
     have hi2 : ps.idxOf (x, y) < us.length := by omega
     refine ⟨_, rfl, a, _, _, _, rfl, rfl, SqT.of (s12 _ _ ea), rfl, ?_⟩
     refine ⟨_, rfl, _, rfl, _, rfl, t, us, rfl, SqT.of (s12 _ _ et), ?_, fun p1 G3 s3 m3 e3 => ?_⟩
     · rw [HT.sIx_nat, HT.sIx_none]; omega
     refine ⟨_, rfl, _, rfl, _, _, rfl, rfl, _, rfl, t, us, rfl, SqT.of (s3 _ _ (s12 _ _ et)), ?_, fun p2 G4 s4 m4 e4 => ?_⟩
     · rw [show ((ps.idxOf (x, y) : Nat) : Int) + 1 = ((ps.idxOf (x, y) + 1 : Nat) : Int) from rfl, HT.sIx_nat, HT.sIx_none]; omega
     rw [cut1 hi2] at e3
     rw [cut2 hi2] at e4
     refine ⟨p1, p2, _, _, rfl, rfl, s4 _ _ e3, e4, ?_, fun p3 G5 s5 e5 => ⟨(by show 2 ≤ sizeLine; decide), fun b G6 s6 m6 e6 => ?_⟩⟩
     · rw [List.length_take, List.length_drop, sizeLine_eq]; omega
     have s16 := s12.trans (s3.trans (s4.trans (s5.trans s6)))
     refine k2 hm b G6 s16 ⟨p3, _, e6, s6 _ _ e5, ?_⟩
     rw [← take_drop_erase ps hm]
     exact Prs.append ((hp.kl s16.kl).drop _) ((hp.kl s16.kl).take _)
   · rw [decide_eq_false hm]
     refine ifT rfl ?_
     exact k1 hm G1 s1
theorem scEven : FnScope ["web"] ["web"] (defScope sEven) := ⟨rfl, rfl, rfl, by decide +kernel, rfl, by decide +kernel, by decide +kernel⟩
set_option maxHeartbeats 0 in
theorem d_even (S : Fnd K mg "even" sEven ["web"]) (T : Txt mg) (M : Def P w K mg base 2 "made" ["above", "below"] spMadeS) : Def P w K mg base 3 "even" ["web"] (spEvenW K) := S.def fun f fd F => by
 have nd := scEven.nd
 refine F.ok scEven (fun vs H Q E h => ?_) (fun cdv A' outer s H vs Q E hr h => ?_)
 · obtain ⟨_, _, _, rfl, _⟩ := h
   rfl
 · obtain ⟨wa, n, r, rfl, e, n1, n12, k⟩ := h
   refine ⟨_, (@pss_one _ _ _ (@ps_ret _ _ _ _ (pe_op op_repT (@pe_tupS _ _ _ _ _ (@pa_consX _ _ _ _ _ (by rfl) (pe_def (by rfl) (by rfl) (by rfl) (by decide) M (hr.mono (by decide)) (@pa_consX _ _ _ _ _ (by rfl) pe_int (@pa_consX _ _ _ _ _ (by rfl) (pe_ix ix_tup (pv 0) pe_int (fun _ _ => rfl)) pa_nil))) pa_nil)) (pe_ix ix_tup (pv 0) pe_int (fun _ _ => rfl))))), ?_⟩
   refine ⟨_, rfl, wa, _, _, _, rfl, rfl, SqT.of e, atI_nat (j := 0) rfl, 1, (n : Int), rfl, by omega, sz_of 1 (by decide), sz_of (m := 8000) 4 (by omega), fun p G1 s1 e1 => ⟨(by show 1 ≤ sizeLine; decide), fun q G2 s2 m2 e2 => ?_⟩⟩
   have hm : Pw.mk 1 (n : Int) = (1, (n : Int)) := Pw.mk_1 (by omega)
   rw [hm] at e1
   refine ⟨_, rfl, wa, _, _, _, rfl, rfl, SqT.of ((s1.trans s2) _ _ e), atI_nat (j := 0) rfl, q, (n : Int), _, rfl, rfl, e2, by simp, by omega, by omega, ?_, fun t G3 s3 e3 => k t G3 _ (s1.trans (s2.trans s3)) e3 ?_⟩
   · rw [sizeLine_eq, Int.toNat_natCast]; show 1 * n ≤ _; omega
   · rw [Int.toNat_natCast]
     exact FrL.rep (p := p) (A := (1, (n : Int))) (s3 _ _ (s2 _ _ e1)) n
theorem scFrac : FnScope ["above", "below", "one", "other"] ["above", "below"] (defScope sFrac) := ⟨rfl, rfl, rfl, by decide +kernel, rfl, by decide +kernel, by decide +kernel⟩
set_option maxHeartbeats 0 in
theorem d_law_frac (S : Fnd K mg "_law_frac" sFrac ["above", "below"]) (T : Txt mg)  : Def P w K mg base 1 "_law_frac" ["above", "below"] spFracS := S.def fun f fd F => by
 have nd := scFrac.nd
 refine F.ok scFrac (fun vs H Q E h => ?_) (fun cdv A' outer s H vs Q E hr h => ?_)
 · obtain ⟨_, _, rfl, _⟩ := h
   rfl
 · obtain ⟨x, y, rfl, hy, sx, sy, k⟩ := h
   refine ⟨_, (@pss_cons _ _ _ _ _ (@ps_setX _ _ 2 _ _ _ _ (by rfl) (Or.inl rfl) nd rfl (Or.inl rfl) (pe_callB call_abs (by rfl) T.abs boot_abs (@pa_consX _ _ _ _ _ (by rfl) (pv 0) pa_nil)))
    (@pss_cons _ _ _ _ _ (@ps_setX _ _ 3 _ _ _ _ (by rfl) (Or.inl rfl) nd rfl (Or.inl rfl) (pe_callB call_abs (by rfl) T.abs boot_abs (@pa_consX _ _ _ _ _ (by rfl) (pv 1) pa_nil)))
    (@pss_cons _ _ _ _ _ (ps_while PassesOwn.never (pt_cmpR op_gt (pv 3) pe_int (nomark _))
     (@pss_one _ _ _ (ps_par rfl nd (i := 2) (j := 3) rfl rfl (by decide) rfl rfl (@pa_consX _ _ _ _ _ (by rfl) (pv 3) (@pa_consX _ _ _ _ _ (by rfl) (pe_op op_mod (pv 2) (pv 3)) pa_nil)) (by rfl))))
    (@pss_cons _ _ _ _ _ (@ps_if _ _ _ _ _ _ _ _ (pt_cmpR op_lt (pv 1) pe_int (nomark _))
     (@pss_one _ _ _ (@ps_setX _ _ 2 _ _ _ _ (by rfl) (Or.inl rfl) nd rfl (Or.inl rfl) (pe_un un_neg (pv 2))))
     pss_nil)
    (@pss_one _ _ _ (@ps_ret _ _ _ _ (@pe_tupS _ _ _ _ _ (@pa_consX _ _ _ _ _ (by rfl) (pe_op op_fdivB (pv 0) (pv 2)) (@pa_consX _ _ _ _ _ (by rfl) (pe_op op_fdivB (pv 1) (pv 2)) pa_nil))))))))), ?_⟩
   have hyn : y ≠ 0 := by omega
   refine ⟨_, rfl, x, rfl, ?_⟩
   refine ⟨_, rfl, y, rfl, ?_⟩
   refine while_in (fun σ G => ∃ (a b : Int), σ = [some (.int x), some (.int y), some (.int a), some (.int b)] ∧ 0 ≤ a ∧ 0 ≤ b ∧ Int.gcd a b = Int.gcd x y ∧ Same H G)
    (fun σ _ => match σ with | [_, _, _, some (.int b)] => b.toNat | _ => 0) ⟨_, _, rfl, abs_nn x, abs_nn y, abs_gcd x y, Same.refl _⟩ ?_
   rintro σ G ⟨a, b, rfl, ha, hb, hg, sG⟩
   refine ⟨_, rfl, _, _, rfl, rfl, _, rfl, if2 (fun h => ⟨_, wN, ?_⟩) (fun h => ?_)⟩
   · have hb0 : 0 < b := of_decide_eq_true h
     refine ⟨_, rfl, _, rfl, _, rfl, _, _, rfl, rfl, hb0, _, _, rfl, ⟨b, a % b, rfl, hb, Int.emod_nonneg _ (by omega), ?_, sG⟩, ?_⟩
     · rw [Pw.gcd_turn ha hb0, hg]
     · show (a % b).toNat < b.toNat
       have h1 := Int.emod_nonneg a (show b ≠ 0 by omega)
       have h2 := Int.emod_lt_of_pos a hb0
       omega
   · have h : ¬ 0 < b := of_decide_eq_false h
     have h0 : b = 0 := by omega
     subst h0
     have e : (a : Int) = (Int.gcd x y : Int) := by rw [← hg, Int.gcd_zero_right]; omega
     subst e
     have hgp := Pw.gpos (a := x) hyn
     have sg := (gcd_sz (x := x) sy hyn).mono (show 8000 ≤ 9000 by decide)
     refine ⟨_, rfl, _, _, rfl, rfl, _, rfl, ifF (decide_eq_false (by omega)) ?_⟩
     refine ⟨_, rfl, _, rfl, _, _, rfl, rfl, ⟨by omega, sg⟩, _, rfl, _, rfl, _, _, rfl, rfl, ⟨by omega, sg⟩, (by show 2 ≤ sizeLine; decide), fun p G2 s2 hp e2 => ?_⟩
     refine k p G2 (sG.trans s2) (sG.free hp) ?_
     unfold Pw.mk
     rw [if_neg (show ¬ y < 0 by omega)]
     exact e2
theorem sc_law_mixed : FnScope ["cell", "k", "number"] ["cell", "k"] (defScope s_law_mixed) := ⟨rfl, rfl, rfl, by decide +kernel, rfl, by decide +kernel, by decide +kernel⟩
set_option maxHeartbeats 0 in
theorem d_law_mixed (S : Fnd K mg "_law_mixed" s_law_mixed ["cell", "k"]) (T : Txt mg)  : Def P w K mg base 1 "_law_mixed" ["cell", "k"] spMixedN := S.def fun f fd F => by
 have nd := sc_law_mixed.nd
 refine F.ok sc_law_mixed (fun vs H Q E h => ?_) (fun cdv A' outer s H vs Q E hr h => ?_)
 · obtain ⟨_, _, rfl, _⟩ := h
   rfl
 · obtain ⟨c, k', rfl, k⟩ := h
   refine ⟨_, (@pss_cons _ _ _ _ _ (@ps_setX _ _ 2 _ _ _ _ (by rfl) (Or.inl rfl) nd rfl (Or.inl rfl) (pe_op op_mod (pe_op op_add (pe_op op_mod (pv 0) pe_int) (pe_op op_mul pe_int (pe_op op_add (pv 1) pe_int))) pe_int))
    (@pss_cons _ _ _ _ _ (@ps_setX _ _ 2 _ _ _ _ (by rfl) (Or.inl rfl) nd rfl (Or.inl rfl) (pe_op op_mod (pe_op op_add (pe_op op_add (pe_op op_mul (pv 2) (pv 2)) (pe_op op_mul pe_int (pv 2))) (pv 1)) pe_int))
    (@pss_cons _ _ _ _ _ (@ps_setX _ _ 2 _ _ _ _ (by rfl) (Or.inl rfl) nd rfl (Or.inl rfl) (pe_op op_mod (pe_op op_mul (pv 2) (pv 2)) pe_int))
    (@pss_one _ _ _ (@ps_ret _ _ _ _ (pe_op op_fdiv (pe_op op_mod (pe_op op_mul (pv 2) pe_int) pe_int) pe_int)))))), ?_⟩
   refine ⟨_, rfl, _, _, rfl, rfl, (by show (0 : Int) < 2147483647; decide), _, rfl, _, _, rfl, rfl, _, _, rfl, rfl, .inl ⟨by decide, by decide⟩, _, _, rfl, rfl, _, _, rfl, rfl, (by show (0 : Int) < 2147483647; decide), ?_⟩
   refine ⟨_, rfl, _, rfl, _, _, rfl, rfl, .inl ⟨by omega, by omega⟩, _, rfl, _, _, rfl, rfl, .inl ⟨by decide, by decide⟩, _, _, rfl, rfl, _, rfl, _, _, rfl, rfl, _, _, rfl, rfl, (by show (0 : Int) < 2147483647; decide), ?_⟩
   refine ⟨_, rfl, _, rfl, _, _, rfl, rfl, .inl ⟨by omega, by omega⟩, _, _, rfl, rfl, (by show (0 : Int) < 2147483629; decide), ?_⟩
   exact ⟨_, rfl, _, _, rfl, rfl, .inr ⟨by decide, by decide⟩, _, _, rfl, rfl, (by show (0 : Int) < 2147483629; decide), _, _, rfl, rfl, ⟨by decide, by decide⟩, k _ (Int.ediv_nonneg (Int.emod_nonneg _ (by decide)) (by decide))⟩
theorem sc_law_next : FnScope ["purse"] ["purse"] (defScope s_law_next) := ⟨rfl, rfl, rfl, by decide +kernel, rfl, by decide +kernel, by decide +kernel⟩
set_option maxHeartbeats 0 in
theorem d_law_next (S : Fnd K mg "_law_next" s_law_next ["purse"]) (T : Txt mg)  : Def P w K mg base 1 "_law_next" ["purse"] spNextN := S.def fun f fd F => by
 have nd := sc_law_next.nd
 refine F.ok sc_law_next (fun vs H Q E h => ?_) (fun cdv A' outer s H vs Q E hr h => ?_)
 · obtain ⟨_, rfl, _⟩ := h
   rfl
 · obtain ⟨d, rfl, hd, k⟩ := h
   refine ⟨_, (@pss_cons _ _ _ _ _ (@ps_if _ _ _ _ _ _ _ _ (pt_cmpR (op_eqNil hr) (pv 0) (@pe_lstS _ _ _ _ pa_nil) (nomark _))
    (@pss_one _ _ _ (@ps_ret _ _ _ _ pe_int))
    pss_nil)
    (@pss_one _ _ _ (@ps_ret _ _ _ _ (pe_bm0 PySem.F.plainAttrs_list PySem.F.slot_list_pop PySem.F.type_list_pop mt_pop (pv 0))))), ?_⟩
   obtain ⟨ns, e⟩ := hd
   refine ⟨_, rfl, (by show 0 ≤ sizeLine; decide), fun b G1 s1 m1 e1 => ⟨d, b, _, rfl, rfl, .inr ⟨SqL.of (s1 _ _ e), SqL.of e1⟩, _, rfl, ?_⟩⟩
   cases ns with
   | nil =>
     refine ifT rfl ?_
     exact k 0 G1 ⟨[], s1 _ _ e⟩ (Same.kpd s1)
   | cons n ns =>
     refine ifF rfl ?_
     have e' := s1 _ _ e
     have hne : (n :: ns : List Nat) ≠ [] := by simp
     refine ⟨_, rfl, .inl ⟨rfl, _, SqL.of e'⟩, d, _, .int (((n :: ns).getLast hne : Nat) : Int), rfl, rfl, e', ?_, ?_⟩
     · unfold natV
       rw [List.length_map, List.getElem?_map, ← List.getLast?_eq_getElem?, List.getLast?_eq_some_getLast hne]; rfl
     · refine k _ _ ⟨(n :: ns).dropLast, by rw [upd_same]; unfold natV; rw [List.map_dropLast]⟩ ((Same.kpd s1).trans Kp.set)
theorem sc_law_purse : FnScope ["script", "at", "step", "many", "cells", "rests", "purse", "k", "place"] ["script", "at", "step", "many"] (defScope s_law_purse) := ⟨rfl, rfl, rfl, by decide +kernel, rfl, by decide +kernel, by decide +kernel⟩
set_option maxHeartbeats 0 in
theorem d_law_purse (S : Fnd K mg "_law_purse" s_law_purse ["script", "at", "step", "many"]) (T : Txt mg) (zrev : mg "reversed" = none) (Mx : Def P w K mg base 1 "_law_mixed" ["cell", "k"] spMixedN) : Def P w K mg base 2 "_law_purse" ["script", "at", "step", "many"] (spPurseN K) := S.def fun f fd F => by
 have nd := sc_law_purse.nd
 refine F.ok sc_law_purse (fun vs H Q E h => ?_) (fun cdv A' outer s H vs Q E hr h => ?_)
 · obtain ⟨_, _, _, _, _, rfl, _⟩ := h
   rfl
 · obtain ⟨a, ns, at', st, many, rfl, hS, hlen, h0, many0, many1, k⟩ := h
   refine ⟨_, (@pss_cons _ _ _ _ _ (@ps_setX _ _ 4 _ _ _ _ (by rfl) (Or.inl rfl) nd rfl (Or.inl rfl) (pe_sliceS (pv 0) (po_some (pv 1)) (po_some pe_int) (po_some (pv 2))))
    (@pss_mid _ _ _ _ _ (@ps_if _ _ _ _ _ _ _ _ (pt_cmpR (op_eqNil hr) (pv 4) (@pe_lstS _ _ _ _ pa_nil) (nomark _))
     (@pss_one _ _ _ (@ps_setX _ _ 4 _ _ _ _ (by rfl) (Or.inl rfl) nd rfl (Or.inl rfl) (@pe_lstS _ _ _ _ (@pa_consX _ _ _ _ _ (by rfl) (pv 1) pa_nil))))
     pss_nil)
    (@pss_cons _ _ _ _ _ (ps_setC 5 ["cell"] [none] (by rfl) nd rfl rfl rfl (@pi_list _ _ _ _ (pv 4)) (by show ∀ y : Str × NameKind, y ∈ _ → y.2 = NameKind.free → (defScope s_law_purse).names.lookup y.1 = some .cell; decide +kernel) (by decide) rfl (by decide +kernel) trivial
     (fun cl C s H fp => (pg_name (i := 0) (show (["cell"] : List Str).Nodup by decide +kernel) rfl (Or.inl rfl) (.inr rfl)))
     (fun cl C s H fp => pts_nil)
     (fun cl C s H fp => (pe_op op_mul (pe_callB call_abs (by rfl) T.abs boot_abs (@pa_consX _ _ _ _ _ (by rfl) (pv 0) pa_nil)) (pe_callTy call_int1 (by rfl) T.int boot_int (@pa_consX _ _ _ _ _ (by rfl) (pe_cmpR op_ge (pe_callB call_abs (by rfl) T.abs boot_abs (@pa_consX _ _ _ _ _ (by rfl) (pv 0) pa_nil)) (pe_op op_pow pe_int pe_int) (nomark _)) pa_nil)))))
    (@pss_cons _ _ _ _ _ (@ps_setX _ _ 6 _ _ _ _ (by rfl) (Or.inl rfl) nd rfl (Or.inl rfl) (@pe_lstS _ _ _ _ pa_nil))
    (@pss_cons _ _ _ _ _ (@ps_forX _ _ _ _ _ _ _ _ (fun _ => rfl) PassesOwn.never rfl (pi_range1 rfl T.range (@pa_consX _ _ _ _ _ (by rfl) (pv 3) pa_nil)) (pg_name (i := 7) nd rfl (Or.inl rfl))
     (@pss_cons _ _ _ _ _ (@ps_setX _ _ 8 _ _ _ _ (by rfl) (Or.inl rfl) nd rfl (Or.inl rfl) (pe_op op_mod (pv 7) (pe_callB call_len_seq (by rfl) T.len PySem.boot_len (@pa_consX _ _ _ _ _ (by rfl) (pv 4) pa_nil))))
    (@pss_one _ _ _ (@ps_if _ _ _ _ _ _ _ _ (pt_cmpR op_gt (pe_ix ix_list (pv 5) (pv 8) (fun _ _ => rfl)) pe_int (nomark _))
     (@pss_cons _ _ _ _ _ (ps_expr (pe_bm PySem.F.plainAttrs_list PySem.F.slot_list_append PySem.F.type_list_append mt_append (pv 6) (@pa_consX _ _ _ _ _ (by rfl) (pe_op op_mod (pe_ix ix_list (pv 5) (pv 8) (fun _ _ => rfl)) pe_int) pa_nil)))
    (@pss_one _ _ _ (ps_asg (pe_op op_fdiv (pe_ix ix_list (pv 5) (pv 8) (fun _ _ => rfl)) pe_int) (pg_sub (pv 5) (pv 8) set_list))))
     (@pss_one _ _ _ (ps_expr (pe_bm PySem.F.plainAttrs_list PySem.F.slot_list_append PySem.F.type_list_append mt_append (pv 6) (@pa_consX _ _ _ _ _ (by rfl) (pe_def (by rfl) (by rfl) (by rfl) (by decide) Mx (hr.mono (by decide)) (@pa_consX _ _ _ _ _ (by rfl) (pe_ix ix_list (pv 4) (pv 8) (fun _ _ => rfl)) (@pa_consX _ _ _ _ _ (by rfl) (pe_op op_fdivB (pv 7) (pe_callB call_len_seq (by rfl) T.len PySem.boot_len (@pa_consX _ _ _ _ _ (by rfl) (pv 4) pa_nil))) pa_nil))) pa_nil))))))))
    (@pss_one _ _ _ (@ps_ret _ _ _ _ (pe_lrev rfl rfl T.lst rfl zrev (@pa_consX _ _ _ _ _ (by rfl) (pv 6) pa_nil))))))))), ?_⟩
   refine ⟨_, rfl, _, rfl, _, rfl, _, rfl, _, rfl, _, rfl, a, _, rfl, hS, (by show (0 : Int) < st; exact h0), fun c G1 ys hy hyl s1 m1 e1 => ?_⟩
   obtain ⟨zs, rfl⟩ : ∃ zs : List Int, ys = zs.map V.int := ints_of fun y h => by
    obtain ⟨n, _, e⟩ := List.mem_map.mp (hy y h)
    exact ⟨n, e.symm⟩
   have hz63 : zs.length ≤ 63 := by rw [List.length_map, List.length_map] at hyl; omega
   refine ⟨fun σ G => Same H G ∧ ∃ (c : Addr) (zs : List Int), G c = some (.lst (zs.map V.int)) ∧ 0 < zs.length ∧ zs.length ≤ 63 ∧ σ = [some (.ref a), some (.int at'), some (.int st), some (.int many), some (.ref c), none, none, none, none], ?_, ?_⟩
   · refine ⟨_, rfl, (by show 0 ≤ sizeLine; decide), fun b G2 s2 m2 e2 => ⟨c, b, _, rfl, rfl, .inr ⟨SqL.of (s2 _ _ e1), SqL.of e2⟩, _, rfl, ?_⟩⟩
     cases zs with
     | nil =>
       refine ifT rfl ?_
       exact ⟨_, rfl, (by show 1 ≤ sizeLine; decide), fun c2 G3 s3 m3 e3 => ⟨s1.trans (s2.trans s3), c2, [at'], e3, by simp, by simp, rfl⟩⟩
     | cons z zs =>
       refine ifF rfl ?_
       exact ⟨s1.trans s2, c, _, s2 _ _ e1, by simp, hz63, rfl⟩
   rintro σ G ⟨sG, c, zs, ec, z0, z63, rfl⟩
   refine ⟨_, rfl, c, rfl, ⟨_, SqL.of ec⟩, fun D hD => ?_⟩
   have hDH : H D = none := sG.free hD
   refine comp_lst (K := K) (a := c) (D := D) (xs := zs.map V.int) (fun i ys σ G' => Same G G' ∧ G' D = some (.lst ys) ∧ (∃ rs : List Int, ys = rs.map V.int ∧ rs.length = i) ∧ ∃ x, σ = [x]) ?_ ?_ ?_ ?_
   · exact ⟨Same.new hD, upd_same, ⟨[], rfl, rfl⟩, none, rfl⟩
   · rintro i ys σ G' ⟨s2, e2, _⟩
     exact ⟨SqL.of (s2 _ _ ec), e2⟩
   · rintro i x ys σ G' hi hlt ⟨s2, e2, ⟨rs, rfl, hrl⟩, x', rfl⟩
     obtain ⟨z, rfl⟩ : ∃ z : Int, x = .int z := by
      obtain ⟨z, _, e⟩ := List.mem_map.mp (List.mem_of_getElem? hi)
      exact ⟨z, e.symm⟩
     dsimp only [gName]
     rw [if_pos rfl]
     rw [List.length_map] at hlt
     refine ⟨_, rfl, _, rfl, _, rfl, _, rfl, _, _, rfl, rfl, ⟨by decide, by decide, by decide⟩, _, _, rfl, rfl, .inr ⟨_, rfl, _, _, rfl, rfl, .inr (b01 _), e2, ?_, Wt.next (by rw [List.length_map]; exact hlt) ⟨fun b o e => ?_, upd_same, ⟨rs ++ [_], by rw [List.map_append]; rfl, ?_⟩, _, rfl⟩⟩⟩
     · rw [List.length_map]; exact small1000 (by omega)
     · rw [upd_ne (ne_of_none e hD)]; exact s2 _ _ e
     · rw [List.length_append, List.length_singleton]; omega
   rintro ys σ G2 ⟨s2, e2, ⟨rs, rfl, hrl⟩, _⟩
   rw [List.length_map] at hrl
   refine ⟨(by show 0 ≤ sizeLine; decide), fun d G3 s3 m3 e3 => ?_⟩
   have hdH : H d = none := (sG.trans s2).free m3
   have hdc : c ≠ d := ne_of_none (s2 _ _ ec) m3
   have hdD : D ≠ d := ne_of_none e2 m3
   have hcD : c ≠ D := ne_of_none ec hD
   refine ⟨_, rfl, _, rfl, by omega, by omega, ?_⟩
   refine for_range (lo := 0) (n := many.toNat) (fun i σ G' => Same H G' ∧ ∃ (rs ds : List Int) (v7 v8 : Option V), G' c = some (.lst (zs.map V.int)) ∧ G' D = some (.lst (rs.map V.int)) ∧ rs.length = zs.length ∧ G' d = some (.lst (ds.map V.int)) ∧ (∀ z ∈ ds, 0 ≤ z) ∧ ds.length ≤ i ∧ σ = [some (.ref a), some (.int at'), some (.int st), some (.int many), some (.ref c), some (.ref D), some (.ref d), v7, v8]) ?_ ?_ ?_
   · exact ⟨sG.trans (s2.trans s3), rs, [], none, none, s3 _ _ (s2 _ _ ec), s3 _ _ e2, hrl, e3, (fun z hz => by simp at hz), Nat.zero_le _, rfl⟩
   · rintro i σ G4 hi ⟨sH, rs, ds, v7, v8, ec4, eD4, hr4, ed4, nn4, hd4, rfl⟩
     rw [Int.zero_add]
     have hml : (zs.map V.int).length = zs.length := List.length_map ..
     refine ⟨_, rfl, _, rfl, c, _, rfl, .inl (SqL.of ec4), _, _, rfl, rfl, (by show (0 : Int) < ((zs.map V.int).length : Nat); rw [hml]; omega), ?_⟩
     rw [hml]
     have hjz0 : i % zs.length < zs.length := Nat.mod_lt _ z0
     have hjr : (rs.map V.int)[i % zs.length]? = some (.int (rs[i % zs.length]'(by omega))) := by simp [show i % zs.length < rs.length by omega]
     have hjz : (zs.map V.int)[i % zs.length]? = some (.int (zs[i % zs.length]'(by omega))) := by simp [show i % zs.length < zs.length by omega]
     have few : (ds.map V.int).length < sizeLine := by rw [List.length_map, sizeLine_eq]; omega
     have ap : ∀ (n : Int), ds.map V.int ++ [V.int n] = (ds ++ [n]).map V.int := fun n => by rw [List.map_append]; rfl
     have nn1 : ∀ n : Int, 0 ≤ n → ∀ z ∈ ds ++ [n], 0 ≤ z := fun n hn z hz => by
      rcases List.mem_append.mp hz with q | q
      · exact nn4 z q
      · rw [List.mem_singleton.mp q]; exact hn
     have len1 : ∀ (n : Int), (ds ++ [n]).length ≤ i + 1 := fun n => by rw [List.length_append, List.length_singleton]; omega
     refine ⟨_, rfl, _, rfl, D, _, _, _, rfl, rfl, SqL.of eD4, atI_nat (j := i % zs.length) hjr, _, _, rfl, rfl, _, rfl, if2 (fun _ => ?_) (fun _ => ?_)⟩
     · refine ⟨_, rfl, .inl ⟨rfl, _, SqL.of ed4⟩, _, rfl, _, rfl, D, _, _, _, rfl, rfl, SqL.of eD4, atI_nat (j := i % zs.length) hjr, _, _, rfl, rfl, (by show (0 : Int) < 1000003; decide), d, _, _, rfl, rfl, ed4, few, ?_⟩
       rw [ap]
       have eD5 : (upd G4 d (.lst ((ds ++ [rs[i % zs.length]'(by omega) % 1000003]).map V.int))) D = some (.lst (rs.map V.int)) := by rw [upd_ne hdD]; exact eD4
       refine ⟨_, rfl, _, rfl, D, _, _, _, rfl, rfl, SqL.of eD5, atI_nat (j := i % zs.length) hjr, _, _, rfl, rfl, ⟨by decide, by decide⟩, _, rfl, _, rfl, D, _, _, i % zs.length, rfl, rfl, eD5, ?_, ?_⟩
       · show ixN (rs.map V.int).length ((i % zs.length : Nat) : Int) = some (i % zs.length)
         unfold ixN
         rw [if_pos (by omega), if_pos (by rw [List.length_map]; omega), Int.toNat_natCast]
       · refine ⟨fun b o e => ?_, rs.set (i % zs.length) (rs[i % zs.length]'(by omega) / 1000003), ds ++ [rs[i % zs.length]'(by omega) % 1000003], _, _, ?_, ?_, (List.length_set ..).trans hr4, ?_, nn1 _ (Int.emod_nonneg _ (by decide)), len1 _, rfl⟩
         · rw [upd_ne (ne_of_none e hDH), upd_ne (ne_of_none e hdH)]; exact sH _ _ e
         · rw [upd_ne hcD, upd_ne hdc]; exact ec4
         · rw [upd_same, List.map_set]
         · rw [upd_ne (Ne.symm hdD), upd_same]
     · refine ⟨_, rfl, .inl ⟨rfl, _, SqL.of ed4⟩, _, rfl, _, rfl, c, _, _, _, rfl, rfl, SqL.of ec4, atI_nat (j := i % zs.length) hjz, _, rfl, _, rfl, c, _, rfl, .inl (SqL.of ec4), _, _, rfl, rfl, ⟨?_, ?_⟩, _, _, rfl, fun v hv => ⟨d, _, _, rfl, rfl, ed4, few, ?_⟩⟩
       · rw [hml]; omega
       · rw [hml]; exact sz_of (m := 9000) _ (by show (((zs.length : Nat) : Int)).natAbs < 2 ^ 9000; exact Nat.lt_of_le_of_lt (show _ ≤ 2 ^ 6 by omega) (Nat.pow_lt_pow_right (by decide) (by decide)))
       rw [ap]
       exact ⟨fun b o e => by rw [upd_ne (ne_of_none e hdH)]; exact sH _ _ e, rs, ds ++ [v], _, _, by rw [upd_ne hdc]; exact ec4, by rw [upd_ne hdD]; exact eD4, hr4, upd_same, nn1 _ hv, len1 _, rfl⟩
   · rintro σ G4 ⟨sH, rs, ds, v7, v8, ec4, eD4, hr4, ed4, nn4, hd4, rfl⟩
     refine ⟨_, rfl, d, _, rfl, ed4, fun p G5 s5 m5 e5 => k p G5 (sH.trans s5) (sH.free m5) ?_⟩
     obtain ⟨ms, em⟩ := nats_of (zs := ds.reverse) fun z hz => nn4 z (List.mem_reverse.mp hz)
     exact ⟨ms, by rw [e5, ← em, List.map_reverse]⟩
theorem scGreat : FnScope ["purse"] ["purse"] (defScope sGreat) := ⟨rfl, rfl, rfl, by decide +kernel, rfl, by decide +kernel, by decide +kernel⟩
set_option maxHeartbeats 0 in
theorem d_law_great (S : Fnd K mg "_law_great" sGreat ["purse"]) (T : Txt mg) (Nx : Def P w K mg base 1 "_law_next" ["purse"] spNextZ) : Def P w K mg base 2 "_law_great" ["purse"] (spGreatN K) := S.def fun f fd F => by
 have nd := scGreat.nd
 refine F.ok scGreat (fun vs H Q E h => ?_) (fun cdv A' outer s H vs Q E hr h => ?_)
 · obtain ⟨_, rfl, _⟩ := h
   rfl
 · obtain ⟨d, rfl, hd, k⟩ := h
   refine ⟨_, (@pss_one _ _ _ (@ps_ret _ _ _ _ (@pe_tupS _ _ _ _ _ (@pa_consX _ _ _ _ _ (by rfl) pe_int (@pa_consX _ _ _ _ _ (by rfl) (pe_callTy call_tupOf (by rfl) T.tup boot_tuple (@pa_consX _ _ _ _ _ (by rfl) (pe_callB call_sortedPS (by rfl) T.srt boot_sorted (@pa_consX _ _ _ _ _ (by rfl) (pe_compC ["k", "purse"] [none, some 0] rfl (pi_range1 rfl T.range (@pa_consX _ _ _ _ _ (by rfl) pe_int pa_nil)) (by show ∀ y : Str × NameKind, y ∈ _ → y.2 = NameKind.free → (defScope sGreat).names.lookup y.1 = some .cell; decide +kernel) (by decide) rfl (by decide +kernel) ⟨⟨rfl, rfl, .inl rfl⟩, trivial⟩
    (fun cl C s H fp => (pg_name (i := 0) (show (["k", "purse"] : List Str).Nodup by decide +kernel) rfl (Or.inl rfl) (.inr rfl)))
    (fun cl C s H fp => pts_nil)
    (fun cl C s H fp => (@pe_tupS _ _ _ _ _ (@pa_consX _ _ _ _ _ (by rfl) (pe_op op_mod (pe_def (by rfl) (by rfl) (by rfl) (by decide) Nx (hr.mono (by decide)) (@pa_consX _ _ _ _ _ (by rfl) (pv 1) pa_nil)) pe_int) (@pa_consX _ _ _ _ _ (by rfl) (pe_op op_mod (pe_def (by rfl) (by rfl) (by rfl) (by decide) Nx (hr.mono (by decide)) (@pa_consX _ _ _ _ _ (by rfl) (pv 1) pa_nil)) pe_int) pa_nil))))) pa_nil)) pa_nil)) pa_nil))))), ?_⟩
   refine ⟨60, rfl, by decide, by decide, fun D hD => ?_⟩
   have hDd := hd.ne hD
   refine comp_rng (lo := 0) (n := (60 : Int).toNat) (D := D) (fun i ys σ G => PurN G d ∧ Kp d H G ∧ G D = some (.lst ys) ∧ (∃ ps : List (Int × Int), Prs K G ps ys ∧ ps.length = i ∧ ∀ q ∈ ps, 0 ≤ q.1 ∧ q.1 < 12 ∧ 0 ≤ q.2 ∧ q.2 < 12) ∧ ∃ x, σ = [x, some (.ref d)]) ?_ ?_ ?_ ?_
   · exact ⟨hd.same (Same.new hD), Kp.new hD, upd_same, ⟨[], prs_nil, rfl, fun q hq => by simp at hq⟩, none, rfl⟩
   · rintro i ys σ G ⟨_, _, e, _⟩
     exact e
   · rintro i vs σ G hi ⟨c1, c2, c4, ⟨ps, c5, c6, c7⟩, x', rfl⟩
     have hi60 : i < 60 := hi
     dsimp only [gName]
     rw [if_pos rfl]
     refine ⟨_, rfl, d, rfl, c1, fun x G6 h6 k6 => ⟨_, _, rfl, rfl, (by show (0 : Int) < 12; decide), _, rfl, d, rfl, h6, fun z G8 h8 k8 => ⟨_, _, rfl, rfl, (by show (0 : Int) < 12; decide), (by show 2 ≤ sizeLine; decide), fun t HE sE nE eE => ?_⟩⟩⟩
     have kpE : Kp d G HE := k6.trans (k8.trans (Same.kpd sE))
     have klE : KL G HE := c1.kl kpE
     have lkE : HE D = some (.lst vs) := kpE _ _ c4 hDd
     have hE := h8.same sE
     have klF : KL HE (upd HE D (.lst (vs ++ [.ref t]))) := KL.set lkE
     refine ⟨lkE, ?_, Wt.next hi ⟨?_, fun x o e n => ?_, upd_same, ⟨ps ++ [(x % 12, z % 12)], ?_, ?_, ?_⟩, _, rfl⟩⟩
     · rw [c5.len, c6]
       exact small1000 (by omega)
     · obtain ⟨ns, e⟩ := hE
       exact ⟨ns, by rw [upd_ne hDd.symm]; exact e⟩
     · rw [upd_ne (ne_of_none e hD)]
       exact kpE _ o (c2 _ o e n) n
     · exact Prs.snoc (klF.seqT (SqT.of eE)) ((c5.kl klE).kl klF)
     · rw [List.length_append, List.length_singleton, c6]
     · intro q hq
       rcases List.mem_append.mp hq with hq | hq
       · exact c7 q hq
       · rw [List.mem_singleton.mp hq]
         show 0 ≤ x % 12 ∧ x % 12 < 12 ∧ 0 ≤ z % 12 ∧ z % 12 < 12
         omega
   · rintro vs σ G5 ⟨c1, c2, c4, ⟨ps, c5, c6, c7⟩, _⟩
     have c6 : ps.length = 60 := c6
     refine ⟨D, vs, ps, rfl, SqL.of c4, c5, by omega, fun us ms D2 G6 pm pw hp6 s6 m6 e6 => ⟨D2, us, rfl, SqL.of e6, fun t G7 s7 m7 e7 => ⟨(by show 2 ≤ sizeLine; decide), fun a G8 s8 m8 e8 => ?_⟩⟩⟩
     have s68 := s6.trans (s7.trans s8)
     have hml := pm.length_eq
     exact k a G8 ms (c1.same s68) (c2.trans (Same.kpd s68)) ⟨t, us, e8, s8 _ _ e7, hp6.kl (s7.trans s8).kl⟩ ⟨by decide, by decide, by omega, fun p hp => c7 p (pm.mem_iff.mp hp)⟩ (by omega) pw
theorem scWeb : FnScope ["purse", "least", "most", "pages", "links", "k", "start"] ["purse", "least", "most"] (defScope sWeb) := ⟨rfl, rfl, rfl, by decide +kernel, rfl, by decide +kernel, by decide +kernel⟩
set_option maxHeartbeats 0 in
theorem d_law_web (S : Fnd K mg "_law_web" sWeb ["purse", "least", "most"]) (T : Txt mg) (Nx : Def P w K mg base 1 "_law_next" ["purse"] spNextZ) : Def P w K mg base 2 "_law_web" ["purse", "least", "most"] (spWebHN K) := S.def fun f fd F => by
 have nd := scWeb.nd
 refine F.ok scWeb (fun vs H Q E h => ?_) (fun cdv A' outer s H vs Q E hr h => ?_)
 · obtain ⟨_, _, _, rfl, _⟩ := h
   rfl
 · obtain ⟨d, lo, hi, rfl, hd, lo1, lohi, hi12, k⟩ := h
   refine ⟨_, (@pss_mid _ _ _ _ _ (@ps_setX _ _ 3 _ _ _ _ (by rfl) (Or.inl rfl) nd rfl (Or.inl rfl) (pe_op op_add (pv 1) (pe_op op_mod (pe_def (by rfl) (by rfl) (by rfl) (by decide) Nx (hr.mono (by decide)) (@pa_consX _ _ _ _ _ (by rfl) (pv 0) pa_nil)) (pe_op op_add (pe_op op_sub (pv 2) (pv 1)) pe_int))))
    (@pss_cons _ _ _ _ _ (@ps_setX _ _ 4 _ _ _ _ (by rfl) (Or.inl rfl) nd rfl (Or.inl rfl) (@pe_lstS _ _ _ _ pa_nil))
    (@pss_cons _ _ _ _ _ (@ps_forX _ _ _ _ _ _ _ _ (fun _ => rfl) PassesOwn.never rfl (pi_range1 rfl T.range (@pa_consX _ _ _ _ _ (by rfl) (pe_op op_mod (pe_def (by rfl) (by rfl) (by rfl) (by decide) Nx (hr.mono (by decide)) (@pa_consX _ _ _ _ _ (by rfl) (pv 0) pa_nil)) (pe_ix ix_list (@pe_lstS _ _ _ _ (@pa_consX _ _ _ _ _ (by rfl) pe_int (@pa_consX _ _ _ _ _ (by rfl) pe_int (@pa_consX _ _ _ _ _ (by rfl) pe_int (@pa_consX _ _ _ _ _ (by rfl) pe_int pa_nil))))) (pe_op op_mod (pe_def (by rfl) (by rfl) (by rfl) (by decide) Nx (hr.mono (by decide)) (@pa_consX _ _ _ _ _ (by rfl) (pv 0) pa_nil)) pe_int) (fun _ _ => rfl))) pa_nil)) (pg_name (i := 5) nd rfl (Or.inl rfl))
     (@pss_cons _ _ _ _ _ (@ps_setX _ _ 6 _ _ _ _ (by rfl) (Or.inl rfl) nd rfl (Or.inl rfl) (pe_op op_mod (pe_def (by rfl) (by rfl) (by rfl) (by decide) Nx (hr.mono (by decide)) (@pa_consX _ _ _ _ _ (by rfl) (pv 0) pa_nil)) (pv 3)))
    (@pss_one _ _ _ (ps_expr (pe_bm PySem.F.plainAttrs_list PySem.F.slot_list_append PySem.F.type_list_append mt_append (pv 4) (@pa_consX _ _ _ _ _ (by rfl) (@pe_tupS _ _ _ _ _ (@pa_consX _ _ _ _ _ (by rfl) (pe_op op_mul (pv 6) (pe_callTy call_int1 (by rfl) T.int boot_int (@pa_consX _ _ _ _ _ (by rfl) (pe_cmpR op_gt (pe_op op_mod (pe_def (by rfl) (by rfl) (by rfl) (by decide) Nx (hr.mono (by decide)) (@pa_consX _ _ _ _ _ (by rfl) (pv 0) pa_nil)) pe_int) pe_int (nomark _)) pa_nil))) (@pa_consX _ _ _ _ _ (by rfl) (pe_op op_mod (pe_def (by rfl) (by rfl) (by rfl) (by decide) Nx (hr.mono (by decide)) (@pa_consX _ _ _ _ _ (by rfl) (pv 0) pa_nil)) (pv 3)) pa_nil))) pa_nil))))))
    (@pss_one _ _ _ (@ps_ret _ _ _ _ (@pe_tupS _ _ _ _ _ (@pa_consX _ _ _ _ _ (by rfl) (pv 3) (@pa_consX _ _ _ _ _ (by rfl) (pe_callTy call_tupOf (by rfl) T.tup boot_tuple (@pa_consX _ _ _ _ _ (by rfl) (pe_callB call_sortedPS (by rfl) T.srt boot_sorted (@pa_consX _ _ _ _ _ (by rfl) (pv 4) pa_nil)) pa_nil)) pa_nil)))))))), ?_⟩
   refine ⟨fun σ G => PurN G d ∧ Kp d H G ∧ ∃ n : Int, lo ≤ n ∧ n ≤ hi ∧ n ≤ 12 ∧ σ = [some (.ref d), some (.int lo), some (.int hi), some (.int n), none, none, none], ?_, ?_⟩
   · refine ⟨_, rfl, _, rfl, d, rfl, hd, fun v1 H1 h1 k1 => ⟨_, rfl, _, rfl, _, _, rfl, rfl, _, _, rfl, rfl, _, _, rfl, rfl, (by show (0 : Int) < hi - lo + 1; omega), _, _, rfl, rfl, ?_⟩⟩
     have p0 := Int.emod_nonneg v1 (show hi - lo + 1 ≠ 0 by omega)
     have p1 := Int.emod_lt_of_pos v1 (show 0 < hi - lo + 1 by omega)
     exact ⟨h1, k1, _, by omega, by omega, by omega, rfl⟩
   rintro σ G ⟨hG, kG, n, n1, nhi, n12, rfl⟩
   refine ⟨(by show 0 ≤ sizeLine; decide), fun lk G1 t1 hlk eLk => ?_⟩
   have lkd : lk ≠ d := hG.ne hlk
   have lkn : H lk = none := kG.freeN hG hlk
   refine ⟨_, rfl, d, rfl, hG.same t1, fun w1 G2 h2 k2 => ⟨(by show 4 ≤ sizeLine; decide), fun bl G3 t3 hbl eBl => ?_⟩⟩
   have bld : bl ≠ d := h2.ne hbl
   refine ⟨_, rfl, d, rfl, h2.same t3, fun w2 G4 h4 k4 => ?_⟩
   have eBl4 := k4 _ _ eBl bld
   have q0 := Int.emod_nonneg w2 (show (4 : Int) ≠ 0 by decide)
   have q1 := Int.emod_lt_of_pos w2 (show (0 : Int) < 4 by decide)
   obtain ⟨m, hm, m0, m24⟩ : ∃ m : Int, atI [V.int 2, V.int 6, V.int 14, V.int 24] (w2 % 4) = some (.int m) ∧ 0 < m ∧ m ≤ 24 := by
    have : w2 % 4 = 0 ∨ w2 % 4 = 1 ∨ w2 % 4 = 2 ∨ w2 % 4 = 3 := by omega
    rcases this with e | e | e | e <;> rw [e]
    · exact ⟨2, rfl, by decide, by decide⟩
    · exact ⟨6, rfl, by decide, by decide⟩
    · exact ⟨14, rfl, by decide, by decide⟩
    · exact ⟨24, rfl, by decide, by decide⟩
   have r0 := Int.emod_nonneg w1 (show m ≠ 0 by omega)
   have r1 := Int.emod_lt_of_pos w1 m0
   have K4 : Kp d G1 G4 := k2.trans ((Same.kpd t3).trans k4)
   have KH : Kp d H G4 := kG.trans ((Same.kpd t1).trans K4)
   refine ⟨_, _, rfl, rfl, (by show (0 : Int) < 4; decide), bl, _, _, _, rfl, rfl, SqL.of eBl4, hm, _, _, rfl, rfl, m0, _, rfl, by omega, by omega, ?_⟩
   refine for_range (lo := 0) (n := (w1 % m).toNat) (fun i σ G => PurN G d ∧ Kp d H G ∧ (∃ (vs : List V) (ps : List (Int × Int)), G lk = some (.lst vs) ∧ Prs K G ps vs ∧ ps.length = i ∧ ∀ q ∈ ps, 0 ≤ q.1 ∧ q.1 < n ∧ 0 ≤ q.2 ∧ q.2 < n) ∧
    ∃ kv sv, σ = [some (.ref d), some (.int lo), some (.int hi), some (.int n), some (.ref lk), kv, sv]) ?_ ?_ ?_
   · exact ⟨h4, KH, ⟨[], [], K4 _ _ eLk lkd, prs_nil, rfl, fun q hq => by simp at hq⟩, none, none, rfl⟩
   · rintro i σ G hi ⟨c1, c2, ⟨vs, ps, c4, c5, c6, c7⟩, kv, sv, rfl⟩
     refine ⟨_, rfl, d, rfl, c1, fun x G6 h6 k6 => ⟨_, rfl, _, _, rfl, rfl, (by show (0 : Int) < n; omega), ?_⟩⟩
     have c46 := k6 _ _ c4 lkd
     refine ⟨_, rfl, .inl ⟨rfl, _, SqL.of c46⟩, _, rfl, _, rfl, d, rfl, h6, fun y G7 h7 k7 => ⟨_, _, rfl, rfl, (by show (0 : Int) < 4; decide), _, _, rfl, rfl, .inr ⟨_, rfl, _, _, rfl, rfl, .inr (b01 _), _, rfl, d, rfl, h7, fun z G8 h8 k8 => ⟨_, rfl, _, _, rfl, rfl, (by show (0 : Int) < n; omega), (by show 2 ≤ sizeLine; decide), fun t HE sE nE eE => ?_⟩⟩⟩⟩
     have kpE : Kp d G HE := k6.trans (k7.trans (k8.trans (Same.kpd sE)))
     have klE : KL G HE := c1.kl kpE
     have lkE : HE lk = some (.lst vs) := kpE _ _ c4 lkd
     have hE := h8.same sE
     refine ⟨lk, vs, _, rfl, rfl, lkE, ?_, ?_⟩
     · rw [c5.len, c6]
       exact small1000 (by omega)
     have klF : KL HE (upd HE lk (.lst (vs ++ [.ref t]))) := KL.set lkE
     refine ⟨?_, fun x o e n => ?_, ⟨vs ++ [.ref t], ps ++ [(x % n * (if decide (y % 4 > 0) = true then 1 else 0), z % n)], upd_same, ?_, ?_, ?_⟩, _, _, rfl⟩
     · obtain ⟨ns, e⟩ := hE
       exact ⟨ns, by rw [upd_ne lkd.symm]; exact e⟩
     · rw [upd_ne (ne_of_none e lkn)]
       exact kpE _ o (c2 _ o e n) n
     · exact Prs.snoc (klF.seqT (SqT.of eE)) ((c5.kl klE).kl klF)
     · rw [List.length_append, List.length_singleton, c6]
     · intro q hq
       rcases List.mem_append.mp hq with hq | hq
       · exact c7 q hq
       · rw [List.mem_singleton.mp hq]
         have x0 := Int.emod_nonneg x (show n ≠ 0 by omega)
         have x1 := Int.emod_lt_of_pos x (show 0 < n by omega)
         have z0 := Int.emod_nonneg z (show n ≠ 0 by omega)
         have z1 := Int.emod_lt_of_pos z (show 0 < n by omega)
         refine ⟨?_, ?_, z0, z1⟩
         · show 0 ≤ x % n * _
           split <;> omega
         · show x % n * _ < n
           split <;> omega
   · rintro σ G5 ⟨c1, c2, ⟨vs, ps, c4, c5, c6, c7⟩, kv, sv, rfl⟩
     refine ⟨_, rfl, _, rfl, lk, vs, ps, rfl, SqL.of c4, c5, by omega, fun us ms D2 G6 pm pw hp6 s6 m6 e6 => ⟨D2, us, rfl, SqL.of e6, fun t G7 s7 m7 e7 => ⟨(by show 2 ≤ sizeLine; decide), fun a G8 s8 m8 e8 => ?_⟩⟩⟩
     have s68 := s6.trans (s7.trans s8)
     have hml := pm.length_eq
     exact k a G8 n ms (c1.same s68) (c2.trans (Same.kpd s68)) ⟨t, us, e8, s8 _ _ e7, hp6.kl (s7.trans s8).kl⟩ ⟨by omega, n12, by omega, fun p hp => c7 p (pm.mem_iff.mp hp)⟩ n1 nhi (by omega) pw
theorem scLLeap : FnScope ["purse", "hundredth", "above", "more", "some"] ["purse"] (defScope sLLeap) := ⟨rfl, rfl, rfl, by decide +kernel, rfl, by decide +kernel, by decide +kernel⟩
set_option maxHeartbeats 0 in
theorem d_law_leap (S : Fnd K mg "_law_leap" sLLeap ["purse"]) (T : Txt mg) (Nx : Def P w K mg base 1 "_law_next" ["purse"] spNextZ) (Fr : Def P w K mg base 1 "_law_frac" ["above", "below"] spFracS) : Def P w K mg base 2 "_law_leap" ["purse"] (spLeapN K) := S.def fun f fd F => by
 have nd := scLLeap.nd
 refine F.ok scLLeap (fun vs H Q E h => ?_) (fun cdv A' outer s H vs Q E hr h => ?_)
 · obtain ⟨_, rfl, _⟩ := h
   rfl
 · obtain ⟨d, rfl, hd, k⟩ := h
   refine ⟨_, (@pss_cons _ _ _ _ _ (@ps_setX _ _ 1 _ _ _ _ (by rfl) (Or.inl rfl) nd rfl (Or.inl rfl) (pe_op op_add pe_int (pe_op op_mod (pe_def (by rfl) (by rfl) (by rfl) (by decide) Nx (hr.mono (by decide)) (@pa_consX _ _ _ _ _ (by rfl) (pv 0) pa_nil)) pe_int)))
    (@pss_cons _ _ _ _ _ (@ps_setX _ _ 2 _ _ _ _ (by rfl) (Or.inl rfl) nd rfl (Or.inl rfl) (pe_op op_add pe_int (pe_op op_mod (pe_def (by rfl) (by rfl) (by rfl) (by decide) Nx (hr.mono (by decide)) (@pa_consX _ _ _ _ _ (by rfl) (pv 0) pa_nil)) pe_int)))
    (@pss_cons _ _ _ _ _ (@ps_setX _ _ 3 _ _ _ _ (by rfl) (Or.inl rfl) nd rfl (Or.inl rfl) (pe_op op_mod (pe_def (by rfl) (by rfl) (by rfl) (by decide) Nx (hr.mono (by decide)) (@pa_consX _ _ _ _ _ (by rfl) (pv 0) pa_nil)) pe_int))
    (@pss_cons _ _ _ _ _ (@ps_setX _ _ 4 _ _ _ _ (by rfl) (Or.inl rfl) nd rfl (Or.inl rfl) (@pe_lstS _ _ _ _ (@pa_consX _ _ _ _ _ (by rfl) (@pe_tupS _ _ _ _ _ (@pa_consX _ _ _ _ _ (by rfl) pe_int (@pa_consX _ _ _ _ _ (by rfl) pe_int pa_nil))) (@pa_consX _ _ _ _ _ (by rfl) (@pe_tupS _ _ _ _ _ (@pa_consX _ _ _ _ _ (by rfl) pe_int (@pa_consX _ _ _ _ _ (by rfl) pe_int pa_nil))) (@pa_consX _ _ _ _ _ (by rfl) (@pe_tupS _ _ _ _ _ (@pa_consX _ _ _ _ _ (by rfl) pe_int (@pa_consX _ _ _ _ _ (by rfl) pe_int pa_nil))) (@pa_consX _ _ _ _ _ (by rfl) (pe_def (by rfl) (by rfl) (by rfl) (by decide) Fr (hr.mono (by decide)) (@pa_consX _ _ _ _ _ (by rfl) (pv 1) (@pa_consX _ _ _ _ _ (by rfl) pe_int pa_nil))) (@pa_consX _ _ _ _ _ (by rfl) (pe_def (by rfl) (by rfl) (by rfl) (by decide) Fr (hr.mono (by decide)) (@pa_consX _ _ _ _ _ (by rfl) (pv 2) (@pa_consX _ _ _ _ _ (by rfl) (pe_op op_add pe_int (pv 3)) pa_nil))) pa_nil)))))))
    (@pss_cons _ _ _ _ _ (ps_expr (pe_bm PySem.F.plainAttrs_list PySem.F.slot_list_append PySem.F.type_list_append mt_append (pv 4) (@pa_consX _ _ _ _ _ (by rfl) (pe_def (by rfl) (by rfl) (by rfl) (by decide) Fr (hr.mono (by decide)) (@pa_consX _ _ _ _ _ (by rfl) (pe_op op_add (pe_op op_mul (pv 2) (pe_op op_pow pe_int pe_int)) (pv 3)) (@pa_consX _ _ _ _ _ (by rfl) (pe_op op_sub (pe_op op_pow pe_int pe_int) (pv 1)) pa_nil))) pa_nil)))
    (@pss_one _ _ _ (@ps_ret _ _ _ _ (pe_ix ix_list (pv 4) (pe_ix ix_list (@pe_lstS _ _ _ _ (@pa_consX _ _ _ _ _ (by rfl) pe_int (@pa_consX _ _ _ _ _ (by rfl) pe_int (@pa_consX _ _ _ _ _ (by rfl) pe_int (@pa_consX _ _ _ _ _ (by rfl) pe_int (@pa_consX _ _ _ _ _ (by rfl) pe_int (@pa_consX _ _ _ _ _ (by rfl) pe_int (@pa_consX _ _ _ _ _ (by rfl) pe_int (@pa_consX _ _ _ _ _ (by rfl) pe_int pa_nil))))))))) (pe_op op_mod (pe_def (by rfl) (by rfl) (by rfl) (by decide) Nx (hr.mono (by decide)) (@pa_consX _ _ _ _ _ (by rfl) (pv 0) pa_nil)) pe_int) (fun _ _ => rfl)) (fun _ _ => rfl))))))))), ?_⟩
   refine ⟨_, rfl, d, rfl, hd, fun v1 G1 h1 k1 => ⟨_, _, rfl, rfl, (by show (0 : Int) < 99; decide), _, _, rfl, rfl, ?_⟩⟩
   refine ⟨_, rfl, d, rfl, h1, fun v2 G2 h2 k2 => ⟨_, _, rfl, rfl, (by show (0 : Int) < 900000; decide), _, _, rfl, rfl, ?_⟩⟩
   refine ⟨_, rfl, d, rfl, h2, fun v3 G3 h3 k3 => ⟨_, _, rfl, rfl, (by show (0 : Int) < 99999; decide), ?_⟩⟩
   have a1 := Int.emod_nonneg v1 (show (99 : Int) ≠ 0 by decide)
   have a2 := Int.emod_lt_of_pos v1 (show (0 : Int) < 99 by decide)
   have b1 := Int.emod_nonneg v2 (show (900000 : Int) ≠ 0 by decide)
   have b2 := Int.emod_lt_of_pos v2 (show (0 : Int) < 900000 by decide)
   have c1 := Int.emod_nonneg v3 (show (99999 : Int) ≠ 0 by decide)
   have c2 := Int.emod_lt_of_pos v3 (show (0 : Int) < 99999 by decide)
   have e6 : (10 : Int) ^ (6 : Int).toNat = 1000000 := by decide
   have e12 : (10 : Int) ^ (12 : Int).toNat = 1000000000000 := by decide
   have hN : (1 + v2 % 900000) * 10 ^ (6 : Int).toNat = 1000000 * (1 + v2 % 900000) := by rw [e6, Int.mul_comm]
   refine ⟨(by show 2 ≤ sizeLine; decide), fun q1 A1 t1 m1 f1 => ⟨(by show 2 ≤ sizeLine; decide), fun q2 A2 t2 m2 f2 => ⟨(by show 2 ≤ sizeLine; decide), fun q3 A3 t3 m3 f3 => ?_⟩⟩⟩
   refine ⟨_, rfl, 1 + v1 % 99, 100, rfl, by decide, sz_of 7 (by omega), sz_of 7 (by decide), fun q4 A4 t4 m4 f4 => ?_⟩
   refine ⟨_, rfl, _, rfl, _, _, rfl, rfl, 1 + v2 % 900000, 900000 + v3 % 99999, rfl, by omega, sz_of 20 (by omega), sz_of 20 (by omega), fun q5 A5 t5 m5 f5 => ⟨(by show 5 ≤ sizeLine; decide), fun L A6 t6 m6 eL => ?_⟩⟩
   refine ⟨_, rfl, .inl ⟨rfl, _, SqL.of eL⟩, _, rfl, _, _, rfl, rfl, ⟨by decide, by decide, by decide⟩, _, _, rfl, rfl, .inr ⟨by decide, by decide⟩, _, rfl, _, _, rfl, rfl, _, _, rfl, rfl, ⟨by decide, by decide, by decide⟩, _, rfl, _, _, rfl, rfl, (1 + v2 % 900000) * 10 ^ (6 : Int).toNat + v3 % 99999, 10 ^ (12 : Int).toNat - (1 + v1 % 99), rfl, by omega, sz_of (m := 8000) 41 (by omega), sz_of (m := 8000) 41 (by omega), fun q6 A7 t7 m7 f7 => ?_⟩
   have eL7 := t7 _ _ eL
   refine ⟨L, _, _, rfl, rfl, eL7, (by show 5 < sizeLine; decide), ?_⟩
   have t16 := t2.trans (t3.trans (t4.trans (t5.trans (t6.trans t7))))
   have t37 := t1.trans t16
   have h7 : PurN A7 d := h3.same t37
   have hLd : L ≠ d := ((((((h3.same t1).same t2).same t3).same t4).same t5)).ne m6
   have kH : Kp d H A7 := k1.trans (k2.trans (k3.trans (Same.kpd t37)))
   have hLH : H L = none := (k1.trans (k2.trans (k3.trans (Same.kpd (t1.trans (t2.trans (t3.trans (t4.trans t5)))))))).freeN (((((h3.same t1).same t2).same t3).same t4).same t5) m6
   have f1' : FrA K A7 q1 (1, 1) := t16 _ _ f1
   have f2' : FrA K A7 q2 (1, 2) := (t3.trans (t4.trans (t5.trans (t6.trans t7)))) _ _ f2
   have f3' : FrA K A7 q3 (3, 20) := (t4.trans (t5.trans (t6.trans t7))) _ _ f3
   have f4' := (t5.trans (t6.trans t7)) _ _ f4
   have f5' := (t6.trans t7) _ _ f5
   have upk : KL A7 (upd A7 L (.lst ([V.ref q1, V.ref q2, V.ref q3, V.ref q4, V.ref q5] ++ [V.ref q6]))) := KL.set eL7
   have hU : PurN (upd A7 L (.lst ([V.ref q1, V.ref q2, V.ref q3, V.ref q4, V.ref q5] ++ [V.ref q6]))) d := by
    obtain ⟨ns, e⟩ := h7
    exact ⟨ns, by rw [upd_ne hLd.symm]; exact e⟩
   have kU : Kp d H (upd A7 L (.lst ([V.ref q1, V.ref q2, V.ref q3, V.ref q4, V.ref q5] ++ [V.ref q6]))) := fun b o e n => by rw [upd_ne (ne_of_none e hLH)]; exact kH _ _ e n
   have eU : (upd A7 L (.lst ([V.ref q1, V.ref q2, V.ref q3, V.ref q4, V.ref q5] ++ [V.ref q6]))) L = some (.lst [V.ref q1, V.ref q2, V.ref q3, V.ref q4, V.ref q5, V.ref q6]) := upd_same
   generalize upd A7 L (.lst ([V.ref q1, V.ref q2, V.ref q3, V.ref q4, V.ref q5] ++ [V.ref q6])) = U at upk hU kU eU
   refine ⟨_, rfl, (by show 8 ≤ sizeLine; decide), fun bl B1 u1 n1 eb => ⟨_, rfl, d, rfl, hU.same u1, fun v B2 hB2 kB2 => ?_⟩⟩
   have hbd : bl ≠ d := hU.ne n1
   have eb2 := kB2 _ _ eb hbd
   have eL2 := kB2 _ _ (u1 _ _ eU) hLd
   have klB : KL A7 B2 := upk.trans (u1.kl.trans ((hU.same u1).kl kB2))
   have okA : ∀ {a b : Int} {q : Addr}, FrA K A7 q (Pw.mk a b) → 0 < a → a ≤ b → Sz 41 a → Sz 41 b → ∃ A, FrA K B2 q A ∧ Pw.Canon A ∧ 0 < A.1 ∧ A.1 ≤ A.2 ∧ Sz2 41 A := fun {a b q} f h0 h1 z0 z1 => by
    have c := Pw.canon_mk (a := a) (b := b) (by omega)
    have sp := (Pw.mk_spec (a := a) (b := b) (by omega)).2
    refine ⟨Pw.mk a b, klB.tup f, c, ?_, ?_, mk_sz (by omega) z0 z1⟩
    · refine Int.lt_of_not_ge fun h => ?_
      have p1 : (Pw.mk a b).1 * b ≤ 0 := Int.mul_nonpos_of_nonpos_of_nonneg h (by omega)
      have p2 := Int.mul_pos h0 c.1
      omega
    · refine Int.le_of_mul_le_mul_right (a := b) ?_ (by omega)
      rw [sp, Int.mul_comm (Pw.mk a b).2 b]
      exact Int.mul_le_mul_of_nonneg_right h1 (Int.le_of_lt c.1)
   have pick : ∀ i : Int, 0 ≤ i → i < 6 → ∃ q A, atI [V.ref q1, V.ref q2, V.ref q3, V.ref q4, V.ref q5, V.ref q6] i = some (.ref q) ∧ FrA K B2 q A ∧ Pw.Canon A ∧ 0 < A.1 ∧ A.1 ≤ A.2 ∧ Sz2 41 A := fun i i0 i6 => by
    have : i = 0 ∨ i = 1 ∨ i = 2 ∨ i = 3 ∨ i = 4 ∨ i = 5 := by omega
    rcases this with rfl | rfl | rfl | rfl | rfl | rfl
    · exact ⟨q1, _, rfl, klB.tup f1', ⟨by decide, by decide⟩, by decide, by decide, sz_of 7 (by decide), sz_of 7 (by decide)⟩
    · exact ⟨q2, _, rfl, klB.tup f2', ⟨by decide, by decide⟩, by decide, by decide, sz_of 7 (by decide), sz_of 7 (by decide)⟩
    · exact ⟨q3, _, rfl, klB.tup f3', ⟨by decide, by decide⟩, by decide, by decide, sz_of 7 (by decide), sz_of 7 (by decide)⟩
    · obtain ⟨A, z⟩ := okA f4' (by omega) (by omega) (sz_of 7 (by omega)) (sz_of 7 (by decide))
      exact ⟨q4, A, rfl, z⟩
    · obtain ⟨A, z⟩ := okA f5' (by omega) (by omega) (sz_of 20 (by omega)) (sz_of 20 (by omega))
      exact ⟨q5, A, rfl, z⟩
    · obtain ⟨A, z⟩ := okA f7 (by omega) (by omega) (sz_of 41 (by omega)) (sz_of 41 (by omega))
      exact ⟨q6, A, rfl, z⟩
   have w0 := Int.emod_nonneg v (show (8 : Int) ≠ 0 by decide)
   have w1 := Int.emod_lt_of_pos v (show (0 : Int) < 8 by decide)
   obtain ⟨i, hi, i0, i6⟩ : ∃ i : Int, atI [V.int 1, V.int 2, V.int 3, V.int 5, V.int 4, V.int 0, V.int 1, V.int 2] (v % 8) = some (.int i) ∧ 0 ≤ i ∧ i < 6 := by
    have : v % 8 = 0 ∨ v % 8 = 1 ∨ v % 8 = 2 ∨ v % 8 = 3 ∨ v % 8 = 4 ∨ v % 8 = 5 ∨ v % 8 = 6 ∨ v % 8 = 7 := by omega
    rcases this with e | e | e | e | e | e | e | e <;> rw [e]
    · exact ⟨1, rfl, by decide, by decide⟩
    · exact ⟨2, rfl, by decide, by decide⟩
    · exact ⟨3, rfl, by decide, by decide⟩
    · exact ⟨5, rfl, by decide, by decide⟩
    · exact ⟨4, rfl, by decide, by decide⟩
    · exact ⟨0, rfl, by decide, by decide⟩
    · exact ⟨1, rfl, by decide, by decide⟩
    · exact ⟨2, rfl, by decide, by decide⟩
   obtain ⟨q, A, hq, fA, cA, a0, aa, sA⟩ := pick i i0 i6
   refine ⟨_, _, rfl, rfl, (by show (0 : Int) < 8; decide), bl, _, _, _, rfl, rfl, SqL.of eb2, hi, L, _, _, _, rfl, rfl, SqL.of eL2, hq, k q B2 A hB2 (kU.trans ((Same.kpd u1).trans kB2)) fA cA a0 aa sA⟩
end
end Lw

set_option pp.maxSteps 800
namespace Lw
open PySem L2 PyProof.Rows
section
variable {P : Program} {w : World} {K : PySem.W.Frag} {mg : Str → Option Value} {base : Heap}
theorem scLv_init : FnScope ["self", "web", "leap"] ["self", "web", "leap"] (defScope sLv_init) := ⟨rfl, rfl, rfl, by decide +kernel, rfl, by decide +kernel, by decide +kernel⟩
theorem m_init {C : Addr} (S : MkF K mg C "Live" "Live.__init__" sLv_init ["self", "web", "leap"]) (T : Txt mg) (LT : LvT K C)  : MkD P w K mg base CX0 1 C "Live" ["self", "web", "leap"] (spLInit C) := S.def fun f fd F => by
 have nd := scLv_init.nd
 refine F.ok scLv_init (fun vs H Q E h => ?_) (fun cdv A' outer s H vs Q E hr h => ?_)
 · obtain ⟨_, _, _, _, rfl, _⟩ := h
   rfl
 · obtain ⟨p, dx, wa, lp, rfl, hp, k⟩ := h
   refine ⟨_, (@pss_cons _ _ _ _ _ (ps_fld (pv 0) (pv 1) rfl)
    (@pss_cons _ _ _ _ _ (ps_fld (pv 0) (pv 2) rfl)
    (@pss_one _ _ _ (ps_fld (pv 0) (@pe_lstS _ _ _ _ pa_nil) rfl)))), ?_⟩
   refine ⟨_, rfl, _, rfl, p, C, dx, _, rfl, hp, LT.cl, LT.nN, (by show 0 < 1000; decide), ?_⟩
   refine ⟨_, rfl, _, rfl, p, C, dx, _, rfl, upd_same, LT.cl, LT.nL, (by show 1 < 1000; decide), ?_⟩
   refine ⟨(by show 0 ≤ sizeLine; decide), fun pd G1 s1 m1 e1 => ?_⟩
   have ne : p ≠ pd := ne_of_none upd_same m1
   rw [upd_ne ne.symm, upd_ne ne.symm] at m1
   refine ⟨_, rfl, p, C, dx, _, rfl, s1 _ _ upd_same, LT.cl, LT.nP, (by rw [show putF "leap" (V.ref lp) (putF "now" (V.ref wa) []) = ([("now", V.ref wa), ("leap", V.ref lp)] : List (Str × V)) from (by show (if ("now" : Str) = "leap" then [(("now" : Str), V.ref lp)] else (("now" : Str), V.ref wa) :: putF "leap" (V.ref lp) []) = _; rw [if_neg kNL]; rfl)]; show 2 < 1000; decide), ?_⟩
   refine k pd _ m1 ⟨⟨dx, upd_same⟩, by rw [upd_ne ne.symm]; exact e1⟩ fun b o e hb => ?_
   rw [upd_ne hb]
   exact s1 _ _ (by rw [upd_ne hb, upd_ne hb]; exact e)
theorem scLv_turn : FnScope ["self", "web"] ["self", "web"] (defScope sLv_turn) := ⟨rfl, rfl, rfl, by decide +kernel, rfl, by decide +kernel, by decide +kernel⟩
theorem m_turn {C : Addr} (S : MFnd K C "turn" "Live.turn" sLv_turn ["self", "web"]) (T : Txt mg) (LT : LvT K C)  : MDef P w K mg base CX0 1 C "turn" ["self", "web"] (spLTurn C) := S.def fun f fd F => by
 have nd := scLv_turn.nd
 refine F.ok scLv_turn (fun vs H Q E h => ?_) (fun cdv A' outer s H vs Q E hr h => ?_)
 · obtain ⟨_, _, _, _, _, _, rfl, _⟩ := h
   rfl
 · obtain ⟨p, b, now, lp, pd, us, rfl, l, hz, k⟩ := h
   refine ⟨_, (@pss_cons _ _ _ _ _ (ps_expr (pe_bm PySem.F.plainAttrs_list PySem.F.slot_list_append PySem.F.type_list_append mt_append (pe_fld (pv 0) rfl) (@pa_consX _ _ _ _ _ (by rfl) (pe_fld (pv 0) rfl) pa_nil)))
    (@pss_one _ _ _ (ps_fld (pv 0) (pv 1) rfl))), ?_⟩
   obtain ⟨⟨dx, h1⟩, h2⟩ := l
   have ne : p ≠ pd := ne_of h1 h2 (by intro z; cases z)
   refine ⟨_, rfl, p, C, dx, _, _, rfl, h1, LT.cl, LT.nP, lvF_past _ _ _, .inl ⟨rfl, _, SqL.of h2⟩, _, rfl, p, C, dx, _, _, rfl, h1, LT.cl, LT.nN, lvF_now _ _ _, pd, _, _, rfl, rfl, h2, (by rw [sizeLine_eq]; omega), ?_⟩
   refine ⟨_, rfl, _, rfl, p, C, dx, _, rfl, (by rw [upd_ne ne]; exact h1), LT.cl, LT.nN, lvF_few _ _ _, ?_⟩
   refine k _ ⟨⟨dx, Eq.trans upd_same (congrArg (fun l => some (HO.ins C dx l)) (lvF_set _ _ _ _))⟩, by rw [upd_ne ne.symm]; exact upd_same⟩ fun c o e hc => ?_
   rw [upd_ne (fun z => hc (by rw [z]; simp)), upd_ne (fun z => hc (by rw [z]; simp))]
   exact e
theorem scLv_web : FnScope ["self"] ["self"] (defScope sLv_web) := ⟨rfl, rfl, rfl, by decide +kernel, rfl, by decide +kernel, by decide +kernel⟩
theorem m_web {C : Addr} (S : MFnd K C "web" "Live.web" sLv_web ["self"]) (T : Txt mg) (LT : LvT K C)  : MDef P w K mg base CX0 1 C "web" ["self"] (spLWeb K C) := S.def fun f fd F => by
 have nd := scLv_web.nd
 refine F.ok scLv_web (fun vs H Q E h => ?_) (fun cdv A' outer s H vs Q E hr h => ?_)
 · obtain ⟨_, _, _, _, _, rfl, _⟩ := h
   rfl
 · obtain ⟨p, pd, lp, W, Ws, rfl, l, k⟩ := h
   refine ⟨_, (@pss_one _ _ _ (@ps_ret _ _ _ _ (pe_fld (pv 0) rfl))), ?_⟩
   obtain ⟨now, us, lv, hw, hs⟩ := id l
   obtain ⟨⟨dx, h1⟩, h2⟩ := id lv
   exact ⟨_, rfl, p, C, dx, _, _, rfl, h1, LT.cl, LT.nN, lvF_now _ _ _, k now hw⟩
theorem scLv_undo : FnScope ["self"] ["self"] (defScope sLv_undo) := ⟨rfl, rfl, rfl, by decide +kernel, rfl, by decide +kernel, by decide +kernel⟩
set_option maxHeartbeats 0 in
theorem m_undo {C : Addr} (S : MFnd K C "undo" "Live.undo" sLv_undo ["self"]) (T : Txt mg) (LT : LvT K C)  : MDef P w K mg base CX0 1 C "undo" ["self"] (spLUndo K C) := S.def fun f fd F => by
 have nd := scLv_undo.nd
 refine F.ok scLv_undo (fun vs H Q E h => ?_) (fun cdv A' outer s H vs Q E hr h => ?_)
 · obtain ⟨_, _, _, _, _, rfl, _⟩ := h
   rfl
 · obtain ⟨p, pd, lp, W, Ws, rfl, l, k0, k1⟩ := h
   refine ⟨_, (@pss_cons _ _ _ _ _ (@ps_if _ _ _ _ _ _ _ _ (pt_not (pt_truthX (fun _ => rfl) (pe_fld (pv 0) rfl)))
    (@pss_one _ _ _ (@ps_ret _ _ _ _ pe_bl))
    pss_nil)
    (@pss_cons _ _ _ _ _ (ps_fld (pv 0) (pe_bm0 PySem.F.plainAttrs_list PySem.F.slot_list_pop PySem.F.type_list_pop mt_pop (pe_fld (pv 0) rfl)) rfl)
    (@pss_one _ _ _ (@ps_ret _ _ _ _ pe_bl)))), ?_⟩
   obtain ⟨now, us, lv, hw, hs⟩ := id l
   obtain ⟨⟨dx, h1⟩, h2⟩ := id lv
   have ne : p ≠ pd := ne_of h1 h2 (by intro z; cases z)
   have hsl := hs.len
   refine ⟨_, rfl, p, C, dx, _, _, rfl, h1, LT.cl, LT.nP, lvF_past _ _ _, _, .inl ⟨us, SqL.of h2, rfl⟩, ?_⟩
   rcases List.eq_nil_or_concat Ws with rfl | ⟨Ws0, W0, rfl⟩
   · cases us with
     | nil => exact ifT rfl (k0 rfl H (Same.refl H))
     | cons u us => cases hsl
   rw [List.concat_eq_append] at hs hsl l k1
   obtain ⟨vs, a, rfl, hs0, hwa⟩ := hs.unsnoc
   rw [show (vs ++ [V.ref a]).isEmpty = false by cases vs <;> rfl]
   refine ifF rfl ?_
   refine ⟨_, rfl, p, C, dx, _, _, rfl, h1, LT.cl, LT.nP, lvF_past _ _ _, .inl ⟨rfl, _, SqL.of h2⟩, pd, _, .ref a, rfl, rfl, h2, (by simp), ?_⟩
   refine ⟨_, rfl, p, C, dx, _, rfl, (by rw [upd_ne ne]; exact h1), LT.cl, LT.nN, lvF_few _ _ _, ?_⟩
   have l3 : Lv C (upd (upd H pd (.lst (vs ++ [V.ref a]).dropLast)) p (.ins C dx (putF "now" (.ref a) (lvF now lp pd)))) p a lp pd vs := ⟨⟨dx, Eq.trans upd_same (congrArg (fun l => some (HO.ins C dx l)) (lvF_set _ _ _ _))⟩, by rw [upd_ne ne.symm, upd_same, List.dropLast_concat]⟩
   have k3 : Kx [p, pd] H (upd (upd H pd (.lst (vs ++ [V.ref a]).dropLast)) p (.ins C dx (putF "now" (.ref a) (lvF now lp pd)))) := fun c o e hc => by
    rw [upd_ne (fun z => hc (by rw [z]; simp)), upd_ne (fun z => hc (by rw [z]; simp))]
    exact e
   have u3 := lv.ku k3
   exact k1 W0 Ws0 rfl _ ⟨a, vs, l3, hwa.ku u3, hs0.ku u3⟩ k3
theorem scLv_page : FnScope ["self", "number"] ["self"] (defScope sLv_page) := ⟨rfl, rfl, rfl, by decide +kernel, rfl, by decide +kernel, by decide +kernel⟩
set_option maxHeartbeats 0 in
theorem m_page {C : Addr} (S : MFnd K C "page" "Live.page" sLv_page ["self"]) (T : Txt mg) (LT : LvT K C) {Xc : Addr} (XT : XcT K mg "NoLink" Xc) {tP tL : Tok} (mP : mg "MOST_PAGES" = some (.int 12 tP)) (mL : mg "MOST_LINKS" = some (.int 60 tL)) (Tu : MDef P w K mg base CX0 1 C "turn" ["self", "web"] (spLTurn C)) : MDef P w K mg base (CXN P w Xc) 2 C "page" ["self"] (spLPageX K C Xc) := S.def fun f fd F => by
 have nd := scLv_page.nd
 refine F.okN scLv_page (fun vs H Q E h => ?_) (fun cdv A' outer s H vs Q E hr h => ?_)
 · obtain ⟨_, _, _, _, _, rfl, _⟩ := h
   rfl
 · obtain ⟨p, pd, lp, W, Ws, rfl, l, hz, k, kE⟩ := h
   refine ⟨_, (@pss_cons _ _ _ _ _ (@ps_setX _ _ 1 _ _ _ _ (by rfl) (Or.inl rfl) nd rfl (Or.inl rfl) (pe_ix ix_tup (pe_fld (pv 0) rfl) pe_int (fun _ _ => rfl)))
    (@pss_cons _ _ _ _ _ (@ps_if _ _ _ _ _ _ _ _ (pt_cmpR op_ge (pv 1) (pe_glob (v := .int 12) (by rfl) mP ⟨_, rfl⟩) (nomark _))
     (@pss_one _ _ _ (ps_raise XT (by rfl) (@pa_consX _ _ _ _ _ (by rfl) pe_str pa_nil) (by rfl) (by rfl) (by decide)))
     pss_nil)
    (@pss_cons _ _ _ _ _ (ps_expr (pe_mdef (by rfl) (by rfl) (by rfl) (pv 0) LT.cl Tu (hr.mono (by decide)) pass0 (@pa_consX _ _ _ _ _ (by rfl) (@pe_tupS _ _ _ _ _ (@pa_consX _ _ _ _ _ (by rfl) (pe_op op_add (pv 1) pe_int) (@pa_consX _ _ _ _ _ (by rfl) (pe_ix ix_tup (pe_fld (pv 0) rfl) pe_int (fun _ _ => rfl)) pa_nil))) pa_nil)))
    (@pss_one _ _ _ (@ps_ret _ _ _ _ (pv 1)))))), ?_⟩
   obtain ⟨now, us, lv, hw, hs⟩ := id l
   obtain ⟨⟨dx, h1⟩, h2⟩ := id lv
   obtain ⟨t, ws, ea, et, hp⟩ := id hw
   have hsl := hs.len
   refine ⟨_, rfl, p, C, dx, _, _, rfl, h1, LT.cl, LT.nN, lvF_now _ _ _, now, _, _, _, rfl, rfl, SqT.of ea, rfl, ?_⟩
   refine ⟨_, rfl, _, _, rfl, rfl, _, rfl, ?_⟩
   rcases (Decidable.em (W.1 < 12)).symm with hn | hn
   · rw [decide_eq_true (show (12 : Int) ≤ W.1 by omega)]
     exact ifT rfl ⟨(by show 1 ≤ 10; decide), kE hn H (Same.refl H)⟩
   rw [decide_eq_false (show ¬ (12 : Int) ≤ W.1 by omega)]
   refine ifF rfl ?_
   refine ⟨_, rfl, p, dx, _, rfl, h1, lvF_no _ _ _ (by decide +kernel) (by decide +kernel) (by decide +kernel), _, rfl, _, _, rfl, rfl, _, rfl, p, C, dx, _, _, rfl, h1, LT.cl, LT.nN, lvF_now _ _ _, now, _, _, _, rfl, rfl, SqT.of ea, rfl, (by show 2 ≤ sizeLine; decide), fun b G1 s1 m1 e1 => ?_⟩
   refine ⟨p, b, now, lp, pd, us, rfl, lv.same s1, by omega, fun G3 l3 k3 => ?_⟩
   have u3 := (lv.same s1).ku k3
   have hb : WbAt K G1 b (W.1 + 1) W.2 := ⟨t, ws, e1, s1 _ _ et, hp.ku s1.ku⟩
   exact ⟨_, rfl, k hn G3 ⟨b, _, l3, hb.ku u3, ((hs.ku s1.ku).ku u3).snoc ((hw.same s1).ku u3)⟩ ((Same.kx s1).trans k3)⟩
theorem scLv_shares : FnScope ["self"] ["self"] (defScope sLv_shares) := ⟨rfl, rfl, rfl, by decide +kernel, rfl, by decide +kernel, by decide +kernel⟩
set_option maxHeartbeats 0 in
theorem m_shares {C : Addr} (S : MFnd K C "shares" "Live.shares" sLv_shares ["self"]) (T : Txt mg) (LT : LvT K C) (Sh : Def P w K mg base 6 "shares_shares" ["web", "leap", "leaps"] (spSh K)) (Ev : Def P w K mg base 3 "even" ["web"] (spEvenW K)) : MDef P w K mg base CX0 7 C "shares" ["self"] (spLShares K C) := S.def fun f fd F => by
 have nd := scLv_shares.nd
 refine F.ok scLv_shares (fun vs H Q E h => ?_) (fun cdv A' outer s H vs Q E hr h => ?_)
 · obtain ⟨_, _, _, _, _, _, _, rfl, _⟩ := h
   rfl
 · obtain ⟨p, pd, lp, n, ps, Ws, A, rfl, l, n1, n12, few, lk, fA, ca, a0, a1, sA, k⟩ := h
   refine ⟨_, (@pss_one _ _ _ (@ps_ret _ _ _ _ (pe_def (by rfl) (by rfl) (by rfl) (by decide) Sh (hr.mono (by decide)) (@pa_consX _ _ _ _ _ (by rfl) (pe_fld (pv 0) rfl) (@pa_consX _ _ _ _ _ (by rfl) (pe_fld (pv 0) rfl) (@pa_consX _ _ _ _ _ (by rfl) (pe_def (by rfl) (by rfl) (by rfl) (by decide) Ev (hr.mono (by decide)) (@pa_consX _ _ _ _ _ (by rfl) (pe_fld (pv 0) rfl) pa_nil)) pa_nil)))))), ?_⟩
   obtain ⟨now, us, lv, hw, hs⟩ := id l
   obtain ⟨⟨dx, h1⟩, h2⟩ := id lv
   obtain ⟨t, ws, ea, et, hp⟩ := id hw
   refine ⟨_, rfl, p, C, dx, _, _, rfl, h1, LT.cl, LT.nN, lvF_now _ _ _, _, rfl, p, C, dx, _, _, rfl, h1, LT.cl, LT.nL, lvF_leap _ _ _, _, rfl, p, C, dx, _, _, rfl, h1, LT.cl, LT.nN, lvF_now _ _ _, now, n, _, rfl, ea, n1, n12, fun ev G1 vs s1 e1 f1 => ?_⟩
   exact ⟨now, lp, ev, n, ps, A, evL n, vs, (n : Int), rfl, shin_even (hw.same s1) (by omega) lk (s1 _ _ fA) ca a0 a1 sA n1 n12 e1 f1, fun t' G2 Ss ys ok sz s2 e2 f2 => k t' G2 Ss ys ok sz (s1.trans s2) e2 f2⟩
theorem scWhole : FnScope ["thing"] ["thing"] (defScope sWhole) := ⟨rfl, rfl, rfl, by decide +kernel, rfl, by decide +kernel, by decide +kernel⟩
theorem d_is_whole (S : Fnd K mg "is_whole" sWhole ["thing"]) (T : Txt mg)  : Def P w K mg base 1 "is_whole" ["thing"] (spWholeT K) := S.def fun f fd F => by
 have nd := scWhole.nd
 refine F.ok scWhole (fun vs H Q E h => ?_) (fun cdv A' outer s H vs Q E hr h => ?_)
 · obtain ⟨_, _, rfl, _⟩ := h
   rfl
 · obtain ⟨v, o, rfl, h, k⟩ := h
   refine ⟨_, (@pss_one _ _ _ (@ps_ret _ _ _ _ (pe_and (pe_callB call_isi (by rfl) T.isi boot_isinstance (@pa_consX _ _ _ _ _ (by rfl) (pv 0) (@pa_consX _ _ _ _ _ (by rfl) (pe_bltn (v := .ty "int") (by rfl) T.int boot_int rfl) pa_nil))) (pe_one (pe_not (pe_callB call_isi (by rfl) T.isi boot_isinstance (@pa_consX _ _ _ _ _ (by rfl) (pv 0) (@pa_consX _ _ _ _ _ (by rfl) (pe_bltn (v := .ty "bool") (by rfl) T.bool boot_bool rfl) pa_nil)))))))), ?_⟩
   cases h with
   | int i => exact ⟨_, rfl, _, _, _, true, rfl, .int i, isi_ii _, _, rfl, ifT rfl ⟨_, rfl, _, _, _, false, rfl, .int i, isi_ib _, _, rfl, k⟩⟩
   | bl b => exact ⟨_, rfl, _, _, _, true, rfl, .bl b, isi_bi _, _, rfl, ifT rfl ⟨_, rfl, _, _, _, true, rfl, .bl b, isi_bb _, _, rfl, k⟩⟩
   | oth ty e => exact ⟨_, rfl, _, _, _, false, rfl, ty, e, _, rfl, ifF rfl k⟩
theorem scPair : FnScope ["thing"] ["thing"] (defScope sPair) := ⟨rfl, rfl, rfl, by decide +kernel, rfl, by decide +kernel, by decide +kernel⟩
theorem d_is_pair_of_wholes (S : Fnd K mg "is_pair_of_wholes" sPair ["thing"]) (T : Txt mg) (Wh : Def P w K mg base 1 "is_whole" ["thing"] (spWholeT K)) : Def P w K mg base 2 "is_pair_of_wholes" ["thing"] (spPairT K) := S.def fun f fd F => by
 have nd := scPair.nd
 refine F.ok scPair (fun vs H Q E h => ?_) (fun cdv A' outer s H vs Q E hr h => ?_)
 · obtain ⟨_, _, _, _, _, rfl, _⟩ := h
   rfl
 · obtain ⟨q, x, y, ox, oy, rfl, hq, hx, hy, k⟩ := h
   refine ⟨_, (@pss_one _ _ _ (@ps_ret _ _ _ _ (pe_and (pe_callB call_isi (by rfl) T.isi boot_isinstance (@pa_consX _ _ _ _ _ (by rfl) (pv 0) (@pa_consX _ _ _ _ _ (by rfl) (pe_bltn (v := .ty "tuple") (by rfl) T.tup boot_tuple rfl) pa_nil))) (pe_and (pe_cmpR op_eq (pe_callB call_len_seq (by rfl) T.len PySem.boot_len (@pa_consX _ _ _ _ _ (by rfl) (pv 0) pa_nil)) pe_int (nomark _)) (pe_and (pe_def (by rfl) (by rfl) (by rfl) (by decide) Wh (hr.mono (by decide)) (@pa_consX _ _ _ _ _ (by rfl) (pe_ix ix_tup (pv 0) pe_int (fun _ _ => rfl)) pa_nil)) (pe_one (pe_def (by rfl) (by rfl) (by rfl) (by decide) Wh (hr.mono (by decide)) (@pa_consX _ _ _ _ _ (by rfl) (pe_ix ix_tup (pv 0) pe_int (fun _ _ => rfl)) pa_nil)))))))), ?_⟩
   refine ⟨_, rfl, _, _, _, true, rfl, .tup hq, isi_tt _, _, rfl, ifT rfl ?_⟩
   refine ⟨_, rfl, q, _, rfl, .inr (SqT.of hq), rfl, _, rfl, ifT rfl ?_⟩
   refine ⟨_, rfl, q, _, _, _, rfl, rfl, SqT.of hq, rfl, _, _, rfl, hx, _, rfl, ?_⟩
   cases ox with
   | none => exact ifF rfl k
   | some i => exact ifT rfl ⟨_, rfl, q, _, _, _, rfl, rfl, SqT.of hq, rfl, _, _, rfl, hy, k⟩
theorem sc_is_link : FnScope ["pages", "thing"] ["pages", "thing"] (defScope s_is_link) := ⟨rfl, rfl, rfl, by decide +kernel, rfl, by decide +kernel, by decide +kernel⟩
set_option maxHeartbeats 0 in
theorem d_is_link (S : Fnd K mg "is_link" s_is_link ["pages", "thing"]) (T : Txt mg) (Pw2 : Def P w K mg base 2 "is_pair_of_wholes" ["thing"] (spPairT K)) : Def P w K mg base 3 "is_link" ["pages", "thing"] (spIsLinkT K) := S.def fun f fd F => by
 have nd := sc_is_link.nd
 refine F.ok sc_is_link (fun vs H Q E h => ?_) (fun cdv A' outer s H vs Q E hr h => ?_)
 · obtain ⟨_, _, _, _, _, _, rfl, _⟩ := h
   rfl
 · obtain ⟨n, q, x, y, ox, oy, rfl, hq, hx, hy, k⟩ := h
   refine ⟨_, (@pss_one _ _ _ (@ps_ret _ _ _ _ (pe_and (pe_def (by rfl) (by rfl) (by rfl) (by decide) Pw2 (hr.mono (by decide)) (@pa_consX _ _ _ _ _ (by rfl) (pv 1) pa_nil)) (pe_and (pe_chain op_le op_lt pe_int (pe_ix ix_tup (pv 1) pe_int (fun _ _ => rfl)) (pv 0) (by with_unfolding_all rfl)) (pe_one (pe_chain op_le op_lt pe_int (pe_ix ix_tup (pv 1) pe_int (fun _ _ => rfl)) (pv 0) (by with_unfolding_all rfl))))))), ?_⟩
   refine ⟨_, rfl, q, x, y, ox, oy, rfl, hq, hx, hy, _, rfl, ?_⟩
   cases ox with
   | none => exact ifF rfl k
   | some i => cases oy with
     | none =>
       refine ifF rfl ?_
       rw [show (pgO n (some i) && pgO n none) = false by simp [pgO]] at k
       exact k
     | some j =>
       obtain rfl := hx.some
       obtain rfl := hy.some
       rw [show (pgO n (some i) && pgO n (some j)) = decide (0 ≤ i ∧ i < n ∧ 0 ≤ j ∧ j < n) by unfold pgO; rw [← Bool.decide_and]; exact decide_eq_decide.mpr (by omega)] at k
       refine ifT rfl ?_
       refine ⟨_, rfl, q, _, _, _, rfl, rfl, SqT.of hq, rfl, _, _, rfl, rfl, _, rfl, ?_⟩
       rcases (Decidable.em (0 ≤ i)).symm with h1 | h1
       · rw [decide_eq_false (fun z => h1 z.1)] at k
         rw [decide_eq_false h1]
         exact ifF rfl ⟨_, rfl, ifF rfl k⟩
       rw [decide_eq_true h1]
       refine ifT rfl ⟨_, rfl, _, _, rfl, rfl, _, rfl, ?_⟩
       rcases (Decidable.em (i < n)).symm with h2 | h2
       · rw [decide_eq_false (fun z => h2 z.2.1)] at k
         rw [decide_eq_false h2]
         exact ifF rfl k
       rw [decide_eq_true h2]
       refine ifT rfl ?_
       refine ⟨_, rfl, q, _, _, _, rfl, rfl, SqT.of hq, rfl, _, _, rfl, rfl, _, rfl, ?_⟩
       rcases (Decidable.em (0 ≤ j)).symm with h3 | h3
       · rw [decide_eq_false (fun z => h3 z.2.2.1)] at k
         rw [decide_eq_false h3]
         exact ifF rfl k
       rw [decide_eq_true h3]
       refine ifT rfl ⟨_, rfl, _, _, rfl, rfl, ?_⟩
       rw [decide_eq_decide.mpr (show (0 ≤ i ∧ i < n ∧ 0 ≤ j ∧ j < n) ↔ j < n from ⟨fun z => z.2.2.2, fun z => ⟨h1, h2, h3, z⟩⟩)] at k
       exact k
theorem scLv_check : FnScope ["self", "one", "other"] ["self", "one", "other"] (defScope sLv_check) := ⟨rfl, rfl, rfl, by decide +kernel, rfl, by decide +kernel, by decide +kernel⟩
set_option maxHeartbeats 0 in
theorem m_check {C : Addr} (S : MFnd K C "check" "Live.check" sLv_check ["self", "one", "other"]) (T : Txt mg) (LT : LvT K C) {Xc : Addr} (XT : XcT K mg "NoLink" Xc) (Il : Def P w K mg base 3 "is_link" ["pages", "thing"] (spIsLinkT K)) : MDef P w K mg base (CXN P w Xc) 4 C "check" ["self", "one", "other"] (spLCheckT K C Xc) := S.def fun f fd F => by
 have nd := scLv_check.nd
 refine F.okN scLv_check (fun vs H Q E h => ?_) (fun cdv A' outer s H vs Q E hr h => ?_)
 · obtain ⟨_, _, _, _, _, _, _, _, _, rfl, _⟩ := h
   rfl
 · obtain ⟨p, pd, lp, W, Ws, x, y, ox, oy, rfl, l, hx, hy, k, kE⟩ := h
   refine ⟨_, (@pss_one _ _ _ (@ps_if _ _ _ _ _ _ _ _ (pt_not (pt_val (pe_def (by rfl) (by rfl) (by rfl) (by decide) Il (hr.mono (by decide)) (@pa_consX _ _ _ _ _ (by rfl) (pe_ix ix_tup (pe_fld (pv 0) rfl) pe_int (fun _ _ => rfl)) (@pa_consX _ _ _ _ _ (by rfl) (@pe_tupS _ _ _ _ _ (@pa_consX _ _ _ _ _ (by rfl) (pv 1) (@pa_consX _ _ _ _ _ (by rfl) (pv 2) pa_nil))) pa_nil)))))
    (@pss_one _ _ _ (ps_raise XT (by rfl) (@pa_consX _ _ _ _ _ (by rfl) pe_str pa_nil) (by rfl) (by rfl) (by decide)))
    pss_nil)), ?_⟩
   obtain ⟨now, us, lv, hw, hs⟩ := l
   obtain ⟨⟨dx, h1⟩, h2⟩ := lv
   obtain ⟨t, ws, ea, et, hp⟩ := hw
   refine ⟨_, rfl, p, C, dx, _, _, rfl, h1, LT.cl, LT.nN, lvF_now _ _ _, now, _, _, _, rfl, rfl, SqT.of ea, rfl, _, rfl, _, rfl, (by show 2 ≤ sizeLine; decide), fun q G1 s1 m1 e1 => ?_⟩
   refine ⟨W.1, q, x, y, ox, oy, rfl, e1, hx.same s1, hy.same s1, _, rfl, ?_⟩
   cases hb : (pgO W.1 ox && pgO W.1 oy) with
   | true => exact ifF rfl (k hb G1 s1)
   | false => exact ifT rfl ⟨(by show 1 ≤ 10; decide), kE hb G1 s1⟩
theorem scLv_link : FnScope ["self", "one", "other"] ["self", "one", "other"] (defScope sLv_link) := ⟨rfl, rfl, rfl, by decide +kernel, rfl, by decide +kernel, by decide +kernel⟩
set_option maxHeartbeats 0 in
theorem m_link {C : Addr} (S : MFnd K C "link" "Live.link" sLv_link ["self", "one", "other"]) (T : Txt mg) (LT : LvT K C) {Xc : Addr} (XT : XcT K mg "NoLink" Xc) {tP tL : Tok} (mP : mg "MOST_PAGES" = some (.int 12 tP)) (mL : mg "MOST_LINKS" = some (.int 60 tL)) (Ch : MDef P w K mg base (CXN P w Xc) 4 C "check" ["self", "one", "other"] (spLCheckT K C Xc)) (Tu : MDef P w K mg base CX0 1 C "turn" ["self", "web"] (spLTurn C)) (Wi : Def P w K mg base 1 "with_link" ["web", "one", "other"] (spWith K)) : MDef P w K mg base (CXN P w Xc) 5 C "link" ["self", "one", "other"] (spLLinkT K C Xc) := S.def fun f fd F => by
 have nd := scLv_link.nd
 refine F.okN scLv_link (fun vs H Q E h => ?_) (fun cdv A' outer s H vs Q E hr h => ?_)
 · obtain ⟨_, _, _, _, _, _, _, _, _, rfl, _⟩ := h
   rfl
 · obtain ⟨p, pd, lp, W, Ws, x, y, ox, oy, rfl, l, hx, hy, hz, h60, k, kE⟩ := h
   refine ⟨_, (@pss_cons _ _ _ _ _ (ps_expr (pe_mdef (by rfl) (by rfl) (by rfl) (pv 0) LT.cl Ch (hr.mono (by decide)) passN (@pa_consX _ _ _ _ _ (by rfl) (pv 1) (@pa_consX _ _ _ _ _ (by rfl) (pv 2) pa_nil))))
    (@pss_cons _ _ _ _ _ (@ps_if _ _ _ _ _ _ _ _ (pt_cmpR op_ge (pe_callB call_len_seq (by rfl) T.len PySem.boot_len (@pa_consX _ _ _ _ _ (by rfl) (pe_ix ix_tup (pe_fld (pv 0) rfl) pe_int (fun _ _ => rfl)) pa_nil)) (pe_glob (v := .int 60) (by rfl) mL ⟨_, rfl⟩) (nomark _))
     (@pss_one _ _ _ (ps_raise XT (by rfl) (@pa_consX _ _ _ _ _ (by rfl) pe_str pa_nil) (by rfl) (by rfl) (by decide)))
     pss_nil)
    (@pss_one _ _ _ (ps_expr (pe_mdef (by rfl) (by rfl) (by rfl) (pv 0) LT.cl Tu (hr.mono (by decide)) pass0 (@pa_consX _ _ _ _ _ (by rfl) (pe_def (by rfl) (by rfl) (by rfl) (by decide) Wi (hr.mono (by decide)) (@pa_consX _ _ _ _ _ (by rfl) (pe_fld (pv 0) rfl) (@pa_consX _ _ _ _ _ (by rfl) (pv 1) (@pa_consX _ _ _ _ _ (by rfl) (pv 2) pa_nil)))) pa_nil)))))), ?_⟩
   obtain ⟨now, us, lv, hw, hs⟩ := id l
   obtain ⟨⟨dx, h1⟩, h2⟩ := id lv
   obtain ⟨t, ws, ea, et, hp⟩ := id hw
   have hl := hp.len
   have hsl := hs.len
   refine ⟨_, rfl, p, dx, _, rfl, h1, lvF_no _ _ _ (by decide +kernel) (by decide +kernel) (by decide +kernel), _, rfl, _, rfl, p, pd, lp, W, Ws, x, y, ox, oy, rfl, l, hx, hy, fun hb G1 s1 => ?_, fun hb G1 s1 => kE (fun z => by rw [hb] at z; cases z.1) G1 s1⟩
   refine ⟨_, rfl, p, C, dx, _, _, rfl, s1 _ _ h1, LT.cl, LT.nN, lvF_now _ _ _, now, _, _, _, rfl, rfl, SqT.of (s1 _ _ ea), rfl, t, _, rfl, .inr (SqT.of (s1 _ _ et)), _, _, rfl, rfl, _, rfl, ?_⟩
   rcases (Decidable.em (W.2.length < 60)).symm with hf | hf
   · rw [decide_eq_true (show (60 : Int) ≤ ((ws.length : Nat) : Int) by rw [hl]; omega)]
     exact ifT rfl ⟨(by show 1 ≤ 10; decide), kE (fun z => hf z.2) G1 s1⟩
   rw [decide_eq_false (show ¬ (60 : Int) ≤ ((ws.length : Nat) : Int) by rw [hl]; omega)]
   refine ifF rfl ?_
   obtain ⟨i, j, rfl, rfl, hb⟩ := pgO_two hx hy hb
   refine ⟨_, rfl, p, dx, _, rfl, s1 _ _ h1, lvF_no _ _ _ (by decide +kernel) (by decide +kernel) (by decide +kernel), _, rfl, p, C, dx, _, _, rfl, s1 _ _ h1, LT.cl, LT.nN, lvF_now _ _ _, _, rfl, _, rfl, now, W.1, i, j, W.2, rfl, hw.same s1, by omega, fun b G2 ms s2 mb hb2 pm pw => ?_⟩
   have s12 := s1.trans s2
   refine ⟨p, b, now, lp, pd, us, rfl, lv.same s12, by omega, fun G3 l3 k3 => ?_⟩
   have u3 := (lv.same s12).ku k3
   exact k i j rfl rfl hb hf G3 ms pm pw ⟨b, _, l3, hb2.ku u3, ((hs.ku s12.ku).ku u3).snoc ((hw.same s12).ku u3)⟩ ((Same.kx s12).trans k3)
theorem scLv_unlink : FnScope ["self", "one", "other", "fewer"] ["self", "one", "other"] (defScope sLv_unlink) := ⟨rfl, rfl, rfl, by decide +kernel, rfl, by decide +kernel, by decide +kernel⟩
set_option maxHeartbeats 0 in
theorem m_unlink {C : Addr} (S : MFnd K C "unlink" "Live.unlink" sLv_unlink ["self", "one", "other"]) (T : Txt mg) (LT : LvT K C) {Xc : Addr} (XT : XcT K mg "NoLink" Xc) (Ch : MDef P w K mg base (CXN P w Xc) 4 C "check" ["self", "one", "other"] (spLCheckT K C Xc)) (Tu : MDef P w K mg base CX0 1 C "turn" ["self", "web"] (spLTurn C)) (Wo : Def P w K mg base 1 "without_link" ["web", "one", "other"] (spWithout K)) : MDef P w K mg base (CXN P w Xc) 5 C "unlink" ["self", "one", "other"] (spLUnlinkT K C Xc) := S.def fun f fd F => by
 have nd := scLv_unlink.nd
 refine F.okN scLv_unlink (fun vs H Q E h => ?_) (fun cdv A' outer s H vs Q E hr h => ?_)
 · obtain ⟨_, _, _, _, _, _, _, _, _, rfl, _⟩ := h
   rfl
 · obtain ⟨p, pd, lp, W, Ws, x, y, ox, oy, rfl, l, hx, hy, hz, h60, k, kE⟩ := h
   refine ⟨_, (@pss_cons _ _ _ _ _ (ps_expr (pe_mdef (by rfl) (by rfl) (by rfl) (pv 0) LT.cl Ch (hr.mono (by decide)) passN (@pa_consX _ _ _ _ _ (by rfl) (pv 1) (@pa_consX _ _ _ _ _ (by rfl) (pv 2) pa_nil))))
    (@pss_cons _ _ _ _ _ (@ps_setX _ _ 3 _ _ _ _ (by rfl) (Or.inl rfl) nd rfl (Or.inl rfl) (pe_def (by rfl) (by rfl) (by rfl) (by decide) Wo (hr.mono (by decide)) (@pa_consX _ _ _ _ _ (by rfl) (pe_fld (pv 0) rfl) (@pa_consX _ _ _ _ _ (by rfl) (pv 1) (@pa_consX _ _ _ _ _ (by rfl) (pv 2) pa_nil)))))
    (@pss_cons _ _ _ _ _ (@ps_if _ _ _ _ _ _ _ _ (pt_cmpR op_isN (pv 3) pe_non (nomark _))
     (@pss_one _ _ _ (ps_raise XT (by rfl) (@pa_consX _ _ _ _ _ (by rfl) pe_str pa_nil) (by rfl) (by rfl) (by decide)))
     pss_nil)
    (@pss_one _ _ _ (ps_expr (pe_mdef (by rfl) (by rfl) (by rfl) (pv 0) LT.cl Tu (hr.mono (by decide)) pass0 (@pa_consX _ _ _ _ _ (by rfl) (pv 3) pa_nil))))))), ?_⟩
   obtain ⟨now, us, lv, hw, hs⟩ := id l
   obtain ⟨⟨dx, h1⟩, h2⟩ := id lv
   have hsl := hs.len
   refine ⟨_, rfl, p, dx, _, rfl, h1, lvF_no _ _ _ (by decide +kernel) (by decide +kernel) (by decide +kernel), _, rfl, _, rfl, p, pd, lp, W, Ws, x, y, ox, oy, rfl, l, hx, hy, fun hb G1 s1 => ?_, fun hb G1 s1 => kE (fun ⟨i, j, e1, e2, hi, _⟩ => by subst e1; subst e2; rw [pgO_in hx hy hi] at hb; cases hb) G1 s1⟩
   obtain ⟨i, j, rfl, rfl, hb⟩ := pgO_two hx hy hb
   refine ⟨_, rfl, p, C, dx, _, _, rfl, s1 _ _ h1, LT.cl, LT.nN, lvF_now _ _ _, _, rfl, _, rfl, now, W.1, i, j, W.2, rfl, hw.same s1, by omega, fun hn G2 s2 => ?_, fun hin b G2 s2 hb2 => ?_⟩
   · exact ⟨_, rfl, rfl, _, rfl, ifT rfl ⟨(by show 1 ≤ 10; decide), kE (fun ⟨i', j', e1, e2, _, hm⟩ => by cases e1; cases e2; exact hn hm) G2 (s1.trans s2)⟩⟩
   have s12 := s1.trans s2
   refine ⟨_, rfl, rfl, _, rfl, ifF rfl ?_⟩
   refine ⟨_, rfl, p, dx, _, rfl, s12 _ _ h1, lvF_no _ _ _ (by decide +kernel) (by decide +kernel) (by decide +kernel), _, rfl, ?_⟩
   refine ⟨p, b, now, lp, pd, us, rfl, lv.same s12, by omega, fun G3 l3 k3 => ?_⟩
   have u3 := (lv.same s12).ku k3
   exact k i j rfl rfl hb hin G3 ⟨b, _, l3, hb2.ku u3, ((hs.ku s12.ku).ku u3).snoc ((hw.same s12).ku u3)⟩ ((Same.kx s12).trans k3)
end
end Lw

set_option pp.maxSteps 800
namespace Lw
open PySem L2 PyProof.Rows
section
variable {P : Program} {w : World} {K : PySem.W.Frag} {mg : Str → Option Value} {base : Heap}
theorem scLv_ranked : FnScope ["self"] ["self"] (defScope sLv_ranked) := ⟨rfl, rfl, rfl, by decide +kernel, rfl, by decide +kernel, by decide +kernel⟩
set_option maxHeartbeats 0 in
theorem m_ranked {C : Addr} (S : MFnd K C "ranked" "Live.ranked" sLv_ranked ["self"]) (T : Txt mg) (LT : LvT K C) {tb : Addr} (Rk : Def P w K mg base 7 "ranked_shares" ["web", "leap", "leaps"] (spRanked K tb posR)) (Ev : Def P w K mg base 3 "even" ["web"] (spEvenW K)) : MDef P w K mg base CX0 8 C "ranked" ["self"] (spLRanked K C tb posR) := S.def fun f fd F => by
 have nd := scLv_ranked.nd
 refine F.ok scLv_ranked (fun vs H Q E h => ?_) (fun cdv A' outer s H vs Q E hr h => ?_)
 · obtain ⟨_, _, _, _, _, _, _, rfl, _⟩ := h
   rfl
 · obtain ⟨p, pd, lp, n, ps, Ws, A, rfl, l, n1, n12, few, lk, fA, ca, a0, a1, sA, tab, k⟩ := h
   refine ⟨_, (@pss_one _ _ _ (@ps_ret _ _ _ _ (pe_def (by rfl) (by rfl) (by rfl) (by decide) Rk (hr.mono (by decide)) (@pa_consX _ _ _ _ _ (by rfl) (pe_fld (pv 0) rfl) (@pa_consX _ _ _ _ _ (by rfl) (pe_fld (pv 0) rfl) (@pa_consX _ _ _ _ _ (by rfl) (pe_def (by rfl) (by rfl) (by rfl) (by decide) Ev (hr.mono (by decide)) (@pa_consX _ _ _ _ _ (by rfl) (pe_fld (pv 0) rfl) pa_nil)) pa_nil)))))), ?_⟩
   obtain ⟨now, us, lv, hw, hs⟩ := id l
   obtain ⟨⟨dx, h1⟩, h2⟩ := id lv
   obtain ⟨t, ws, ea, et, hp⟩ := id hw
   refine ⟨_, rfl, p, C, dx, _, _, rfl, h1, LT.cl, LT.nN, lvF_now _ _ _, _, rfl, p, C, dx, _, _, rfl, h1, LT.cl, LT.nL, lvF_leap _ _ _, _, rfl, p, C, dx, _, _, rfl, h1, LT.cl, LT.nN, lvF_now _ _ _, now, n, _, rfl, ea, n1, n12, fun ev G1 vs s1 e1 f1 => ?_⟩
   have i := shin_even (hw.same s1) (show ps.length ≤ 100 by omega) lk (s1 _ _ fA) ca a0 a1 sA n1 n12 e1 f1
   refine ⟨now, lp, ev, (n : Int), ps, A, evL n, vs, (n : Int), 140, rfl, i.g, i.pr, by have := i.n12; omega, by decide, i.sA, i.sS, tab.same s1, fun D G2 Ss r ok rk k2 m2 e2 t2 => ?_⟩
   rw [Int.toNat_natCast] at ok rk
   exact k D G2 Ss r ok rk (fun b o e n => k2 b o (s1 _ _ e) n) (s1.free m2) e2 t2
end
end Lw

set_option pp.maxSteps 800
namespace Lw
open PySem L2 PyProof.Rows
section
variable {P : Program} {w : World} {K : PySem.W.Frag} {mg : Str → Option Value} {base : Heap}
theorem sc_law_refused : FnScope ["live", "way", "one", "other", "kinds", "e"] ["live", "way", "one", "other"] (defScope s_law_refused) := ⟨rfl, rfl, rfl, by decide +kernel, rfl, by decide +kernel, by decide +kernel⟩
set_option maxHeartbeats 0 in
theorem d_law_refused (S : Fnd K mg "_law_refused" s_law_refused ["live", "way", "one", "other"]) (T : Txt mg) {C : Addr} (LT : LvT K C) {Xc : Addr} (XT : XcT K mg "NoLink" Xc) {Xw Xk Xt Xm : Addr} (XTW : XcT K mg "WalkError" Xw) (up : PySem.W.mroIn K Xc (.ref Xw) = some true) (nw : Xw ≠ Xc) (ZI : XcI K Xc) (bM : mg "NoCommand" = some (.ref Xm)) (bK : mg "NoKind" = some (.ref Xk)) (bT : mg "NoText" = some (.ref Xt)) (zVE : mg "ValueError" = none) (ki1 : PySem.W.kitOne K (.ref Xc) (.ref Xc) = some true) (ki2 : PySem.W.kitOne K (.ref Xc) (.type "ValueError") = some true) (ki3 : PySem.W.kitAny K (.ref Xc) [.ref Xm, .ref Xk, .ref Xt] = some false) (Pa : MDef P w K mg base (CXN P w Xc) 2 C "page" ["self"] (spLPageX K C Xc)) (Li : MDef P w K mg base (CXN P w Xc) 5 C "link" ["self", "one", "other"] (spLLinkT K C Xc)) (Un : MDef P w K mg base (CXN P w Xc) 5 C "unlink" ["self", "one", "other"] (spLUnlinkT K C Xc)) : Def P w K mg base 6 "_law_refused" ["live", "way", "one", "other"] (spRefused K C) := S.def fun f fd F => by
 have nd := sc_law_refused.nd
 refine F.ok sc_law_refused (fun vs H Q E h => ?_) (fun cdv A' outer s H vs Q E hr h => ?_)
 · obtain ⟨_, _, _, _, _, _, _, _, _, _, rfl, _⟩ := h
   rfl
 · obtain ⟨p, pd, lp, W, Ws, w, x, y, ox, oy, rfl, l, hz, h60, hx, hy, rf, k⟩ := h
   refine ⟨_, (@pss_cons _ _ _ _ _ (@ps_setX _ _ 4 _ _ _ _ (by rfl) (Or.inl rfl) nd rfl (Or.inl rfl) (@pe_lstS _ _ _ _ pa_nil))
    (@pss_cons _ _ _ _ _ (ps_tryE (C := Xc) (D := Xw) (Rx := fun H' => Same H H') (i := 5) XTW XT.kts up nw rfl rfl (by rfl) (by decide) nd rfl rfl (fun _ => (@pss_one _ _ _ (@ps_if _ _ _ _ _ _ _ _ (pt_cmpR op_eq (pv 1) pe_int (nomark _))
     (@pss_one _ _ _ (ps_expr (pe_mdef (by rfl) (by rfl) (by rfl) (pv 0) LT.cl Li (hr.mono (by decide)) passT (@pa_consX _ _ _ _ _ (by rfl) (pv 2) (@pa_consX _ _ _ _ _ (by rfl) (pv 3) pa_nil)))))
     (@pss_one _ _ _ (@ps_if _ _ _ _ _ _ _ _ (pt_cmpR op_eq (pv 1) pe_int (nomark _))
     (@pss_one _ _ _ (ps_expr (pe_mdef (by rfl) (by rfl) (by rfl) (pv 0) LT.cl Un (hr.mono (by decide)) passT (@pa_consX _ _ _ _ _ (by rfl) (pv 2) (@pa_consX _ _ _ _ _ (by rfl) (pv 3) pa_nil)))))
     (@pss_one _ _ _ (ps_expr (pe_mdef0 (by rfl) (pv 0) LT.cl Pa (hr.mono (by decide)) passT)))))))) (fun a oe pins hc => (@pss_one _ _ _ (@ps_setX _ _ 4 _ _ _ _ (by rfl) (Or.inl rfl) nd rfl (Or.inl rfl) (@pe_lstS _ _ _ _ (@pa_consX _ _ _ _ _ (by rfl) (pe_callB (call_isiX (a := a) ZI hc) (by rfl) T.isi boot_isinstance (@pa_consX _ _ _ _ _ (by rfl) (pv 5) (@pa_consX _ _ _ _ _ (by rfl) (pe_glob (v := .ref Xc) (by rfl) XT.bound rfl) pa_nil))) (@pa_consX _ _ _ _ _ (by rfl) (pe_callB (call_isiX (a := a) ZI hc) (by rfl) T.isi boot_isinstance (@pa_consX _ _ _ _ _ (by rfl) (pv 5) (@pa_consX _ _ _ _ _ (by rfl) (pe_bltn (v := .ty "ValueError") (by rfl) zVE boot_VE rfl) pa_nil))) (@pa_consX _ _ _ _ _ (by rfl) (pe_callB (call_isiX (a := a) ZI hc) (by rfl) T.isi boot_isinstance (@pa_consX _ _ _ _ _ (by rfl) (pv 5) (@pa_consX _ _ _ _ _ (by rfl) (@pe_tupS _ _ _ _ _ (@pa_consX _ _ _ _ _ (by rfl) (pe_glob (v := .ref Xm) (by rfl) bM rfl) (@pa_consX _ _ _ _ _ (by rfl) (pe_glob (v := .ref Xk) (by rfl) bK rfl) (@pa_consX _ _ _ _ _ (by rfl) (pe_glob (v := .ref Xt) (by rfl) bT rfl) pa_nil)))) pa_nil))) pa_nil))))))))
    (@pss_one _ _ _ (@ps_ret _ _ _ _ (pe_cmpR (op_eqD hr) (pv 4) (@pe_lstS _ _ _ _ (@pa_consX _ _ _ _ _ (by rfl) pe_bl (@pa_consX _ _ _ _ _ (by rfl) pe_bl (@pa_consX _ _ _ _ _ (by rfl) pe_bl pa_nil)))) (nomark _)))))), ?_⟩
   obtain ⟨dx, now, ob⟩ := l.ins
   refine ⟨(by show 0 ≤ sizeLine; decide), fun b G1 s1 m1 e1 => ⟨?_, fun a G2 s2 => ?_⟩⟩
   · rcases rf with ⟨rfl, rf⟩ | ⟨rfl, rf⟩ | ⟨rfl, rf⟩
     · refine ⟨_, rfl, rfl, _, rfl, ifT rfl ?_⟩
       refine ⟨_, rfl, p, dx, _, rfl, s1 _ _ ob, lvF_no _ _ _ (by decide +kernel) (by decide +kernel) (by decide +kernel), _, rfl, _, rfl, p, pd, lp, W, Ws, x, y, ox, oy, rfl, l.same s1, hx.same s1, hy.same s1, hz, h60, fun i j ex ey hb hf => ?_, fun _ G s => s1.trans s⟩
       subst ex; subst ey
       exact absurd ⟨pgO_in hx hy hb, hf⟩ rf
     · refine ⟨_, rfl, rfl, _, rfl, ifF rfl ⟨_, rfl, rfl, _, rfl, ifT rfl ?_⟩⟩
       refine ⟨_, rfl, p, dx, _, rfl, s1 _ _ ob, lvF_no _ _ _ (by decide +kernel) (by decide +kernel) (by decide +kernel), _, rfl, _, rfl, p, pd, lp, W, Ws, x, y, ox, oy, rfl, l.same s1, hx.same s1, hy.same s1, hz, h60, fun i j ex ey hb hf => ?_, fun _ G s => s1.trans s⟩
       exact absurd ⟨i, j, ex, ey, hb, hf⟩ rf
     · refine ⟨_, rfl, rfl, _, rfl, ifF rfl ⟨_, rfl, rfl, _, rfl, ifF rfl ?_⟩⟩
       exact ⟨_, rfl, p, dx, _, rfl, s1 _ _ ob, lvF_no _ _ _ (by decide +kernel) (by decide +kernel) (by decide +kernel), p, pd, lp, W, Ws, rfl, l.same s1, hz, fun h => absurd h rf, fun _ G s => s1.trans s⟩
   · refine ⟨_, rfl, .inl ⟨Xc, true, rfl, ki1, _, rfl, .inr (.inl ⟨"ValueError", true, rfl, ki2, _, rfl, (by show 3 ≤ sizeLine; decide), fun t G3 s3 m3 e3 => .inr (.inr ⟨t, [Xm, Xk, Xt], false, rfl, e3, ki3, (by show 3 ≤ sizeLine; decide), fun b2 G4 s4 m4 e4 => ?_⟩)⟩)⟩⟩
     refine ⟨_, rfl, (by show 3 ≤ sizeLine; decide), fun b3 G5 s5 m5 e5 => ⟨b2, b3, _, _, [.bl true, .bl true, .bl false], [.bl true, .bl true, .bl false], rfl, rfl, .inr ⟨SqL.of (s5 _ _ e4), SqL.of e5⟩, ?_, ?_, by decide, k G5 (s2.trans (s3.trans (s4.trans s5)))⟩⟩
     · exact ⟨_, _, rfl, rfl, _, _, rfl, rfl, _, _, rfl, rfl, rfl⟩
     · exact ⟨_, _, rfl, rfl, _, _, rfl, rfl, _, _, rfl, rfl, rfl⟩
end
end Lw

set_option pp.maxSteps 800
namespace Lw
open PySem L2 PyProof.Rows
section
variable {P : Program} {w : World} {K : PySem.W.Frag} {mg : Str → Option Value} {base : Heap}
theorem sc_law_odd : FnScope ["purse", "pages", "deep", "far"] ["purse", "pages", "deep"] (defScope s_law_odd) := ⟨rfl, rfl, rfl, by decide +kernel, rfl, by decide +kernel, by decide +kernel⟩
set_option maxHeartbeats 0 in
theorem d_law_odd (S : Fnd K mg "_law_odd" s_law_odd ["purse", "pages", "deep"]) (T : Txt mg) (Nx : Def P w K mg base 1 "_law_next" ["purse"] spNextN) : Def P w K mg base 2 "_law_odd" ["purse", "pages", "deep"] (spOdd K) := S.def fun f fd F => by
 have nd := sc_law_odd.nd
 refine F.ok sc_law_odd (fun vs H Q E h => ?_) (fun cdv A' outer s H vs Q E hr h => ?_)
 · obtain ⟨_, _, _, _, rfl, _⟩ := h
   rfl
 · obtain ⟨d, dp, n, xs, rfl, hd, n1, n12, ed, k⟩ := h
   refine ⟨_, (@pss_cons _ _ _ _ _ (@ps_setX _ _ 3 _ _ _ _ (by rfl) (Or.inl rfl) nd rfl (Or.inl rfl) (pe_def (by rfl) (by rfl) (by rfl) (by decide) Nx (hr.mono (by decide)) (@pa_consX _ _ _ _ _ (by rfl) (pv 0) pa_nil)))
    (@pss_one _ _ _ (@ps_ret _ _ _ _ (@pe_lstS _ _ _ _ (@pa_consX _ _ _ _ _ (by rfl) pe_neg1 (@pa_consX _ _ _ _ _ (by rfl) (pv 1) (@pa_consX _ _ _ _ _ (by rfl) (pe_op op_add (pe_op op_add (pv 1) pe_int) (pv 3)) (@pa_consX _ _ _ _ _ (by rfl) (pe_op op_sub (pe_un un_neg pe_int) (pv 3)) (@pa_consX _ _ _ _ _ (by rfl) pe_bl (@pa_consX _ _ _ _ _ (by rfl) pe_bl (@pa_consX _ _ _ _ _ (by rfl) pe_non (@pa_consX _ _ _ _ _ (by rfl) pe_str (@pa_consX _ _ _ _ _ (by rfl) pe_str (@pa_consX _ _ _ _ _ (by rfl) (@pe_lstS _ _ _ _ (@pa_consX _ _ _ _ _ (by rfl) pe_int pa_nil)) (@pa_consX _ _ _ _ _ (by rfl) (@pe_tupS _ _ _ _ _ (@pa_consX _ _ _ _ _ (by rfl) pe_int pa_nil)) (@pa_consX _ _ _ _ _ (by rfl) pe_dnewK (@pa_consX _ _ _ _ _ (by rfl) (@pe_lstS _ _ _ _ pa_nil) (@pa_consX _ _ _ _ _ (by rfl) (@pe_tupS _ _ _ _ _ pa_nil) (@pa_consX _ _ _ _ _ (by rfl) (pe_op op_pow pe_int pe_int) (@pa_consX _ _ _ _ _ (by rfl) (pv 2) pa_nil)))))))))))))))))))), ?_⟩
   refine ⟨_, rfl, d, rfl, hd, fun far G1 hd1 k1 => ?_⟩
   refine ⟨_, rfl, _, rfl, _, _, rfl, rfl, _, rfl, _, _, rfl, rfl, _, rfl, _, rfl, _, _, rfl, rfl, (by show 1 ≤ sizeLine; decide), fun l1 G2 s2 m2 e2 => ⟨(by show 1 ≤ sizeLine; decide), fun t1 G3 s3 m3 e3 => fun dk mdk => ⟨(by show 0 ≤ sizeLine; decide), fun l2 G5 s5 m5 e5 => ⟨(by show 0 ≤ sizeLine; decide), fun t2 G6 s6 m6 e6 => ⟨_, _, rfl, rfl, ⟨by decide, by decide, by decide⟩, _, rfl, (by show 16 ≤ sizeLine; decide), fun D G7 s7 m7 e7 => ?_⟩⟩⟩⟩⟩
   have s4 : Same G3 (upd G3 dk (.dK [])) := Same.new mdk
   have s57 := s5.trans (s6.trans s7)
   have s37 := s4.trans s57
   have s16 := s2.trans (s3.trans (s4.trans (s5.trans s6)))
   have s17 := s16.trans s7
   refine k D G7 _ (hd1.same s17) (k1.trans (Same.kpd s17)) ((k1.trans (Same.kpd s16)).freeN (hd1.same s16) m7) e7 (by show 16 ≤ 16; decide) ?_
   have edp : G7 dp = some (.tup xs) := s17 _ _ (hd.kl k1 |>.tup ed)
   intro v hv
   simp only [List.mem_cons, List.not_mem_nil, or_false] at hv
   rcases hv with rfl | rfl | rfl | rfl | rfl | rfl | rfl | rfl | rfl | rfl | rfl | rfl | rfl | rfl | rfl | rfl
   · exact ⟨_, .int _, pgo_no (by omega)⟩
   · exact ⟨_, .int _, pgo_no (by omega)⟩
   · exact ⟨_, .int _, pgo_no (by omega)⟩
   · exact ⟨_, .int _, pgo_no (by omega)⟩
   · exact ⟨_, .bl _, rfl⟩
   · exact ⟨_, .bl _, rfl⟩
   · exact ⟨_, .oth .non (ki_ni _), rfl⟩
   · exact ⟨_, .oth (.str _) (ki_si _), rfl⟩
   · exact ⟨_, .oth (.str _) (ki_si _), rfl⟩
   · exact ⟨_, .oth (.lst (s3.trans s37 _ _ e2)) (ki_li _), rfl⟩
   · exact ⟨_, .oth (.tup (s37 _ _ e3)) (ki_ti _), rfl⟩
   · exact ⟨_, .oth (.dK (s57 _ _ upd_same)) (ki_di _), rfl⟩
   · exact ⟨_, .oth (.lst (s6.trans s7 _ _ e5)) (ki_li _), rfl⟩
   · exact ⟨_, .oth (.tup (s7 _ _ e6)) (ki_ti _), rfl⟩
   · exact ⟨_, .int _, pgo_no (fun z => absurd (Int.lt_of_lt_of_le z.2 n12) (by decide +kernel))⟩
   · exact ⟨_, .oth (.tup edp) (ki_ti _), rfl⟩
end
end Lw

set_option pp.maxSteps 800
namespace Lw
open PySem L2 PyProof.Rows
section
variable {P : Program} {w : World} {K : PySem.W.Frag} {mg : Str → Option Value} {base : Heap}
theorem sc_law_things_right : FnScope ["purse", "live", "web", "deep", "k", "good", "thing", "way", "one", "other"] ["purse", "live", "web"] (defScope s_law_things_right) := ⟨rfl, rfl, rfl, by decide +kernel, rfl, by decide +kernel, by decide +kernel⟩
set_option maxHeartbeats 0 in
theorem d_law_things_right (S : Fnd K mg "_law_things_right" s_law_things_right ["purse", "live", "web"]) (T : Txt mg) {C : Addr} (LT : LvT K C) (Nx : Def P w K mg base 1 "_law_next" ["purse"] spNextN) (Od : Def P w K mg base 2 "_law_odd" ["purse", "pages", "deep"] (spOdd K)) (Rf : Def P w K mg base 6 "_law_refused" ["live", "way", "one", "other"] (spRefused K C)) (Wl : MDef P w K mg base CX0 1 C "web" ["self"] (spLWeb K C)) (Ud : MDef P w K mg base CX0 1 C "undo" ["self"] (spLUndo K C)) : Def P w K mg base 7 "_law_things_right" ["purse", "live", "web"] (spThings K C) := S.def fun f fd F => by
 have nd := sc_law_things_right.nd
 refine F.ok sc_law_things_right (fun vs H Q E h => ?_) (fun cdv A' outer s H vs Q E hr h => ?_)
 · obtain ⟨_, _, _, _, _, _, rfl, _⟩ := h
   rfl
 · obtain ⟨d, p, pd, lp, wa, W, rfl, hd, l, hw, dq, okw, k⟩ := h
   refine ⟨_, (@pss_cons _ _ _ _ _ (@ps_setX _ _ 3 _ _ _ _ (by rfl) (Or.inl rfl) nd rfl (Or.inl rfl) (@pe_tupS _ _ _ _ _ (@pa_consX _ _ _ _ _ (by rfl) pe_int pa_nil)))
    (@pss_cons _ _ _ _ _ (@ps_forX _ _ _ _ _ _ _ _ (fun _ => rfl) PassesOwn.never rfl (pi_range1 rfl T.range (@pa_consX _ _ _ _ _ (by rfl) pe_int pa_nil)) (pg_name (i := 4) nd rfl (Or.inl rfl))
     (@pss_one _ _ _ (@ps_setX _ _ 3 _ _ _ _ (by rfl) (Or.inl rfl) nd rfl (Or.inl rfl) (@pe_tupS _ _ _ _ _ (@pa_consX _ _ _ _ _ (by rfl) (pv 3) pa_nil)))))
    (@pss_cons _ _ _ _ _ (@ps_setX _ _ 5 _ _ _ _ (by rfl) (Or.inl rfl) nd rfl (Or.inl rfl) (pe_op op_mod (pe_def (by rfl) (by rfl) (by rfl) (by decide) Nx (hr.mono (by decide)) (@pa_consX _ _ _ _ _ (by rfl) (pv 0) pa_nil)) (pe_ix ix_tup (pv 2) pe_int (fun _ _ => rfl))))
    (@pss_cons _ _ _ _ _ (@ps_forX _ _ _ _ _ _ _ _ (fun _ => rfl) PassesOwn.never rfl (@pi_list _ _ _ _ (pe_def (by rfl) (by rfl) (by rfl) (by decide) Od (hr.mono (by decide)) (@pa_consX _ _ _ _ _ (by rfl) (pv 0) (@pa_consX _ _ _ _ _ (by rfl) (pe_ix ix_tup (pv 2) pe_int (fun _ _ => rfl)) (@pa_consX _ _ _ _ _ (by rfl) (pv 3) pa_nil))))) (pg_name (i := 6) nd rfl (Or.inl rfl))
     (@pss_one _ _ _ (@ps_forX _ _ _ _ _ _ _ _ (fun _ => rfl) PassesOwn.never rfl (pi_tup (@pe_tupS _ _ _ _ _ (@pa_consX _ _ _ _ _ (by rfl) pe_int (@pa_consX _ _ _ _ _ (by rfl) pe_int pa_nil)))) (pg_name (i := 7) nd rfl (Or.inl rfl))
     (@pss_cons _ _ _ _ _ (@ps_if _ _ _ _ _ _ _ _ (PW.pt (pw_or (pt_not (pt_val (pe_def (by rfl) (by rfl) (by rfl) (by decide) Rf (hr.mono (by decide)) (@pa_consX _ _ _ _ _ (by rfl) (pv 1) (@pa_consX _ _ _ _ _ (by rfl) (pv 7) (@pa_consX _ _ _ _ _ (by rfl) (pv 6) (@pa_consX _ _ _ _ _ (by rfl) (pv 5) pa_nil))))))) (pw_or1 (pt_not (pt_val (pe_def (by rfl) (by rfl) (by rfl) (by decide) Rf (hr.mono (by decide)) (@pa_consX _ _ _ _ _ (by rfl) (pv 1) (@pa_consX _ _ _ _ _ (by rfl) (pv 7) (@pa_consX _ _ _ _ _ (by rfl) (pv 5) (@pa_consX _ _ _ _ _ (by rfl) (pv 6) pa_nil))))))))))
     (@pss_one _ _ _ (@ps_ret _ _ _ _ pe_bl))
     pss_nil)
    (@pss_one _ _ _ (@ps_if _ _ _ _ _ _ _ _ (pt_not (pt_val (pe_def (by rfl) (by rfl) (by rfl) (by decide) Rf (hr.mono (by decide)) (@pa_consX _ _ _ _ _ (by rfl) (pv 1) (@pa_consX _ _ _ _ _ (by rfl) (pv 7) (@pa_consX _ _ _ _ _ (by rfl) (pv 6) (@pa_consX _ _ _ _ _ (by rfl) (pv 6) pa_nil)))))))
     (@pss_one _ _ _ (@ps_ret _ _ _ _ pe_bl))
     pss_nil))))))
    (@pss_cons _ _ _ _ _ (@ps_forX _ _ _ _ _ _ _ _ (fun _ => rfl) PassesOwn.never rfl (pi_range1 rfl T.range (@pa_consX _ _ _ _ _ (by rfl) (pe_ix ix_tup (pv 2) pe_int (fun _ _ => rfl)) pa_nil)) (pg_name (i := 8) nd rfl (Or.inl rfl))
     (@pss_cons _ _ _ _ _ (@ps_setX _ _ 9 _ _ _ _ (by rfl) (Or.inl rfl) nd rfl (Or.inl rfl) (pe_op op_mod (pe_def (by rfl) (by rfl) (by rfl) (by decide) Nx (hr.mono (by decide)) (@pa_consX _ _ _ _ _ (by rfl) (pv 0) pa_nil)) (pe_ix ix_tup (pv 2) pe_int (fun _ _ => rfl))))
    (@pss_one _ _ _ (@ps_if _ _ _ _ _ _ _ _ (PW.pt (pw_and (pt_cmpR (op_notInP hr) (@pe_tupS _ _ _ _ _ (@pa_consX _ _ _ _ _ (by rfl) (pv 8) (@pa_consX _ _ _ _ _ (by rfl) (pv 9) pa_nil))) (pe_ix ix_tup (pv 2) pe_int (fun _ _ => rfl)) (by rfl)) (pw_and1 (pt_not (pt_val (pe_def (by rfl) (by rfl) (by rfl) (by decide) Rf (hr.mono (by decide)) (@pa_consX _ _ _ _ _ (by rfl) (pv 1) (@pa_consX _ _ _ _ _ (by rfl) pe_int (@pa_consX _ _ _ _ _ (by rfl) (pv 8) (@pa_consX _ _ _ _ _ (by rfl) (pv 9) pa_nil))))))))))
     (@pss_one _ _ _ (@ps_ret _ _ _ _ pe_bl))
     pss_nil))))
    (@pss_one _ _ _ (@ps_ret _ _ _ _ (pe_and (pe_cmpR (op_eqD hr) (pe_mdef0 (by rfl) (pv 1) LT.cl Wl (hr.mono (by decide)) pass0) (pv 2) (nomark _)) (pe_one (pe_cmpR op_isB (pe_mdef0 (by rfl) (pv 1) LT.cl Ud (hr.mono (by decide)) pass0) pe_bl (nomark _))))))))))), ?_⟩
   have n0 : (0 : Int) < W.1 := by have := okw.n1; omega
   refine ⟨(by show 1 ≤ sizeLine; decide), fun dp0 G1 s1 m1 e1 => ⟨2000, rfl, by decide, by decide, ?_⟩⟩
   refine for_range (lo := 0) (n := (2000 : Int).toNat) (fun i σ G => ∃ (dp : Addr) (ys : List V) (v4 : Option V), Same H G ∧ G dp = some (.tup ys) ∧ σ = [some (.ref d), some (.ref p), some (.ref wa), some (.ref dp), v4, none, none, none, none, none]) ⟨dp0, _, none, s1, e1, rfl⟩ ?_ ?_
   · rintro i σ G hi ⟨dp, ys, v4, sG, e, rfl⟩
     exact ⟨_, rfl, (by show 1 ≤ sizeLine; decide), fun dp2 G2 s2 m2 e2 => ⟨dp2, _, _, sG.trans s2, e2, rfl⟩⟩
   rintro σ G2 ⟨dp, ys, v4, s2, e2, rfl⟩
   clear e1 m1 s1
   refine ⟨_, rfl, d, rfl, hd.same s2, fun g0 G3 hd3 k3 => ?_⟩
   have u3 : KU G2 G3 := k3.ku (.inl ⟨_, (hd.same s2).choose_spec⟩)
   have hw3 := (hw.same s2).ku u3
   have l3 : LvAt K C G3 p pd lp W [] := (l.same s2).kx (S := [d]) (k3.kx (by simp)) u3 (by simp [(l.same s2).nel (hd.same s2).choose_spec]) (by simp [dq.symm])
   have e3 := u3.tup _ _ e2
   have kH3 : Kp d H G3 := (Same.kpd s2).trans k3
   clear e2 u3 k3 s2 hw l hd
   obtain ⟨lt, uw, ewa, _, _⟩ := id hw3
   refine ⟨_, rfl, wa, _, _, _, rfl, rfl, SqT.of ewa, rfl, _, _, rfl, rfl, n0, ?_⟩
   have g1 := Int.emod_nonneg (g0 : Int) (show W.1 ≠ 0 by omega)
   have g2 := Int.emod_lt_of_pos (g0 : Int) n0
   refine ⟨_, rfl, _, rfl, wa, _, _, _, rfl, rfl, SqT.of ewa, rfl, _, rfl, d, dp, W.1, ys, rfl, hd3, okw.n1, okw.n12, e3, fun D G4 us hd4 k4 mD eD lus hus => ⟨D, rfl, ⟨_, SqL.of eD⟩, ?_⟩⟩
   have u4 : KU G3 G4 := k4.ku (.inl ⟨_, hd3.choose_spec⟩)
   have hw4 := hw3.ku u4
   have l4 : LvAt K C G4 p pd lp W [] := l3.kx (S := [d]) (k4.kx (by simp)) u4 (by simp [l3.nel hd3.choose_spec]) (by simp [dq.symm])
   have kH4 : Kp d H G4 := kH3.trans k4
   clear ewa e3 hw3 l3 u4 k4 kH3 mD
   refine for_list (K := K) (a := D) (xs := us) (fun i σ G => ∃ v6 v7, Same G4 G ∧ σ = [some (.ref d), some (.ref p), some (.ref wa), some (.ref dp), v4, some (.int ((g0 : Int) % W.1)), v6, v7, none, none]) ⟨none, none, Same.refl _, rfl⟩ ?_ ?_ ?_
   · rintro i σ G _ ⟨_, _, sG, _⟩
     exact SqL.of (sG _ _ eD)
   · rintro i x σ G hi ⟨v6, v7, sG, rfl⟩
     obtain ⟨o, tg, hp⟩ := hus x (List.mem_of_getElem? hi)
     refine ⟨(by show 2 ≤ sizeLine; decide), fun t G5 s5 m5 e5 => ⟨t, rfl, ⟨_, SqT.of e5⟩, ?_⟩⟩
     have s45 := sG.trans s5
     clear sG s5 m5
     refine for_tup (K := K) (a := t) (xs := [.int 0, .int 1]) (fun i σ G => ∃ v7, Same G5 G ∧ σ = [some (.ref d), some (.ref p), some (.ref wa), some (.ref dp), v4, some (.int ((g0 : Int) % W.1)), some x, v7, none, none]) ⟨v7, Same.refl _, rfl⟩ ?_ ?_ ?_
     · rintro j σ G _ ⟨_, sG, _⟩
       exact SqT.of (sG _ _ e5)
     · rintro j z σ G hj ⟨v7', sG, rfl⟩
       obtain ⟨w, rfl, hw01⟩ := ix01 hj
       have s4G := s45.trans sG
       have tG := tg.same s4G
       have lG := l4.same s4G
       have gO : Tg K G (.int ((g0 : Int) % W.1)) (some ((g0 : Int) % W.1)) := .int ((g0 : Int) % W.1)
       have nb1 : (pgO W.1 o && pgO W.1 (some ((g0 : Int) % W.1))) = false := by rw [hp]; rfl
       have nb2 : (pgO W.1 (some ((g0 : Int) % W.1)) && pgO W.1 o) = false := by rw [hp]; exact Bool.and_false _
       have nb3 : (pgO W.1 o && pgO W.1 o) = false := by rw [hp]; rfl
       refine ⟨_, rfl, _, rfl, _, rfl, _, rfl, p, pd, lp, W, [], w, x, .int ((g0 : Int) % W.1), o, some ((g0 : Int) % W.1), rfl, lG, Nat.zero_le _, okw.few, tG, gO, Rfs.odd hw01 tG gO nb1, fun G6 s6 => ⟨_, rfl, ifF rfl ?_⟩⟩
       refine ⟨_, rfl, _, rfl, _, rfl, _, rfl, p, pd, lp, W, [], w, .int ((g0 : Int) % W.1), x, some ((g0 : Int) % W.1), o, rfl, lG.same s6, Nat.zero_le _, okw.few, gO.same s6, tG.same s6, Rfs.odd hw01 gO tG nb2, fun G7 s7 => ⟨_, rfl, ifF rfl ?_⟩⟩
       have s67 := s6.trans s7
       exact ⟨_, rfl, _, rfl, _, rfl, _, rfl, p, pd, lp, W, [], w, x, x, o, o, rfl, lG.same s67, Nat.zero_le _, okw.few, tG.same s67, tG.same s67, Rfs.odd hw01 tG tG nb3, fun G8 s8 => ⟨_, rfl, ifF rfl ⟨_, sG.trans (s67.trans s8), rfl⟩⟩⟩
     · rintro σ G ⟨v7', sG, rfl⟩
       exact ⟨_, _, s45.trans sG, rfl⟩
   rintro σ G5 ⟨v6, v7, s5, rfl⟩
   have hw5 := hw4.same s5
   have l5 := l4.same s5
   have hd5 := hd4.same s5
   have kH5 : Kp d H G5 := kH4.trans (Same.kpd s5)
   clear hw4 l4 hd4 kH4 eD hus s5
   obtain ⟨lt, uw, ewa, elt, hps⟩ := id hw5
   have n12 := okw.n12
   refine ⟨_, rfl, wa, _, _, _, rfl, rfl, SqT.of ewa, rfl, W.1, rfl, by omega, by omega, ?_⟩
   refine for_range (lo := 0) (n := W.1.toNat) (fun i σ G => ∃ v8 v9, PurN G d ∧ Kp d H G ∧ LvAt K C G p pd lp W [] ∧ WbAt K G wa W.1 W.2 ∧ σ = [some (.ref d), some (.ref p), some (.ref wa), some (.ref dp), v4, some (.int ((g0 : Int) % W.1)), v6, v7, v8, v9]) ⟨none, none, hd5, kH5, l5, hw5, rfl⟩ ?_ ?_
   · clear hd5 kH5 l5 hw5 ewa elt hps
     rintro i σ G hi ⟨v8, v9, hdG, kG, lG, hwG, rfl⟩
     refine ⟨_, rfl, d, rfl, hdG, fun o0 G2 hd2 k2 => ?_⟩
     have u2 : KU G G2 := k2.ku (.inl ⟨_, hdG.choose_spec⟩)
     have hw2 := hwG.ku u2
     have l2 : LvAt K C G2 p pd lp W [] := lG.kx (S := [d]) (k2.kx (by simp)) u2 (by simp [lG.nel hdG.choose_spec]) (by simp [dq.symm])
     have kH2 := kG.trans k2
     clear hwG lG hdG u2 k2 kG
     obtain ⟨lt, uw, ewa, elt, hps⟩ := id hw2
     refine ⟨_, rfl, wa, _, _, _, rfl, rfl, SqT.of ewa, rfl, _, _, rfl, rfl, n0, ?_⟩
     have h1 := Int.emod_nonneg (o0 : Int) (show W.1 ≠ 0 by omega)
     have h2 := Int.emod_lt_of_pos (o0 : Int) n0
     refine ⟨_, rfl, _, rfl, (by show 2 ≤ sizeLine; decide), fun q G3 s3 m3 e3 => ⟨_, rfl, wa, _, _, _, rfl, rfl, SqT.of (s3 _ _ ewa), rfl, q, lt, uw, W.2, (0 + (i : Int), ((o0 : Int) % W.1)), rfl, rfl, SqT.of e3, SqT.of (s3 _ _ elt), hps.kl s3.kl, _, rfl, ?_⟩⟩
     by_cases hm : (0 + (i : Int), ((o0 : Int) % W.1)) ∈ W.2
     · rw [decide_eq_true hm]
       exact ifF rfl (ifF rfl ⟨_, _, hd2.same s3, kH2.trans (Same.kpd s3), l2.same s3, hw2.same s3, rfl⟩)
     · rw [decide_eq_false hm]
       refine ifT rfl ?_
       refine ⟨_, rfl, _, rfl, _, rfl, p, pd, lp, W, [], 1, .int (0 + (i : Int)), .int ((o0 : Int) % W.1), _, _, rfl, l2.same s3, Nat.zero_le _, okw.few, .int _, .int _, .inr (.inl ⟨rfl, fun ⟨i', j', e1, e2, _, hin⟩ => ?_⟩), fun G4 s4 => ⟨_, rfl, ifF rfl ?_⟩⟩
       · cases e1; cases e2; exact hm hin
       · have s34 := s3.trans s4
         exact ⟨_, _, hd2.same s34, kH2.trans (Same.kpd s34), l2.same s34, hw2.same s34, rfl⟩
   · clear hd5 kH5 l5 hw5 ewa elt hps
     rintro σ G ⟨v8, v9, hdG, kG, lG, hwG, rfl⟩
     obtain ⟨dx, now, ob⟩ := lG.ins
     refine ⟨_, rfl, p, dx, _, rfl, ob, lvF_no _ _ _ (by decide +kernel) (by decide +kernel) (by decide +kernel), p, pd, lp, W, [], rfl, lG, fun aw haw => ?_⟩
     refine ⟨_, rfl, eqW haw hwG ⟨_, rfl, ifT rfl ?_⟩⟩
     refine ⟨_, rfl, p, dx, _, rfl, ob, lvF_no _ _ _ (by decide +kernel) (by decide +kernel) (by decide +kernel), p, pd, lp, W, [], rfl, lG, fun _ G2 s2 => ⟨false, false, rfl, rfl, k G2 (hdG.same s2) (kG.trans (Same.kpd s2))⟩, fun W0 Ws0 e => ?_⟩
     simp at e
end
end Lw

set_option pp.maxSteps 800
namespace Lw
open PySem L2 PyProof.Rows
section
variable {P : Program} {w : World} {K : PySem.W.Frag} {mg : Str → Option Value} {base : Heap}
noncomputable def spLaw13 (K : PySem.W.Frag) (tb : Addr) : Sp := fun vs H Q _ => ∃ (a : Addr) (ns : List Int), vs = [.ref a] ∧ SqL K H a (ns.map V.int) ∧ ns.length ≤ 63 ∧ Tab tb posR qualR H ∧ ∀ H', Q (.bl true) H'
theorem scLaw : FnScope ["script", "purse", "web", "live", "ahead", "great", "way", "link"] ["script"] (defScope sLaw) := ⟨rfl, rfl, rfl, by decide +kernel, rfl, by decide +kernel, by decide +kernel⟩
set_option maxHeartbeats 0 in
theorem ok_law {tb f : Addr} {fd : FuncData} (F : Fun K "law" "law" sLaw f fd) (T : Txt mg) {C Xc : Addr} (LT : LvT K C) (Mk : MkD P w K mg base CX0 1 C "Live" ["self", "web", "leap"] (spLInit C)) (Pu : Def P w K mg base 2 "_law_purse" ["script", "at", "step", "many"] (spPurseN K)) (Nx : Def P w K mg base 1 "_law_next" ["purse"] spNextN) (Wbd : Def P w K mg base 2 "_law_web" ["purse", "least", "most"] (spWebHN K)) (Lp : Def P w K mg base 2 "_law_leap" ["purse"] (spLeapN K)) (Gr : Def P w K mg base 2 "_law_great" ["purse"] (spGreatN K)) (Tr : Def P w K mg base 7 "_law_things_right" ["purse", "live", "web"] (spThings K C)) (Rf : Def P w K mg base 6 "_law_refused" ["live", "way", "one", "other"] (spRefused K C)) (Li : MDef P w K mg base (CXN P w Xc) 5 C "link" ["self", "one", "other"] (spLLinkT K C Xc)) (Un : MDef P w K mg base (CXN P w Xc) 5 C "unlink" ["self", "one", "other"] (spLUnlinkT K C Xc)) (Wl : MDef P w K mg base CX0 1 C "web" ["self"] (spLWeb K C)) (Sh : MDef P w K mg base CX0 7 C "shares" ["self"] (spLShares K C)) (Rk : MDef P w K mg base CX0 8 C "ranked" ["self"] (spLRanked K C tb posR)) (Ud : MDef P w K mg base CX0 1 C "undo" ["self"] (spLUndo K C)) : FnOk P w K mg base CX0 9 f fd ["script"] (spLaw13 K tb) := by
 have nd := scLaw.nd
 refine F.ok scLaw (fun vs H Q E h => ?_) (fun cdv A' outer s H vs Q E hr h => ?_)
 · obtain ⟨_, _, rfl, _⟩ := h
   rfl
 · obtain ⟨a, ns, rfl, hS, hlen, tab, k⟩ := h
   refine ⟨_, (@pss_cons _ _ _ _ _ (@ps_setX _ _ 1 _ _ _ _ (by rfl) (Or.inl rfl) nd rfl (Or.inl rfl) (pe_def (by rfl) (by rfl) (by rfl) (by decide) Pu (hr.mono (by decide)) (@pa_consX _ _ _ _ _ (by rfl) (pv 0) (@pa_consX _ _ _ _ _ (by rfl) pe_int (@pa_consX _ _ _ _ _ (by rfl) pe_int (@pa_consX _ _ _ _ _ (by rfl) pe_int pa_nil))))))
    (@pss_cons _ _ _ _ _ (@ps_setX _ _ 2 _ _ _ _ (by rfl) (Or.inl rfl) nd rfl (Or.inl rfl) (pe_def (by rfl) (by rfl) (by rfl) (by decide) Wbd (hr.mono (by decide)) (@pa_consX _ _ _ _ _ (by rfl) (pv 1) (@pa_consX _ _ _ _ _ (by rfl) pe_int (@pa_consX _ _ _ _ _ (by rfl) pe_int pa_nil)))))
    (@pss_cons _ _ _ _ _ (@ps_setX _ _ 3 _ _ _ _ (by rfl) (Or.inl rfl) nd rfl (Or.inl rfl) (pe_mkdef (by rfl) (by rfl) (by rfl) (by decide) Mk (hr.mono (by decide)) pass0 (@pa_consX _ _ _ _ _ (by rfl) (pv 2) (@pa_consX _ _ _ _ _ (by rfl) (pe_def (by rfl) (by rfl) (by rfl) (by decide) Lp (hr.mono (by decide)) (@pa_consX _ _ _ _ _ (by rfl) (pv 1) pa_nil)) pa_nil))))
    (@pss_cons _ _ _ _ _ (@ps_setX _ _ 4 _ _ _ _ (by rfl) (Or.inl rfl) nd rfl (Or.inl rfl) (pe_mdef0 (by rfl) (pv 3) LT.cl Sh (hr.mono (by decide)) pass0))
    (@pss_mid _ _ _ _ _ (@ps_if _ _ _ _ _ _ _ _ (PW.pt (pw_or (pt_not (pt_val (pe_def (by rfl) (by rfl) (by rfl) (by decide) Tr (hr.mono (by decide)) (@pa_consX _ _ _ _ _ (by rfl) (pv 1) (@pa_consX _ _ _ _ _ (by rfl) (pv 3) (@pa_consX _ _ _ _ _ (by rfl) (pv 2) pa_nil)))))) (pw_or (pt_cmpR (op_neD hr) (pe_mdef0 (by rfl) (pv 3) LT.cl Sh (hr.mono (by decide)) pass0) (pv 4) (nomark _)) (pw_or1 (pt_cmpR (op_neD hr) (pe_mdef0 (by rfl) (pv 3) LT.cl Rk (hr.mono (by decide)) pass0) (pe_mdef0 (by rfl) (pv 3) LT.cl Rk (hr.mono (by decide)) pass0) (nomark _))))))
     (@pss_one _ _ _ (@ps_ret _ _ _ _ pe_bl))
     pss_nil)
    (@pss_cons _ _ _ _ _ (ps_expr (pe_mdef (by rfl) (by rfl) (by rfl) (pv 3) LT.cl Li (hr.mono (by decide)) passN0 (@pa_consX _ _ _ _ _ (by rfl) pe_int (@pa_consX _ _ _ _ _ (by rfl) (pe_op op_sub (pe_ix ix_tup (pv 2) pe_int (fun _ _ => rfl)) pe_int) pa_nil))))
    (@pss_cons _ _ _ _ _ (@ps_if _ _ _ _ _ _ _ _ (pt_cmpR (op_neD hr) (pe_mdef0 (by rfl) (pv 3) LT.cl Wl (hr.mono (by decide)) pass0) (@pe_tupS _ _ _ _ _ (@pa_consX _ _ _ _ _ (by rfl) (pe_ix ix_tup (pv 2) pe_int (fun _ _ => rfl)) (@pa_consX _ _ _ _ _ (by rfl) (pe_callTy call_tupOf (by rfl) T.tup boot_tuple (@pa_consX _ _ _ _ _ (by rfl) (pe_callB call_sortedPT (by rfl) T.srt boot_sorted (@pa_consX _ _ _ _ _ (by rfl) (pe_op op_catTS (pe_ix ix_tup (pv 2) pe_int (fun _ _ => rfl)) (@pe_tupS _ _ _ _ _ (@pa_consX _ _ _ _ _ (by rfl) (@pe_tupS _ _ _ _ _ (@pa_consX _ _ _ _ _ (by rfl) pe_int (@pa_consX _ _ _ _ _ (by rfl) (pe_op op_sub (pe_ix ix_tup (pv 2) pe_int (fun _ _ => rfl)) pe_int) pa_nil))) pa_nil))) pa_nil)) pa_nil)) pa_nil))) (nomark _))
     (@pss_one _ _ _ (@ps_ret _ _ _ _ pe_bl))
     pss_nil)
    (@pss_cons _ _ _ _ _ (@ps_setX _ _ 5 _ _ _ _ (by rfl) (Or.inl rfl) nd rfl (Or.inl rfl) (pe_def (by rfl) (by rfl) (by rfl) (by decide) Gr (hr.mono (by decide)) (@pa_consX _ _ _ _ _ (by rfl) (pv 1) pa_nil)))
    (@pss_cons _ _ _ _ _ (@ps_setX _ _ 3 _ _ _ _ (by rfl) (Or.inl rfl) nd rfl (Or.inl rfl) (pe_mkdef (by rfl) (by rfl) (by rfl) (by decide) Mk (hr.mono (by decide)) pass0 (@pa_consX _ _ _ _ _ (by rfl) (pv 5) (@pa_consX _ _ _ _ _ (by rfl) (@pe_tupS _ _ _ _ _ (@pa_consX _ _ _ _ _ (by rfl) pe_int (@pa_consX _ _ _ _ _ (by rfl) pe_int pa_nil))) pa_nil))))
    (@pss_cons _ _ _ _ _ (@ps_forX _ _ _ _ _ _ _ _ (fun _ => rfl) PassesOwn.never rfl (pi_tup (@pe_tupS _ _ _ _ _ (@pa_consX _ _ _ _ _ (by rfl) pe_int (@pa_consX _ _ _ _ _ (by rfl) pe_int pa_nil)))) (pg_name (i := 6) nd rfl (Or.inl rfl))
     (@pss_one _ _ _ (@ps_if _ _ _ _ _ _ _ _ (PW.pt (pw_or (pt_not (pt_val (pe_def (by rfl) (by rfl) (by rfl) (by decide) Rf (hr.mono (by decide)) (@pa_consX _ _ _ _ _ (by rfl) (pv 3) (@pa_consX _ _ _ _ _ (by rfl) (pv 6) (@pa_consX _ _ _ _ _ (by rfl) pe_int (@pa_consX _ _ _ _ _ (by rfl) pe_int pa_nil))))))) (pw_or1 (pt_cmpR (op_neD hr) (pe_mdef0 (by rfl) (pv 3) LT.cl Wl (hr.mono (by decide)) pass0) (pv 5) (nomark _)))))
     (@pss_one _ _ _ (@ps_ret _ _ _ _ pe_bl))
     pss_nil)))
    (@pss_cons _ _ _ _ _ (@ps_setX _ _ 7 _ _ _ _ (by rfl) (Or.inl rfl) nd rfl (Or.inl rfl) (pe_ix ix_tup (pe_ix ix_tup (pv 5) pe_int (fun _ _ => rfl)) (pe_op op_mod (pe_def (by rfl) (by rfl) (by rfl) (by decide) Nx (hr.mono (by decide)) (@pa_consX _ _ _ _ _ (by rfl) (pv 1) pa_nil)) pe_int) (fun _ _ => rfl)))
    (@pss_cons _ _ _ _ _ (ps_expr (pe_mdef (by rfl) (by rfl) (by rfl) (pv 3) LT.cl Un (hr.mono (by decide)) passN0 (@pa_consX _ _ _ _ _ (by rfl) (pe_ix ix_tup (pv 7) pe_int (fun _ _ => rfl)) (@pa_consX _ _ _ _ _ (by rfl) (pe_ix ix_tup (pv 7) pe_int (fun _ _ => rfl)) pa_nil))))
    (@pss_cons _ _ _ _ _ (ps_expr (pe_mdef (by rfl) (by rfl) (by rfl) (pv 3) LT.cl Li (hr.mono (by decide)) passN0 (@pa_consX _ _ _ _ _ (by rfl) (pe_ix ix_tup (pv 7) pe_int (fun _ _ => rfl)) (@pa_consX _ _ _ _ _ (by rfl) (pe_ix ix_tup (pv 7) pe_int (fun _ _ => rfl)) pa_nil))))
    (@pss_one _ _ _ (@ps_ret _ _ _ _ (pe_and (pe_cmpR (op_eqD hr) (pe_mdef0 (by rfl) (pv 3) LT.cl Wl (hr.mono (by decide)) pass0) (pv 5) (nomark _)) (pe_and (pe_def (by rfl) (by rfl) (by rfl) (by decide) Rf (hr.mono (by decide)) (@pa_consX _ _ _ _ _ (by rfl) (pv 3) (@pa_consX _ _ _ _ _ (by rfl) pe_int (@pa_consX _ _ _ _ _ (by rfl) pe_int (@pa_consX _ _ _ _ _ (by rfl) pe_int pa_nil))))) (pe_and (pe_cmpR op_isB (pe_mdef0 (by rfl) (pv 3) LT.cl Ud (hr.mono (by decide)) pass0) pe_bl (nomark _)) (pe_one (pe_cmpR op_eq (pe_callB call_len_seq (by rfl) T.len PySem.boot_len (@pa_consX _ _ _ _ _ (by rfl) (pe_ix ix_tup (pe_mdef0 (by rfl) (pv 3) LT.cl Wl (hr.mono (by decide)) pass0) pe_int (fun _ _ => rfl)) pa_nil)) pe_int (nomark _))))))))))))))))))))), ?_⟩
   refine ⟨_, rfl, a, ns, 0, 1, 600, rfl, hS, hlen, by decide, by decide, by decide, fun d G1 s1 m1 hd1 => ?_⟩
   refine ⟨_, rfl, d, 1, 5, rfl, hd1, by decide, by decide, by decide, fun wa G2 n ps hd2 k2 hw2 okw lo hi5 few up => ?_⟩
   refine ⟨_, rfl, _, rfl, d, rfl, hd2, fun lp G3 A hd3 k3 fA ca a0 a1 sA => ?_⟩
   have hw3 := hw2.kl (hd2.kl k3)
   have tab3 : Tab tb posR qualR G3 := ((tab.same s1).kp k2 hd1.choose_spec).kp k3 hd2.choose_spec
   clear hw2 hd2 k2 k3 hd1 m1 s1 tab
   obtain ⟨N, rfl⟩ : ∃ N : Nat, n = (N : Int) := ⟨n.toNat, by have := okw.n1; omega⟩
   have n1 : 1 ≤ N := by have := okw.n1; omega
   have n12 : N ≤ 12 := by have := okw.n12; omega
   have ok0 : OkL ((N : Int), ps) := ⟨okw.n1, okw.n12, by show ps.length ≤ 60; omega, up, okw.rng⟩
   intro p dx np nx ne
   refine ⟨p, dx, wa, lp, rfl, upd_same, fun pd G4 mp lv k4 => ⟨rfl, ?_⟩⟩
   have s4 := lv_new np nx k4
   have dq : d ≠ pd := lv_ne np nx mp hd3.choose_spec
   have b4 : B32 K C posR G4 d tb p pd lp wa ((N : Int), ps) [] ((N : Int), ps) A := ⟨hd3.same s4, tab3.same s4, ⟨wa, [], lv, hw3.same s4, Wbs.nil⟩, hw3.same s4, FrA.ku fA s4.ku, dq⟩
   clear hd3 tab3 hw3 fA lv k4 mp np nx ne dq s4 dx
   have unq : ∀ {Ss Ts : List (Int × Int)}, Pw.ShOk ps A (evL N) N Ss → Pw.ShOk ps A (evL N) N Ts → Ss = Ts := fun {Ss Ts} o1 o2 => Pw.ShOk.unique (fun p hp => ⟨(okw.rng p hp).2.2.1, (okw.rng p hp).2.2.2⟩) ca (Pw.ev_canon n1) (by rw [List.length_replicate]) (pr_even n1 n12 a0 a1) o1 o2
   -- ahead
   obtain ⟨dx, now, ob⟩ := b4.l.ins
   refine ⟨_, rfl, p, dx, _, rfl, ob, lvF_no _ _ _ (by decide +kernel) (by decide +kernel) (by decide +kernel), p, pd, lp, N, ps, [], A, rfl, b4.l, n1, n12, by omega, okw.rng, b4.fA, ca, a0, a1, sA, fun t1 G5 S1 y1 o1 z1 s5 e1 f1 => ?_⟩
   have b5 := b4.same s5
   clear b4 ob s5 now dx
   refine ⟨fun σ G => B32 K C posR G d tb p pd lp wa ((N : Int), ps) [] ((N : Int), ps) A ∧ σ = [some (.ref a), some (.ref d), some (.ref wa), some (.ref p), some (.ref t1), none, none, none], ?_, ?_⟩
   · refine ⟨_, rfl, _, rfl, _, rfl, d, p, pd, lp, wa, ((N : Int), ps), rfl, b5.pur, b5.l, b5.web, b5.dq, ok0, fun G6 hd6 k6 => ⟨_, rfl, ifF rfl ?_⟩⟩
     have b6 := b5.kp k6 hd6
     have u6 : KU G5 G6 := k6.ku (.inl ⟨_, b5.pur.choose_spec⟩)
     have e6 := u6.tup _ _ e1
     have f6 := f1.ku u6
     clear b5 hd6 k6 u6 e1 f1
     obtain ⟨dx, now, ob⟩ := b6.l.ins
     refine ⟨_, rfl, p, dx, _, rfl, ob, lvF_no _ _ _ (by decide +kernel) (by decide +kernel) (by decide +kernel), p, pd, lp, N, ps, [], A, rfl, b6.l, n1, n12, by omega, okw.rng, b6.fA, ca, a0, a1, sA, fun t2 G7 S2 y2 o2 z2 s7 e2 f2 => ?_⟩
     have b7 := b6.same s7
     obtain rfl := unq o1 o2
     refine ⟨_, rfl, neTT (SqT.of e2) (SqT.of (s7 _ _ e6)) f2 (f6.ku s7.ku) ⟨_, rfl, ifF rfl ?_⟩⟩
     clear b6 ob e6 f6 e2 f2 s7
     obtain ⟨dx, now, ob⟩ := b7.l.ins
     refine ⟨_, rfl, p, dx, _, rfl, ob, lvF_no _ _ _ (by decide +kernel) (by decide +kernel) (by decide +kernel), p, pd, lp, N, ps, [], A, rfl, b7.l, n1, n12, by omega, okw.rng, b7.fA, ca, a0, a1, sA, b7.tab, fun D3 G8 S3 r3 o3 rk3 k8 m3 e3 tab8 => ?_⟩
     have D3t : D3 ≠ tb := b7.tab.free m3
     have b8 := b7.kt k8 tab8
     clear b7 ob k8 tab8
     obtain ⟨dx, now, ob⟩ := b8.l.ins
     refine ⟨_, rfl, p, dx, _, rfl, ob, lvF_no _ _ _ (by decide +kernel) (by decide +kernel) (by decide +kernel), p, pd, lp, N, ps, [], A, rfl, b8.l, n1, n12, by omega, okw.rng, b8.fA, ca, a0, a1, sA, b8.tab, fun D4 G9 S4 r4 o4 rk4 k9 m4 e4 tab9 => ?_⟩
     have b9 := b8.kt k9 tab9
     obtain rfl := unq o3 o4
     obtain rfl := rk3.unique rk4
     exact neL_nat (k9 _ _ e3 D3t) e4 ⟨_, rfl, ifF rfl ⟨b9, rfl⟩⟩
   clear b5 e1 f1 o1 z1 unq
   rintro σ G6 ⟨b6, rfl⟩
   have rng0 := okw.rng
   -- a good link
   obtain ⟨dx, now, ob⟩ := b6.l.ins
   obtain ⟨lt, uw, ewa, elt, hps⟩ := id b6.web
   have hb0 : InB (N : Int) 0 ((N : Int) - 1) := ⟨by omega, by omega, by omega, by omega⟩
   refine ⟨_, rfl, p, dx, _, rfl, ob, lvF_no _ _ _ (by decide +kernel) (by decide +kernel) (by decide +kernel), _, rfl, wa, _, _, _, rfl, rfl, SqT.of ewa, rfl, _, _, rfl, rfl, p, pd, lp, ((N : Int), ps), [], .int 0, .int ((N : Int) - 1), some 0, some ((N : Int) - 1), rfl, b6.l, .int 0, .int _, Nat.zero_le _, ok0.few, fun i j e1 e2 hb hf G7 ms pm pw l7 k7 => ?_, fun h _ _ => h ⟨pgO_in (K := K) (H := G6) (.int 0) (.int _) hb0, by show ps.length < 60; omega⟩⟩
   cases e1; cases e2
   have b7 := b6.live k7 l7
   clear b6 ob k7 l7 ewa elt hps lt uw now dx
   obtain ⟨dx, now, ob⟩ := b7.l.ins
   obtain ⟨lt, uw, ewa, elt, hps⟩ := id b7.web
   have hpl : uw.length = ps.length := hps.len
   refine ⟨_, rfl, p, dx, _, rfl, ob, lvF_no _ _ _ (by decide +kernel) (by decide +kernel) (by decide +kernel), p, pd, lp, _, _, rfl, b7.l, fun aw haw => ?_⟩
   refine ⟨_, rfl, wa, _, _, _, rfl, rfl, SqT.of ewa, rfl, _, rfl, wa, _, _, _, rfl, rfl, SqT.of ewa, rfl, _, rfl, wa, _, _, _, rfl, rfl, SqT.of ewa, rfl, _, _, rfl, rfl, (by show 2 ≤ sizeLine; decide), fun q G8 s8 m8 e8 => ⟨(by show 1 ≤ sizeLine; decide), fun q1 G9 s9 m9 e9 => ?_⟩⟩
   have s79 := s8.trans s9
   refine ⟨lt, q1, uw, [.ref q], rfl, rfl, s79 _ _ elt, e9, ?_, fun pq G10 s10 e10 => ?_⟩
   · rw [sizeLine_eq]; simp only [List.length_cons, List.length_nil]; omega
   have hp10 : Prs K G10 (ps ++ [(0, (N : Int) - 1)]) (uw ++ [.ref q]) := Prs.snoc (p := (0, (N : Int) - 1)) (SqT.of (s10 _ _ (s9 _ _ e8))) (hps.kl (s79.trans s10).kl)
   refine ⟨pq, _, _, rfl, SqT.of e10, hp10, (by rw [List.length_append, List.length_singleton]; omega), fun ws ms2 D2 G11 pm2 pw2 hp11 s11 m11 e11 => ⟨D2, ws, rfl, SqL.of e11, fun t2 G12 s12 m12 e12 => ⟨(by show 2 ≤ sizeLine; decide), fun bb G13 s13 m13 e13 => ?_⟩⟩⟩
   have s713 := s79.trans (s10.trans (s11.trans (s12.trans s13)))
   have b13 := b7.same s713
   have hbb : WbAt K G13 bb (N : Int) ms2 := ⟨t2, ws, e13, s13 _ _ e12, hp11.kl (s12.trans s13).kl⟩
   obtain rfl : ms2 = ms := lex_eq (pm2.trans pm.symm) pw2 pw
   refine neW (haw.same s713) hbb ⟨_, rfl, ifF rfl ?_⟩
   clear haw hbb hp11 hp10 e8 e9 e10 e11 e12 e13 s8 s9 s79 s10 s11 s12 s13 s713 m8 m9 m11 m12 m13 b7 ob ewa elt hps pm pw pm2 pw2 ws
   -- the great web
   refine ⟨_, rfl, d, rfl, b13.pur, fun ga G14 gs hd14 k14 hg14 okg lg upg => ?_⟩
   have tab14 := (b13.kp k14 hd14).tab
   clear b13 k14
   refine ⟨_, rfl, (by show 2 ≤ sizeLine; decide), fun lq G15 s15 m15 e15 => ?_⟩
   intro p2 dx2 np2 nx2 ne2
   refine ⟨p2, dx2, ga, lq, rfl, upd_same, fun pd2 G16 mp2 lv2 k16 => ⟨rfl, ?_⟩⟩
   have s16 := lv_new np2 nx2 k16
   have s1416 := s15.trans s16
   have b16 : B32 K C posR G16 d tb p2 pd2 lq ga (12, gs) [] (12, gs) (1, 2) := ⟨hd14.same s1416, tab14.same s1416, ⟨ga, [], lv2, hg14.same s1416, Wbs.nil⟩, hg14.same s1416, s16 _ _ e15, lv_ne np2 nx2 mp2 (s15 _ _ hd14.choose_spec)⟩
   clear hd14 tab14 hg14 s15 s16 s1416 lv2 k16 mp2 np2 nx2 ne2 e15 m15
   have g60 : gs.length ≤ 60 := by omega
   refine ⟨(by show 2 ≤ sizeLine; decide), fun t G17 s17 m17 e17 => ⟨t, rfl, ⟨_, SqT.of e17⟩, ?_⟩⟩
   have b17 := b16.same s17
   clear b16 s17
   refine for_tup (K := K) (a := t) (xs := [.int 0, .int 2]) (fun i σ G => ∃ v6, Same G17 G ∧ σ = [some (.ref a), some (.ref d), some (.ref wa), some (.ref p2), some (.ref t1), some (.ref ga), v6, none]) ⟨none, Same.refl _, rfl⟩ ?_ ?_ ?_
   · rintro j σ G _ ⟨_, sG, _⟩
     exact SqT.of (sG _ _ e17)
   · rintro j z σ G hj ⟨v6, sG, rfl⟩
     obtain ⟨w', rfl, hw02⟩ := ix02 hj
     have bG := b17.same sG
     refine ⟨_, rfl, _, rfl, p2, pd2, lq, (12, gs), [], w', .int 3, .int 4, some 3, some 4, rfl, bG.l, Nat.zero_le _, g60, .int 3, .int 4, ?_, fun G2 s2 => ⟨_, rfl, ifF rfl ?_⟩⟩
     · rcases hw02 with rfl | rfl
       · exact .inl ⟨rfl, fun z => by have h := z.2; simp only at h; omega⟩
       · exact .inr (.inr ⟨rfl, by show ¬ (12 : Int) < 12; decide⟩)
     have b2 := bG.same s2
     obtain ⟨dx, now, ob⟩ := b2.l.ins
     refine ⟨_, rfl, p2, dx, _, rfl, ob, lvF_no _ _ _ (by decide +kernel) (by decide +kernel) (by decide +kernel), p2, pd2, lq, _, _, rfl, b2.l, fun aw haw => ⟨_, rfl, neW haw b2.web ⟨_, rfl, ifF rfl ⟨_, sG.trans s2, rfl⟩⟩⟩⟩
   rintro σ G18 ⟨v6, s18, rfl⟩
   have b18 := b17.same s18
   clear b17 s18 e17 m17
   obtain ⟨lt, uw, ega, elt, hps⟩ := id b18.web
   refine ⟨_, rfl, ga, _, _, _, rfl, rfl, SqT.of ega, rfl, _, rfl, d, rfl, b18.pur, fun v G19 hd19 k19 => ⟨_, _, rfl, rfl, (by show (0 : Int) < 60; decide), ?_⟩⟩
   have u19 : KU G18 G19 := k19.ku (.inl ⟨_, b18.pur.choose_spec⟩)
   have b19 := b18.kp k19 hd19
   have elt19 := u19.tup _ _ elt
   have hps19 := hps.ku u19
   clear b18 u19 k19 hd19 elt hps ega
   have hpl : uw.length = gs.length := hps19.len
   have hv : v % 60 < uw.length := by omega
   obtain ⟨ad, q, eq, ea, hqq⟩ := hps19.get (List.getElem?_eq_getElem hv)
   have qm : q ∈ gs := List.mem_of_getElem? eq
   have qb := okg.rng q qm
   have hqb : InB 12 q.1 q.2 := ⟨qb.1, qb.2.1, qb.2.2.1, qb.2.2.2⟩
   refine ⟨lt, _, _, .ref ad, rfl, rfl, SqT.of elt19, (by show atI uw ((v : Int) % 60) = _; rw [show (v : Int) % 60 = ((v % 60 : Nat) : Int) by omega]; exact atI_nat (by rw [List.getElem?_eq_getElem hv, ea])), ?_⟩
   clear elt19 hps19 hv ea eq
   obtain ⟨dx, now, ob⟩ := b19.l.ins
   refine ⟨_, rfl, p2, dx, _, rfl, ob, lvF_no _ _ _ (by decide +kernel) (by decide +kernel) (by decide +kernel), _, rfl, ad, _, _, _, rfl, rfl, hqq, rfl, _, rfl, ad, _, _, _, rfl, rfl, hqq, rfl, p2, pd2, lq, (12, gs), [], .int q.1, .int q.2, some q.1, some q.2, rfl, b19.l, .int _, .int _, Nat.zero_le _, g60, fun i j e1 e2 hb hin G20 l20 k20 => ?_, fun h _ _ => h ⟨q.1, q.2, rfl, rfl, hqb, qm⟩⟩
   cases e1; cases e2
   have hq20 := (b19.l.ku k20).seqT hqq
   have b20 := b19.live k20 l20
   clear b19 ob k20 l20 hqq now dx
   obtain ⟨dx, now, ob⟩ := b20.l.ins
   have l59 : (gs.erase q).length = 59 := by rw [List.length_erase_of_mem qm]; omega
   refine ⟨_, rfl, p2, dx, _, rfl, ob, lvF_no _ _ _ (by decide +kernel) (by decide +kernel) (by decide +kernel), _, rfl, ad, _, _, _, rfl, rfl, hq20, rfl, _, rfl, ad, _, _, _, rfl, rfl, hq20, rfl, p2, pd2, lq, (12, gs.erase q), [(12, gs)], .int q.1, .int q.2, some q.1, some q.2, rfl, b20.l, .int _, .int _, (by show 1 ≤ 5000; decide), (by show (gs.erase q).length ≤ 60; omega), fun i j e1 e2 hb hin G21 ms pm pw l21 k21 => ?_, fun h _ _ => h ⟨pgO_in (K := K) (H := G20) (.int _) (.int _) hqb, by show (gs.erase q).length < 60; omega⟩⟩
   cases e1; cases e2
   have b21 := b20.live k21 l21
   clear b20 ob k21 l21 hq20 now dx
   have pe : (gs.erase q ++ [q]).Perm gs := List.perm_append_comm.trans (List.perm_cons_erase qm).symm
   obtain rfl : ms = gs := lex_eq ((show ms.Perm (gs.erase q ++ [q]) from pm).trans pe) pw upg
   obtain ⟨dx, now, ob⟩ := b21.l.ins
   refine ⟨_, rfl, p2, dx, _, rfl, ob, lvF_no _ _ _ (by decide +kernel) (by decide +kernel) (by decide +kernel), p2, pd2, lq, _, _, rfl, b21.l, fun aw haw => ⟨_, rfl, eqW haw b21.web ⟨_, rfl, ifT rfl ?_⟩⟩⟩
   refine ⟨_, rfl, p2, pd2, lq, (12, ms), _, 0, .int 1, .int 1, some 1, some 1, rfl, b21.l, (by show 2 ≤ 5000; decide), g60, .int 1, .int 1, .inl ⟨rfl, fun z => by have h := z.2; simp only at h; omega⟩, fun G22 s22 => ⟨_, rfl, ifT rfl ?_⟩⟩
   have b22 := b21.same s22
   clear b21 ob haw s22 now dx
   obtain ⟨dx, now, ob⟩ := b22.l.ins
   refine ⟨_, rfl, p2, dx, _, rfl, ob, lvF_no _ _ _ (by decide +kernel) (by decide +kernel) (by decide +kernel), p2, pd2, lq, _, _, rfl, b22.l, fun z => by simp at z, fun W0 Ws0 eW G23 l23 k23 => ⟨true, true, rfl, rfl, _, rfl, ifT rfl ?_⟩⟩
   obtain ⟨rfl, e2⟩ := List.append_inj' eW rfl
   cases e2
   obtain ⟨dx, now, ob⟩ := l23.ins
   refine ⟨_, rfl, p2, dx, _, rfl, ob, lvF_no _ _ _ (by decide +kernel) (by decide +kernel) (by decide +kernel), p2, pd2, lq, _, _, rfl, l23, fun aw haw => ?_⟩
   obtain ⟨lt, uw, eaw, elt, hps⟩ := id haw
   have hl : uw.length = 59 := by rw [hps.len]; exact l59
   refine ⟨aw, _, _, _, rfl, rfl, SqT.of eaw, rfl, lt, _, rfl, .inr (SqT.of elt), ?_⟩
   refine ⟨rfl, ?_⟩
   show Q (.bl (decide (V.int ((uw.length : Nat) : Int) = V.int 59))) G23
   rw [hl]
   exact k G23
end
end Lw

namespace Lw
open PySem L2 PyProof.Rows
set_option maxHeartbeats 0 in
theorem all_mk {l : PySem.W.OpenLaw} {w : World} {K : PySem.W.Frag} {h : Heap} {mg : Str → Option Value} {fa f48  : Addr} (XK : K.In h) (G : h.Ns mainGlobals mg) (hfa : mg "law" = some (.ref fa))
 {od an : Option Addr} {sl : Array (Option Value)} {oc kV dc pm cd ct : Value}
 (A7 : FnAt K "is_whole" sWhole)
 (A8 : FnAt K "common" sCommon)
 (A9 : FnAt K "is_pair_of_wholes" sPair)
 (A10 : FnAt K "made" sMade)
 (A11 : FnAt K "shared_below" sBelow)
 (A12 : FnAt K "aboves" sAboves)
 (A14 : FnAt K "cleared" sCleared)
 (A15 : FnAt K "solved" sSolved)
 (A19 : FnAt K "is_link" s_is_link)
 (A20 : FnAt K "leads" sLeads)
 (A21 : FnAt K "even" sEven)
 (A23 : FnAt K "parts" sParts)
 (A24 : FnAt K "factor" sFactor)
 (A25 : FnAt K "equation" sEquation)
 (A26 : FnAt K "visits" sVisits)
 (A27 : FnAt K "shares" sShares)
 (A29 : FnAt K "ranked" sRanked)
 (A32 : FnAt K "with_link" sWith)
 (A33 : FnAt K "without_link" sWithout)
 (A37 : FnAt K "_law_mixed" s_law_mixed)
 (A38 : FnAt K "_law_purse" s_law_purse)
 (A39 : FnAt K "_law_next" s_law_next)
 (A40 : FnAt K "_law_web" sWeb)
 (A41 : FnAt K "_law_great" sGreat)
 (A42 : FnAt K "_law_frac" sFrac)
 (A43 : FnAt K "_law_leap" sLLeap)
 (A45 : FnAt K "_law_refused" s_law_refused)
 (A46 : FnAt K "_law_odd" s_law_odd)
 (A47 : FnAt K "_law_things_right" s_law_things_right)
 (aL : PySem.W.nsIn K mainGlobals "law" = some (some (.ref f48))) (lL : K.lookup f48 = some ⟨oc, od, .func (PySem.W.fnOf "law" "law" (defArgs sLaw) (defBody sLaw) (defScope sLaw) .none kV dc pm an cd ct), sl⟩) (cL : PySem.W.codeIn K cd "law" = true) (kL : PySem.W.keepIn K (.ref f48) = true)
 (zabs : PySem.W.nsIn K mainGlobals "abs" = some none)
 (zisi : PySem.W.nsIn K mainGlobals "isinstance" = some none)
 (ztup : PySem.W.nsIn K mainGlobals "tuple" = some none)
 (zint : PySem.W.nsIn K mainGlobals "int" = some none)
 (zbool : PySem.W.nsIn K mainGlobals "bool" = some none)
 (zlst : PySem.W.nsIn K mainGlobals "list" = some none)
 (zenu : PySem.W.nsIn K mainGlobals "enumerate" = some none)
 (zlen : PySem.W.nsIn K mainGlobals "len" = some none)
 (zrange : PySem.W.nsIn K mainGlobals "range" = some none)
 (zsrt : PySem.W.nsIn K mainGlobals "sorted" = some none)
 (zsum : PySem.W.nsIn K mainGlobals "sum" = some none)
 (zzip : PySem.W.nsIn K mainGlobals "zip" = some none)
 (zmax : PySem.W.nsIn K mainGlobals "max" = some none)
 (zrev : PySem.W.nsIn K mainGlobals "reversed" = some none)
 (zVE : PySem.W.nsIn K mainGlobals "ValueError" = some none)
 {C : Addr} (aC : ClAt K "Live" C)
 (n_now : PySem.W.findIn K (.ref C) "now" = some none)
 (n_leap : PySem.W.findIn K (.ref C) "leap" = some none)
 (n_past : PySem.W.findIn K (.ref C) "past" = some none)
 (M_init : MAt K C "__init__" "Live.__init__" sLv_init)
 (M_turn : MAt K C "turn" "Live.turn" sLv_turn)
 (M_check : MAt K C "check" "Live.check" sLv_check)
 (M_link : MAt K C "link" "Live.link" sLv_link)
 (M_unlink : MAt K C "unlink" "Live.unlink" sLv_unlink)
 (M_page : MAt K C "page" "Live.page" sLv_page)
 (M_undo : MAt K C "undo" "Live.undo" sLv_undo)
 (M_web : MAt K C "web" "Live.web" sLv_web)
 (M_shares : MAt K C "shares" "Live.shares" sLv_shares)
 (M_ranked : MAt K C "ranked" "Live.ranked" sLv_ranked)
 (I_MOST_PAGES : InAt K "MOST_PAGES" 12)
 (I_MOST_LINKS : InAt K "MOST_LINKS" 60)
 (L_shares_shares : AlAt K "shares" "shares_shares")
 (L_ranked_shares : AlAt K "ranked" "ranked_shares")
 {Xc_NoLink : Addr} (E_NoLink : XcAt K "NoLink" Xc_NoLink)
 {Xc_WalkError : Addr} (E_WalkError : XcAt K "WalkError" Xc_WalkError)
 (xga : PySem.W.findIn K (.ref Xc_NoLink) "__getattribute__" = some (some (.builtin "BaseException.__getattribute__")))
 (xgn : PySem.W.findIn K (.ref Xc_NoLink) "__getattr__" = some none)
 (xca : PySem.W.findIn K (.ref Xc_NoLink) "__class__" = some (some (.builtin "object.__class__")))
 (xmo : PySem.W.mroIn K Xc_NoLink (.type "object") = some true)
 (xmb : PySem.W.mroIn K Xc_NoLink (.type "BaseException") = some true)
 (xup : PySem.W.mroIn K Xc_NoLink (.ref Xc_WalkError) = some true)
 (xnw : Xc_WalkError ≠ Xc_NoLink)
 {Xm : Addr} (xbM : PySem.W.nsIn K mainGlobals "NoCommand" = some (some (.ref Xm)))
 {Xk : Addr} (xbK : PySem.W.nsIn K mainGlobals "NoKind" = some (some (.ref Xk)))
 {Xt : Addr} (xbT : PySem.W.nsIn K mainGlobals "NoText" = some (some (.ref Xt)))
 (xki2 : PySem.W.kitOne K (.ref Xc_NoLink) (.type "ValueError") = some true)
 (xki3 : PySem.W.kitAny K (.ref Xc_NoLink) [.ref Xm, .ref Xk, .ref Xt] = some false)
 {cR tb : Addr} (CO : CodeOf K "ranked" cR) (hC : PySem.W.codeHdIn K cR tb = true)
 : ∃ fd : FuncData, (∀ (s : Shared) (v : Value), BindsTo s fd ⟨[v], []⟩ [("script", v)]) ∧ ∀ base : Heap, K.In base → base.Ns mainGlobals mg → Bm base mg → FnOk l.prog w K mg base CX0 9 fa fd ["script"] (spLaw13 K tb) := by
 have e := hfa.symm.trans (PySem.W.mg_of XK G aL)
 cases e
 have F48 := fun_mk (st := sLaw) lL cL kL
 have nWhole := A7.fnd ["thing"] XK G fun _ _ _ _ _ _ us hl => match us, hl with | [_], _ => rfl
 have nCommon := A8.fnd ["one", "other"] XK G fun _ _ _ _ _ _ us hl => match us, hl with | [_, _], _ => rfl
 have nPair := A9.fnd ["thing"] XK G fun _ _ _ _ _ _ us hl => match us, hl with | [_], _ => rfl
 have nMade := A10.fnd ["above", "below"] XK G fun _ _ _ _ _ _ us hl => match us, hl with | [_, _], _ => rfl
 have nBelow := A11.fnd ["some"] XK G fun _ _ _ _ _ _ us hl => match us, hl with | [_], _ => rfl
 have nAboves := A12.fnd ["some", "below"] XK G fun _ _ _ _ _ _ us hl => match us, hl with | [_, _], _ => rfl
 have nCleared := A14.fnd ["equation", "chosen", "place", "before"] XK G fun _ _ _ _ _ _ us hl => match us, hl with | [_, _, _, _], _ => rfl
 have nSolved := A15.fnd ["equations"] XK G fun _ _ _ _ _ _ us hl => match us, hl with | [_], _ => rfl
 have n_is_link := A19.fnd ["pages", "thing"] XK G fun _ _ _ _ _ _ us hl => match us, hl with | [_, _], _ => rfl
 have nLeads := A20.fnd ["web", "page"] XK G fun _ _ _ _ _ _ us hl => match us, hl with | [_, _], _ => rfl
 have nEven := A21.fnd ["web"] XK G fun _ _ _ _ _ _ us hl => match us, hl with | [_], _ => rfl
 have nParts := A23.fnd ["web", "page"] XK G fun _ _ _ _ _ _ us hl => match us, hl with | [_, _], _ => rfl
 have nFactor := A24.fnd ["web", "leap", "here", "there"] XK G fun _ _ _ _ _ _ us hl => match us, hl with | [_, _, _, _], _ => rfl
 have nEquation := A25.fnd ["web", "leap", "page", "start"] XK G fun _ _ _ _ _ _ us hl => match us, hl with | [_, _, _, _], _ => rfl
 have nVisits := A26.fnd ["web", "leap", "leaps"] XK G fun _ _ _ _ _ _ us hl => match us, hl with | [_, _, _], _ => rfl
 have nShares := A27.fnd ["web", "leap", "leaps"] XK G fun _ _ _ _ _ _ us hl => match us, hl with | [_, _, _], _ => rfl
 have nRanked := A29.fnd ["web", "leap", "leaps"] XK G fun _ _ _ _ _ _ us hl => match us, hl with | [_, _, _], _ => rfl
 have nWith := A32.fnd ["web", "one", "other"] XK G fun _ _ _ _ _ _ us hl => match us, hl with | [_, _, _], _ => rfl
 have nWithout := A33.fnd ["web", "one", "other"] XK G fun _ _ _ _ _ _ us hl => match us, hl with | [_, _, _], _ => rfl
 have n_law_mixed := A37.fnd ["cell", "k"] XK G fun _ _ _ _ _ _ us hl => match us, hl with | [_, _], _ => rfl
 have n_law_purse := A38.fnd ["script", "at", "step", "many"] XK G fun _ _ _ _ _ _ us hl => match us, hl with | [_, _, _, _], _ => rfl
 have n_law_next := A39.fnd ["purse"] XK G fun _ _ _ _ _ _ us hl => match us, hl with | [_], _ => rfl
 have nWeb := A40.fnd ["purse", "least", "most"] XK G fun _ _ _ _ _ _ us hl => match us, hl with | [_, _, _], _ => rfl
 have nGreat := A41.fnd ["purse"] XK G fun _ _ _ _ _ _ us hl => match us, hl with | [_], _ => rfl
 have nFrac := A42.fnd ["above", "below"] XK G fun _ _ _ _ _ _ us hl => match us, hl with | [_, _], _ => rfl
 have nLLeap := A43.fnd ["purse"] XK G fun _ _ _ _ _ _ us hl => match us, hl with | [_], _ => rfl
 have n_law_refused := A45.fnd ["live", "way", "one", "other"] XK G fun _ _ _ _ _ _ us hl => match us, hl with | [_, _, _, _], _ => rfl
 have n_law_odd := A46.fnd ["purse", "pages", "deep"] XK G fun _ _ _ _ _ _ us hl => match us, hl with | [_, _, _], _ => rfl
 have n_law_things_right := A47.fnd ["purse", "live", "web"] XK G fun _ _ _ _ _ _ us hl => match us, hl with | [_, _, _], _ => rfl
 have mk_Live := aC.mkf ["self", "web", "leap"] M_init XK G fun _ _ _ _ _ _ us hl => match us, hl with | [_, _, _], _ => rfl
 have mturn := M_turn.fnd ["self", "web"] fun _ _ _ _ _ _ us hl => match us, hl with | [_, _], _ => rfl
 have mcheck := M_check.fnd ["self", "one", "other"] fun _ _ _ _ _ _ us hl => match us, hl with | [_, _, _], _ => rfl
 have mlink := M_link.fnd ["self", "one", "other"] fun _ _ _ _ _ _ us hl => match us, hl with | [_, _, _], _ => rfl
 have munlink := M_unlink.fnd ["self", "one", "other"] fun _ _ _ _ _ _ us hl => match us, hl with | [_, _, _], _ => rfl
 have mpage := M_page.fnd ["self"] fun _ _ _ _ _ _ us hl => match us, hl with | [_], _ => rfl
 have mundo := M_undo.fnd ["self"] fun _ _ _ _ _ _ us hl => match us, hl with | [_], _ => rfl
 have mweb := M_web.fnd ["self"] fun _ _ _ _ _ _ us hl => match us, hl with | [_], _ => rfl
 have mshares := M_shares.fnd ["self"] fun _ _ _ _ _ _ us hl => match us, hl with | [_], _ => rfl
 have mranked := M_ranked.fnd ["self"] fun _ _ _ _ _ _ us hl => match us, hl with | [_], _ => rfl
 have LT : LvT K C := ⟨aC.cl, n_now, n_leap, n_past⟩
 obtain ⟨t_MOST_PAGES, i_MOST_PAGES⟩ := I_MOST_PAGES.mg XK G
 obtain ⟨t_MOST_LINKS, i_MOST_LINKS⟩ := I_MOST_LINKS.mg XK G
 have l_shares_shares := L_shares_shares.mg XK G
 have l_ranked_shares := L_ranked_shares.mg XK G
 have XT_NoLink := E_NoLink.xt XK G
 have XT_WalkError := E_WalkError.xt XK G
 have T : Txt mg := ⟨PySem.W.mg_none_of XK G zabs, PySem.W.mg_none_of XK G zisi, PySem.W.mg_none_of XK G ztup, PySem.W.mg_none_of XK G zint, PySem.W.mg_none_of XK G zbool, PySem.W.mg_none_of XK G zlst, PySem.W.mg_none_of XK G zenu, PySem.W.mg_none_of XK G zlen, PySem.W.mg_none_of XK G zrange, PySem.W.mg_none_of XK G zsrt, PySem.W.mg_none_of XK G zsum, PySem.W.mg_none_of XK G zzip, PySem.W.mg_none_of XK G zmax⟩
 have zrev := PySem.W.mg_none_of XK G zrev
 have zVE := PySem.W.mg_none_of XK G zVE
 refine ⟨PySem.W.fnOf "law" "law" (defArgs sLaw) (defBody sLaw) (defScope sLaw) .none kV dc pm an cd ct, fun s v => .of_eq rfl, fun base KB _ hBm => ?_⟩
 · skip
   have dM : Def l.prog w K mg base 2 "made" ["above", "below"] spMadeS := d_made nMade nCommon T
   have dCo : Def l.prog w K mg base 1 "common" ["one", "other"] spCommon := d_common nCommon
   have dBe := d_below nBelow dCo
   have dAb : Def l.prog w K mg base 1 "aboves" ["some", "below"] (spAboves K) := d_aboves nAboves
   have dLd : Def l.prog w K mg base 1 "leads" ["web", "page"] (spLinks K Pw.outs) := d_leads nLeads
   have dPa := d_parts nParts T dLd
   have dFa := d_factor nFactor T dPa
   have dEq := d_equation nEquation T dFa
   have dCl : Def l.prog w K mg base 1 "cleared" ["equation", "chosen", "place", "before"] (spCleared K) := d_cleared nCleared T
   have dSo := d_solved nSolved T dCl
   have dVi := d_visits nVisits T dAb dBe dSo dEq dPa
   have dSh := d_shares nShares T dVi dM
   have dSs := (dSh.sh).also l_shares_shares
   have dWi : Def l.prog w K mg base 1 "with_link" ["web", "one", "other"] (spWith K) := d_with_link nWith T
   have dWo : Def l.prog w K mg base 1 "without_link" ["web", "one", "other"] (spWithout K) := d_without_link nWithout T
   have dEv := d_even nEven T dM
   have dWh : Def l.prog w K mg base 1 "is_whole" ["thing"] (spWholeT K) := d_is_whole nWhole T
   have dPr := d_is_pair_of_wholes nPair T dWh
   have dIl := d_is_link n_is_link T dPr
   have eMk : MkD l.prog w K mg base CX0 1 C "Live" ["self", "web", "leap"] (spLInit C) := m_init mk_Live T LT
   have eTu : MDef l.prog w K mg base CX0 1 C "turn" ["self", "web"] (spLTurn C) := m_turn mturn T LT
   have eWe : MDef l.prog w K mg base CX0 1 C "web" ["self"] (spLWeb K C) := m_web mweb T LT
   have eSh := m_shares mshares T LT dSs dEv
   have dMx : Def l.prog w K mg base 1 "_law_mixed" ["cell", "k"] spMixedN := d_law_mixed n_law_mixed T
   have dNx : Def l.prog w K mg base 1 "_law_next" ["purse"] spNextN := d_law_next n_law_next T
   have dNz := nextNZ dNx
   have dPu := d_law_purse n_law_purse T zrev dMx
   have dWb := d_law_web nWeb T dNz
   have dFr : Def l.prog w K mg base 1 "_law_frac" ["above", "below"] spFracS := d_law_frac nFrac T
   have dLp := d_law_leap nLLeap T dNz dFr
   have eCh := m_check mcheck T LT XT_NoLink dIl
   have eLi := m_link mlink T LT XT_NoLink i_MOST_PAGES i_MOST_LINKS eCh eTu dWi
   have eUn := m_unlink munlink T LT XT_NoLink eCh eTu dWo
   have ePa := m_page mpage T LT XT_NoLink i_MOST_PAGES i_MOST_LINKS eTu
   have eUd : MDef l.prog w K mg base CX0 1 C "undo" ["self"] (spLUndo K C) := m_undo mundo T LT
   have dSv := dSh.also l_shares_shares
   have dRk := (d_ranked nRanked T hBm KB CO XK G hC dSv dAb dBe).also l_ranked_shares
   have eRk := m_ranked mranked T LT dRk dEv
   have dGr := d_law_great nGreat T dNz
   have dRf := d_law_refused n_law_refused T LT XT_NoLink XT_WalkError xup xnw ⟨xga, xgn, xca, xmo, xmb⟩ (PySem.W.mg_of XK G xbM) (PySem.W.mg_of XK G xbK) (PySem.W.mg_of XK G xbT) zVE kit_self xki2 xki3 ePa eLi eUn
   have dOd := d_law_odd n_law_odd T dNx
   have dTg := d_law_things_right n_law_things_right T LT dNx dOd dRf eWe eUd
   exact ok_law F48 T LT eMk dPu dNx dWb dLp dGr dTg dRf eLi eUn eWe eSh eRk eUd

theorem walk {l : PySem.W.OpenLaw} {q : Program} {loose : List Str} {XP : (Str → Option Value) → Heap → Prop} {YP : World → Heap → Prop} {d : DefRec} {K : Params → PySem.W.Frag} {c tb : Addr} (hn : l.most = some 63) (hdf : d.params.defaults = [])
 (hY : ∀ (w : World) (h : Heap), YP w h → (K w.params).In h) (hT : ∀ (w : World) (h : Heap), YP w h → h.get? tb = some (PySem.W.tabObj #[])) (hKT : ∀ p : Params, (K p).lookup tb = none) (hC : ∀ p : Params, PySem.W.codeHdIn (K p) c tb = true)
 (F : ∀ (w : World) (mg : Str → Option Value) (fa : Addr) (h : Heap), (K w.params).In h → h.Ns mainGlobals mg → mg d.name = some (.ref fa) →
  ∃ fd : FuncData, (∀ (s : Shared) (u : Value), BindsTo s fd ⟨[u], []⟩ [("script", u)]) ∧ ∀ base : Heap, (K w.params).In base → base.Ns mainGlobals mg → Bm base mg → FnOk l.prog w (K w.params) mg base CX0 9 fa fd ["script"] (spLaw13 (K w.params) tb)) :
 PySem.W.WalkO q loose XP YP l.row.toRowW d [] (fun f vs => PySem.call f vs) :=
 L2.walk_ofT (n := 63) (k := 9) (x := "script") (c := c) (tb := tb) (CX := fun _ => CX0) (sp := fun w => spLaw13 (K w.params) tb) hn (by decide) hdf ⟨rfl, by decide, by decide, rfl⟩ hY hT hKT hC F (fun _ _ a ns hl hO hS => ⟨a, ns, rfl, hS, hl, .inl hO.1, fun _ => rfl⟩) fun _ _ _ _ _ z => z
end Lw

def PySem.W.Fast.tw17668741300684814696 : Unit := ()
def PySem.W.Fast.tw14144900918576530749 : Unit := ()
def PySem.W.Fast.tw9794418772369160126 : Unit := ()
def PySem.W.Fast.tw5185437540504551107 : Unit := ()
def PySem.W.Fast.tw5472439098530196478 : Unit := ()
def PySem.W.Fast.tw15883494261320055793 : Unit := ()
def PySem.W.Fast.tw17109817931565232349 : Unit := ()
def PySem.W.Fast.tw7532266471343466687 : Unit := ()
def PySem.W.Fast.tw16212597119535128294 : Unit := ()
def PySem.W.Fast.tw8820751649725066621 : Unit := ()
def PySem.W.Fast.tw14460682911092726560 : Unit := ()
def PySem.W.Fast.tw13898468216359812889 : Unit := ()
def PySem.W.Fast.tw3542095288861095708 : Unit := ()
def PySem.W.Fast.tw13410232508724959645 : Unit := ()
def PySem.W.Fast.tw16580668299001982535 : Unit := ()
def PySem.W.Fast.tw13300676716156149234 : Unit := ()
def PySem.W.Fast.tw4872949059271291049 : Unit := ()
def PySem.W.Fast.tw15149966563971527552 : Unit := ()
def PySem.W.Fast.tw7325246685026758286 : Unit := ()
def PySem.W.Fast.tw5718947016478287690 : Unit := ()
def PySem.W.Fast.tw6632951383291020256 : Unit := ()
def PySem.W.Fast.tw6140550312101376069 : Unit := ()
def PySem.W.Fast.tw10073804682405219468 : Unit := ()
def PySem.W.Fast.tw17185900569101593047 : Unit := ()
def PySem.W.Fast.tw18407205297606357218 : Unit := ()
def PySem.W.Fast.tw6628891876802897563 : Unit := ()
def PySem.W.Fast.tw7734434228122919525 : Unit := ()
def PySem.W.Fast.tw14356350155047780815 : Unit := ()
open PySem PySem.W PyProof.Rows
set_option maxRecDepth 100000 in
set_option maxHeartbeats 0 in
theorem PySem.Challenge.cw_pagewalks_k32_live_webs_refused_holds : PySem.Challenge.rw_pagewalks_k32_live_webs_refused.Holds := by
 w_on; o_law; k_head; (case hw => w_witness2)
 k_fill
 refine Lw.walk (l := PySem.Challenge.rw_pagewalks_k32_live_webs_refused) (c := 179) (tb := 175) rfl rfl (fun w h Y => PySem.W.km_in_of Y) (fun w h Y => PySem.W.km_tabs_of Y _ (.head _)) (fun p => by kernel_rfl) (fun p => by kernel_rfl) ?F
 case F =>
  intro w mg fa h KX G hmg
  refine' Lw.all_mk KX G hmg ?A7 ?A8 ?A9 ?A10 ?A11 ?A12 ?A14 ?A15 ?A19 ?A20 ?A21 ?A23 ?A24 ?A25 ?A26 ?A27 ?A29 ?A32 ?A33 ?A37 ?A38 ?A39 ?A40 ?A41 ?A42 ?A43 ?A45 ?A46 ?A47 ?aL ?lL ?cL ?kL ?zabs ?zisi ?ztup ?zint ?zbool ?zlst ?zenu ?zlen ?zrange ?zsrt ?zsum ?zzip ?zmax ?zrev ?zVE ?aC ?n_now ?n_leap ?n_past ?M_init ?M_turn ?M_check ?M_link ?M_unlink ?M_page ?M_undo ?M_web ?M_shares ?M_ranked ?I_MOST_PAGES ?I_MOST_LINKS ?L_shares_shares ?L_ranked_shares ?E_NoLink ?E_WalkError ?xga ?xgn ?xca ?xmo ?xmb ?xup ?xnw ?xbM ?xbK ?xbT ?xki2 ?xki3 (cR := 179) (tb := 175) ?CO ?hC
  (case A7 => refine' L2.FnAt.of ?a ?l ?c ?k; (case a => k_is); (case l => k_is); (case c => k_is); (case k => k_is))
  (case A8 => refine' L2.FnAt.of ?a ?l ?c ?k; (case a => k_is); (case l => k_is); (case c => k_is); (case k => k_is))
  (case A9 => refine' L2.FnAt.of ?a ?l ?c ?k; (case a => k_is); (case l => k_is); (case c => k_is); (case k => k_is))
  (case A10 => refine' L2.FnAt.of ?a ?l ?c ?k; (case a => k_is); (case l => k_is); (case c => k_is); (case k => k_is))
  (case A11 => refine' L2.FnAt.of ?a ?l ?c ?k; (case a => k_is); (case l => k_is); (case c => k_is); (case k => k_is))
  (case A12 => refine' L2.FnAt.of ?a ?l ?c ?k; (case a => k_is); (case l => k_is); (case c => k_is); (case k => k_is))
  (case A14 => refine' L2.FnAt.of ?a ?l ?c ?k; (case a => k_is); (case l => k_is); (case c => k_is); (case k => k_is))
  (case A15 => refine' L2.FnAt.of ?a ?l ?c ?k; (case a => k_is); (case l => k_is); (case c => k_is); (case k => k_is))
  (case A19 => refine' L2.FnAt.of ?a ?l ?c ?k; (case a => k_is); (case l => k_is); (case c => k_is); (case k => k_is))
  (case A20 => refine' L2.FnAt.of ?a ?l ?c ?k; (case a => k_is); (case l => k_is); (case c => k_is); (case k => k_is))
  (case A21 => refine' L2.FnAt.of ?a ?l ?c ?k; (case a => k_is); (case l => k_is); (case c => k_is); (case k => k_is))
  (case A23 => refine' L2.FnAt.of ?a ?l ?c ?k; (case a => k_is); (case l => k_is); (case c => k_is); (case k => k_is))
  (case A24 => refine' L2.FnAt.of ?a ?l ?c ?k; (case a => k_is); (case l => k_is); (case c => k_is); (case k => k_is))
  (case A25 => refine' L2.FnAt.of ?a ?l ?c ?k; (case a => k_is); (case l => k_is); (case c => k_is); (case k => k_is))
  (case A26 => refine' L2.FnAt.of ?a ?l ?c ?k; (case a => k_is); (case l => k_is); (case c => k_is); (case k => k_is))
  (case A27 => refine' L2.FnAt.of ?a ?l ?c ?k; (case a => k_is); (case l => k_is); (case c => k_is); (case k => k_is))
  (case A29 => refine' L2.FnAt.of ?a ?l ?c ?k; (case a => k_is); (case l => k_is); (case c => k_is); (case k => k_is))
  (case A32 => refine' L2.FnAt.of ?a ?l ?c ?k; (case a => k_is); (case l => k_is); (case c => k_is); (case k => k_is))
  (case A33 => refine' L2.FnAt.of ?a ?l ?c ?k; (case a => k_is); (case l => k_is); (case c => k_is); (case k => k_is))
  (case A37 => refine' L2.FnAt.of ?a ?l ?c ?k; (case a => k_is); (case l => k_is); (case c => k_is); (case k => k_is))
  (case A38 => refine' L2.FnAt.of ?a ?l ?c ?k; (case a => k_is); (case l => k_is); (case c => k_is); (case k => k_is))
  (case A39 => refine' L2.FnAt.of ?a ?l ?c ?k; (case a => k_is); (case l => k_is); (case c => k_is); (case k => k_is))
  (case A40 => refine' L2.FnAt.of ?a ?l ?c ?k; (case a => k_is); (case l => k_is); (case c => k_is); (case k => k_is))
  (case A41 => refine' L2.FnAt.of ?a ?l ?c ?k; (case a => k_is); (case l => k_is); (case c => k_is); (case k => k_is))
  (case A42 => refine' L2.FnAt.of ?a ?l ?c ?k; (case a => k_is); (case l => k_is); (case c => k_is); (case k => k_is))
  (case A43 => refine' L2.FnAt.of ?a ?l ?c ?k; (case a => k_is); (case l => k_is); (case c => k_is); (case k => k_is))
  (case A45 => refine' L2.FnAt.of ?a ?l ?c ?k; (case a => k_is); (case l => k_is); (case c => k_is); (case k => k_is))
  (case A46 => refine' L2.FnAt.of ?a ?l ?c ?k; (case a => k_is); (case l => k_is); (case c => k_is); (case k => k_is))
  (case A47 => refine' L2.FnAt.of ?a ?l ?c ?k; (case a => k_is); (case l => k_is); (case c => k_is); (case k => k_is))
  (case aL => k_is)
  (case lL => k_is)
  (case cL => k_is)
  (case kL => k_is)
  (case zabs => k_is)
  (case zisi => k_is)
  (case ztup => k_is)
  (case zint => k_is)
  (case zbool => k_is)
  (case zlst => k_is)
  (case zenu => k_is)
  (case zlen => k_is)
  (case zrange => k_is)
  (case zsrt => k_is)
  (case zsum => k_is)
  (case zzip => k_is)
  (case zmax => k_is)
  (case zrev => k_is)
  (case zVE => k_is)
  (case aC => refine' L2.ClAt.of ?a ?pg ?hd ?po ?sa ?mk ?kc; (case a => k_is); (case pg => k_is); (case hd => k_is); (case po => k_is); (case sa => k_is); (case mk => k_is); (case kc => k_is))
  (case n_now => k_is)
  (case n_leap => k_is)
  (case n_past => k_is)
  (case M_init => refine' L2.MAt.of ?a ?i ?l ?c ?k; (case a => k_is); (case i => k_is); (case l => k_is); (case c => k_is); (case k => k_is))
  (case M_turn => refine' L2.MAt.of ?a ?i ?l ?c ?k; (case a => k_is); (case i => k_is); (case l => k_is); (case c => k_is); (case k => k_is))
  (case M_check => refine' L2.MAt.of ?a ?i ?l ?c ?k; (case a => k_is); (case i => k_is); (case l => k_is); (case c => k_is); (case k => k_is))
  (case M_link => refine' L2.MAt.of ?a ?i ?l ?c ?k; (case a => k_is); (case i => k_is); (case l => k_is); (case c => k_is); (case k => k_is))
  (case M_unlink => refine' L2.MAt.of ?a ?i ?l ?c ?k; (case a => k_is); (case i => k_is); (case l => k_is); (case c => k_is); (case k => k_is))
  (case M_page => refine' L2.MAt.of ?a ?i ?l ?c ?k; (case a => k_is); (case i => k_is); (case l => k_is); (case c => k_is); (case k => k_is))
  (case M_undo => refine' L2.MAt.of ?a ?i ?l ?c ?k; (case a => k_is); (case i => k_is); (case l => k_is); (case c => k_is); (case k => k_is))
  (case M_web => refine' L2.MAt.of ?a ?i ?l ?c ?k; (case a => k_is); (case i => k_is); (case l => k_is); (case c => k_is); (case k => k_is))
  (case M_shares => refine' L2.MAt.of ?a ?i ?l ?c ?k; (case a => k_is); (case i => k_is); (case l => k_is); (case c => k_is); (case k => k_is))
  (case M_ranked => refine' L2.MAt.of ?a ?i ?l ?c ?k; (case a => k_is); (case i => k_is); (case l => k_is); (case c => k_is); (case k => k_is))
  (case I_MOST_PAGES => refine' L2.InAt.of ?a; (case a => k_is))
  (case I_MOST_LINKS => refine' L2.InAt.of ?a; (case a => k_is))
  (case L_shares_shares => refine' L2.AlAt.of ?a ?b; (case a => k_is); (case b => k_is))
  (case L_ranked_shares => refine' L2.AlAt.of ?a ?b; (case a => k_is); (case b => k_is))
  (case E_NoLink => refine' L2.XcAt.of ?a ?e ?t; (case a => k_is); (case e => kernel_rfl); (case t => kernel_rfl))
  (case E_WalkError => refine' L2.XcAt.of ?a ?e ?t; (case a => k_is); (case e => kernel_rfl); (case t => kernel_rfl))
  (case xga => (first | k_is | kernel_rfl))
  (case xgn => (first | k_is | kernel_rfl))
  (case xca => (first | k_is | kernel_rfl))
  (case xmo => (first | k_is | kernel_rfl))
  (case xmb => (first | k_is | kernel_rfl))
  (case xup => (first | k_is | kernel_rfl))
  (case xnw => decide)
  (case xbM => k_is)
  (case xbK => k_is)
  (case xbT => k_is)
  (case xki2 => (first | k_is | kernel_rfl))
  (case xki3 => (first | k_is | kernel_rfl))
  (case CO => refine' L2.CodeOf.of ?a ?l ?c; (case a => k_is); (case l => k_is); (case c => rfl))
  (case hC => kernel_rfl)

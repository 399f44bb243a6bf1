import PyProof.Rows.All
import Wide.All
import OpenK.AllK
import Wide.FinOn
import Lean
import PyProof.EqAt
import PyProof.EqKinds
import PyProof.TupleCall
import PyProof.NeKinds
import PyProof.EnumMake
import PyProof.Draws
import PyProof.ListNew
import PyProof.Rows.IntBool
import KE.LcSums
import PyProof.ListMulRoad
import PyProof.WalksT
import PyProof.ZipIter
import PyProof.Rows.ZipGen
import PyProof.SumWalk
import PyProof.Rows.CallKwBuiltin
import PyProof.AutoListH
import PyProof.WalkInts
import PySem.Challenge.RW_pagewalks_k38_mixed_leaps
set_option Elab.async false
set_option bootstrap.genMatcherCode false
set_option genSizeOfSpec false
set_option genSizeOf false
set_option linter.all false
set_option maxRecDepth 100000
namespace L2
open PySem PySem.Spec PyProof.Rows

noncomputable abbrev Key := Sum Int Str
noncomputable def keyIs : Key → Value → Bool
  | .inl k, v => Value.isInt k v
  | .inr x, v => Value.isStrOf x v
noncomputable def keyH (w : World) : Key → Int
  | .inl k => hashInt k
  | .inr x => hashStr w x
theorem keyIs_shape : ∀ {k : Key} {v : Value}, keyIs k v = true → (∃ i t, k = Sum.inl i ∧ v = Value.int i t) ∨ (∃ x t, k = Sum.inr x ∧ v = Value.str x t)
  | .inl i, v, h => by
    obtain ⟨t, e⟩ := Value.isInt_shape (k := i) (v := v) h
    exact .inl ⟨i, t, rfl, e⟩
  | .inr x, v, h => by
    obtain ⟨t, e⟩ := Value.isStrOf_shape (x := x) (v := v) h
    exact .inr ⟨x, t, rfl, e⟩
theorem key_ll (a b : Int) : decide ((Sum.inl a : Key) = Sum.inl b) = (a == b) := by
  by_cases e : a = b
  · subst e; simp
  · have h : ¬ (Sum.inl a : Key) = Sum.inl b := fun q => e (Sum.inl.inj q)
    rw [decide_eq_false h]
    exact (beq_eq_false_iff_ne.mpr e).symm
theorem key_rr (a b : Str) : decide ((Sum.inr a : Key) = Sum.inr b) = decide (a = b) := by
  by_cases e : a = b
  · subst e; simp
  · have h : ¬ (Sum.inr a : Key) = Sum.inr b := fun q => e (Sum.inr.inj q)
    rw [decide_eq_false h, decide_eq_false e]
theorem key_lr (a : Int) (b : Str) : decide ((Sum.inl a : Key) = Sum.inr b) = false := decide_eq_false (fun q => nomatch q)
theorem key_rl (a : Str) (b : Int) : decide ((Sum.inr a : Key) = Sum.inl b) = false := decide_eq_false (fun q => nomatch q)

noncomputable def mixKind (prog : Program) (w : World) : PySem.KeyKind prog w Key where
  is := keyIs
  hash := keyH w
  inj := fun v a b ha hb => by
    rcases keyIs_shape ha with ⟨i, t, rfl, rfl⟩ | ⟨x, t, rfl, rfl⟩
    · rcases keyIs_shape hb with ⟨j, u, rfl, e⟩ | ⟨y, u, rfl, e⟩
      · injection e with e1 _; rw [e1]
      · exact nomatch e
    · rcases keyIs_shape hb with ⟨j, u, rfl, e⟩ | ⟨y, u, rfl, e⟩
      · exact nomatch e
      · injection e with e1 _; rw [e1]
  byValue := fun k v h => by
    rcases keyIs_shape h with ⟨i, t, rfl, rfl⟩ | ⟨x, t, rfl, rfl⟩ <;> rfl
  pyHash := fun hv h => by
    rcases keyIs_shape hv with ⟨i, t, rfl, rfl⟩ | ⟨x, t, rfl, rfl⟩
    · exact wpAny_pyHash_int h
    · exact wpAny_pyHash_str h
  eqBool := fun hu hv h => by
    rcases keyIs_shape hu with ⟨i, t, rfl, rfl⟩ | ⟨x, t, rfl, rfl⟩
    · rcases keyIs_shape hv with ⟨j, u, rfl, rfl⟩ | ⟨y, u, rfl, rfl⟩
      · rw [key_ll] at h; exact wpAny_eqBool_int h
      · rw [key_lr] at h; exact SeqAt.EqAt.int_str i t y u _ _ _ _ h
    · rcases keyIs_shape hv with ⟨j, u, rfl, rfl⟩ | ⟨y, u, rfl, rfl⟩
      · rw [key_rl] at h; exact SeqAt.EqAt.str_int x t j u _ _ _ _ h
      · rw [key_rr] at h; exact wpAny_eqBool_str h
  «strs» := fun k x t v h => by
    rcases keyIs_shape h with ⟨i, u, rfl, e⟩ | ⟨y, u, rfl, e⟩
    · exact nomatch e
    · injection e with e1 _
      subst e1
      cases v <;> rfl

end L2

namespace L2
open PySem PySem.Spec PyProof.Rows

inductive V where
  | non | bl (b : Bool) | int (i : Int) | str (x : Str) | byt (b : Array UInt8) | flt (b : UInt64) | ref (a : Addr) | ty (n : String)
  deriving DecidableEq

noncomputable def RelV : V → Value → Prop
  | .non, u => u = Value.none
  | .bl b, u => u = Value.bool b
  | .int i, u => ∃ t, u = Value.int i t
  | .str x, u => ∃ t, u = Value.str x t
  | .byt b, u => ∃ t, u = Value.bytes b t
  | .flt b, u => ∃ t, u = Value.float b t
  | .ref a, u => u = Value.ref a
  | .ty n, u => u = Value.type n

noncomputable abbrev Vals : List V → List Value → Prop := Paired RelV
theorem Vals.length {xs : List V} {us : List Value} (r : Vals xs us) : xs.length = us.length := Paired.length r
theorem Vals.get : ∀ {xs : List V} {us : List Value} {i : Nat} {x : V}, Vals xs us → xs[i]? = some x → ∃ u, us[i]? = some u ∧ RelV x u
  | _, _, _, _, .nil, e => by simp at e
  | _, _, 0, _, .cons r _, e => by simp at e; subst e; exact ⟨_, rfl, r⟩
  | _, _, i + 1, x, .cons _ t, e => by
    obtain ⟨u, h1, h2⟩ := Vals.get (i := i) (x := x) t (by simpa using e)
    exact ⟨u, by simpa using h1, h2⟩
theorem Vals.set {x : V} {u : Value} (r : RelV x u) : ∀ {xs : List V} {us : List Value} (i : Nat), Vals xs us → Vals (xs.set i x) (us.set i u)
  | _, _, _, .nil => .nil
  | _, _, 0, .cons _ t => .cons r t
  | _, _, i + 1, .cons q t => .cons q (Vals.set r i t)
theorem Vals.append : ∀ {xs ys : List V} {us ws : List Value}, Vals xs us → Vals ys ws → Vals (xs ++ ys) (us ++ ws)
  | _, _, _, _, .nil, s => s
  | _, _, _, _, .cons r t, s => .cons r (Vals.append t s)
theorem Vals.take : ∀ {xs : List V} {us : List Value} (n : Nat), Vals xs us → Vals (xs.take n) (us.take n)
  | _, _, 0, _ => .nil
  | _, _, _ + 1, .nil => .nil
  | _, _, n + 1, .cons r t => .cons r (Vals.take n t)
theorem Vals.drop : ∀ {xs : List V} {us : List Value} (n : Nat), Vals xs us → Vals (xs.drop n) (us.drop n)
  | _, _, 0, r => r
  | _, _, _ + 1, .nil => .nil
  | _, _, n + 1, .cons _ t => Vals.drop n t
noncomputable def RelO : Option V → Option Value → Prop
  | some v, some u => RelV v u
  | none, none => True
  | _, _ => False
noncomputable def KV {κ : Type} : List (κ × V) → List (κ × Value) → Prop := Paired fun (p : κ × V) (q : κ × Value) => p.1 = q.1 ∧ RelV p.2 q.2

noncomputable def kV : Key → V
  | .inl i => .int i
  | .inr x => .str x

inductive HO where
    | lst (xs : List V)
    | tup (xs : List V)
    | dK (kvs : List (Key × V)) | dT (kvs : List (List Key × V))
    | set (S : Int → Bool) (n : Nat)
    | ins (C dx : Addr) (fs : List (Str × V))
    | own (x : Addr)
    | xd (fs : List (Str × V))
    | met (f x : Addr)
    | rng (lo hi : Int)
    | frz (o : Obj) (u : HO)
    | tbl (ps : Array Value)
    | ext (φ : Heap → Prop)

noncomputable abbrev Hp := Addr → Option HO
noncomputable def upd (H : Hp) (a : Addr) (o : HO) : Hp := fun b => if b = a then some o else H b
theorem upd_same {H : Hp} {a : Addr} {o : HO} : upd H a o a = some o := by unfold upd; rw [if_pos rfl]
theorem upd_ne {H : Hp} {a b : Addr} {o : HO} (h : b ≠ a) : upd H a o b = H b := by unfold upd; rw [if_neg h]
theorem ne_of {H : Hp} {a b : Addr} {o u : HO} (h : H a = some o) (h' : H b = some u) (d : o ≠ u) : a ≠ b := by
  intro e; subst e; rw [h] at h'; exact d (Option.some.inj h')
theorem ne_of_none {H : Hp} {a b : Addr} {o : HO} (h : H a = some o) (h' : H b = none) : a ≠ b := by
  intro e; subst e; rw [h] at h'; cases h'

noncomputable def IsTupN (h : Heap) (a : Addr) (items : Array Value) : Prop := ∃ o, h.get? a = some o ∧ (o.cls, o.dict) = (Value.type "tuple", (none : Option Addr)) ∧ ∃ n, o.data = .seq items n
theorem IsTupN.tup {h : Heap} {a : Addr} {items : Array Value} (p : IsTupN h a items) : PyProof.Rows.IsTup h a items := by
  obtain ⟨o, e, c, n, d⟩ := p
  exact ⟨o, e, congrArg Prod.fst c, n, d⟩
theorem IsTupN.new (h : Heap) (items : Array Value) : IsTupN (h.push { cls := .type "tuple", data := .seq items }) h.objs.size items := ⟨_, Heap.get?_push_size _ rfl, rfl, _, rfl⟩

section
variable (P : Program) (w : World)
noncomputable def ObjOk (H : Hp) (h : Heap) (a : Addr) : HO → Prop
  | .lst xs => xs.length ≤ sizeLine ∧ ∃ (its : List Value) (n : Nat), Vals xs its ∧ h.get? a = some { cls := .type "list", data := .seq its.toArray n }
  | .tup xs => xs.length ≤ sizeLine ∧ ∃ its : List Value, Vals xs its ∧ IsTupN h a its.toArray
  | .dK kvs => kvs.length ≤ sizeLine ∧ (a == sysModules) = false ∧ ∃ vs, KV kvs vs ∧ h.DictOf (mixKind P w) a vs
  | .dT kvs => kvs.length ≤ sizeLine ∧ (a == sysModules) = false ∧ ∃ xs : List (List Key × Addr × Value),
      Paired (fun (p : List Key × V) (q : List Key × Addr × Value) => p.1 = q.1 ∧ H q.2.1 = some (.tup (p.1.map kV)) ∧ RelV p.2 q.2.2) kvs xs ∧
      ∃ o es ep, h.get? a = some o ∧ o.ExactDict ∧ o.data = .dict es ep ∧ es.toList = xs.map (entryOfKey (tupleKind (mixKind P w))) ∧ (xs.map (·.1)).Nodup
  | .set S n => h.SetOf (intKind P w) a S n
  | .ins C dx fs => H dx = some (.own a) ∧ fs.length ≤ 1000 ∧ dx ≠ a ∧ h.get? a = some (PySem.W.instObj C dx) ∧
      ∃ mA, h.Ns1 dx mA ∧ (∀ f, RelO (fs.lookup f) (mA f)) ∧ PySem.Within mA (fs.map (·.1))
  | .own _ => ∃ o, h.get? a = some o
  | .xd fs => ∃ mA, h.Ns1 a mA ∧ ∀ f, RelO (fs.lookup f) (mA f)
  | .rng lo hi => ∃ t u v, h.get? a = some { cls := .type "range", data := .fields #[.int lo t, .int hi u, .int 1 v] }
  | .frz o u => h.get? a = some o ∧ ObjOk H h a u
  | .tbl ps => h.get? a = some { cls := .none, data := .fields ps }
  | .met f x => h.get? a = some (PySem.W.methodObj (.ref f) (.ref x))
  | .ext φ => φ h ∧ (∃ o, h.get? a = some o) ∧ ∀ h1 h2 : Heap, φ h1 → (∀ o, h1.get? a = some o → h2.get? a = some o) → φ h2
noncomputable def HOk (H : Hp) (h : Heap) : Prop := ∀ a o, H a = some o → ObjOk P w H h a o
end

section
variable {P : Program} {w : World} {H H' : Hp} {h h' : Heap} {a : Addr} {o : HO}
theorem ObjOk.lt (x : ObjOk P w H h a o) : a < h.objs.size := by
  cases o with
  | lst xs => obtain ⟨_, _, _, _, e⟩ := x; exact Heap.lt_size e
  | tup xs => obtain ⟨_, _, _, p⟩ := x; exact p.tup.lt
  | dK kvs => obtain ⟨_, _, _, _, o, _, _, e, _⟩ := x; exact Heap.lt_size e
  | dT kvs => obtain ⟨_, _, _, _, o, _, _, e, _⟩ := x; exact Heap.lt_size e
  | set S n => obtain ⟨o, _, _, _, e, _⟩ := x; exact Heap.lt_size e
  | ins C dx fs => obtain ⟨_, _, _, e, _⟩ := x; exact Heap.lt_size e
  | own y => obtain ⟨_, e⟩ := x; exact Heap.lt_size e
  | xd fs => obtain ⟨_, ⟨_, _, _, e, _⟩, _⟩ := x; exact Heap.lt_size e
  | rng lo hi => obtain ⟨_, _, _, e⟩ := x; exact Heap.lt_size e
  | frz ob u => obtain ⟨e, _⟩ := x; exact Heap.lt_size e
  | tbl ps => exact Heap.lt_size (show h.get? a = some _ from x)
  | met f y => exact Heap.lt_size (show h.get? a = some _ from x)
  | ext φ => obtain ⟨_, ⟨_, e⟩, _⟩ := x; exact Heap.lt_size e
theorem Paired.mapP {α β : Type} {F G : α → β → Prop} : ∀ {l₁ : List α} {l₂ : List β}, Paired F l₁ l₂ → (∀ a b, F a b → G a b) → Paired G l₁ l₂
  | _, _, .nil, _ => .nil
  | _, _, .cons r t, f => .cons (f _ _ r) (Paired.mapP t f)
theorem ObjOk.stay (x : ObjOk P w H h a o) (k : ∀ b u, (b = a ∨ H b = some (.own a)) → h.get? b = some u → h'.get? b = some u)
    (ho : ∀ b, H b = some (.own a) → H' b = some (.own a)) (ht : ∀ b xs, H b = some (.tup xs) → H' b = some (.tup xs)) : ObjOk P w H' h' a o := by
  induction o with
  | lst xs => obtain ⟨z, its, n, r, e⟩ := x; exact ⟨z, its, n, r, k _ _ (.inl rfl) e⟩
  | tup xs => obtain ⟨z, its, r, ob, e, c⟩ := x; exact ⟨z, its, r, ob, k _ _ (.inl rfl) e, c⟩
  | dK kvs => obtain ⟨z, y, vs, r, ob, es, ep, e, c⟩ := x; exact ⟨z, y, vs, r, ob, es, ep, k _ _ (.inl rfl) e, c⟩
  | dT kvs =>
    obtain ⟨z, y, xs, r, ob, es, ep, e, c⟩ := x
    exact ⟨z, y, xs, Paired.mapP r fun p q z => ⟨z.1, ht _ _ z.2.1, z.2.2⟩, ob, es, ep, k _ _ (.inl rfl) e, c⟩
  | set S n => obtain ⟨ob, es, ep, t, e, c⟩ := x; exact ⟨ob, es, ep, t, k _ _ (.inl rfl) e, c⟩
  | ins C dx fs =>
    obtain ⟨d, z, ne, e, mA, ⟨od, es, ep, e2, c⟩, r⟩ := x
    exact ⟨ho _ d, z, ne, k _ _ (.inl rfl) e, mA, ⟨od, es, ep, k _ _ (.inr d) e2, c⟩, r⟩
  | own y => obtain ⟨ob, e⟩ := x; exact ⟨ob, k _ _ (.inl rfl) e⟩
  | xd fs => obtain ⟨mA, ⟨od, es, ep, e, c⟩, r⟩ := x; exact ⟨mA, ⟨od, es, ep, k _ _ (.inl rfl) e, c⟩, r⟩
  | rng lo hi => obtain ⟨t, u, v, e⟩ := x; exact ⟨t, u, v, k _ _ (.inl rfl) e⟩
  | frz ob u ih => obtain ⟨e, q⟩ := x; exact ⟨k _ _ (.inl rfl) e, ih q⟩
  | tbl ps =>
    have e : h.get? a = some { cls := .none, data := .fields ps } := x
    show h'.get? a = some { cls := .none, data := .fields ps }
    exact k a _ (.inl rfl) e
  | met f y =>
    have e : h.get? a = some (PySem.W.methodObj (.ref f) (.ref y)) := x
    show h'.get? a = some (PySem.W.methodObj (.ref f) (.ref y))
    exact k a _ (.inl rfl) e
  | ext φ => obtain ⟨p, ⟨o, e⟩, st⟩ := x; exact ⟨st _ _ p fun o q => k _ _ (.inl rfl) q, ⟨o, k _ _ (.inl rfl) e⟩, st⟩
theorem HOk.lt (x : HOk P w H h) (e : H a = some o) : a < h.objs.size := (x a o e).lt
theorem HOk.fresh (x : HOk P w H h) (e : h.objs.size ≤ a) : H a = none := by
  cases q : H a with
  | none => rfl
  | some u => exact absurd (Nat.lt_of_lt_of_le (x.lt q) e) (Nat.lt_irrefl _)
theorem HOk.kept (x : HOk P w H h) (k : ∀ b u, h.get? b = some u → h'.get? b = some u) : HOk P w H h' := fun a o e =>
  (x a o e).stay (fun b u _ q => k b u q) (fun _ q => q) fun _ _ q => q
theorem HOk.laid (x : HOk P w H h) (k : ∀ b u, h.get? b = some u → h'.get? b = some u) (hp : h.objs.size ≤ a) (new : ObjOk P w (upd H a o) h' a o) : HOk P w (upd H a o) h' := fun b u e => by
  have hn := x.fresh hp
  by_cases hb : b = a
  · subst hb; rw [upd_same] at e; cases e; exact new
  · rw [upd_ne hb] at e
    exact (x b u e).stay (fun c v _ q => k c v q) (fun c q => by rw [upd_ne (ne_of_none q hn)]; exact q) fun c xs q => by rw [upd_ne (ne_of_none q hn)]; exact q
end

noncomputable def Rd (H : Hp) (a : Addr) (u : HO) : Prop := H a = some u ∨ ∃ o, H a = some (.frz o u)
theorem Rd.ok {P : Program} {w : World} {H : Hp} {h : Heap} {a : Addr} {u : HO} (r : Rd H a u) (x : HOk P w H h) : ObjOk P w H h a u := by
  rcases r with r | ⟨o, r⟩
  · exact x a u r
  · obtain ⟨_, q⟩ := x a _ r
    exact q
noncomputable def Mut : Option HO → Prop
  | some (.lst _) => True
  | some (.dK _) => True
  | some (.dT _) => True
  | some (.set _ _) => True
  | some (.ins _ _ _) => True
  | some (.ext _) => True
  | _ => False
section
variable {P : Program} {w : World} {H : Hp} {h h' : Heap} {x e : Addr} {o' : HO}
theorem HOk.write (ok : HOk P w H h) (mu : Mut (H x)) (he : e = x ∨ H e = some (.own x)) (k : ∀ b u, b ≠ e → h.get? b = some u → h'.get? b = some u) (heo : ∃ u, h'.get? e = some u)
    (new : ObjOk P w (upd H x o') h' x o') : HOk P w (upd H x o') h' := fun b u q => by
  have nown : ∀ c y, H c = some (.own y) → c ≠ x := fun c y r z => by subst z; rw [r] at mu; exact mu
  have ntup : ∀ c xs, H c = some (.tup xs) → c ≠ x := fun c xs r z => by subst z; rw [r] at mu; exact mu
  by_cases hb : b = x
  · subst hb; rw [upd_same] at q; cases q; exact new
  · rw [upd_ne hb] at q
    by_cases hbe : b = e
    · have q' : H b = some (.own x) := by
        rcases he with z | z
        · exact absurd (hbe.trans z) hb
        · rw [hbe]; exact z
      rw [q] at q'; cases q'
      obtain ⟨v, hv⟩ := heo
      exact ⟨v, by rw [hbe]; exact hv⟩
    · refine (ok b u q).stay (fun c v hc r => k c v ?_ r) (fun c r => by rw [upd_ne (nown c b r)]; exact r) fun c xs r => by rw [upd_ne (ntup c xs r)]; exact r
      rcases hc with rfl | hc
      · exact hbe
      · rintro rfl
        rcases he with z | z
        · exact nown c b hc z
        · rw [hc] at z; cases z; exact hb rfl
end

structure Un (fs ex : List Addr) (H H' : Hp) (h h' : Heap) : Prop where
  keep : ∀ b o, h.get? b = some o → H b = none → b ∉ fs → b ∉ ex → h'.get? b = some o
  slot : ∀ b o, h.get? b = some o → H b = none → b ∈ fs → b ∉ ex → ∃ sl, h'.get? b = some { o with slots := sl }
  free : ∀ b o, h.get? b = some o → H b = none → b ∉ ex → H' b = none
  there : ∀ b o, h.get? b = some o → b ∉ ex → ∃ o', h'.get? b = some o'
  tups : ∀ b xs, H b = some (.tup xs) → H' b = some (.tup xs)
  frzs : ∀ b o u, H b = some (.frz o u) → H' b = some (.frz o u)
  tbls : ∀ b ps, H b = some (.tbl ps) → ∃ more, H' b = some (.tbl (ps ++ more))
section
variable {fs fs' ex ex' : List Addr} {H H1 H2 : Hp} {h h1 h2 h' : Heap} {a x e : Addr} {o : HO}
theorem Un.any (u : Un fs ex H H1 h h1) {b : Addr} {ob : Obj} (q : h.get? b = some ob) (n : H b = none) (hx : b ∉ ex) : ∃ sl, h1.get? b = some { ob with slots := sl } := by
  by_cases hb : b ∈ fs
  · exact u.slot b ob q n hb hx
  · exact ⟨ob.slots, u.keep b ob q n hb hx⟩
theorem Un.kept (k : ∀ b u, h.get? b = some u → h'.get? b = some u) : Un fs ex H H h h' :=
  ⟨fun b ob q _ _ _ => k b ob q, fun b ob q _ _ _ => ⟨ob.slots, k b ob q⟩, fun _ _ _ n _ => n, fun b ob q _ => ⟨ob, k b ob q⟩, fun _ _ q => q, fun _ _ _ q => q, fun _ ps q => ⟨#[], by rw [q]; simp⟩⟩
theorem Un.refl : Un fs ex H H h h := Un.kept fun _ _ q => q
theorem Un.laid (k : ∀ b u, h.get? b = some u → h'.get? b = some u) (hp : h.objs.size ≤ a) (hn : H a = none) : Un fs ex H (upd H a o) h h' where
  keep := fun b u q _ _ _ => k b u q
  slot := fun b u q _ _ _ => ⟨u.slots, k b u q⟩
  free := fun b u q n _ => by rw [upd_ne (Nat.ne_of_lt (Nat.lt_of_lt_of_le (Heap.lt_size q) hp))]; exact n
  there := fun b u q _ => ⟨u, k b u q⟩
  tups := fun b xs q => by rw [upd_ne (ne_of_none q hn)]; exact q
  frzs := fun b u xs q => by rw [upd_ne (ne_of_none q hn)]; exact q
  tbls := fun b ps q => ⟨#[], by rw [upd_ne (ne_of_none q hn), q]; simp⟩
theorem Un.write (mu : Mut (H x)) (he : e = x ∨ H e = some (.own x)) (k : ∀ b u, b ≠ e → h.get? b = some u → h'.get? b = some u) (heo : ∃ u, h'.get? e = some u) : Un fs ex H (upd H x o) h h' := by
  have hx : ∀ b, H b = none → b ≠ x := fun b n z => by subst z; rw [n] at mu; exact mu
  have hb : ∀ b, H b = none → b ≠ e := fun b n z => by
    subst z
    rcases he with r | r
    · exact hx b n r
    · rw [n] at r; cases r
  have hm : ∀ b u, H b = some u → ¬ Mut (some u) → b ≠ x := fun b u q nm z => by subst z; rw [q] at mu; exact nm mu
  refine ⟨fun b u q n _ _ => k b u (hb b n) q, fun b u q n _ _ => ⟨u.slots, k b u (hb b n) q⟩, fun b u q n _ => by rw [upd_ne (hx b n)]; exact n, fun b u q _ => ?_,
    fun b xs q => by rw [upd_ne (hm b _ q fun z => z)]; exact q, fun b u xs q => by rw [upd_ne (hm b _ q fun z => z)]; exact q, fun b ps q => ⟨#[], by rw [upd_ne (hm b _ q fun z => z), q]; simp⟩⟩
  by_cases hbe : b = e
  · subst hbe; exact heo
  · exact ⟨u, k b u hbe q⟩
end

noncomputable def trk (h : Heap) (H : Hp) : List Addr := (List.range h.objs.size).filter fun a => (H a).isSome
noncomputable def hidT (h : Heap) (H : Hp) : Heap := PySem.W.hideAll h (trk h H)
theorem hidT_size (h : Heap) (H : Hp) : (hidT h H).objs.size = h.objs.size := PySem.W.hideAll_size _ _
theorem hidT_get {h : Heap} {H : Hp} {b : Addr} {o : Obj} (e : h.get? b = some o) (n : H b = none) : (hidT h H).get? b = some o :=
  PySem.W.hideAll_get _ e fun hm => by
    have q : (H b).isSome = true := (List.mem_filter.mp hm).2
    rw [n] at q; simp at q
theorem of_hidT {h : Heap} {H : Hp} {b : Addr} {o : Obj} (e : (hidT h H).get? b = some o) : h.get? b = some o ∧ H b = none := by
  have e' : h.get? b = some o := PySem.W.of_hideAll (trk h H) e
  refine ⟨e', ?_⟩
  cases q : H b with
  | none => rfl
  | some x =>
    have hm : b ∈ trk h H := List.mem_filter.mpr ⟨List.mem_range.mpr (Heap.lt_size e'), by simp [q]⟩
    have z : (hidT h H).get? b = none := PySem.W.hideAll_none (trk h H) hm
    rw [z] at e; cases e

end L2

namespace L2
open PySem PySem.Spec PyProof.Rows

structure Mod (K : PySem.W.Frag) (mg : Str → Option Value) (base : Heap) : Prop where
  kin : K.In base
  glob : base.Ns mainGlobals mg
  blt : ∃ mb, base.Ns builtinsNs mb ∧ ∀ x : Str, x ≠ "__name__" → mb x = bootBuiltins x
  nolimit : base.NoLimit

set_option genInjectivity false in
structure Cx where
  prog : Program
  w : World
  K : PySem.W.Frag
  mg : Str → Option Value
  base : Heap
  A : Around
  N : List Str
  s₀ : Shared
  H₀ : Hp
  env : Env
  outer : List Env
  stack : List Env
  ex : List Addr
  fn : Str → Bool
  calm : Bool
  pn : List (Addr × Obj)
  xe : Value → Shared → Prop
noncomputable def frs (l : List Env) : List Addr := l.filterMap (·.frame)
noncomputable abbrev Cx.fs (X : Cx) : List Addr := frs X.outer

noncomputable def Vis (sc : Scope) (x : Str) : Prop := sc.names.lookup x = some .local ∨ sc.names.lookup x = some .cell ∨ sc.names.lookup x = some .free
noncomputable def Loc (sc : Scope) (x : Str) : Prop := sc.names.lookup x = some .local ∨ sc.names.lookup x = some .cell
noncomputable def Look (env : Env) (h : Heap) (m : Str → Option Value) (x : Str) (u : Value) : Prop :=
  (env.kindOf x = some .local ∧ m x = some u) ∨ ((env.kindOf x = some .cell ∨ env.kindOf x = some .free) ∧ ∃ c, env.cells.lookup x = some c ∧ h.IsCell c (some u))

structure Cx.Ok (X : Cx) : Prop where
  mod : Mod X.K X.mg X.base
  kind : X.env.scope.kind = .function
  glob : X.env.globals = mainGlobals
  blt : X.env.builtins = builtinsNs
  above : X.s₀.heap.objs.size ≤ X.env.locals
  inj : ∀ x y c, X.env.cells.lookup x = some c → X.env.cells.lookup y = some c → x = y
  has : ∀ x, (X.env.kindOf x = some .cell ∨ X.env.kindOf x = some .free) → ∃ c, X.env.cells.lookup x = some c
  cab : ∀ x c, X.fn x = true → X.env.cells.lookup x = some c → X.s₀.heap.objs.size ≤ c
  hd : X.calm = true → X.A.handled = none
  frames : X.A.frames = some X.stack
  stk : X.stack = X.outer ∨ (X.stack = X.env :: X.outer ∧ X.env.frame = some X.env.locals)
  exf : ∀ b ∈ X.ex, b ≠ X.env.locals ∧ ∀ x c, X.env.cells.lookup x = some c → c ≠ b
  bs : ∀ b o, X.base.get? b = some o → X.s₀.heap.get? b = some o ∧ X.H₀ b = none
  bsz : X.base.objs.size ≤ X.s₀.heap.objs.size
  noex : ∀ b o, X.base.get? b = some o → b ∉ X.ex
  exfs : ∀ b ∈ X.ex, b ∉ X.fs
  funs : X.s₀.heap.FunFrames X.base X.outer
  frf : ∀ b ∈ X.fs, X.H₀ b = none

structure Inv (X : Cx) (pins : List (Addr × Obj)) (σ : List (Option V)) (H : Hp) (s : Shared) : Prop where
  ok : X.Ok
  os : s.os = X.s₀.os
  bare : AllBare s.gens
  base : Un X.fs X.ex X.H₀ H X.s₀.heap s.heap
  loc : ∃ m, s.heap.Ns X.env.locals m ∧ ∀ (i : Nat) (x : Str) (v : V), X.N[i]? = some x → σ[i]? = some (some v) → Vis X.env.scope x → ∃ u, RelV v u ∧ Look X.env s.heap m x u
  cell : ∀ x c, X.env.cells.lookup x = some c → ∃ v, s.heap.IsCell c v
  free : H X.env.locals = none
  freeC : ∀ x c, X.env.cells.lookup x = some c → H c = none
  pin : ∀ p ∈ X.pn ++ pins, s.heap.get? p.1 = some p.2 ∧ H p.1 = none ∧ p.1 ≠ X.env.locals ∧ p.1 ∉ X.fs ∧ ∀ v, p.2.data ≠ .cell v
  hok : HOk X.prog X.w H s.heap
  len : σ.length = X.N.length

section
variable {X : Cx} {pins : List (Addr × Obj)} {σ : List (Option V)} {H H' : Hp} {s : Shared} {h' : Heap}

theorem Cx.Ok.nofr (ok : X.Ok) {b : Addr} {o : Obj} (e : X.base.get? b = some o) : b ∉ X.fs := fun hb => by
  have := (ok.funs.mem hb).1
  rw [e] at this; cases this
theorem Inv.bs (I : Inv X pins σ H s) : ∀ b o, X.base.get? b = some o → s.heap.get? b = some o ∧ H b = none := fun b o e =>
  ⟨I.base.keep b o (I.ok.bs b o e).1 (I.ok.bs b o e).2 (I.ok.nofr e) (I.ok.noex b o e), I.base.free b o (I.ok.bs b o e).1 (I.ok.bs b o e).2 (I.ok.noex b o e)⟩
theorem Inv.bk (I : Inv X pins σ H s) : ∀ b o, X.base.get? b = some o → s.heap.get? b = some o := fun b o e => (I.bs b o e).1
theorem Inv.mod (I : Inv X pins σ H s) : Mod X.K X.mg X.base := I.ok.mod
theorem Inv.kIn (I : Inv X pins σ H s) : X.K.In s.heap := I.ok.mod.kin.keeps I.bk
theorem Inv.lt (I : Inv X pins σ H s) : X.env.locals < s.heap.objs.size := let ⟨_, hn, _⟩ := I.loc; hn.lt
theorem Inv.sz (I : Inv X pins σ H s) : X.s₀.heap.objs.size ≤ s.heap.objs.size := Nat.le_trans I.ok.above (Nat.le_of_lt I.lt)
theorem Inv.nofs (I : Inv X pins σ H s) {a : Addr} (h : s.heap.objs.size ≤ a) : a ∉ X.fs := fun hb => by
  obtain ⟨_, o, ho, _⟩ := I.ok.funs.mem hb
  exact absurd (Nat.lt_of_lt_of_le (Heap.lt_size ho) (Nat.le_trans I.sz h)) (Nat.lt_irrefl _)
theorem Inv.cne (I : Inv X pins σ H s) : ∀ x c, X.env.cells.lookup x = some c → c ≠ X.env.locals := fun x c e z => by
  obtain ⟨v, o, ho, hd⟩ := I.cell x c e
  obtain ⟨m, ⟨o', es, ep, ho', hd', _⟩, _⟩ := I.loc
  rw [z, ho'] at ho; cases ho; rw [hd'] at hd; cases hd
theorem Inv.funs (I : Inv X pins σ H s) : s.heap.FunFrames X.base X.outer := by
  have all : ∀ (l : List Env), (∀ b ∈ frs l, b ∈ X.fs) → X.s₀.heap.FunFrames X.base l → s.heap.FunFrames X.base l := by
    intro l
    induction l with
    | nil => intro _ _; trivial
    | cons env r ih =>
      intro hs hl
      obtain ⟨hk, ⟨L, o, hf, hn, ho, hd⟩, hr⟩ := hl
      have hL : L ∈ X.fs := hs L (by unfold frs; rw [List.filterMap_cons, hf]; exact List.mem_cons_self)
      obtain ⟨sl, e⟩ := I.base.slot L o ho (I.ok.frf L hL) hL fun z => I.ok.exfs L z hL
      exact ⟨hk, ⟨L, _, hf, hn, e, hd⟩, ih (fun b hb => hs b (by unfold frs; rw [List.filterMap_cons, hf]; exact List.mem_cons_of_mem _ hb)) hr⟩
  exact all X.outer (fun _ hb => hb) I.ok.funs

theorem Inv.stack (I : Inv X pins σ H s) : s.heap.FunFrames X.base X.stack := by
  rcases I.ok.stk with e | ⟨e, hf⟩
  · rw [e]; exact I.funs
  · rw [e]
    obtain ⟨m, hn, _⟩ := I.loc
    refine .cons (by rw [I.ok.kind]; decide) hf hn ?_ I.funs
    exact Heap.get?_none_of_le (Nat.le_trans I.ok.bsz I.ok.above)
theorem Inv.stkSub (I : Inv X pins σ H s) : ∀ b ∈ frs X.stack, b ∈ X.env.locals :: X.fs := fun b hb => by
  rcases I.ok.stk with e | ⟨e, hf⟩
  · rw [e] at hb; exact List.mem_cons_of_mem _ hb
  · rw [e] at hb
    unfold frs at hb
    rw [List.filterMap_cons, hf] at hb
    exact hb
theorem Inv.stkFree (I : Inv X pins σ H s) : ∀ b ∈ frs X.stack, H b = none := fun b hb => by
  rcases List.mem_cons.mp (I.stkSub b hb) with e | hb
  · rw [e]; exact I.free
  · obtain ⟨_, o, ho, _⟩ := I.ok.funs.mem hb
    exact I.base.free b o ho (I.ok.frf b hb) fun z => I.ok.exfs b z hb

theorem Inv.step {g' : Array GenState} {t' : Nat} {d' : Drawn} {ch : List Addr} (I : Inv X pins σ H s)
    (hch : ∀ b ∈ ch, (b ∈ X.ex ∨ X.s₀.heap.objs.size ≤ b) ∧ b ≠ X.env.locals ∧ (∀ x c, X.env.cells.lookup x = some c → c ≠ b) ∧ ∀ p ∈ X.pn ++ pins, p.1 ≠ b)
    (keep : ∀ b o, b ≠ X.env.locals → b ∉ X.fs → b ∉ ch → s.heap.get? b = some o → H b = none → h'.get? b = some o)
    (slot : ∀ b o, b ≠ X.env.locals → b ∈ X.fs → b ∉ ch → s.heap.get? b = some o → H b = none → ∃ sl, h'.get? b = some { o with slots := sl }) (free : ∀ b o, b ∉ ch → s.heap.get? b = some o → H b = none → H' b = none)
    (there : ∀ b o, b ∉ ch → s.heap.get? b = some o → ∃ o', h'.get? b = some o')
    (tups : ∀ b xs, H b = some (.tup xs) → H' b = some (.tup xs)) (frzs : ∀ b o u, H b = some (.frz o u) → H' b = some (.frz o u)) (tbls : ∀ b ps, H b = some (.tbl ps) → ∃ more, H' b = some (.tbl (ps ++ more)))
    (ns : ∀ m, s.heap.Ns X.env.locals m → h'.Ns X.env.locals m) (hok : HOk X.prog X.w H' h') (hg : AllBare g') :
    Inv X pins σ H' { s with heap := h', gens := g', drawn := d', toks := t' } := by
  have neL : ∀ b o, X.s₀.heap.get? b = some o → b ≠ X.env.locals := fun b o e => Nat.ne_of_lt (Nat.lt_of_lt_of_le (Heap.lt_size e) I.ok.above)
  have neC : ∀ b o, X.s₀.heap.get? b = some o → b ∉ X.ex → b ∉ ch := fun b o e hx hb => by
    rcases (hch b hb).1 with z | z
    · exact hx z
    · exact absurd (Nat.lt_of_lt_of_le (Heap.lt_size e) z) (Nat.lt_irrefl _)
  have cellK : ∀ x c, X.env.cells.lookup x = some c → ∀ v, s.heap.IsCell c v → h'.IsCell c v := fun x c e v ⟨o, ho, hd⟩ => by
    have nch : c ∉ ch := fun z => (hch c z).2.2.1 x c e rfl
    by_cases hc : c ∈ X.fs
    · obtain ⟨sl, q⟩ := slot c o (I.cne x c e) hc nch ho (I.freeC x c e)
      exact ⟨_, q, hd⟩
    · exact ⟨o, keep c o (I.cne x c e) hc nch ho (I.freeC x c e), hd⟩
  refine ⟨I.ok, I.os, hg, ⟨fun b o e n hb hx => ?_, fun b o e n hb hx => ?_, fun b o e n hx => ?_, fun b o e hx => ?_, fun b xs e => tups b xs (I.base.tups b xs e), fun b o xs e => frzs b o xs (I.base.frzs b o xs e), fun b ps e => ?_⟩, ?_, fun x c e => ?_, ?_, fun x c e => ?_, fun p hp => ?_, hok, I.len⟩
  · exact keep b o (neL b o e) hb (neC b o e hx) (I.base.keep b o e n hb hx) (I.base.free b o e n hx)
  · obtain ⟨sl, e1⟩ := I.base.slot b o e n hb hx
    obtain ⟨sl', e2⟩ := slot b _ (neL b o e) hb (neC b o e hx) e1 (I.base.free b o e n hx)
    exact ⟨sl', e2⟩
  · obtain ⟨o', e1⟩ := I.base.there b o e hx
    exact free b o' (neC b o e hx) e1 (I.base.free b o e n hx)
  · obtain ⟨o', e1⟩ := I.base.there b o e hx
    exact there b o' (neC b o e hx) e1
  · obtain ⟨m1, e1⟩ := I.base.tbls b ps e
    obtain ⟨m2, e2⟩ := tbls b _ e1
    exact ⟨m1 ++ m2, by rw [e2, Array.append_assoc]⟩
  · obtain ⟨m, hn, hl⟩ := I.loc
    refine ⟨m, ns m hn, fun i x v e1 e2 e3 => ?_⟩
    obtain ⟨u, r, l⟩ := hl i x v e1 e2 e3
    refine ⟨u, r, ?_⟩
    rcases l with l | ⟨k, c, e, z⟩
    · exact .inl l
    · exact .inr ⟨k, c, e, cellK x c e _ z⟩
  · obtain ⟨v, z⟩ := I.cell x c e
    exact ⟨v, cellK x c e v z⟩
  · obtain ⟨m, ⟨o, _, _, ho, _⟩, _⟩ := I.loc
    exact free _ o (fun z => (hch _ z).2.1 rfl) ho I.free
  · obtain ⟨v, o, ho, hd⟩ := I.cell x c e
    exact free c o (fun z => (hch c z).2.2.1 x c e rfl) ho (I.freeC x c e)
  · obtain ⟨e, n, ne, nf, d⟩ := I.pin p hp
    have nch : p.1 ∉ ch := fun z => (hch p.1 z).2.2.2 p hp rfl
    exact ⟨keep p.1 p.2 ne nf nch e n, free p.1 p.2 nch e n, ne, nf, d⟩
theorem Inv.un {t' : Nat} (I : Inv X pins σ H s) (u : Un X.fs [] H H' s.heap h') (hok : HOk X.prog X.w H' h') : Inv X pins σ H' { s with heap := h', toks := t' } := by
  obtain ⟨m, ⟨o, es, ep, ho, r⟩, _⟩ := id I.loc
  obtain ⟨sl, hL⟩ := u.any ho I.free (by simp)
  exact I.step (g' := s.gens) (d' := s.drawn) (ch := []) (fun _ z => nomatch z) (fun b o _ hb _ e n => u.keep b o e n hb (by simp)) (fun b o _ hb _ e n => u.slot b o e n hb (by simp)) (fun b o _ e n => u.free b o e n (by simp)) (fun b o _ e => u.there b o e (by simp)) u.tups u.frzs u.tbls (fun m' hm => by
    obtain ⟨o', es', ep', ho', r'⟩ := hm
    rw [ho] at ho'; cases ho'
    exact ⟨_, es', ep', hL, r'⟩) hok I.bare
theorem Inv.call {g' : Array GenState} {t' : Nat} {d' : Drawn} {ch : List Addr} (I : Inv X pins σ H s) (u : Un (frs X.stack) ch H H' s.heap h') (hok : HOk X.prog X.w H' h') (hg : AllBare g')
    (hch : ∀ b ∈ ch, (b ∈ X.ex ∨ X.s₀.heap.objs.size ≤ b) ∧ b ≠ X.env.locals ∧ (∀ x c, X.env.cells.lookup x = some c → c ≠ b) ∧ ∀ p ∈ X.pn ++ pins, p.1 ≠ b) :
    Inv X pins σ H' { s with heap := h', gens := g', drawn := d', toks := t' } := by
  obtain ⟨m, ⟨o, es, ep, ho, r⟩, _⟩ := id I.loc
  obtain ⟨sl, hL⟩ := u.any ho I.free fun z => (hch _ z).2.1 rfl
  exact I.step (ch := ch) hch (fun b o hL hb hc e n => u.keep b o e n (fun z => (List.mem_cons.mp (I.stkSub b z)).elim hL hb) hc) (fun b o _ _ hc e n => u.any e n hc) (fun b o hc e n => u.free b o e n hc) (fun b o hc e => u.there b o e hc) u.tups u.frzs u.tbls (fun m' hm => by
    obtain ⟨o', es', ep', ho', r'⟩ := hm
    rw [ho] at ho'; cases ho'
    exact ⟨_, es', ep', hL, r'⟩) hok hg
theorem Inv.turned {t' : Nat} {it : Addr} (I : Inv X pins σ H s) (k : ∀ b o, b ≠ it → s.heap.get? b = some o → h'.get? b = some o) (hn : H it = none) (hL : it ≠ X.env.locals)
    (h1 : it ∈ X.ex ∨ X.s₀.heap.objs.size ≤ it) (h2 : ∀ x c, X.env.cells.lookup x = some c → c ≠ it) (h3 : ∀ p ∈ X.pn ++ pins, p.1 ≠ it) : Inv X pins σ H { s with heap := h', toks := t' } := by
  have nit : ∀ b u, H b = some u → b ≠ it := fun b u e z => by rw [z, hn] at e; cases e
  refine I.step (g' := s.gens) (d' := s.drawn) (ch := [it]) (fun b hb => ?_) (fun b o _ _ hc e _ => k b o (fun z => hc (by simp [z])) e) (fun b o _ _ hc e _ => ⟨o.slots, k b o (fun z => hc (by simp [z])) e⟩) (fun _ _ _ _ n => n)
    (fun b o hc e => ⟨o, k b o (fun z => hc (by simp [z])) e⟩) (fun _ _ e => e) (fun _ _ _ e => e) (fun b ps e => ⟨#[], by rw [e]; simp⟩) (fun m hm => ?_) (fun b u e => ?_) I.bare
  · have e : b = it := by simpa using hb
    subst e
    exact ⟨h1, hL, h2, h3⟩
  · obtain ⟨o, es, ep, ho, r⟩ := hm
    exact ⟨o, es, ep, k _ o (Ne.symm hL) ho, r⟩
  · refine (I.hok b u e).stay (fun c v hc q => k c v ?_ q) (fun _ q => q) fun _ _ q => q
    rcases hc with z | z
    · rw [z]; exact nit b u e
    · exact nit c _ z
theorem Inv.tok (I : Inv X pins σ H s) (t : Nat) : Inv X pins σ H { s with toks := t } := I.un (h' := s.heap) (t' := t) Un.refl I.hok
theorem Inv.kept {t' : Nat} (I : Inv X pins σ H s) (k : ∀ b u, s.heap.get? b = some u → h'.get? b = some u) : Inv X pins σ H { s with heap := h', toks := t' } := I.un (Un.kept k) (I.hok.kept k)
theorem Inv.laid {a : Addr} {o : HO} {t' : Nat} (I : Inv X pins σ H s) (k : ∀ b u, s.heap.get? b = some u → h'.get? b = some u) (hp : s.heap.objs.size ≤ a) (new : ObjOk X.prog X.w (upd H a o) h' a o) :
    Inv X pins σ (upd H a o) { s with heap := h', toks := t' } := I.un (Un.laid k hp (I.hok.fresh hp)) (I.hok.laid k hp new)
theorem Inv.write {x e : Addr} {o : HO} {t' : Nat} (I : Inv X pins σ H s) (mu : Mut (H x)) (he : e = x ∨ H e = some (.own x)) (k : ∀ b u, b ≠ e → s.heap.get? b = some u → h'.get? b = some u) (heo : ∃ u, h'.get? e = some u)
    (new : ObjOk X.prog X.w (upd H x o) h' x o) : Inv X pins σ (upd H x o) { s with heap := h', toks := t' } := I.un (Un.write mu he k heo) (I.hok.write mu he k heo new)
theorem Inv.pins_of {pins' : List (Addr × Obj)} (I : Inv X pins σ H s) (h : ∀ p ∈ pins', s.heap.get? p.1 = some p.2 ∧ H p.1 = none ∧ p.1 ≠ X.env.locals ∧ p.1 ∉ X.fs ∧ ∀ v, p.2.data ≠ .cell v) : Inv X pins' σ H s :=
  ⟨I.ok, I.os, I.bare, I.base, I.loc, I.cell, I.free, I.freeC, fun p hp => (List.mem_append.mp hp).elim (fun z => I.pin p (List.mem_append_left _ z)) (h p), I.hok, I.len⟩

theorem nodup_ix {N : List Str} (hN : N.Nodup) {i j : Nat} {x : Str} (a : N[i]? = some x) (b : N[j]? = some x) : i = j := by
  obtain ⟨h1, e1⟩ := List.getElem?_eq_some_iff.mp a
  obtain ⟨h2, e2⟩ := List.getElem?_eq_some_iff.mp b
  exact (List.getElem_inj hN).mp (e1.trans e2.symm)

theorem store_ok2 {M : Model} {A : Around} {E : Value → Shared → Prop} {i : Nat} {x : Str} {v : V} {u : Value} {Q : Unit → Shared → Prop} (I : Inv X pins σ H s) (hN : X.N.Nodup) (hi : X.N[i]? = some x) (hx : Loc X.env.scope x) (r : RelV v u)
    (h : ∀ s', Inv X pins (σ.set i (some v)) H s' → (∃ a, Heap.SameBut a s.heap s'.heap ∧ (a = X.env.locals ∨ X.env.cells.lookup x = some a)) → Q () s') (hf : X.fn x = true ∨ X.env.scope.names.lookup x = some .local := by first | exact .inl rfl | exact .inr rfl | assumption) : wpAny M A (storeName X.env x u) Q E s := by
  obtain ⟨m, hn, hl⟩ := id I.loc
  have hcls : (X.env.scope.kind == .class || (X.env.scope.kind == .module && X.env.locals != X.env.globals)) = false := by rw [I.ok.kind]; rfl
  have hiσ : i < σ.length := by rw [I.len]; exact (List.getElem?_eq_some_iff.mp hi).1
  have cne := I.cne
  have tracked : ∀ {a : Addr} {h' : Heap}, (∃ o, s.heap.get? a = some o ∧ H a = none) → Heap.SameBut a s.heap h' → HOk X.prog X.w H h' := fun {a h'} ha hs b ob e => by
    obtain ⟨_, _, hfree⟩ := ha
    refine (I.hok b ob e).stay (fun c w' hc q => (hs.2 c ?_).trans q) (fun _ q => q) fun _ _ q => q
    rintro rfl
    rcases hc with rfl | hc
    · rw [hfree] at e; cases e
    · rw [hfree] at hc; cases hc
  rcases hx with hk | hk
  · refine wpAny_storeName_local hk hn (fun h' hn' hs => ?_) hcls
    obtain ⟨oL, _, _, hoL, _⟩ := id hn
    refine h _ ⟨I.ok, I.os, I.bare, ⟨fun b o e n hb hx => ?_, fun b o e n hb hx => ?_, I.base.free, fun b o e hx => ?_, I.base.tups, I.base.frzs, I.base.tbls⟩, ⟨_, hn', fun j y v' e1 e2 e3 => ?_⟩, fun y c e => ?_, I.free, I.freeC, fun p hp => ?_, tracked ⟨oL, hoL, I.free⟩ hs, by simpa using I.len⟩ ⟨_, hs, .inl rfl⟩
    · exact (hs.2 b (Nat.ne_of_lt (Nat.lt_of_lt_of_le (Heap.lt_size e) I.ok.above))).trans (I.base.keep b o e n hb hx)
    · obtain ⟨sl, e1⟩ := I.base.slot b o e n hb hx
      exact ⟨sl, (hs.2 b (Nat.ne_of_lt (Nat.lt_of_lt_of_le (Heap.lt_size e) I.ok.above))).trans e1⟩
    · obtain ⟨o', e1⟩ := I.base.there b o e hx
      exact ⟨o', (hs.2 b (Nat.ne_of_lt (Nat.lt_of_lt_of_le (Heap.lt_size e) I.ok.above))).trans e1⟩
    · by_cases hj : j = i
      · subst hj
        rw [hi] at e1; cases e1
        rw [List.getElem?_set_self hiσ] at e2
        cases e2
        exact ⟨u, r, .inl ⟨hk, by simp⟩⟩
      · rw [List.getElem?_set_ne (Ne.symm hj)] at e2
        obtain ⟨u', r', q⟩ := hl j y v' e1 e2 e3
        refine ⟨u', r', ?_⟩
        rcases q with ⟨k, e⟩ | ⟨k, c, e, z⟩
        · refine .inl ⟨k, ?_⟩
          have : y ≠ x := fun e => hj (nodup_ix hN e1 (e ▸ hi))
          simp [this, e]
        · exact .inr ⟨k, c, e, z.sameBut hs (cne y c e)⟩
    · obtain ⟨w', z⟩ := I.cell y c e
      exact ⟨w', z.sameBut hs (cne y c e)⟩
    · obtain ⟨e, n, ne, nf, d⟩ := I.pin p hp
      exact ⟨(hs.2 p.1 ne).trans e, n, ne, nf, d⟩
  · have hfn : X.fn x = true := by
      rcases hf with z | z
      · exact z
      · rw [z] at hk; cases hk
    obtain ⟨c, hc⟩ := I.ok.has x (.inl hk)
    obtain ⟨w', z⟩ := I.cell x c hc
    refine wpAny_storeName_cell I.ok.kind hk hc z (fun h' hc' hs => ?_)
    obtain ⟨oc, hoc, hocd⟩ := id z
    refine h { s with heap := h' } ⟨I.ok, I.os, I.bare, ⟨fun b o e n hb hx => ?_, fun b o e n hb hx => ?_, I.base.free, fun b o e hx => ?_, I.base.tups, I.base.frzs, I.base.tbls⟩, ⟨m, hn.sameBut hs (Ne.symm (cne x c hc)), fun j y v' e1 e2 e3 => ?_⟩, fun y c' e => ?_, I.free, I.freeC, fun p hp => ?_, tracked ⟨oc, hoc, I.freeC x c hc⟩ hs, by simpa using I.len⟩ ⟨c, hs, .inr hc⟩
    · exact (hs.2 b (Nat.ne_of_lt (Nat.lt_of_lt_of_le (Heap.lt_size e) (I.ok.cab x c hfn hc)))).trans (I.base.keep b o e n hb hx)
    · obtain ⟨sl, e1⟩ := I.base.slot b o e n hb hx
      exact ⟨sl, (hs.2 b (Nat.ne_of_lt (Nat.lt_of_lt_of_le (Heap.lt_size e) (I.ok.cab x c hfn hc)))).trans e1⟩
    · obtain ⟨o', e1⟩ := I.base.there b o e hx
      exact ⟨o', (hs.2 b (Nat.ne_of_lt (Nat.lt_of_lt_of_le (Heap.lt_size e) (I.ok.cab x c hfn hc)))).trans e1⟩
    · by_cases hj : j = i
      · subst hj
        rw [hi] at e1; cases e1
        rw [List.getElem?_set_self hiσ] at e2
        cases e2
        exact ⟨u, r, .inr ⟨.inl hk, c, hc, hc'⟩⟩
      · rw [List.getElem?_set_ne (Ne.symm hj)] at e2
        obtain ⟨u', r', q⟩ := hl j y v' e1 e2 e3
        refine ⟨u', r', ?_⟩
        rcases q with q | ⟨k, c', e, z'⟩
        · exact .inl q
        · refine .inr ⟨k, c', e, z'.sameBut hs ?_⟩
          rintro rfl
          exact hj (nodup_ix hN e1 (I.ok.inj _ _ _ e hc ▸ hi))
    · by_cases hcc : c' = c
      · subst hcc; exact ⟨_, hc'⟩
      · obtain ⟨w2, z2⟩ := I.cell y c' e
        exact ⟨w2, z2.sameBut hs hcc⟩
    · obtain ⟨e, n, ne, nf, d⟩ := I.pin p hp
      refine ⟨(hs.2 p.1 ?_).trans e, n, ne, nf, d⟩
      intro q
      rw [q, hoc] at e
      have q' : oc = p.2 := Option.some.inj e
      exact d w' (by rw [← q']; exact hocd)
theorem store_ok {M : Model} {A : Around} {E : Value → Shared → Prop} {i : Nat} {x : Str} {v : V} {u : Value} {Q : Unit → Shared → Prop} (I : Inv X pins σ H s) (hN : X.N.Nodup) (hi : X.N[i]? = some x) (hx : Loc X.env.scope x) (r : RelV v u)
    (h : ∀ s', Inv X pins (σ.set i (some v)) H s' → Q () s') (hf : X.fn x = true ∨ X.env.scope.names.lookup x = some .local := by first | exact .inl rfl | exact .inr rfl | assumption) : wpAny M A (storeName X.env x u) Q E s :=
  store_ok2 I hN hi hx r (fun s' I' _ => h s' I') hf
theorem Inv.call' {s' : Shared} {ch : List Addr} (I : Inv X pins σ H s) (ho : s'.os = s.os) (u : Un (frs X.stack) ch H H' s.heap s'.heap) (hok : HOk X.prog X.w H' s'.heap) (hg : AllBare s'.gens)
    (hch : ∀ b ∈ ch, (b ∈ X.ex ∨ X.s₀.heap.objs.size ≤ b) ∧ b ≠ X.env.locals ∧ (∀ x c, X.env.cells.lookup x = some c → c ≠ b) ∧ ∀ p ∈ X.pn ++ pins, p.1 ≠ b) : Inv X pins σ H' s' := by
  obtain ⟨h', g', d', t', o'⟩ := s'
  have e : o' = s.os := ho
  subst e
  exact I.call (g' := g') (t' := t') (d' := d') u hok hg hch
end

noncomputable abbrev XK := Value → Option Addr → Hp → Prop
noncomputable abbrev St := List (Option V)
noncomputable abbrev VK := V → Hp → Prop
noncomputable abbrev TE := St → Hp → VK → Prop
noncomputable abbrev TT := St → Hp → (Bool → Hp → Prop) → Prop
noncomputable abbrev TA := St → Hp → (List V → Hp → Prop) → Prop
structure Ends where
  nx : St → Hp → Prop
  rt : VK
  bk : St → Hp → Prop := fun _ _ => False
  ct : St → Hp → Prop := fun _ _ => False
noncomputable abbrev TS := Ends → St → Hp → Prop

noncomputable def EP (X : Cx) (pins : List (Addr × Obj)) (σ : St) (Q : VK) (u : Value) (s' : Shared) : Prop := ∃ v H', Inv X pins σ H' s' ∧ RelV v u ∧ Q v H'
noncomputable def TP (X : Cx) (pins : List (Addr × Obj)) (σ : St) (Q : Bool → Hp → Prop) (b : Bool) (s' : Shared) : Prop := ∃ H', Inv X pins σ H' s' ∧ Q b H'
noncomputable def AP (X : Cx) (pins : List (Addr × Obj)) (σ : St) (Q : List V → Hp → Prop) (us : List Value) (s' : Shared) : Prop := ∃ vs H', Inv X pins σ H' s' ∧ Vals vs us ∧ Q vs H'
noncomputable def SP (X : Cx) (pins : List (Addr × Obj)) (D : Ends) (f : Flow) (s' : Shared) : Prop :=
  match f with
  | .next => ∃ σ' H', Inv X pins σ' H' s' ∧ D.nx σ' H'
  | .brk => ∃ σ' H', Inv X pins σ' H' s' ∧ D.bk σ' H'
  | .cont => ∃ σ' H', Inv X pins σ' H' s' ∧ D.ct σ' H'
  | .ret u => ∃ v σ' H', Inv X pins σ' H' s' ∧ RelV v u ∧ D.rt v H'

noncomputable def PE (X : Cx) (e : Expr) (t : TE) : Prop :=
  ∀ (pins : List (Addr × Obj)) (s : Shared) (σ : St) (H : Hp) (Q : VK), Inv X pins σ H s → t σ H Q → wpAny (model X.prog X.w) X.A (eval e X.env) (EP X pins σ Q) X.xe s
noncomputable def PT (X : Cx) (e : Expr) (t : TT) : Prop :=
  ∀ (pins : List (Addr × Obj)) (s : Shared) (σ : St) (H : Hp) (Q : Bool → Hp → Prop), Inv X pins σ H s → t σ H Q → wpAny (model X.prog X.w) X.A (isTrue e X.env (eval e X.env)) (TP X pins σ Q) X.xe s
noncomputable def PW (X : Cx) (e : Expr) (t : TT) : Prop :=
  ∀ (whole : Sem Value) (pins : List (Addr × Obj)) (s : Shared) (σ : St) (H : Hp) (Q : Bool → Hp → Prop), Inv X pins σ H s → t σ H Q → wpAny (model X.prog X.w) X.A (isTrue e X.env whole) (TP X pins σ Q) X.xe s
theorem PW.pt {X : Cx} {e : Expr} {t : TT} (h : PW X e t) : PT X e t := h _
noncomputable def PA (X : Cx) (es : List Expr) (t : TA) : Prop :=
  ∀ (pos : Pos) (pins : List (Addr × Obj)) (s : Shared) (σ : St) (H : Hp) (Q : List V → Hp → Prop), Inv X pins σ H s → t σ H Q → wpAny (model X.prog X.w) X.A (spliced (backTo pos (starEach es X.env))) (AP X pins σ Q) X.xe s
noncomputable def PS (X : Cx) (st : Stmt) (t : TS) : Prop :=
  ∀ (pins : List (Addr × Obj)) (s : Shared) (σ : St) (H : Hp) (D : Ends), Inv X pins σ H s → t D σ H → wpAny (model X.prog X.w) X.A (exec st X.env) (SP X pins D) X.xe s
noncomputable def PSs (X : Cx) (st : List Stmt) (t : TS) : Prop :=
  ∀ (pins : List (Addr × Obj)) (s : Shared) (σ : St) (H : Hp) (D : Ends), Inv X pins σ H s → t D σ H → wpAny (model X.prog X.w) X.A (execs st X.env) (SP X pins D) X.xe s
theorem thn {α : Type} {t : Sem α} {Q Q' : α → Shared → Prop} {M : Model} {A : Around} {E : Value → Shared → Prop} {s : Shared} (h : wpAny M A t Q E s) (hQ : ∀ a s, Q a s → Q' a s) : wpAny M A t Q' E s := wpAny_mono h hQ fun _ _ x => x
end L2

namespace L2
open PySem PySem.Spec PyProof.Rows
section
variable {X : Cx}

noncomputable def tVar (i : Nat) : TE := fun σ H Q => ∃ v, σ[i]? = some (some v) ∧ Q v H
noncomputable def tC (v : V) : TE := fun _ H Q => Q v H
theorem pe_var {i : Nat} {x : Str} {pos : Pos} (hN : X.N[i]? = some x) (hv : Vis X.env.scope x) (hd : (x == ("__debug__" : Str)) = false := by decide) (hcd : (x == ("__classdict__" : Str)) = false := by decide) : PE X (.Name x pos) (tVar i) := by
  intro pins s σ H Q I h
  obtain ⟨v, e, h⟩ := h
  obtain ⟨m, hn, hl⟩ := I.loc
  obtain ⟨u, r, l⟩ := hl i x v hN e hv
  have fin : EP X pins σ Q u s := ⟨v, H, I, r, h⟩
  rcases l with ⟨hk, hm⟩ | ⟨hk, c, hc, hcell⟩
  · exact wpAny_Name (wpAny_loadName_local I.ok.kind hk hn hm fin) hd
  · rcases hk with hk | hk
    · exact wpAny_Name (wpAny_loadName_cell I.ok.kind hk hc hcell fin) hd
    · exact wpAny_Name (wpAny_loadName_free I.ok.kind hk hc hcell fin hcd) hd
theorem pe_int {i j pos} : PE X (.Constant (.int i) j pos) (tC (.int i)) := fun _ _ _ H _ I h => wpAny_Constant_int ⟨.int i, H, I.tok _, ⟨_, rfl⟩, h⟩
theorem pe_bl {b j pos} : PE X (.Constant (.bool b) j pos) (tC (.bl b)) := fun _ _ _ H _ I h => Constant_bool ⟨.bl b, H, I, rfl, h⟩
theorem pe_non {j pos} : PE X (.Constant .none j pos) (tC .non) := fun _ _ _ H _ I h => Constant_none ⟨.non, H, I, rfl, h⟩
noncomputable def Gl (X : Cx) (x : Str) : Prop := X.env.kindOf x = some .globalImplicit
theorem ld_glob {E : Value → Shared → Prop} {pins : List (Addr × Obj)} {s : Shared} {σ : St} {H : Hp} {x : Str} {u : Value} {pos : Pos} {Q : Value → Shared → Prop} (I : Inv X pins σ H s) (hg : Gl X x) (hm : X.mg x = some u) (h : Q u s)
    (hd : (x == ("__debug__" : Str)) = false := by decide) : wpAny (model X.prog X.w) X.A (eval (.Name x pos) X.env) Q E s :=
  Calls.Name_function_global I.ok.kind hg (Calls.loadGlobal_global (by rw [I.ok.glob]; exact I.mod.glob.keeps I.bk) hm h) hd
theorem ld_blt {E : Value → Shared → Prop} {pins : List (Addr × Obj)} {s : Shared} {σ : St} {H : Hp} {x : Str} {u : Value} {pos : Pos} {Q : Value → Shared → Prop} (I : Inv X pins σ H s) (hg : Gl X x) (hm : X.mg x = none) (hv : bootBuiltins x = some u) (h : Q u s)
    (hn : x ≠ "__name__" := by decide) (hd : (x == ("__debug__" : Str)) = false := by decide) : wpAny (model X.prog X.w) X.A (eval (.Name x pos) X.env) Q E s := by
  obtain ⟨mb, h1, h2⟩ := I.mod.blt
  exact Calls.Name_function_global I.ok.kind hg (Calls.loadGlobal_builtin (by rw [I.ok.glob]; exact I.mod.glob.keeps I.bk) hm (by rw [I.ok.blt]; exact h1.keeps I.bk) ((h2 x hn).trans hv) h) hd
theorem pe_glob {x : Str} {v : V} {u : Value} {pos : Pos} (hg : Gl X x) (hm : X.mg x = some u) (r : RelV v u) (hd : (x == ("__debug__" : Str)) = false := by decide) : PE X (.Name x pos) (tC v) :=
  fun _ _ _ H _ I h => ld_glob I hg hm ⟨v, H, I, r, h⟩ hd
theorem pe_bltn {x : Str} {v : V} {u : Value} {pos : Pos} (hg : Gl X x) (hm : X.mg x = none) (hv : bootBuiltins x = some u) (r : RelV v u) (hn : x ≠ "__name__" := by decide) (hd : (x == ("__debug__" : Str)) = false := by decide) : PE X (.Name x pos) (tC v) :=
  fun _ _ _ H _ I h => ld_blt I hg hm hv ⟨v, H, I, r, h⟩ hn hd

variable {a b : Expr} {ta tb : TE} {pos : Pos}
noncomputable def tB (t : TE) : TT := fun σ H Q => t σ H fun x H1 => ∃ c, x = .bl c ∧ Q c H1
theorem pt_val {e : Expr} {t : TE} (h : PE X e t) (he : ∀ whole, isTrue e X.env whole = (do let v ← whole; standAt e.pos; holding [v] (truthy v)) := by intro _; rfl) : PT X e (tB t) := by
  intro pins s σ H Q I hw
  refine isTrue_plain (thn (h pins s σ H _ I hw) fun v s1 ⟨x, H1, I1, r1, q1⟩ => ?_) (he _)
  obtain ⟨d, rfl, q⟩ := q1
  cases r1
  exact wpAny_truthy_bool ⟨H1, I1, q⟩

variable {tA tB' : TT} {rest : List Expr}
noncomputable def tAnd (t u : TT) : TT := fun σ H Q => t σ H fun c H1 => if c = true then u σ H1 Q else Q false H1
noncomputable def tOr (t u : TT) : TT := fun σ H Q => t σ H fun c H1 => if c = true then Q true H1 else u σ H1 Q
noncomputable def tNot (t : TT) : TT := fun σ H Q => t σ H fun c H1 => Q (!c) H1
theorem pw_and1 (ha : PT X a tA) : PW X (.BoolOp .And [a] pos) tA := by
  intro wh pins s σ H Q I h
  refine isTrue_and (thn (ha pins s σ H Q I h) fun c s1 e => ?_)
  cases c with
  | true => exact isTrue_and_nil e
  | false => exact e
theorem pw_or1 (ha : PT X a tA) : PW X (.BoolOp .Or [a] pos) tA := by
  intro wh pins s σ H Q I h
  refine isTrue_or (thn (ha pins s σ H Q I h) fun c s1 e => ?_)
  cases c with
  | false => exact isTrue_or_nil e
  | true => exact e
theorem pw_and (ha : PT X a tA) (hb : PW X (.BoolOp .And (b :: rest) pos) tB') : PW X (.BoolOp .And (a :: b :: rest) pos) (tAnd tA tB') := by
  intro wh pins s σ H Q I h
  refine isTrue_and (thn (ha pins s σ H _ I h) fun c s1 ⟨H1, I1, q1⟩ => ?_)
  cases c with
  | true => exact hb wh pins s1 σ H1 Q I1 q1
  | false => exact ⟨H1, I1, q1⟩
theorem pw_or (ha : PT X a tA) (hb : PW X (.BoolOp .Or (b :: rest) pos) tB') : PW X (.BoolOp .Or (a :: b :: rest) pos) (tOr tA tB') := by
  intro wh pins s σ H Q I h
  refine isTrue_or (thn (ha pins s σ H _ I h) fun c s1 ⟨H1, I1, q1⟩ => ?_)
  cases c with
  | true => exact ⟨H1, I1, q1⟩
  | false => exact hb wh pins s1 σ H1 Q I1 q1
theorem pt_not (ha : PT X a tA) : PT X (.UnaryOp .Not a pos) (tNot tA) := by
  intro pins s σ H Q I h
  exact isTrue_not (ha pins s σ H (fun c H1 => Q (!c) H1) I h)
noncomputable def tAndV (ta tb : TE) : TE := fun σ H Q => ta σ H fun x H1 => ∃ c, x = .bl c ∧ if c = true then tb σ H1 Q else Q (.bl false) H1
theorem pe_one {op} {t : TE} (h : PE X a t) : PE X (.BoolOp op [a] pos) t := fun pins s σ H Q I hw => BoolOp_one (h pins s σ H Q I hw)
theorem pe_and (ha : PE X a ta) (hb : PE X (.BoolOp .And (b :: rest) pos) tb) : PE X (.BoolOp .And (a :: b :: rest) pos) (tAndV ta tb) := by
  intro pins s σ H Q I h
  refine BoolOp_and (thn (ha pins s σ H _ I h) fun v s1 ⟨x, H1, I1, r1, q1⟩ => ?_)
  obtain ⟨c, rfl, q1⟩ := q1
  cases r1
  refine wpAny_truthy_bool ?_
  cases c with
  | true => exact hb pins s1 σ H1 Q I1 q1
  | false => exact ⟨.bl false, H1, I1, rfl, q1⟩
end
end L2

namespace L2
open PySem PySem.Spec PyProof.Rows

noncomputable def SqL (K : PySem.W.Frag) (H : Hp) (a : Addr) (xs : List V) : Prop :=
  Rd H a (.lst xs) ∨
    ∃ (o : Obj) (its : Array Value) (n : Nat), K.lookup a = some o ∧ o.cls = .type "list" ∧ o.dict = none ∧ o.data = .seq its n ∧ its.size ≤ sizeLine ∧ Vals xs its.toList
noncomputable def SqT (K : PySem.W.Frag) (H : Hp) (a : Addr) (xs : List V) : Prop :=
  Rd H a (.tup xs) ∨
    ∃ (o : Obj) (its : Array Value) (n : Nat), K.lookup a = some o ∧ o.cls = .type "tuple" ∧ o.data = .seq its n ∧ its.size ≤ sizeLine ∧ Vals xs its.toList
noncomputable def absV : Value → Option V
  | .none => some .non
  | .bool b => some (.bl b)
  | .int i _ => some (.int i)
  | .str x _ => some (.str x)
  | .bytes b _ => some (.byt b)
  | .float b _ => some (.flt b)
  | .ref a => some (.ref a)
  | .type n => some (.ty n)
  | _ => none
theorem RelV.abs {x : V} {u : Value} (r : RelV x u) : absV u = some x := by
  cases x with
  | non => cases r; rfl
  | bl _ => cases r; rfl
  | int _ => obtain ⟨t, rfl⟩ := r; rfl
  | str _ => obtain ⟨t, rfl⟩ := r; rfl
  | byt _ => obtain ⟨t, rfl⟩ := r; rfl
  | flt _ => obtain ⟨t, rfl⟩ := r; rfl
  | ref _ => cases r; rfl
  | ty _ => cases r; rfl
theorem RelV.inj {x y : V} {u : Value} (r : RelV x u) (q : RelV y u) : x = y := Option.some.inj (r.abs.symm.trans q.abs)
theorem Vals.inj : ∀ {xs ys : List V} {us : List Value}, Vals xs us → Vals ys us → xs = ys
  | _, _, _, .nil, .nil => rfl
  | _, _, _, .cons r t, .cons r' t' => by rw [r.inj r', Vals.inj t t']
section
variable {X : Cx} {pins : List (Addr × Obj)} {σ : St} {H : Hp} {s : Shared} {a : Addr} {xs ys : List V}
theorem SqL.of {K : PySem.W.Frag} (h : H a = some (.lst xs)) : SqL K H a xs := .inl (.inl h)
theorem SqT.of {K : PySem.W.Frag} (h : H a = some (.tup xs)) : SqT K H a xs := .inl (.inl h)
theorem Inv.list (I : Inv X pins σ H s) (h : SqL X.K H a xs) : ∃ its : List Value, Vals xs its ∧ PlainL s.heap a its.toArray ∧ xs.length ≤ sizeLine := by
  rcases h with h | ⟨o, its, n, hk, hc, hd, hs, hz, r⟩
  · obtain ⟨z, its, n, r, e⟩ := h.ok I.hok
    exact ⟨its, r, ⟨_, n, e, rfl, rfl, rfl⟩, z⟩
  · refine ⟨its.toList, r, ⟨o, n, I.kIn a o hk, hc, hd, by simpa using hs⟩, ?_⟩
    have e := r.length
    simp only [Array.length_toList] at e
    omega
theorem Inv.tuple (I : Inv X pins σ H s) (h : SqT X.K H a xs) : ∃ its : List Value, Vals xs its ∧ IsTup s.heap a its.toArray ∧ xs.length ≤ sizeLine := by
  rcases h with h | ⟨o, its, n, hk, hc, hs, hz, r⟩
  · obtain ⟨z, its, r, p⟩ := h.ok I.hok
    exact ⟨its, r, p.tup, z⟩
  · refine ⟨its.toList, r, ⟨o, I.kIn a o hk, hc, n, by simpa using hs⟩, ?_⟩
    have e := r.length
    simp only [Array.length_toList] at e
    omega
theorem Inv.list_inj (I : Inv X pins σ H s) (h : SqL X.K H a xs) (h' : SqL X.K H a ys) : xs = ys := by
  obtain ⟨its, r, ⟨o, n, e, _, _, d⟩, _⟩ := I.list h
  obtain ⟨its', r', ⟨o', n', e', _, _, d'⟩, _⟩ := I.list h'
  rw [e] at e'; cases e'
  rw [d] at d'
  injection d' with d1 _
  have : its = its' := by simpa using congrArg Array.toList d1
  subst this
  exact r.inj r'
theorem Inv.tuple_inj (I : Inv X pins σ H s) (h : SqT X.K H a xs) (h' : SqT X.K H a ys) : xs = ys := by
  obtain ⟨its, r, ⟨o, e, _, n, d⟩, _⟩ := I.tuple h
  obtain ⟨its', r', ⟨o', e', _, n', d'⟩, _⟩ := I.tuple h'
  rw [e] at e'; cases e'
  rw [d] at d'
  injection d' with d1 _
  have : its = its' := by simpa using congrArg Array.toList d1
  subst this
  exact r.inj r'
end

noncomputable abbrev Cx.wish (X : Cx) (E : Value → Shared → Prop) : Cx := { X with xe := E }
noncomputable abbrev Cx.nox (X : Cx) : Cx := X.wish fun _ _ => False
theorem Cx.Ok.wish {X : Cx} (ok : X.Ok) (E : Value → Shared → Prop) : (X.wish E).Ok :=
  ⟨ok.mod, ok.kind, ok.glob, ok.blt, ok.above, ok.inj, ok.has, ok.cab, ok.hd, ok.frames, ok.stk, ok.exf, ok.bs, ok.bsz, ok.noex, ok.exfs, ok.funs, ok.frf⟩
theorem Cx.Ok.unwish {X : Cx} {E : Value → Shared → Prop} (ok : (X.wish E).Ok) : X.Ok :=
  ⟨ok.mod, ok.kind, ok.glob, ok.blt, ok.above, ok.inj, ok.has, ok.cab, ok.hd, ok.frames, ok.stk, ok.exf, ok.bs, ok.bsz, ok.noex, ok.exfs, ok.funs, ok.frf⟩
section
variable {X : Cx} {pins : List (Addr × Obj)} {σ : St} {H : Hp} {s : Shared} {E : Value → Shared → Prop}
theorem Inv.wish (I : Inv X pins σ H s) (E : Value → Shared → Prop) : Inv (X.wish E) pins σ H s := ⟨I.ok.wish E, I.os, I.bare, I.base, I.loc, I.cell, I.free, I.freeC, I.pin, I.hok, I.len⟩
theorem Inv.unwish (I : Inv (X.wish E) pins σ H s) : Inv X pins σ H s := ⟨I.ok.unwish, I.os, I.bare, I.base, I.loc, I.cell, I.free, I.freeC, I.pin, I.hok, I.len⟩
theorem SP.unwish {D : Ends} {f : Flow} {s' : Shared} (h : SP (X.wish E) pins D f s') : SP X pins D f s' := by
  cases f with
  | next => obtain ⟨σ', H', I, q⟩ := h; exact ⟨σ', H', I.unwish, q⟩
  | brk => obtain ⟨σ', H', I, q⟩ := h; exact ⟨σ', H', I.unwish, q⟩
  | cont => obtain ⟨σ', H', I, q⟩ := h; exact ⟨σ', H', I.unwish, q⟩
  | ret u => obtain ⟨v, σ', H', I, r, q⟩ := h; exact ⟨v, σ', H', I.unwish, r, q⟩
theorem PSs.nox {st : List Stmt} {t : TS} (h : PSs X.nox st t) : PSs X st t := fun pins s σ H D I hw =>
  wpAny_mono (h pins s σ H D (I.wish _) hw) (fun _ _ q => q.unwish) fun _ _ z => False.elim z
end

section
variable {X : Cx} {st : Stmt} {rest : List Stmt} {t u : TS} {e : Expr} {te : TE} {pos : Pos}
noncomputable def tNext : TS := fun D σ H => D.nx σ H
noncomputable def tSeq (t u : TS) : TS := fun D σ H => t { D with nx := u D } σ H
theorem pss_nil : PSs X [] tNext := fun _ _ σ H _ I h => wpAny_execs_nil ⟨σ, H, I, h⟩
theorem pss_cons (h1 : PS X st t) (h2 : PSs X rest u) : PSs X (st :: rest) (tSeq t u) := by
  intro pins s σ H D I h
  refine wpAny_execs_cons (thn (h1 pins s σ H { D with nx := u D } I h) fun f s1 q => ?_)
  cases f with
  | next =>
    obtain ⟨σ', H', I', q⟩ := q
    exact h2 pins s1 σ' H' D I' q
  | ret v => exact q
  | brk => exact q
  | cont => exact q
theorem pss_one (h1 : PS X st t) : PSs X [st] t := by
  intro pins s σ H D I h
  refine wpAny_execs_cons (thn (h1 pins s σ H D I h) fun f s1 q => ?_)
  cases f with
  | next => exact wpAny_execs_nil q
  | ret v => exact q
  | brk => exact q
  | cont => exact q
theorem Inv.quiet {pins : List (Addr × Obj)} {σ : St} {H : Hp} {s : Shared} (I : Inv X pins σ H s) : interactive X.env = false := by simp [interactive, I.ok.kind]
noncomputable def tDrop (te : TE) : TS := fun D σ H => te σ H fun _ H1 => D.nx σ H1
theorem ps_expr (he : PE X e te) (hs : swapsWith e none pos.line X.env = pure false := by rfl) : PS X (.Expr e pos) (tDrop te) := by
  intro pins s σ H D I h
  exact wpAny_Expr_any (thn (he pins s σ H _ I h) fun v s1 ⟨x, H1, I1, r1, q1⟩ => ⟨σ, H1, I1, q1⟩) I.quiet hs
noncomputable def tRet (te : TE) : TS := fun D σ H => te σ H D.rt
theorem ps_ret (he : PE X e te) : PS X (.Return (some e) pos) (tRet te) := by
  intro pins s σ H D I h
  exact wpAny_Return_some (thn (he pins s σ H _ I h) fun v s1 ⟨x, H1, I1, r1, q1⟩ => ⟨x, σ, H1, I1, r1, q1⟩)
noncomputable def tIfS (c : TT) (t u : TS) : TS := fun D σ H => c σ H fun b H1 => if b = true then t D σ H1 else u D σ H1
theorem ps_if {c : Expr} {a b : List Stmt} {tc : TT} (hc : PT X c tc) (ha : PSs X a t) (hb : PSs X b u) : PS X (.If c a b pos) (tIfS tc t u) := by
  intro pins s σ H D I h
  refine wpAny_If (thn (hc pins s σ H _ I h) fun d s1 ⟨H1, I1, q1⟩ => ?_)
  cases d with
  | true => exact ha pins s1 σ H1 D I1 q1
  | false => exact hb pins s1 σ H1 D I1 q1
end

noncomputable abbrev TG := V → St → Hp → (St → Hp → Prop) → Prop
noncomputable abbrev TGs := List V → St → Hp → (St → Hp → Prop) → Prop
noncomputable def PG (X : Cx) (target : Expr) (t : TG) : Prop :=
  ∀ (pins : List (Addr × Obj)) (s : Shared) (σ : St) (H : Hp) (v : V) (u : Value) (Q : St → Hp → Prop), Inv X pins σ H s → RelV v u → t v σ H Q →
    wpAny (model X.prog X.w) X.A (assign target X.env u) (fun _ s' => ∃ σ' H', Inv X pins σ' H' s' ∧ Q σ' H') X.xe s
noncomputable def PGs (X : Cx) (ts : List Expr) (t : TGs) : Prop :=
  ∀ (pins : List (Addr × Obj)) (s : Shared) (σ : St) (H : Hp) (vs : List V) (us : List Value) (Q : St → Hp → Prop), Inv X pins σ H s → Vals vs us → t vs σ H Q →
    wpAny (model X.prog X.w) X.A (assignInOrder ((assignEach ts X.env).map (·.2)) us) (fun _ s' => ∃ σ' H', Inv X pins σ' H' s' ∧ Q σ' H') X.xe s
noncomputable abbrev TSet := V → V → V → Hp → (Hp → Prop) → Prop
noncomputable def PSet (X : Cx) (t : TSet) : Prop :=
  ∀ (pins : List (Addr × Obj)) (s : Shared) (σ : St) (H : Hp) (o i v : V) (ov iv u : Value) (Q : Hp → Prop), Inv X pins σ H s → RelV o ov → RelV i iv → RelV v u → t o i v H Q →
    wpAny (model X.prog X.w) X.A (setItem ov iv u) (fun _ s' => ∃ H', Inv X pins σ H' s' ∧ Q H') X.xe s
section
variable {X : Cx} {pos : Pos}
noncomputable def gName (i : Nat) : TG := fun v σ H Q => Q (σ.set i (some v)) H
theorem pg_name {i : Nat} {x : Str} (hN : X.N.Nodup) (hi : X.N[i]? = some x) (hx : Loc X.env.scope x) (hf : X.fn x = true ∨ X.env.scope.names.lookup x = some .local := by first | exact .inl rfl | exact .inr rfl | assumption) : PG X (.Name x pos) (gName i) := by
  intro pins s σ H v u Q I r h
  exact wpAny_assign_Name (store_ok I hN hi hx r (fun s' I' => ⟨_, H, I', h⟩) hf)
noncomputable def gNil : TGs := fun vs σ H Q => vs = [] ∧ Q σ H
noncomputable def gCons (t : TG) (u : TGs) : TGs := fun vs σ H Q => ∃ v r, vs = v :: r ∧ t v σ H fun σ' H' => u r σ' H' Q
theorem pgs_nil : PGs X [] gNil := by
  intro pins s σ H vs us Q I r h
  obtain ⟨e, h⟩ := h
  subst e
  cases r
  exact assignInOrder_nil ⟨σ, H, I, h⟩
theorem pgs_cons {e : Expr} {es : List Expr} {t : TG} {u : TGs} (h1 : PG X e t) (h2 : PGs X es u)
    (hs : (assignEach (e :: es) X.env).map (·.2) = assign e X.env :: (assignEach es X.env).map (·.2) := by rfl) : PGs X (e :: es) (gCons t u) := by
  intro pins s σ H vs us Q I r h
  obtain ⟨v, vr, e1, h⟩ := h
  subst e1
  cases r with
  | cons r rr =>
    rw [hs]
    refine assignInOrder_cons (thn (h1 pins s σ H _ _ _ I r h) fun _ s1 ⟨σ1, H1, I1, q1⟩ => ?_)
    exact h2 pins s1 σ1 H1 _ _ Q I1 rr q1
noncomputable def gTup (K : PySem.W.Frag) (n : Nat) (t : TGs) : TG := fun v σ H Q => ∃ a xs, v = .ref a ∧ SqT K H a xs ∧ xs.length = n ∧ t xs σ H Q
theorem pg_tup {es : List Expr} {k : Nat} {t : TGs} {n : Nat} (hc : X.calm = true) (h : PGs X es t)
    (hn : (assignEach es X.env).length = n := by rfl) (hst : (assignEach es X.env).findIdx? (·.1) = none := by rfl) : PG X (.Tuple es k pos) (gTup X.K n t) := by
  intro pins s σ H v u Q I r hw
  obtain ⟨a, xs, e1, hq, hl, hw⟩ := hw
  subst e1
  cases r
  obtain ⟨its, rv, ht, hz⟩ := I.tuple hq
  refine assign_Tuple_tuple (I.ok.hd hc) ht (by simp [hn, ← hl, rv.length]) hst fun h' hx => ?_
  have I1 : Inv X pins σ H { s with heap := h' } := I.kept (t' := s.toks) fun b o e => hx b o (Nat.ne_of_lt (Heap.lt_size e)) e
  exact h pins _ σ H xs _ Q I1 (by simpa using rv) hw
noncomputable def gSub (to ti : TE) (t : TSet) : TG := fun v σ H Q => to σ H fun o H1 => ti σ H1 fun i H2 => t o i v H2 fun H3 => Q σ H3
theorem pg_sub {o i : Expr} {to ti : TE} {t : TSet} (ho : PE X o to) (hi : PE X i ti) (hs : PSet X t)
    (ha : ∀ v, assign (.Subscript o i pos) X.env v = (do
      let ov ← holding [v] (eval o X.env)
      let iv ← holding [v, ov] (eval i X.env)
      standAt pos
      holding [v, ov, iv] (setItem ov iv v)
      release [v, ov, iv] []) := by intro _; rfl) : PG X (.Subscript o i pos) (gSub to ti t) := by
  intro pins s σ H v u Q I r h
  rw [ha]
  refine wpAny_bind (wpAny_holding (thn (ho pins s σ H _ I h) fun ov s1 ⟨x, H1, I1, r1, q1⟩ => ?_))
  refine wpAny_bind (wpAny_holding (thn (hi pins s1 σ H1 _ I1 q1) fun iv s2 ⟨y, H2, I2, r2, q2⟩ => ?_))
  refine wpAny_bind (wpAny_standAt (wpAny_bind (wpAny_holding (thn (hs pins s2 σ H2 x y v ov iv u _ I2 r1 r2 r q2) fun _ s3 ⟨H3, I3, q3⟩ => ?_))))
  exact wpAny_release ⟨σ, H3, I3, q3⟩
noncomputable def tAsg (te : TE) (g : TG) : TS := fun D σ H => te σ H fun x H1 => g x σ H1 D.nx
theorem ps_asg {tg e : Expr} {te : TE} {g : TG} (he : PE X e te) (hg : PG X tg g) (hs : swapsWithSole [tg] e pos.line X.env = pure false := by rfl) (hw : swappedStores [tg] e X.env = pure none := by rfl)
    (h1 : (assignEach [tg] X.env).map (·.2) = [assign tg X.env] := by rfl) : PS X (.Assign [tg] e pos) (tAsg te g) := by
  intro pins s σ H D I h
  refine wpAny_Assign_stores (thn (he pins s σ H _ I h) fun v s1 ⟨x, H1, I1, r1, q1⟩ => ?_) hs hw
  rw [h1]
  exact thn (hg pins s1 σ H1 x v _ I1 r1 q1) fun _ s2 q => q
theorem ps_set {i : Nat} {x : Str} {e : Expr} {te : TE} {pos' : Pos} (hN : X.N.Nodup) (hi : X.N[i]? = some x) (hx : Loc X.env.scope x) (he : PE X e te) (hs : swapsWith e (some (.Name x pos')) pos.line X.env = pure false := by rfl) (hf : X.fn x = true ∨ X.env.scope.names.lookup x = some .local := by first | exact .inl rfl | exact .inr rfl | assumption) :
    PS X (.Assign [.Name x pos'] e pos) (tAsg te (gName i)) := by
  intro pins s σ H D I h
  refine wpAny_Assign_Name (thn (he pins s σ H _ I h) fun v s1 ⟨y, H1, I1, r1, q1⟩ => ?_) hs
  exact store_ok I1 hN hi hx r1 (fun s2 I2 => ⟨_, H1, I2, q1⟩) hf
noncomputable def tPar (i j : Nat) (ta : TA) : TS := fun D σ H => ta σ H fun vs H1 => ∃ v w, vs = [v, w] ∧ D.nx ((σ.set i (some v)).set j (some w)) H1
theorem ps_par {i j : Nat} {x y : Str} {a b : Expr} {ta : TA} {px py pt : Pos} {kt k2 pt2} (hc : X.calm = true) (hN : X.N.Nodup) (hi : X.N[i]? = some x) (hj : X.N[j]? = some y) (hij : i ≠ j)
    (hx : X.env.scope.names.lookup x = some .local) (hy : X.env.scope.names.lookup y = some .local) (ha : PA X [a, b] ta)
    (hw : swappedStores [.Tuple [.Name x px, .Name y py] kt pt] (.Tuple [a, b] k2 pt2) X.env = pure (some [x, y]))
    (hs : swapsWithSole [.Tuple [.Name x px, .Name y py] kt pt] (.Tuple [a, b] k2 pt2) pos.line X.env = pure false := by rfl) :
    PS X (.Assign [.Tuple [.Name x px, .Name y py] kt pt] (.Tuple [a, b] k2 pt2) pos) (tPar i j ta) := by
  intro pins s σ H D I h
  rw [exec_Assign_arm]
  refine wpAny_bind (wpAny_standAt ?_)
  rw [hs]
  refine wpAny_bind (wpAny_pure ?_)
  rw [if_neg (by decide)]
  refine wpAny_bind (Tuple_ (thn (ha _ pins s σ H _ I h) fun us s1 ⟨vs, H1, I1, r1, q1⟩ => ?_))
  obtain ⟨v, w, e1, q1⟩ := q1
  subst e1
  obtain ⟨u1, u2, rfl, rv, rw'⟩ : ∃ u1 u2, us = [u1, u2] ∧ RelV v u1 ∧ RelV w u2 := by
    cases r1 with
    | cons p q =>
      cases q with
      | cons p' q' =>
        cases q'
        exact ⟨_, _, rfl, p, p'⟩
  refine wpAny_newObj_type ?_ (by show 2 ≤ sizeLine; decide)
  have I2 : Inv X pins σ H1 { s1 with heap := s1.heap.push { cls := .type "tuple", data := .seq [u1, u2].toArray } } := I1.kept (t' := s1.toks) fun b o e => Heap.get?_push_of_some _ e
  rw [hw]
  refine wpAny_bind (wpAny_pure ?_)
  show wpAny (model X.prog X.w) X.A (do rule "assign.swapped-stores"; let items ← unpackItems (.ref s1.heap.objs.size) 2 none; assignInOrder [fun v => bindName X.env y v, fun v => bindName X.env x v] items.reverse; pure Flow.next) _ _ _
  refine wpAny_bind (wpAny_rule (wpAny_bind (unpackItems_tuple (items := #[u1, u2]) (I.ok.hd hc) (IsTup.new s1.heap _) fun h' hx' => ?_)))
  have I3 := I2.kept (h' := h') (t' := s1.toks) fun b o e => hx' b o (Nat.ne_of_lt (Heap.lt_size e)) e
  show wpAny _ _ (assignInOrder [fun v => bindName X.env y v, fun v => bindName X.env x v] [u2, u1] >>= fun _ => pure Flow.next) _ _ _
  refine wpAny_bind (assignInOrder_cons (wpAny_bindName (store_ok I3 hN hj (.inl hy) rw' (fun s2 I4 => ?_) (.inr hy))))
  refine assignInOrder_cons (wpAny_bindName (store_ok I4 hN hi (.inl hx) rv (fun s3 I5 => assignInOrder_nil (wpAny_pure ?_)) (.inr hx)))
  rw [List.set_comm _ _ (Ne.symm hij)] at I5
  exact ⟨_, H1, I5, q1⟩
end

section
variable {X : Cx} {pos : Pos}
noncomputable def tWhile (c : TT) (tb : TS) : TS := fun D σ H => ∃ W : Nat → St → Hp → Prop, (∃ m, W m σ H) ∧ ∀ m σ H, W m σ H →
  c σ H fun b H1 => if b = true then ∃ N : St → Hp → Prop, (∀ σ' H', N σ' H' → ∃ m', m' < m ∧ W m' σ' H') ∧ tb { D with nx := N, ct := N, bk := D.nx } σ H1 else D.nx σ H1
theorem ps_while {c : Expr} {body : List Stmt} {tc : TT} {tb : TS} (hp : PassesOwn (model X.prog X.w) X.A X.env X.xe) (hc : PT X c tc) (hb : PSs X body tb) : PS X (.While c body [] pos) (tWhile tc tb) := by
  intro pins s σ H D I h
  obtain ⟨W, ⟨m0, w0⟩, turn⟩ := h
  refine wpAny_While (codeAny_whileLoop (fun n s' => ∃ σ' H', Inv X pins σ' H' s' ∧ W n σ' H') ?_ m0 ⟨σ, H, I, w0⟩)
  rintro n s1 ⟨σ1, H1, I1, w1⟩
  refine wpAny_passesOwn hp (thn (hc pins s1 σ1 H1 _ I1 (turn n σ1 H1 w1)) fun b s2 ⟨H2, I2, q2⟩ => ?_)
  cases b with
  | true =>
    obtain ⟨N, hN, q2⟩ := q2
    rw [if_pos rfl]
    refine wpAny_passesOwn hp (thn (hb pins s2 σ1 H2 _ I2 q2) fun f s3 q3 => ?_)
    cases f with
    | next =>
      obtain ⟨σ3, H3, I3, n3⟩ := q3
      obtain ⟨m', hm, w3⟩ := hN σ3 H3 n3
      exact ⟨m', hm, σ3, H3, I3, w3⟩
    | cont =>
      obtain ⟨σ3, H3, I3, n3⟩ := q3
      obtain ⟨m', hm, w3⟩ := hN σ3 H3 n3
      exact ⟨m', hm, σ3, H3, I3, w3⟩
    | brk => exact q3
    | ret v => exact q3
  | false =>
    rw [if_neg Bool.false_ne_true]
    exact wpAny_execs_nil ⟨σ1, H2, I2, q2⟩
end

structure It where
  go : Nat → Hp → Prop
  yld : Nat → Hp → V → Hp → Prop
  stop : Nat → Hp → Prop
noncomputable def FpOk (X : Cx) (pins : List (Addr × Obj)) (H : Hp) (b : Addr) : Prop :=
  H b = none ∧ b ≠ X.env.locals ∧ b ∉ X.fs ∧ (b ∈ X.ex ∨ X.s₀.heap.objs.size ≤ b) ∧ (∀ x c, X.env.cells.lookup x = some c → c ≠ b) ∧ ∀ p ∈ X.pn ++ pins, p.1 ≠ b
theorem Inv.fpOk {X : Cx} {pins : List (Addr × Obj)} {σ : St} {H H' : Hp} {s : Shared} {b : Addr} (I : Inv X pins σ H s) (hb : s.heap.objs.size ≤ b) (hn : H' b = none) : FpOk X pins H' b := by
  refine ⟨hn, Nat.ne_of_gt (Nat.lt_of_lt_of_le I.lt hb), I.nofs hb, .inr (Nat.le_trans I.sz hb), fun x c e z => ?_, fun p hp z => ?_⟩
  · obtain ⟨v, q⟩ := I.cell x c e
    exact absurd (Nat.lt_of_lt_of_le q.lt (by rw [z]; exact hb)) (Nat.lt_irrefl _)
  · exact absurd (Nat.lt_of_lt_of_le (Heap.lt_size (I.pin p hp).1) (by rw [z]; exact hb)) (Nat.lt_irrefl _)
structure Turn (P : Program) (w : World) (K : PySem.W.Frag) (tg : Expr) (J : It) (fp : List Addr) (it : Addr) (tn : Nat → Heap → Prop) : Prop where
  mem : it ∈ fp
  obj : ∀ i h, tn i h → ∀ b ∈ fp, ∃ o, h.get? b = some o ∧ ∀ v, o.data ≠ .cell v
  keep : ∀ i h h', tn i h → (∀ b ∈ fp, ∀ o, h.get? b = some o → h'.get? b = some o) → tn i h'
  item : ∀ (X : Cx), X.prog = P → X.w = w → X.K = K → X.calm = true → ∀ (i : Nat) (pins : List (Addr × Obj)) (s : Shared) (σ : St) (H : Hp) (E : Value → Shared → Prop), Inv X pins σ H s → (∀ b ∈ fp, FpOk X pins H b) → tn i s.heap → J.go i H →
    wpAny (model P w) X.A (pyNext (.ref it)) (fun r s1 => ∃ u, r = some u ∧
      wpAny (model P w) X.A (letOwnedTupleGo tg (.ref it) u) (fun _ s2 => ∃ x H', Inv X pins σ H' s2 ∧ RelV x u ∧ J.yld i H x H' ∧ tn (i + 1) s2.heap ∧ ∀ b ∈ fp, H' b = none) E s1) E s
  done : ∀ (X : Cx), X.prog = P → X.w = w → X.K = K → X.calm = true → ∀ (i : Nat) (pins : List (Addr × Obj)) (s : Shared) (σ : St) (H : Hp) (E : Value → Shared → Prop), Inv X pins σ H s → (∀ b ∈ fp, FpOk X pins H b) → tn i s.heap → J.stop i H →
    wpAny (model P w) X.A (pyNext (.ref it)) (fun r s1 => r = none ∧ Inv X pins σ H s1) E s
  self : ∀ (A : Around) (i : Nat) (s : Shared) (Q : Value → Shared → Prop) (E : Value → Shared → Prop), tn i s.heap → Q (.ref it) s → wpAny (model P w) A (pyIter (.ref it)) Q E s
noncomputable abbrev TI := St → Hp → (It → Hp → Prop) → Prop
noncomputable def PIE (X : Cx) (pins : List (Addr × Obj)) (σ : St) (tg : Expr) (R : It → Hp → Prop) (itv : Value) (s2 : Shared) : Prop :=
  ∃ (it : Addr) (fp : List Addr) (tn : Nat → Heap → Prop) (J : It) (H' : Hp), itv = .ref it ∧ Inv X pins σ H' s2 ∧ Turn X.prog X.w X.K tg J fp it tn ∧ tn 0 s2.heap ∧ (∀ b ∈ fp, FpOk X pins H' b) ∧ R J H'
noncomputable def PI (X : Cx) (tg iter : Expr) (wi : TI) : Prop :=
  ∀ (pins : List (Addr × Obj)) (s : Shared) (σ : St) (H : Hp) (R : It → Hp → Prop), Inv X pins σ H s → wi σ H R →
    wpAny (model X.prog X.w) X.A (eval iter X.env) (fun v s1 => wpAny (model X.prog X.w) X.A (pyIter v) (PIE X pins σ tg R) X.xe s1) X.xe s

theorem go_of {M : Model} {A : Around} {E : Value → Shared → Prop} {s : Shared} {tg : Expr} {it : Addr} {u : Value} {o : Obj} {n : String} {vs : Array Value} {Q : Unit → Shared → Prop} (ho : s.heap.get? it = some o) (hc : o.cls = .type n) (hd : o.data = .fields vs)
    (hn : ["enumerate", "zip", "dict_itemiterator", "dict_reverseitemiterator", "odict_iterator", "itertools.zip_longest", "itertools.pairwise"].contains n = false) (hQ : Q () s) : wpAny M A (letOwnedTupleGo tg (.ref it) u) Q E s := by
  unfold letOwnedTupleGo
  cases tg <;> first
    | exact wpAny_pure hQ
    | (cases u <;> first
        | exact wpAny_pure hQ
        | (refine wpAny_bind (wpAny_load ho ?_)
           rw [hc, hd]
           show wpAny M A (if (["enumerate", "zip", "dict_itemiterator", "dict_reverseitemiterator", "odict_iterator", "itertools.zip_longest", "itertools.pairwise"].contains n && vs[0]? == some (rawInt _)) = true then _ else _) Q E s
           rw [if_neg (by intro h; rw [hn, Bool.false_and] at h; cases h)]
           exact wpAny_pure hQ))

noncomputable def Itl (K : PySem.W.Frag) (a : Addr) : It :=
  ⟨fun i H => ∃ xs x, SqL K H a xs ∧ xs[i]? = some x, fun i H x H' => H' = H ∧ ∀ xs, SqL K H a xs → xs[i]? = some x, fun i H => ∃ xs, SqL K H a xs ∧ xs.length ≤ i⟩
noncomputable def Itt (K : PySem.W.Frag) (a : Addr) : It :=
  ⟨fun i H => ∃ xs x, SqT K H a xs ∧ xs[i]? = some x, fun i H x H' => H' = H ∧ ∀ xs, SqT K H a xs → xs[i]? = some x, fun i H => ∃ xs, SqT K H a xs ∧ xs.length ≤ i⟩
noncomputable def Itr (lo : Int) (n : Nat) : It := ⟨fun i _ => i < n, fun i H x H' => H' = H ∧ x = .int (lo + i), fun i _ => n ≤ i⟩
theorem turn_list {P : Program} {w : World} {K : PySem.W.Frag} {tg : Expr} (a it : Addr) : Turn P w K tg (Itl K a) [it] it (fun i h => h.IsListIter it a i) where
  mem := by simp
  obj := fun i h st b hb => by
    have e : b = it := by simpa using hb
    subst e
    obtain ⟨o, e, c, d⟩ := st
    exact ⟨o, e, fun v z => by rw [d] at z; cases z⟩
  keep := fun i h h' st k => st.at fun o e => k it (by simp) o e
  item := by
    intro X hP hw hK hc i pins s σ H E I hf st hg
    subst hP hw hK
    obtain ⟨xs, x, hq, hx⟩ := hg
    obtain ⟨its, rv, p, hz⟩ := I.list hq
    obtain ⟨u, hu, ru⟩ := rv.get hx
    obtain ⟨f0, f1, f2, f3, f4, f5⟩ := hf it (by simp)
    refine wpAny_pyNext_list_item st p.isList (x := u) (by simpa using hu) fun h' st' sb => ?_
    have I1 : Inv X pins σ H { s with heap := h' } := I.turned (t' := s.toks) (fun b o hb e => (sb.2 b hb).trans e) f0 f1 f3 f4 f5
    obtain ⟨o, e, c, d⟩ := id st'
    exact ⟨u, rfl, go_of (s := { s with heap := h' }) e c d (by decide) ⟨x, H, I1, ru, ⟨rfl, fun ys hy => by rw [I.list_inj hy hq]; exact hx⟩, st', fun b hb => (hf b hb).1⟩⟩
  done := by
    intro X hP hw hK hc i pins s σ H E I hf st hg
    subst hP hw hK
    obtain ⟨xs, hq, hx⟩ := hg
    obtain ⟨its, rv, p, hz⟩ := I.list hq
    obtain ⟨f0, f1, f2, f3, f4, f5⟩ := hf it (by simp)
    have hl := rv.length
    exact wpAny_pyNext_list_end (I.ok.hd hc) st p.isList (by simp; omega) fun h' eb => ⟨rfl, I.turned (t' := s.toks) (fun b o hb e => eb b o hb e) f0 f1 f3 f4 f5⟩
  self := fun _ _ _ _ _ st h => wpAny_pyIter_listiter st h
theorem turn_tuple {P : Program} {w : World} {K : PySem.W.Frag} {tg : Expr} (a it : Addr) : Turn P w K tg (Itt K a) [it] it (fun i h => h.IsTupleIter it a i) where
  mem := by simp
  obj := fun i h st b hb => by
    have e : b = it := by simpa using hb
    subst e
    obtain ⟨o, e, c, d⟩ := st
    exact ⟨o, e, fun v z => by rw [d] at z; cases z⟩
  keep := fun i h h' st k => st.at fun o e => k it (by simp) o e
  item := by
    intro X hP hw hK hc i pins s σ H E I hf st hg
    subst hP hw hK
    obtain ⟨xs, x, hq, hx⟩ := hg
    obtain ⟨its, rv, p, hz⟩ := I.tuple hq
    obtain ⟨u, hu, ru⟩ := rv.get hx
    obtain ⟨f0, f1, f2, f3, f4, f5⟩ := hf it (by simp)
    refine wpAny_pyNext_tuple_item st (show s.heap.IsTuple a its.toArray from p) (x := u) (by simpa using hu) fun h' st' sb => ?_
    have I1 : Inv X pins σ H { s with heap := h' } := I.turned (t' := s.toks) (fun b o hb e => (sb.2 b hb).trans e) f0 f1 f3 f4 f5
    obtain ⟨o, e, c, d⟩ := id st'
    exact ⟨u, rfl, go_of (s := { s with heap := h' }) e c d (by decide) ⟨x, H, I1, ru, ⟨rfl, fun ys hy => by rw [I.tuple_inj hy hq]; exact hx⟩, st', fun b hb => (hf b hb).1⟩⟩
  done := by
    intro X hP hw hK hc i pins s σ H E I hf st hg
    subst hP hw hK
    obtain ⟨xs, hq, hx⟩ := hg
    obtain ⟨its, rv, p, hz⟩ := I.tuple hq
    obtain ⟨f0, f1, f2, f3, f4, f5⟩ := hf it (by simp)
    have hl := rv.length
    exact wpAny_pyNext_tuple_end (I.ok.hd hc) st (show s.heap.IsTuple a its.toArray from p) (by simp; omega) fun h' eb => ⟨rfl, I.turned (t' := s.toks) (fun b o hb e => eb b o hb e) f0 f1 f3 f4 f5⟩
  self := fun _ _ _ _ _ st h => wpAny_pyIter_tupleiter st h
theorem turn_range {P : Program} {w : World} {K : PySem.W.Frag} {tg : Expr} (it : Addr) (lo : Int) (n : Nat) : Turn P w K tg (Itr lo n) [it] it (fun i h => IsRangeIter h it (lo + (i : Nat) * 1) ((n : Int) - (i : Nat)) 1) where
  mem := by simp
  obj := fun i h st b hb => by
    have e : b = it := by simpa using hb
    subst e
    exact ⟨_, st, fun v z => by
      have z' : Data.fields _ = Data.cell v := z
      cases z'⟩
  keep := fun i h h' st k => k it (by simp) _ st
  item := by
    intro X hP hw hK hc i pins s σ H E I hf st hg
    subst hP hw hK
    obtain ⟨f0, f1, f2, f3, f4, f5⟩ := hf it (by simp)
    have W := Walks.range (prog := X.prog) (w := X.w) (I.ok.hd hc) it lo 1 n
    refine W.item i s _ _ hg st fun v h' tk hv st' kk => ?_
    obtain ⟨t, rfl⟩ := hv
    have I1 : Inv X pins σ H { s with heap := h', toks := tk } := I.turned (fun b o hb e => kk b o (by simpa using hb) e) f0 f1 f3 f4 f5
    refine ⟨_, rfl, go_of (s := { s with heap := h', toks := tk }) (n := "range_iterator") st' rfl rfl (by decide) ⟨.int (lo + i), H, I1, ⟨t, ?_⟩, ⟨rfl, rfl⟩, st', fun b hb => (hf b hb).1⟩⟩
    rw [Int.mul_one]
  done := by
    intro X hP hw hK hc i pins s σ H E I hf st hg
    subst hP hw hK
    obtain ⟨f0, f1, f2, f3, f4, f5⟩ := hf it (by simp)
    exact wpAny_pyNext_range_end (I.ok.hd hc) st (by have : n ≤ i := hg; omega) fun h' eb => ⟨rfl, I.turned (t' := s.toks) (fun b o hb e => eb b o hb e) f0 f1 f3 f4 f5⟩
  self := fun _ _ _ _ _ st h => wpAny_pyIter_rangeiter st h
end L2

namespace L2
open PySem PySem.Spec PyProof.Rows
section
variable {X : Cx} {tg : Expr}
noncomputable def iList (K : PySem.W.Frag) (tl : TE) : TI := fun σ H R => tl σ H fun x H1 => ∃ a, x = .ref a ∧ (∃ xs, SqL K H1 a xs) ∧ R (Itl K a) H1
noncomputable def iTup (K : PySem.W.Frag) (tl : TE) : TI := fun σ H R => tl σ H fun x H1 => ∃ a, x = .ref a ∧ (∃ xs, SqT K H1 a xs) ∧ R (Itt K a) H1
theorem pi_list {l : Expr} {tl : TE} (hl : PE X l tl) : PI X tg l (iList X.K tl) := by
  intro pins s σ H R I h
  refine thn (hl pins s σ H _ I h) fun v s1 ⟨x, H1, I1, r1, q1⟩ => ?_
  obtain ⟨a, e, ⟨xs, hq⟩, q⟩ := q1
  subst e
  cases r1
  obtain ⟨its, rv, p, hz⟩ := I1.list hq
  refine wpAny_pyIter_list p.isList ?_
  refine ⟨s1.heap.objs.size, [s1.heap.objs.size], _, _, H1, rfl, I1.kept (t' := s1.toks) fun b o e => Heap.get?_push_of_some _ e, turn_list a _, ⟨_, Heap.get?_push_size _ rfl, rfl, rfl⟩, fun b hb => ?_, q⟩
  have e : b = s1.heap.objs.size := by simpa using hb
  subst e
  exact I1.fpOk (Nat.le_refl _) (I1.hok.fresh (Nat.le_refl _))
theorem pi_tup {l : Expr} {tl : TE} (hl : PE X l tl) : PI X tg l (iTup X.K tl) := by
  intro pins s σ H R I h
  refine thn (hl pins s σ H _ I h) fun v s1 ⟨x, H1, I1, r1, q1⟩ => ?_
  obtain ⟨a, e, ⟨xs, hq⟩, q⟩ := q1
  subst e
  cases r1
  obtain ⟨its, rv, p, hz⟩ := I1.tuple hq
  refine wpAny_pyIter_tuple (show s1.heap.IsTuple a its.toArray from p) ?_
  refine ⟨s1.heap.objs.size, [s1.heap.objs.size], _, _, H1, rfl, I1.kept (t' := s1.toks) fun b o e => Heap.get?_push_of_some _ e, turn_tuple a _, ⟨_, Heap.get?_push_size _ rfl, rfl, rfl⟩, fun b hb => ?_, q⟩
  have e : b = s1.heap.objs.size := by simpa using hb
  subst e
  exact I1.fpOk (Nat.le_refl _) (I1.hok.fresh (Nat.le_refl _))
theorem range_it {pins : List (Addr × Obj)} {σ : St} {H : Hp} {s : Shared} {R : It → Hp → Prop} {E : Value → Shared → Prop} {lo hi : Int} {t u v : Tok} {tk : Nat} (I : Inv X pins σ H s) (h1 : -(2 ^ 62) ≤ lo) (h2 : lo < 2 ^ 62) (h3 : -(2 ^ 62) ≤ hi) (h4 : hi < 2 ^ 62)
    (q : R (Itr lo (hi - lo).toNat) H) : wpAny (model X.prog X.w) X.A (pyIter (.ref s.heap.objs.size)) (PIE X pins σ tg R) E { s with heap := s.heap.push { cls := .type "range", data := .fields #[.int lo t, .int hi u, .int 1 v] }, toks := tk } := by
  refine wpAny_pyIter_range (IsRange.new ..) (small_one h1 h2 h3 h4) ?_
  have I1 : Inv X pins σ H { s with heap := s.heap.push { cls := .type "range", data := .fields #[.int lo t, .int hi u, .int 1 v] }, toks := tk } := I.kept fun b o e => Heap.get?_push_of_some _ e
  refine ⟨(s.heap.push { cls := .type "range", data := .fields #[.int lo t, .int hi u, .int 1 v] }).objs.size, [(s.heap.push { cls := .type "range", data := .fields #[.int lo t, .int hi u, .int 1 v] }).objs.size], _, _, H, rfl,
    I1.kept (t' := tk) fun b o e => Heap.get?_push_of_some _ e, turn_range _ lo (hi - lo).toNat, ?_, fun b hb => ?_, q⟩
  · have e1 : lo + ((0 : Nat) : Int) * 1 = lo := by simp
    have e2 : (((hi - lo).toNat : Nat) : Int) - ((0 : Nat) : Int) = Builtin.Range.rangeSize lo hi 1 := by rw [rangeSize_one]; split <;> omega
    show IsRangeIter _ _ (lo + ((0 : Nat) : Int) * 1) ((((hi - lo).toNat : Nat) : Int) - ((0 : Nat) : Int)) 1
    rw [e1, e2]
    exact Heap.get?_push_size _ rfl
  · have e : b = (s.heap.push { cls := .type "range", data := .fields #[.int lo t, .int hi u, .int 1 v] }).objs.size := by simpa using hb
    subst e
    exact I1.fpOk (Nat.le_refl _) (I1.hok.fresh (Nat.le_refl _))
noncomputable def iRng1 (ta : TA) : TI := fun σ H R => ta σ H fun vs H1 => ∃ j : Int, vs = [.int j] ∧ -(2 ^ 62) ≤ j ∧ j < 2 ^ 62 ∧ R (Itr 0 j.toNat) H1
theorem pi_range1 {a : Expr} {ta : TA} {p pos : Pos} (hg : Gl X "range") (hm : X.mg "range" = none) (ha : PA X [a] ta) (hs : starEach [a] X.env = [(false, eval a X.env)] := by rfl) : PI X tg (.Call (.Name "range" p) [a] [] pos) (iRng1 ta) := by
  intro pins s σ H R I h
  refine Call_ (ld_blt I hg hm boot_range (PyProof.Rows.callWith_type1 (thn (ha pos pins s σ H _ I h) fun us s1 ⟨vs, H1, I1, r1, q1⟩ => ?_) hs rfl))
  obtain ⟨j, e, q1, q2, q⟩ := q1
  subst e
  cases r1 with
  | cons r rr =>
    cases rr
    obtain ⟨t, rfl⟩ := r
    exact call_range_1 (range_it I1 (by omega) (by omega) q1 q2 (by simpa using q))
noncomputable def tFor (wi : TI) (g : TG) (tb : TS) : TS := fun D σ H => wi σ H fun J H1 => ∃ W : Nat → Nat → St → Hp → Prop, (∃ m, W 0 m σ H1) ∧ ∀ i m σ H, W i m σ H →
  (J.stop i H ∧ D.nx σ H) ∨ (J.go i H ∧ ∃ N : St → Hp → Prop, (∀ σ' H', N σ' H' → ∃ m', m' < m ∧ W (i + 1) m' σ' H') ∧ ∀ x H', J.yld i H x H' → g x σ H' fun σ2 H2 => tb { D with nx := N, ct := N, bk := D.nx } σ2 H2)
noncomputable def pinsAt (fp : List Addr) (h : Heap) : List (Addr × Obj) := fp.filterMap fun b => (h.get? b).map fun o => (b, o)
theorem mem_pinsAt {fp : List Addr} {h : Heap} {b : Addr} {o : Obj} (hb : b ∈ fp) (e : h.get? b = some o) : (b, o) ∈ pinsAt fp h := List.mem_filterMap.mpr ⟨b, hb, by rw [e]; rfl⟩
theorem of_pinsAt {fp : List Addr} {h : Heap} {p : Addr × Obj} (hp : p ∈ pinsAt fp h) : p.1 ∈ fp ∧ h.get? p.1 = some p.2 := by
  obtain ⟨b, hb, e⟩ := List.mem_filterMap.mp hp
  cases q : h.get? b with
  | none => rw [q] at e; cases e
  | some o =>
    rw [q] at e
    have e' : (b, o) = p := Option.some.inj e
    subst e'
    exact ⟨hb, q⟩
theorem Inv.pinned {pins : List (Addr × Obj)} {σ : St} {H : Hp} {s : Shared} {fp : List Addr} (I : Inv X pins σ H s) (hf : ∀ b ∈ fp, FpOk X pins H b) (ho : ∀ b ∈ fp, ∃ o, s.heap.get? b = some o ∧ ∀ v, o.data ≠ .cell v) : Inv X (pins ++ pinsAt fp s.heap) σ H s :=
  I.pins_of fun p hp => (List.mem_append.mp hp).elim (fun z => I.pin p (List.mem_append_right _ z)) fun z => by
    obtain ⟨hb, e⟩ := of_pinsAt z
    obtain ⟨f0, f1, f2, _⟩ := hf p.1 hb
    obtain ⟨o, e', d⟩ := ho p.1 hb
    rw [e] at e'; cases e'
    exact ⟨e, f0, f1, f2, d⟩
theorem Inv.unpinned {pins pl : List (Addr × Obj)} {σ : St} {H : Hp} {s : Shared} (I : Inv X (pins ++ pl) σ H s) : Inv X pins σ H s := I.pins_of fun p hp => I.pin p (List.mem_append_right _ (List.mem_append_left _ hp))
theorem ps_for {iter : Expr} {body : List Stmt} {wi : TI} {g : TG} {tb : TS} {pos : Pos} (hp : PassesOwn (model X.prog X.w) X.A X.env X.xe) (hc : X.calm = true) (hi : PI X tg iter wi) (hg : PG X tg g) (hb : PSs X body tb)
    (hs : ∀ x, foldedSetIterable iter X.env x = pure x := by intro _; rfl) : PS X (.For tg iter body [] pos) (tFor wi g tb) := by
  intro pins s σ H D I h
  refine wpAny_For (thn (hi pins s σ H _ I h) fun v s1 h1 => thn h1 fun itv s2 h2 => ?_) hs
  obtain ⟨it, fp, tn, J, H2, e, I2, T, st2, f2, W, ⟨m0, w0⟩, turn⟩ := h2
  subst e
  -- what stays true of the iterator's objects through the loop
  have stat : ∀ {H' : Hp}, (∀ b ∈ fp, H' b = none) → ∀ b ∈ fp, FpOk X pins H' b := fun hn b hb => ⟨hn b hb, (f2 b hb).2⟩
  refine codeAny_forLoop_any (fun n s' => ∃ i σ' H', Inv X pins σ' H' s' ∧ tn i s'.heap ∧ (∀ b ∈ fp, H' b = none) ∧ W i n σ' H') ?_ m0 ⟨0, σ, H2, I2, st2, fun b hb => (f2 b hb).1, w0⟩
  rintro n s3 ⟨i, σ3, H3, I3, st3, fr3, w3⟩
  rcases turn i n σ3 H3 w3 with ⟨stop, qn⟩ | ⟨go, N, hN, step⟩
  · refine wpAny_passesOwn hp (thn (T.done X rfl rfl rfl hc i pins s3 σ3 H3 X.xe I3 (stat fr3) st3 stop) fun r s4 ⟨hr, I4⟩ => ?_)
    subst hr
    exact wpAny_execs_nil ⟨σ3, H3, I4, qn⟩
  · refine wpAny_passesOwn hp (thn (T.item X rfl rfl rfl hc i pins s3 σ3 H3 X.xe I3 (stat fr3) st3 go) fun r s4 ⟨u, hr, h4⟩ => ?_)
    subst hr
    refine wpAny_passesOwn hp (thn h4 fun _ s5 ⟨x, H5, I5, r5, y5, st5, fr5⟩ => ?_)
    have I5' := I5.pinned (stat fr5) (T.obj _ _ st5)
    refine wpAny_passesOwn hp (thn (hg _ s5 σ3 H5 x u _ I5' r5 (step x H5 y5)) fun _ s6 ⟨σ6, H6, I6, q6⟩ => ?_)
    refine wpAny_passesOwn hp (thn (hb _ s6 σ6 H6 _ I6 q6) fun f s7 q7 => ?_)
    have again : ∀ {σ7 : St} {H7 : Hp}, Inv X (pins ++ pinsAt fp s5.heap) σ7 H7 s7 → N σ7 H7 → ∃ m, m < n ∧ ∃ i σ' H', Inv X pins σ' H' s7 ∧ tn i s7.heap ∧ (∀ b ∈ fp, H' b = none) ∧ W i m σ' H' := fun {σ7 H7} I7 n7 => by
      obtain ⟨m', hm, w7⟩ := hN σ7 H7 n7
      refine ⟨m', hm, i + 1, σ7, H7, I7.unpinned, T.keep _ _ _ st5 fun b hb o e => (I7.pin (b, o) (List.mem_append_right _ (List.mem_append_right _ (mem_pinsAt hb e)))).1, fun b hb => ?_, w7⟩
      obtain ⟨o, e, d⟩ := T.obj _ _ st5 b hb
      exact (I7.pin (b, o) (List.mem_append_right _ (List.mem_append_right _ (mem_pinsAt hb e)))).2.1
    cases f with
    | next => obtain ⟨σ7, H7, I7, n7⟩ := q7; exact again I7 n7
    | cont => obtain ⟨σ7, H7, I7, n7⟩ := q7; exact again I7 n7
    | brk => obtain ⟨σ7, H7, I7, q7⟩ := q7; exact ⟨σ7, H7, I7.unpinned, q7⟩
    | ret v => obtain ⟨x7, σ7, H7, I7, r7, q7⟩ := q7; exact ⟨x7, σ7, H7, I7.unpinned, r7, q7⟩
end

theorem for_list {K : PySem.W.Frag} {a : Addr} {xs : List V} {g : TG} {tb : TS} {D : Ends} {σ : St} {H : Hp} (Pv : Nat → St → Hp → Prop) (h0 : Pv 0 σ H) (hl : ∀ i σ H, i ≤ xs.length → Pv i σ H → SqL K H a xs)
    (hs : ∀ i x σ H, xs[i]? = some x → Pv i σ H → g x σ H fun σ2 H2 => tb { D with nx := Pv (i + 1), ct := Pv (i + 1), bk := D.nx } σ2 H2) (hd : ∀ σ H, Pv xs.length σ H → D.nx σ H) :
    ∃ W : Nat → Nat → St → Hp → Prop, (∃ m, W 0 m σ H) ∧ ∀ i m σ H, W i m σ H →
      ((Itl K a).stop i H ∧ D.nx σ H) ∨ ((Itl K a).go i H ∧ ∃ N : St → Hp → Prop, (∀ σ' H', N σ' H' → ∃ m', m' < m ∧ W (i + 1) m' σ' H') ∧ ∀ x H', (Itl K a).yld i H x H' → g x σ H' fun σ2 H2 => tb { D with nx := N, ct := N, bk := D.nx } σ2 H2) := by
  refine ⟨fun i m σ H => m = xs.length - i ∧ i ≤ xs.length ∧ Pv i σ H, ⟨xs.length, by simp, Nat.zero_le _, h0⟩, ?_⟩
  rintro i m σ H ⟨rfl, hi, p⟩
  have q := hl i σ H hi p
  by_cases hlt : i < xs.length
  · refine .inr ⟨⟨xs, xs[i], q, by simp [hlt]⟩, Pv (i + 1), fun σ' H' p' => ⟨xs.length - (i + 1), by omega, rfl, hlt, p'⟩, fun x H' y => ?_⟩
    obtain ⟨e, y⟩ := y
    subst e
    exact hs i x σ _ (y xs q) p
  · have e : i = xs.length := by omega
    subst e
    exact .inl ⟨⟨xs, q, Nat.le_refl _⟩, hd σ H p⟩
theorem for_tup {K : PySem.W.Frag} {a : Addr} {xs : List V} {g : TG} {tb : TS} {D : Ends} {σ : St} {H : Hp} (Pv : Nat → St → Hp → Prop) (h0 : Pv 0 σ H) (hl : ∀ i σ H, i ≤ xs.length → Pv i σ H → SqT K H a xs)
    (hs : ∀ i x σ H, xs[i]? = some x → Pv i σ H → g x σ H fun σ2 H2 => tb { D with nx := Pv (i + 1), ct := Pv (i + 1), bk := D.nx } σ2 H2) (hd : ∀ σ H, Pv xs.length σ H → D.nx σ H) :
    ∃ W : Nat → Nat → St → Hp → Prop, (∃ m, W 0 m σ H) ∧ ∀ i m σ H, W i m σ H →
      ((Itt K a).stop i H ∧ D.nx σ H) ∨ ((Itt K a).go i H ∧ ∃ N : St → Hp → Prop, (∀ σ' H', N σ' H' → ∃ m', m' < m ∧ W (i + 1) m' σ' H') ∧ ∀ x H', (Itt K a).yld i H x H' → g x σ H' fun σ2 H2 => tb { D with nx := N, ct := N, bk := D.nx } σ2 H2) := by
  refine ⟨fun i m σ H => m = xs.length - i ∧ i ≤ xs.length ∧ Pv i σ H, ⟨xs.length, by simp, Nat.zero_le _, h0⟩, ?_⟩
  rintro i m σ H ⟨rfl, hi, p⟩
  have q := hl i σ H hi p
  by_cases hlt : i < xs.length
  · refine .inr ⟨⟨xs, xs[i], q, by simp [hlt]⟩, Pv (i + 1), fun σ' H' p' => ⟨xs.length - (i + 1), by omega, rfl, hlt, p'⟩, fun x H' y => ?_⟩
    obtain ⟨e, y⟩ := y
    subst e
    exact hs i x σ _ (y xs q) p
  · have e : i = xs.length := by omega
    subst e
    exact .inl ⟨⟨xs, q, Nat.le_refl _⟩, hd σ H p⟩
theorem for_range {lo : Int} {n : Nat} {g : TG} {tb : TS} {D : Ends} {σ : St} {H : Hp} (Pv : Nat → St → Hp → Prop) (h0 : Pv 0 σ H)
    (hs : ∀ i σ H, i < n → Pv i σ H → g (.int (lo + i)) σ H fun σ2 H2 => tb { D with nx := Pv (i + 1), ct := Pv (i + 1), bk := D.nx } σ2 H2) (hd : ∀ σ H, Pv n σ H → D.nx σ H) :
    ∃ W : Nat → Nat → St → Hp → Prop, (∃ m, W 0 m σ H) ∧ ∀ i m σ H, W i m σ H →
      ((Itr lo n).stop i H ∧ D.nx σ H) ∨ ((Itr lo n).go i H ∧ ∃ N : St → Hp → Prop, (∀ σ' H', N σ' H' → ∃ m', m' < m ∧ W (i + 1) m' σ' H') ∧ ∀ x H', (Itr lo n).yld i H x H' → g x σ H' fun σ2 H2 => tb { D with nx := N, ct := N, bk := D.nx } σ2 H2) := by
  refine ⟨fun i m σ H => m = n - i ∧ i ≤ n ∧ Pv i σ H, ⟨n, by simp, Nat.zero_le _, h0⟩, ?_⟩
  rintro i m σ H ⟨rfl, hi, p⟩
  by_cases hlt : i < n
  · refine .inr ⟨hlt, Pv (i + 1), fun σ' H' p' => ⟨n - (i + 1), by omega, rfl, hlt, p'⟩, fun x H' y => ?_⟩
    obtain ⟨e, y⟩ := y
    subst e y
    exact hs i σ _ hlt p
  · have e : i = n := by omega
    subst e
    exact .inl ⟨Nat.le_refl _, hd σ H p⟩
theorem while_by {c : TT} {tb : TS} {D : Ends} {σ : St} {H : Hp} (Pv : St → Hp → Prop) (μ : St → Hp → Nat) (h0 : Pv σ H)
    (hs : ∀ σ H, Pv σ H → c σ H fun b H1 => if b = true then tb { D with nx := fun σ' H' => Pv σ' H' ∧ μ σ' H' < μ σ H, ct := fun σ' H' => Pv σ' H' ∧ μ σ' H' < μ σ H, bk := D.nx } σ H1 else D.nx σ H1)
    (mono : ∀ σ H Q Q', (∀ b H1, Q b H1 → Q' b H1) → c σ H Q → c σ H Q') : tWhile c tb D σ H := by
  refine ⟨fun m σ H => m = μ σ H ∧ Pv σ H, ⟨_, rfl, h0⟩, ?_⟩
  rintro m σ H ⟨rfl, p⟩
  refine mono σ H _ _ (fun b H1 q => ?_) (hs σ H p)
  cases b with
  | true => exact ⟨_, fun σ' H' ⟨p', l⟩ => ⟨_, l, rfl, p'⟩, q⟩
  | false => exact q
end L2

namespace L2
open PySem PySem.Spec PyProof.Rows

noncomputable abbrev R2 := V → V → Hp → VK → Prop
noncomputable def OpR (X : Cx) (f : Value → Value → Sem Value) (r : R2) : Prop :=
  ∀ (pins : List (Addr × Obj)) (s : Shared) (σ : St) (H : Hp) (x y : V) (v u : Value) (Q : VK), Inv X pins σ H s → RelV x v → RelV y u → r x y H Q →
    wpAny (model X.prog X.w) X.A (f v u) (EP X pins σ Q) X.xe s
noncomputable def UnR (X : Cx) (f : Value → Sem Value) (r : V → Hp → VK → Prop) : Prop :=
  ∀ (pins : List (Addr × Obj)) (s : Shared) (σ : St) (H : Hp) (x : V) (v : Value) (Q : VK), Inv X pins σ H s → RelV x v → r x H Q →
    wpAny (model X.prog X.w) X.A (f v) (EP X pins σ Q) X.xe s
noncomputable def CallR (X : Cx) (f : Value) (r : List V → Hp → VK → Prop) : Prop :=
  ∀ (pins : List (Addr × Obj)) (s : Shared) (σ : St) (H : Hp) (xs : List V) (us : List Value) (Q : VK), Inv X pins σ H s → Vals xs us → r xs H Q →
    wpAny (model X.prog X.w) X.A (call f us) (EP X pins σ Q) X.xe s
noncomputable def tOp (r : R2) (ta tb : TE) : TE := fun σ H Q => ta σ H fun x H1 => tb σ H1 fun y H2 => r x y H2 Q
noncomputable def tUn (r : V → Hp → VK → Prop) (ta : TE) : TE := fun σ H Q => ta σ H fun x H1 => r x H1 Q
noncomputable def rI (C : Int → Int → Prop) (g : Int → Int → V) : R2 := fun x y H Q => ∃ i j, x = .int i ∧ y = .int j ∧ C i j ∧ Q (g i j) H
noncomputable def rI0 (g : Int → Int → V) : R2 := fun x y H Q => ∃ i j, x = .int i ∧ y = .int j ∧ Q (g i j) H
noncomputable def rU (g : Int → V) : V → Hp → VK → Prop := fun x H Q => ∃ i, x = .int i ∧ Q (g i) H

section
variable {X : Cx} {a b c : Expr} {ta tb tc : TE} {pos : Pos}

theorem binT (ha : PE X a ta) (hb : PE X b tb) {pins : List (Addr × Obj)} {s : Shared} {σ : St} {H : Hp} {R : V → V → Hp → Prop} (I : Inv X pins σ H s)
    (h : ta σ H fun x H1 => tb σ H1 fun y H2 => R x y H2) {Q : Value → Shared → Prop} {f : Value → Value → Sem Value}
    (hf : ∀ v u s2 x y H2, Inv X pins σ H2 s2 → RelV x v → RelV y u → R x y H2 → wpAny (model X.prog X.w) X.A (f v u) Q X.xe s2) :
    wpAny (model X.prog X.w) X.A (eval a X.env) (fun v s₁ => wpAny (model X.prog X.w) X.A (eval b X.env) (fun u s₂ => wpAny (model X.prog X.w) X.A (f v u) Q X.xe s₂) X.xe s₁) X.xe s := by
  refine thn (ha pins s σ H _ I h) fun v s1 ⟨x, H1, I1, r1, q1⟩ => ?_
  refine thn (hb pins s1 σ H1 _ I1 q1) fun u s2 ⟨y, H2, I2, r2, q2⟩ => ?_
  exact hf v u s2 x y H2 I2 r1 r2 q2

theorem pe_op {op : Operator} {r : R2} (ho : OpR X (binaryOp op) r) (ha : PE X a ta) (hb : PE X b tb) : PE X (.BinOp a op b pos) (tOp r ta tb) := by
  intro pins s σ H Q I h
  exact wpAny_BinOp (binT ha hb I h fun v u s2 x y H2 I2 rx ry q => ho pins s2 σ H2 x y v u Q I2 rx ry q)
theorem pe_un {op : UnaryOp} {r : V → Hp → VK → Prop} (ho : UnR X (unaryOp op) r) (ha : PE X a ta) : PE X (.UnaryOp op a pos) (tUn r ta) := by
  intro pins s σ H Q I h
  exact UnaryOp_ (thn (ha pins s σ H _ I h) fun v s1 ⟨x, H1, I1, r1, q1⟩ => ho pins s1 σ H1 x v Q I1 r1 q1)
theorem opI {f : Value → Value → Sem Value} {C : Int → Int → Prop} {g : Int → Int → Int}
    (rule : ∀ (i j : Int) (t u : Tok) (s : Shared) (Q : Value → Shared → Prop) (E : Value → Shared → Prop), C i j → Q (.int (g i j) s.toks) { s with toks := s.toks + 1 } → wpAny (model X.prog X.w) X.A (f (.int i t) (.int j u)) Q E s) :
    OpR X f (rI C fun i j => .int (g i j)) := by
  intro pins s σ H x y v u Q I rx ry h
  obtain ⟨i, j, rfl, rfl, hc, q⟩ := h
  obtain ⟨t, rfl⟩ := rx
  obtain ⟨t', rfl⟩ := ry
  exact rule i j t t' s _ _ hc ⟨.int (g i j), H, I.tok _, ⟨_, rfl⟩, q⟩
theorem opI0 {f : Value → Value → Sem Value} {g : Int → Int → Int}
    (rule : ∀ (i j : Int) (t u : Tok) (s : Shared) (Q : Value → Shared → Prop) (E : Value → Shared → Prop), Q (.int (g i j) s.toks) { s with toks := s.toks + 1 } → wpAny (model X.prog X.w) X.A (f (.int i t) (.int j u)) Q E s) :
    OpR X f (rI0 fun i j => .int (g i j)) := by
  intro pins s σ H x y v u Q I rx ry h
  obtain ⟨i, j, rfl, rfl, q⟩ := h
  obtain ⟨t, rfl⟩ := rx
  obtain ⟨t', rfl⟩ := ry
  exact rule i j t t' s _ _ ⟨.int (g i j), H, I.tok _, ⟨_, rfl⟩, q⟩
theorem opB0 {f : Value → Value → Sem Value} {g : Int → Int → Bool}
    (rule : ∀ (i j : Int) (t u : Tok) (s : Shared) (Q : Value → Shared → Prop) (E : Value → Shared → Prop), Q (.bool (g i j)) s → wpAny (model X.prog X.w) X.A (f (.int i t) (.int j u)) Q E s) :
    OpR X f (rI0 fun i j => .bl (g i j)) := by
  intro pins s σ H x y v u Q I rx ry h
  obtain ⟨i, j, rfl, rfl, q⟩ := h
  obtain ⟨t, rfl⟩ := rx
  obtain ⟨t', rfl⟩ := ry
  exact rule i j t t' s _ _ ⟨.bl (g i j), H, I, rfl, q⟩

noncomputable def CDiv (i j : Int) : Prop := 0 < j ∧ j < 1073741824
noncomputable def CPow (i j : Int) : Prop := 0 ≤ j ∧ j ≤ 1000000 ∧ i.natAbs < 2 ^ 64
noncomputable def CMul (i j : Int) : Prop := (-(2 ^ 64) < i ∧ i < 2 ^ 64) ∨ (-(2 ^ 64) < j ∧ j < 2 ^ 64)
theorem CMul.ok {i j : Int} (h : CMul i j) : IntMulOk i j := by
  rcases h with ⟨h1, h2⟩ | ⟨h1, h2⟩
  · exact .of_left (intBits_le_64 h1 h2)
  · exact .of_right (intBits_le_64 h1 h2)
theorem op_add : OpR X (binaryOp .Add) (rI0 fun i j => .int (i + j)) := opI0 fun _ _ _ _ _ _ _ q => add_int q
theorem op_sub : OpR X (binaryOp .Sub) (rI0 fun i j => .int (i - j)) := opI0 fun _ _ _ _ _ _ _ q => sub_int q
theorem op_mul : OpR X (binaryOp .Mult) (rI CMul fun i j => .int (i * j)) := opI fun _ _ _ _ _ _ _ hc q => mul_int q hc.ok
theorem op_fdiv : OpR X (binaryOp .FloorDiv) (rI CDiv fun i j => .int (i / j)) := opI fun i j _ _ _ _ _ hc q => by
  have h1 : (0 : Int) < j := hc.1
  have h2 : j < 1073741824 := hc.2
  exact floordiv_int (by omega) (by rw [Int.fdiv_eq_ediv_of_nonneg i (by omega)]; exact q) (.inl (PyProof.noPylong_small (by omega)))
theorem op_mod : OpR X (binaryOp .Mod) (rI (fun _ j => 0 < j) fun i j => .int (i % j)) := opI fun i j _ _ _ _ _ hc q => by
  have h1 : (0 : Int) < j := hc
  exact mod_int' (by omega) (by rw [Int.fmod_eq_emod_of_nonneg i (by omega)]; exact q)
theorem op_pow : OpR X (binaryOp .Pow) (rI CPow fun i j => .int (i ^ j.toNat)) := opI fun _ _ _ _ _ _ _ hc q => pow_int_small hc.1 hc.2.1 hc.2.2 q
theorem unI {f : Value → Sem Value} {g : Int → Int}
    (rule : ∀ (i : Int) (t : Tok) (s : Shared) (Q : Value → Shared → Prop) (E : Value → Shared → Prop), Q (.int (g i) s.toks) { s with toks := s.toks + 1 } → wpAny (model X.prog X.w) X.A (f (.int i t)) Q E s) :
    UnR X f (rU fun i => .int (g i)) := by
  intro pins s σ H x v Q I rx h
  obtain ⟨i, rfl, q⟩ := h
  obtain ⟨t, rfl⟩ := rx
  exact rule i t s _ _ ⟨.int (g i), H, I.tok _, ⟨_, rfl⟩, q⟩
theorem un_neg : UnR X (unaryOp .USub) (rU fun i => .int (-i)) := unI fun _ _ _ _ _ q => neg_int q
end

noncomputable def scal : V → V → Bool
  | .non, .non => true | .non, .int _ => true | .int _, .non => true | .non, .bl _ => true | .bl _, .non => true | .non, .str _ => true | .str _, .non => true
  | .int _, .int _ => true | .bl _, .bl _ => true | .str _, .str _ => true | .byt _, .byt _ => true
  | .int _, .str _ => true | .str _, .int _ => true | .bl _, .str _ => true | .str _, .bl _ => true
  | _, _ => false
noncomputable def rEq : R2 := fun x y H Q => scal x y = true ∧ Q (.bl (decide (x = y))) H
noncomputable def rNe : R2 := fun x y H Q => scal x y = true ∧ Q (.bl (!decide (x = y))) H

theorem dec_int {i j : Int} : decide (V.int i = V.int j) = (i == j) := by
  rw [Bool.eq_iff_iff]
  simp
theorem dec_bl {i j : Bool} : decide (V.bl i = V.bl j) = (i == j) := by
  rw [Bool.eq_iff_iff]
  simp
theorem dec_str {i j : Str} : decide (V.str i = V.str j) = (i == j) := by
  rw [Bool.eq_iff_iff]
  simp
theorem dec_byt {i j : Array UInt8} : decide (V.byt i = V.byt j) = (i.toList == j.toList) := by
  rw [Bool.eq_iff_iff]
  cases i
  cases j
  simp

section
variable {X : Cx} {a b c : Expr} {ta tb tc : TE} {pos : Pos}
theorem fin_bl {pins : List (Addr × Obj)} {σ : St} {H : Hp} {s : Shared} {Q : VK} {k k' : Bool} (I : Inv X pins σ H s) (q : Q (.bl k) H) (e : k = k') : EP X pins σ Q (.bool k') s := by
  subst e
  exact ⟨.bl k, H, I, rfl, q⟩
theorem op_eq : OpR X (compareOp .Eq) rEq := by
  intro pins s σ H x y v u Q I rx ry h
  obtain ⟨hs, q⟩ := h
  cases x with
  | non =>
    cases rx
    cases y with
    | non => cases ry; exact PySem.EqNone.eq_none_none (fin_bl I q (by simp))
    | bl j => cases ry; exact PySem.EqNone.eq_none_bool (fin_bl I q (by simp))
    | int j => obtain ⟨t', rfl⟩ := ry; exact PySem.EqNone.eq_none_int (fin_bl I q (by simp))
    | str j => obtain ⟨t', rfl⟩ := ry; exact PySem.EqNone.eq_none_str (fin_bl I q (by simp))
    | _ => exact absurd (show false = true from hs) Bool.false_ne_true
  | bl i =>
    cases rx
    cases y with
    | non => cases ry; exact PySem.EqNone.eq_bool_none (fin_bl I q (by simp))
    | bl j => cases ry; exact eq_bool (fin_bl I q dec_bl)
    | str j => obtain ⟨t', rfl⟩ := ry; exact PySem.EqMixed.eq_bool_str (fin_bl I q (by simp))
    | _ => exact absurd (show false = true from hs) Bool.false_ne_true
  | int i =>
    obtain ⟨t, rfl⟩ := rx
    cases y with
    | non => cases ry; exact PySem.EqNone.eq_int_none (fin_bl I q (by simp))
    | int j => obtain ⟨t', rfl⟩ := ry; exact eq_int (fin_bl I q dec_int)
    | str j => obtain ⟨t', rfl⟩ := ry; exact PySem.EqMixed.eq_int_str (fin_bl I q (by simp))
    | _ => exact absurd (show false = true from hs) Bool.false_ne_true
  | str i =>
    obtain ⟨t, rfl⟩ := rx
    cases y with
    | non => cases ry; exact PySem.EqNone.eq_str_none (fin_bl I q (by simp))
    | bl j => cases ry; exact PySem.EqMixed.eq_str_bool (fin_bl I q (by simp))
    | int j => obtain ⟨t', rfl⟩ := ry; exact PySem.EqMixed.eq_str_int (fin_bl I q (by simp))
    | str j => obtain ⟨t', rfl⟩ := ry; exact eq_str (fin_bl I q dec_str)
    | _ => exact absurd (show false = true from hs) Bool.false_ne_true
  | byt i =>
    obtain ⟨t, rfl⟩ := rx
    cases y with
    | byt j => obtain ⟨t', rfl⟩ := ry; exact PySem.W.eq_bytes (fin_bl I q dec_byt)
    | _ => exact absurd (show false = true from hs) Bool.false_ne_true
  | _ => cases y <;> exact absurd (show false = true from hs) Bool.false_ne_true
theorem op_ne : OpR X (compareOp .NotEq) rNe := by
  intro pins s σ H x y v u Q I rx ry h
  obtain ⟨hs, q⟩ := h
  cases x with
  | non =>
    cases rx
    cases y with
    | non => cases ry; exact PySem.EqNone.ne_none_none (fin_bl I q (by simp))
    | bl j => cases ry; exact PySem.EqNone.ne_none_bool (fin_bl I q (by simp))
    | int j => obtain ⟨t', rfl⟩ := ry; exact PySem.EqNone.ne_none_int (fin_bl I q (by simp))
    | str j => obtain ⟨t', rfl⟩ := ry; exact PySem.EqNone.ne_none_str (fin_bl I q (by simp))
    | _ => exact absurd (show false = true from hs) Bool.false_ne_true
  | bl i =>
    cases rx
    cases y with
    | non => cases ry; exact PySem.EqNone.ne_bool_none (fin_bl I q (by simp))
    | bl j => cases ry; exact ne_bool (fin_bl I q (congrArg not dec_bl))
    | str j => obtain ⟨t', rfl⟩ := ry; exact PySem.EqMixed.ne_bool_str (fin_bl I q (by simp))
    | _ => exact absurd (show false = true from hs) Bool.false_ne_true
  | int i =>
    obtain ⟨t, rfl⟩ := rx
    cases y with
    | non => cases ry; exact PySem.EqNone.ne_int_none (fin_bl I q (by simp))
    | int j => obtain ⟨t', rfl⟩ := ry; exact ne_int (fin_bl I q (congrArg not dec_int))
    | str j => obtain ⟨t', rfl⟩ := ry; exact PySem.EqMixed.ne_int_str (fin_bl I q (by simp))
    | _ => exact absurd (show false = true from hs) Bool.false_ne_true
  | str i =>
    obtain ⟨t, rfl⟩ := rx
    cases y with
    | non => cases ry; exact PySem.EqNone.ne_str_none (fin_bl I q (by simp))
    | bl j => cases ry; exact PySem.EqMixed.ne_str_bool (fin_bl I q (by simp))
    | int j => obtain ⟨t', rfl⟩ := ry; exact PySem.EqMixed.ne_str_int (fin_bl I q (by simp))
    | str j => obtain ⟨t', rfl⟩ := ry; exact ne_str (fin_bl I q (congrArg not dec_str))
    | _ => exact absurd (show false = true from hs) Bool.false_ne_true
  | byt i =>
    obtain ⟨t, rfl⟩ := rx
    cases y with
    | byt j => obtain ⟨t', rfl⟩ := ry; exact PySem.W.ne_bytes (fin_bl I q (congrArg not dec_byt))
    | _ => exact absurd (show false = true from hs) Bool.false_ne_true
  | _ => cases y <;> exact absurd (show false = true from hs) Bool.false_ne_true

theorem op_lt : OpR X (compareOp .Lt) (rI0 fun i j => .bl (decide (i < j))) := opB0 fun _ _ _ _ _ _ _ q => lt_int q
theorem op_gt : OpR X (compareOp .Gt) (rI0 fun i j => .bl (decide (j < i))) := opB0 fun _ _ _ _ _ _ _ q => gt_int q
theorem op_ge : OpR X (compareOp .GtE) (rI0 fun i j => .bl (decide (j ≤ i))) := opB0 fun _ _ _ _ _ _ _ q => ge_int q
theorem nomark (b : Expr) {op : CmpOp} (h : op ≠ .In := by decide) (h2 : op ≠ .NotIn := by decide) : behindInMarks op b = false := by
  have e1 : (op == CmpOp.In) = false := by cases op <;> first | rfl | exact absurd rfl h
  have e2 : (op == CmpOp.NotIn) = false := by cases op <;> first | rfl | exact absurd rfl h2
  cases b <;> simp [behindInMarks, e1, e2]
theorem pe_cmpR {op : CmpOp} {r : R2} (ho : OpR X (compareOp op) r) (ha : PE X a ta) (hb : PE X b tb) (hm : behindInMarks op b = false) : PE X (.Compare a [op] [b] pos) (tOp r ta tb) := by
  intro pins s σ H Q I h
  exact wpAny_Compare1 (binT ha hb I h fun v u s2 x y H2 I2 rx ry q => ho pins s2 σ H2 x y v u Q I2 rx ry q) hm
noncomputable def tTest (t : TE) : TT := fun σ H Q => t σ H fun x H' => ∃ k, x = .bl k ∧ Q k H'
theorem pt_cmpR {op : CmpOp} {r : R2} (ho : OpR X (compareOp op) r) (ha : PE X a ta) (hb : PE X b tb) (hm : behindInMarks op b = false) : PT X (.Compare a [op] [b] pos) (tTest (tOp r ta tb)) := by
  intro pins s σ H Q I h
  refine wpAny_isTrue_Compare1 (thn (ha pins s σ H _ I h) fun v s1 ⟨x, H1, I1, r1, q1⟩ => thn (hb pins s1 σ H1 _ I1 q1) fun u s2 ⟨y, H2, I2, r2, q2⟩ =>
    thn (ho pins s2 σ H2 x y v u _ I2 r1 r2 q2) fun c s3 ⟨z, H3, I3, r3, k, e, q3⟩ => ?_) hm
  subst e
  cases r3
  exact wpAny_truthy_bool ⟨H3, I3, q3⟩
theorem line63 : (sizeLine : Nat) < 2 ^ 63 := by rw [sizeLine_eq]; decide
theorem vals1 {x : V} {us : List Value} (r : Vals [x] us) : ∃ u, us = [u] ∧ RelV x u := by
  cases r with
  | cons r1 r2 => cases r2; exact ⟨_, rfl, r1⟩
theorem vals2 {x y : V} {us : List Value} (r : Vals [x, y] us) : ∃ u w', us = [u, w'] ∧ RelV x u ∧ RelV y w' := by
  cases r with
  | cons r1 r2 =>
    cases r2 with
    | cons r3 r4 => cases r4; exact ⟨_, _, rfl, r1, r3⟩
theorem call_abs : CallR X (.builtin "abs") (fun xs H Q => ∃ i, xs = [.int i] ∧ Q (.int (if i < 0 then -i else i)) H) := by
  intro pins s σ H xs us Q I r h
  obtain ⟨i, rfl, q⟩ := h
  obtain ⟨u, rfl, t, rfl⟩ := vals1 r
  exact call_abs_int fun u tk => ⟨.int (if i < 0 then -i else i), H, I.tok _, ⟨_, rfl⟩, q⟩
theorem call_min2 (hc : X.calm = true) : CallR X (.builtin "min") (fun xs H Q => ∃ i j, xs = [.int i, .int j] ∧ Q (.int (if j < i then j else i)) H) := by
  intro pins s σ H xs us Q I r h
  obtain ⟨i, j, rfl, q⟩ := h
  obtain ⟨u, w', rfl, ⟨t, rfl⟩, ⟨t', rfl⟩⟩ := vals2 r
  refine min_two_ints (I.ok.hd hc) fun h' tk k => ⟨_, H, I.kept k, ?_, q⟩
  by_cases hj : j < i
  · rw [if_pos hj, if_pos hj]; exact ⟨_, rfl⟩
  · rw [if_neg hj, if_neg hj]; exact ⟨_, rfl⟩
theorem call_int1 : CallR X (.type "int") (fun xs H Q => (∃ i, xs = [.int i] ∧ Q (.int i) H) ∨ ∃ k, xs = [.bl k] ∧ Q (.int (if k then 1 else 0)) H) := by
  intro pins s σ H xs us Q I r h
  rcases h with ⟨i, rfl, q⟩ | ⟨k, rfl, q⟩
  · obtain ⟨u, rfl, t, rfl⟩ := vals1 r
    exact call_int_int ⟨.int i, H, I, ⟨_, rfl⟩, q⟩
  · obtain ⟨u, rfl, r1⟩ := vals1 r
    cases r1
    exact call_int_bool ⟨.int (if k then 1 else 0), H, I.tok _, ⟨_, rfl⟩, q⟩
end
end L2

namespace L2
open PySem PySem.Spec PyProof.Rows

structure ObjM (h : Heap) (x dx C : Addr) (mA : Str → Option Value) : Prop where
  obj : h.get? x = some (PySem.W.instObj C dx)
  ns : h.Ns1 dx mA
  ne : dx ≠ x

theorem lookIn_ns {h : Heap} {dx : Addr} {mA : Str → Option Value} (n : h.Ns1 dx mA) : ∃ od, h.get? dx = some od ∧ ∀ name, PySem.W.lookIn name od = some (mA name) := by
  obtain ⟨o, es, ep, ho, hd, hk, _, hm⟩ := n
  refine ⟨o, ho, fun name => ?_⟩
  have e := hm name
  unfold nsFind findBy at e
  rw [← Array.find?_toList] at e
  unfold PySem.W.lookIn
  rw [hd]
  dsimp only
  split
  · rename_i y q
    rw [q] at e
    exact congrArg some e
  · rename_i q
    rw [q] at e
    have a : es.toList.any (·.refKey) = false := by
      rw [List.any_eq_false]
      intro y hy
      obtain ⟨z, t, hkey⟩ := hk y (Array.mem_toList_iff.mp hy)
      simp [DictEntry.refKey, hkey]
    have a' : ¬ es.toList.any (·.refKey) = true := by rw [a]; exact Bool.false_ne_true
    rw [if_neg a']
    exact congrArg some e

theorem ObjM.look {h : Heap} {x dx C : Addr} {mA : Str → Option Value} (I : ObjM h x dx C mA) : ∃ od, PySem.W.InstAt h x (PySem.W.instObj C dx) C (some od) ∧ ∀ name, PySem.W.lookIn name od = some (mA name) :=
  let ⟨od, ho, hl⟩ := lookIn_ns I.ns
  ⟨od, ⟨I.obj, rfl, rfl, ho⟩, hl⟩

section
variable {prog : Program} {w : World} {A : Around} {E : Value → Shared → Prop} {s : Shared} {K : PySem.W.Frag} {x dx C f : Addr} {mA : Str → Option Value} {name : Str} {v : Value}

end

section
variable {P : Program} {w : World} {H H' : Hp} {h h' : Heap} {a C dx : Addr} {fs fs' : List (Str × V)}
theorem ins_get (hok : HOk P w H h) (e : H a = some (.ins C dx fs)) : ∃ mA, ObjM h a dx C mA ∧ (∀ f, RelO (fs.lookup f) (mA f)) ∧ PySem.Within mA (fs.map (·.1)) ∧ fs.length ≤ 1000 ∧ H dx = some (.own a) := by
  obtain ⟨d, z, ne, ob, mA, n, r, q⟩ := (show ObjOk P w H h a (.ins C dx fs) from hok a _ e)
  exact ⟨mA, ⟨ob, n, ne⟩, r, q, z, d⟩
end

structure Cls (K : PySem.W.Frag) (C : Addr) : Prop where
  pg : PySem.W.plainGet K C Str.empty = true
  hd : PySem.W.hasDictIn K C = true
  po : PySem.W.plainOver K C = true
  sa : PySem.W.findIn K (.ref C) "__setattr__" = some (some (.builtin "object.__setattr__"))
theorem Cls.get {K : PySem.W.Frag} {C : Addr} (c : Cls K C) (f : Str) : PySem.W.plainGet K C f = true := c.pg
section
variable {X : Cx} {pins : List (Addr × Obj)} {σ : St} {H : Hp} {s : Shared} {a C dx : Addr} {fs : List (Str × V)} {f : Str} {v : V} {A : Around} {E : Value → Shared → Prop}

end

section
variable {X : Cx} {o e value : Expr} {f : Str} {pos pos' tpos : Pos} {ta tv : TE}
end

section
variable {X : Cx} {pins : List (Addr × Obj)} {σ : St} {H : Hp} {s : Shared} {A : Around} {E : Value → Shared → Prop} {Q : Value → Shared → Prop} {c : Value} {b : Bool}
inductive TyOf (K : PySem.W.Frag) (H : Hp) : V → Value → Prop where
  | non : TyOf K H .non (.type "NoneType")
  | bl (x : Bool) : TyOf K H (.bl x) (.type "bool")
  | int (i : Int) : TyOf K H (.int i) (.type "int")
  | str (x : Str) : TyOf K H (.str x) (.type "str")
  | flt (x : UInt64) : TyOf K H (.flt x) (.type "float")
  | lst {a : Addr} {xs : List V} (e : H a = some (.lst xs)) : TyOf K H (.ref a) (.type "list")
  | frz {a : Addr} {o : Obj} {xs : List V} (e : H a = some (.frz o (.lst xs))) : TyOf K H (.ref a) (.type "list")
  | tup {a : Addr} {xs : List V} (e : H a = some (.tup xs)) : TyOf K H (.ref a) (.type "tuple")
  | dK {a : Addr} {kvs : List (Key × V)} (e : H a = some (.dK kvs)) : TyOf K H (.ref a) (.type "dict")
  | dT {a : Addr} {kvs : List (List Key × V)} (e : H a = some (.dT kvs)) : TyOf K H (.ref a) (.type "dict")
  | ins {a C dx : Addr} {fs : List (Str × V)} (e : H a = some (.ins C dx fs)) (cl : Cls K C) (ha : PySem.W.findIn K (.ref C) "__class__" = some (some (.builtin "object.__class__")))
      (hn : PySem.W.specialIn K (.builtin "object.__class__") "__get__" = some (some (.builtin "getset_descriptor.__get__"))) (htk : PySem.W.takesIn K (.builtin "object.__class__") = some true)
      (hm : PySem.W.mroIn K C (.type "object") = some true) : TyOf K H (.ref a) (.ref C)
theorem isinst_ok {x : V} {u t : Value} (I : Inv X pins σ H s) (rx : RelV x u) (ty : TyOf X.K H x t) (e : PySem.W.kitOne X.K t c = some b) (h : ∀ tk, Q (.bool b) { s with toks := tk }) :
    wpAny (model X.prog X.w) A (call (.builtin "isinstance") [u, c]) Q E s := by
  cases ty with
  | non => cases (show u = Value.none from rx); exact PySem.W.kia_one PySem.W.kitx_none I.kIn True.intro e (fun z => nomatch z) h
  | bl y => cases (show u = Value.bool y from rx); exact PySem.W.kia_one PySem.W.kitx_bool I.kIn True.intro e (fun z => nomatch z) h
  | int i => obtain ⟨t, q⟩ := (show ∃ t, u = Value.int i t from rx); cases q; exact PySem.W.kia_one PySem.W.kitx_int I.kIn True.intro e (fun z => nomatch z) h
  | str y => obtain ⟨t, q⟩ := (show ∃ t, u = Value.str y t from rx); cases q; exact PySem.W.kia_one PySem.W.kitx_str I.kIn True.intro e (fun z => nomatch z) h
  | flt y => obtain ⟨t, q⟩ := (show ∃ t, u = Value.float y t from rx); cases q; exact PySem.W.kia_one PySem.W.kitx_float I.kIn True.intro e (fun z => nomatch z) h
  | @lst a xs ea =>
    cases (show u = Value.ref a from rx)
    obtain ⟨_, _, n, _, h1⟩ := (show ObjOk X.prog X.w H s.heap a (.lst xs) from I.hok a _ ea)
    exact PySem.W.kia_one PySem.W.kitx_list I.kIn ⟨_, h1, rfl⟩ e (fun z => nomatch z) h
  | @frz a ob xs ea =>
    cases (show u = Value.ref a from rx)
    obtain ⟨_, _, _, n, _, h1⟩ := (show ObjOk X.prog X.w H s.heap a (.frz ob (.lst xs)) from I.hok a _ ea)
    exact PySem.W.kia_one PySem.W.kitx_list I.kIn ⟨_, h1, rfl⟩ e (fun z => nomatch z) h
  | @tup a xs ea =>
    cases (show u = Value.ref a from rx)
    obtain ⟨_, _, _, p⟩ := (show ObjOk X.prog X.w H s.heap a (.tup xs) from I.hok a _ ea)
    obtain ⟨o, h1, h2, _⟩ := p.tup
    exact PySem.W.kia_one PySem.W.kitx_tuple I.kIn ⟨o, h1, h2⟩ e (fun z => nomatch z) h
  | @dK a kvs ea =>
    cases (show u = Value.ref a from rx)
    obtain ⟨_, _, vs, _, p⟩ := (show ObjOk X.prog X.w H s.heap a (.dK kvs) from I.hok a _ ea)
    obtain ⟨o, es, ep, h1, h2, _⟩ := p
    exact PySem.W.kia_one PySem.W.kitx_dict I.kIn ⟨o, h1, h2.1⟩ e (fun z => nomatch z) h
  | @dT a kvs ea =>
    cases (show u = Value.ref a from rx)
    obtain ⟨_, _, xs, _, o, es, ep, h1, h2, _⟩ := (show ObjOk X.prog X.w H s.heap a (.dT kvs) from I.hok a _ ea)
    exact PySem.W.kia_one PySem.W.kitx_dict I.kIn ⟨o, h1, h2.1⟩ e (fun z => nomatch z) h
  | @ins a C dx fs ea cl ha hn htk hm =>
    cases (show u = Value.ref a from rx)
    obtain ⟨mA, O, _⟩ := ins_get I.hok ea
    obtain ⟨od, J, _⟩ := O.look
    exact PySem.W.kia_one (PySem.W.kitx_own (cl.get _) cl.hd ha hn htk hm) I.kIn J e (fun z => nomatch z) h
end
end L2

namespace L2
open PySem PySem.Spec PyProof.Rows

structure Room (k : Nat) (A : Around) : Prop where
  hd : A.handled = none
  dp : A.depth + 3 * k + 5 < recursionLimit
  un : A.units + 16 * k + 200 < cLine
  gd : A.guards = some []
theorem Room.mono {j k : Nat} {A : Around} (r : Room k A) (h : j ≤ k) : Room j A := ⟨r.hd, by have := r.dp; omega, by have := r.un; omega, r.gd⟩
theorem Room.deeper {k : Nat} {A : Around} (r : Room (k + 1) A) (env : Env) : Room k (A.deeper env) :=
  ⟨r.hd, by have := r.dp; show A.depth + 1 + 3 * k + 5 < _; omega, by have := r.un; show A.units + 3 + 16 * k + 200 < _; omega, r.gd⟩
theorem Room.depth {k : Nat} {A : Around} (r : Room k A) : A.depth < recursionLimit := by have := r.dp; omega
theorem Room.units {k : Nat} {A : Around} (r : Room k A) : A.units + 64 < cLine := by have := r.un; omega
noncomputable def tNil : TA := fun _ H Q => Q [] H
noncomputable def tCons (ta : TE) (tr : TA) : TA := fun σ H Q => ta σ H fun x H1 => tr σ H1 fun xs H2 => Q (x :: xs) H2
section
variable {X : Cx} {e : Expr} {es : List Expr} {te : TE} {t : TA} {pos : Pos}
theorem pa_nil : PA X [] tNil := fun _ _ _ _ H Q I h => Calls.spliced_nil ⟨[], H, I, .nil, h⟩
theorem pa_cons (ha : PE X e te) (hr : PA X es t) (hs : starEach (e :: es) X.env = (false, eval e X.env) :: starEach es X.env := by rfl) : PA X (e :: es) (tCons te t) := by
  intro pos pins s σ H Q I h
  rw [hs]
  show wpAny _ _ (spliced ((false, eval e X.env) :: backTo pos (starEach es X.env))) _ _ s
  refine Calls.spliced_cons (thn (ha pins s σ H _ I h) fun u s1 ⟨x, H1, I1, r1, q1⟩ => ?_)
  exact thn (hr pos pins s1 σ H1 _ I1 q1) fun us s2 ⟨xs, H2, I2, r2, q2⟩ => ⟨x :: xs, H2, I2, .cons r1 r2, q2⟩

noncomputable def tTup (t : TA) : TE := fun σ H Q => t σ H fun xs H1 => xs.length ≤ sizeLine ∧ ∀ p, H1 p = none → Q (.ref p) (upd H1 p (.tup xs))
theorem pe_tup {x1} (h : PA X es t) : PE X (.Tuple es x1 pos) (tTup t) := by
  intro pins s σ H Q I hq
  refine wpAny_Tuple_spliced (thn (h pos pins s σ H _ I hq) fun us s1 ⟨xs, H1, I1, r, z, q⟩ => ⟨by rw [← r.length]; exact z, ?_⟩)
  have hf : H1 s1.heap.objs.size = none := I1.hok.fresh (Nat.le_refl _)
  refine ⟨.ref s1.heap.objs.size, upd H1 s1.heap.objs.size (.tup xs), I1.laid (t' := s1.toks) (fun b u e => Heap.get?_push_of_some _ e) (Nat.le_refl _) ?_, rfl, q _ hf⟩
  exact ⟨z, us, r, ⟨_, Heap.get?_push_size _ rfl, rfl, _, rfl⟩⟩
end

noncomputable abbrev Sp := List V → Hp → VK → XK → Prop
noncomputable abbrev CXT := List Env → Hp → Shared → XK → Value → Shared → Prop

structure Env0 (P : Program) (w : World) (K : PySem.W.Frag) (mg : Str → Option Value) (base : Heap) (A : Around) (outer : List Env) (s : Shared) (H : Hp) : Prop where
  frames : A.frames = some outer
  mod : Mod K mg base
  bs : ∀ b o, base.get? b = some o → s.heap.get? b = some o ∧ H b = none
  bsz : base.objs.size ≤ s.heap.objs.size
  funs : s.heap.FunFrames base outer
  frf : ∀ b ∈ frs outer, H b = none
  hok : HOk P w H s.heap
  bare : AllBare s.gens
noncomputable def CE (outer : List Env) (P : Program) (w : World) (H : Hp) (s : Shared) (Q : VK) (u : Value) (s' : Shared) : Prop :=
  ∃ v H', s'.os = s.os ∧ AllBare s'.gens ∧ Un (frs outer) [] H H' s.heap s'.heap ∧ HOk P w H' s'.heap ∧ RelV v u ∧ Q v H'
noncomputable def CR (CX : CXT) (outer : List Env) (P : Program) (w : World) (H : Hp) (s : Shared) (Q : VK) (E : XK) (r : Result) (s' : Shared) : Prop :=
  match r with
  | .ok (.ret u) => CE outer P w H s Q u s'
  | .ok _ => False
  | .error e => CX outer H s E e s'
structure FnOk (P : Program) (w : World) (K : PySem.W.Frag) (mg : Str → Option Value) (base : Heap) (CX : CXT) (k : Nat) (f : Addr) (fd : FuncData) (ps : List Str) (sp : Sp) : Prop where
  len : ∀ vs H Q E, sp vs H Q E → vs.length = ps.length
  run : ∀ (A : Around) (outer : List Env) (s : Shared) (H : Hp) (args : Args) (us : List Value) (vs : List V) (Q : VK) (E : XK), Room k A → Env0 P w K mg base A outer s H → BindsTo s fd args (ps.zip us) → Vals vs us → sp vs H Q E →
    codeAny (model P w) A (.call (.ref f) args) (CR CX outer P w H s Q E) s
theorem FnOk.imp {P : Program} {w : World} {K : PySem.W.Frag} {mg : Str → Option Value} {base : Heap} {CX : CXT} {k : Nat} {f : Addr} {fd : FuncData} {ps : List Str} {sp sp' : Sp} (F : FnOk P w K mg base CX k f fd ps sp)
    (h : ∀ vs H Q E, sp' vs H Q E → sp vs H Q E) : FnOk P w K mg base CX k f fd ps sp' :=
  ⟨fun vs H Q E q => F.len vs H Q E (h _ _ _ _ q), fun A outer s H args us vs Q E hr he hb hv hs => F.run A outer s H args us vs Q E hr he hb hv (h _ _ _ _ hs)⟩

section
variable {X : Cx} {pins : List (Addr × Obj)} {σ : St} {H : Hp} {s s' : Shared}
theorem Inv.env0 (I : Inv X pins σ H s) : Env0 X.prog X.w X.K X.mg X.base X.A X.stack s H :=
  ⟨I.ok.frames, I.ok.mod, I.bs, Nat.le_trans I.ok.bsz I.sz, I.stack, I.stkFree, I.hok, I.bare⟩
theorem Inv.after {Q : VK} {u : Value} (I : Inv X pins σ H s) (h : CE X.stack X.prog X.w H s Q u s') : EP X pins σ Q u s' := by
  obtain ⟨v, H', os, bare, un, hok, r, q⟩ := h
  obtain ⟨hh, g, d, t, os'⟩ := s'
  obtain rfl : os' = s.os := os
  exact ⟨v, H', I.call (h' := hh) (g' := g) (d' := d) (t' := t) (ch := []) un hok bare (fun b z => absurd z (by simp)), r, q⟩
end

noncomputable def tCall (sp : Sp) (dvs : List V) (E : XK) (t : TA) : TE := fun σ H Q => t σ H fun vs H1 => sp (vs ++ dvs) H1 Q E
noncomputable def Binds (K : PySem.W.Frag) (fd : FuncData) (ps : List Str) (ds : List Value) : Prop :=
  ∀ (s : Shared) (us : List Value), K.In s.heap → (us ++ ds).length = ps.length → BindsTo s fd ⟨us, []⟩ (ps.zip (us ++ ds))
theorem Binds.all {K : PySem.W.Frag} {fd : FuncData} {ps : List Str} (h : ∀ us : List Value, us.length = ps.length → bindArgs fd ⟨us, []⟩ = pure (ps.zip us)) : Binds K fd ps [] := fun s us _ hl => by
  rw [List.append_nil] at hl ⊢
  exact .of_eq (h us hl)

noncomputable def Passes (CX : CXT) (X : Cx) (E : XK) : Prop := ∀ (pins : List (Addr × Obj)) (σ : St) (H : Hp) (s : Shared) (e : Value) (s' : Shared), Inv X pins σ H s → CX X.stack H s E e s' → X.xe e s'

section
variable {X : Cx} {CX : CXT} {k : Nat} {f C : Addr} {fd : FuncData} {ps : List Str} {sp : Sp} {dvs : List V} {ds : List Value} {E : XK} {x m : Str} {p pos apos : Pos} {e o : Expr} {es : List Expr} {ta : TE} {t : TA}

theorem run_fn {pins : List (Addr × Obj)} {σ : St} {H : Hp} {s : Shared} {Q : VK} {us : List Value} {vs : List V} (F : FnOk X.prog X.w X.K X.mg X.base CX k f fd ps sp) (hr : Room k X.A) (hb : Binds X.K fd ps ds) (hd : Vals dvs ds) (hx : Passes CX X E)
    (I : Inv X pins σ H s) (r : Vals vs us) (h : sp (vs ++ dvs) H Q E) : wpAny (model X.prog X.w) X.A (call (.ref f) us) (EP X pins σ Q) X.xe s := by
  have r2 : Vals (vs ++ dvs) (us ++ ds) := r.append hd
  have hl : (us ++ ds).length = ps.length := by rw [← r2.length]; exact F.len _ _ _ _ h
  refine wpAny_call (codeAny_mono (F.run X.A X.stack s H ⟨us, []⟩ (us ++ ds) (vs ++ dvs) Q E hr I.env0 (hb s us I.kIn hl) r2 h) fun r s' hq => ?_)
  cases r with
  | error e => exact hx pins σ H s e s' I hq
  | ok fl =>
    cases fl with
    | ret u => exact I.after hq
    | next => exact False.elim hq
    | brk => exact False.elim hq
    | cont => exact False.elim hq

theorem pe_call (F : FnOk X.prog X.w X.K X.mg X.base CX k f fd ps sp) (hr : Room k X.A) (hg : Gl X x) (hm : X.mg x = some (.ref f)) (hk : PySem.W.keepIn X.K (.ref f) = true) (hb : Binds X.K fd ps ds) (hd : Vals dvs ds) (hx : Passes CX X E)
    (ha : PA X (e :: es) t) (hdb : (x == ("__debug__" : Str)) = false := by decide) (he : starEach (e :: es) X.env = (false, eval e X.env) :: starEach es X.env := by rfl) (hpl : (backTo pos (starEach es X.env)).any (·.1) = false := by rfl) :
    PE X (.Call (.Name x p) (e :: es) [] pos) (tCall sp dvs E t) := by
  intro pins s σ H Q I h
  refine wpAny_Call_Name_kw (ld_glob I hg hm ?_ hdb)
  refine PySem.W.callWith_K (h₀ := X.base) I.ok.mod.kin hk (thn (ha pos pins s σ H _ I h) fun us s1 ⟨vs, H1, I1, r, q⟩ => ⟨I1.kIn, ?_⟩) he hpl
  exact run_fn F hr hb hd hx I1 r q
end

section
variable {X : Cx} {CX : CXT} {k : Nat} {f C : Addr} {fd : FuncData} {ps ks : List Str} {sp : Sp} {E : XK} {x m : Str} {p pos apos kpos : Pos} {e o : Expr} {es : List Expr} {kws : List Keyword} {te ta : TE} {t tk : TA} {nm : Option Str}
variable {g : List Value → List Value → List Value} {gV : List V → List V → List V}
end

structure FnScope (N P : List Str) (sc : Scope) : Prop where
  kind : sc.kind = .function
  co : sc.isCoroutine = false
  gen : sc.isGenerator = false
  nd : N.Nodup
  pre : N.take P.length = P
  par : ∀ x ∈ P, sc.names.lookup x = some .local ∨ sc.names.lookup x = some .cell
  nofree : ∀ y ∈ sc.names, y.2 ≠ .free

theorem bindL_out {kindOf : Str → Option NameKind} {x : Str} : ∀ {binds : List (Str × Value)} {m : Str → Option Value}, (∀ v, (x, v) ∉ binds) → bindL kindOf binds m x = m x
  | [], _, _ => rfl
  | (n, v) :: r, m, h => by
    unfold bindL
    rw [bindL_out fun w hw => h w (List.mem_cons_of_mem _ hw)]
    split
    · have : x ≠ n := by rintro rfl; exact h v List.mem_cons_self
      simp [this]
    · rfl
theorem bindC_out {kindOf : Str → Option NameKind} {x : Str} : ∀ {binds : List (Str × Value)} {m : Str → Option Value}, (∀ v, (x, v) ∉ binds) → bindC kindOf binds m x = m x
  | [], _, _ => rfl
  | (n, v) :: r, m, h => by
    unfold bindC
    rw [bindC_out fun w hw => h w (List.mem_cons_of_mem _ hw)]
    split
    · rfl
    · have : x ≠ n := by rintro rfl; exact h v List.mem_cons_self
      simp [this]
theorem bindL_get {kindOf : Str → Option NameKind} {x : Str} {v : Value} : ∀ {P : List Str} {vs : List Value} {i : Nat} {m : Str → Option Value}, P.Nodup → P[i]? = some x → vs[i]? = some v → kindOf x = some .local →
    bindL kindOf (P.zip vs) m x = some v
  | [], _, _, _, _, h, _, _ => by simp at h
  | _ :: _, [], _, _, _, _, h, _ => by simp at h
  | p :: P, w :: vs, 0, m, nd, h1, h2, hk => by
    simp at h1 h2; subst h1; subst h2
    show bindL kindOf ((p, w) :: P.zip vs) m p = _
    unfold bindL
    rw [bindL_out fun v hv => (List.nodup_cons.mp nd).1 (List.of_mem_zip hv).1, if_pos hk]
    simp
  | p :: P, w :: vs, i + 1, m, nd, h1, h2, hk => by
    show bindL kindOf ((p, w) :: P.zip vs) m x = _
    unfold bindL
    exact bindL_get (i := i) (List.nodup_cons.mp nd).2 (by simpa using h1) (by simpa using h2) hk
theorem bindC_get {kindOf : Str → Option NameKind} {x : Str} {v : Value} : ∀ {P : List Str} {vs : List Value} {i : Nat} {m : Str → Option Value}, P.Nodup → P[i]? = some x → vs[i]? = some v → kindOf x ≠ some .local →
    bindC kindOf (P.zip vs) m x = some v
  | [], _, _, _, _, h, _, _ => by simp at h
  | _ :: _, [], _, _, _, _, h, _ => by simp at h
  | p :: P, w :: vs, 0, m, nd, h1, h2, hk => by
    simp at h1 h2; subst h1; subst h2
    show bindC kindOf ((p, w) :: P.zip vs) m p = _
    unfold bindC
    rw [bindC_out fun v hv => (List.nodup_cons.mp nd).1 (List.of_mem_zip hv).1, if_neg hk]
    simp
  | p :: P, w :: vs, i + 1, m, nd, h1, h2, hk => by
    show bindC kindOf ((p, w) :: P.zip vs) m x = _
    unfold bindC
    exact bindC_get (i := i) (List.nodup_cons.mp nd).2 (by simpa using h1) (by simpa using h2) hk

noncomputable def start (N : List Str) (vs : List V) : St := vs.map some ++ List.replicate (N.length - vs.length) none

noncomputable def cxOf (CX : CXT) (P : Program) (w : World) (K : PySem.W.Frag) (mg : Str → Option Value) (base : Heap) (N : List Str) (qual : Str) (scope : Scope) (f : Addr) (cd : Value) (A : Around) (outer : List Env) (s : Shared) (H : Hp) (E : XK) : Cx where
  prog := P
  w := w
  K := K
  mg := mg
  base := base
  A := A.deeper (envOfC qual scope s.heap.objs.size f cd)
  N := N
  s₀ := s
  H₀ := H
  env := envOfC qual scope s.heap.objs.size f cd
  outer := outer
  stack := envOfC qual scope s.heap.objs.size f cd :: outer
  ex := []
  calm := true
  fn := fun _ => true
  pn := []
  xe := fun e s' => wpAny (model P w) (A.deeper (envOfC qual scope s.heap.objs.size f cd)) (leaving (envOfC qual scope s.heap.objs.size f cd) e) (fun _ s'' => CX outer H s E e s'') (fun e' s'' => CX outer H s E e' s'') s'

theorem cell_has {sc : Scope} {n : Nat} {x : Str} (h : sc.names.lookup x = some .cell) : ∃ c, (cellsFrom n sc.names []).lookup x = some c := by
  have q := PySem.W.cellsFrom_some sc.names n [] (.inl h)
  exact Option.isSome_iff_exists.mp q

theorem inv_start {CX : CXT} {P : Program} {w : World} {K : PySem.W.Frag} {mg : Str → Option Value} {base : Heap} {N ps : List Str} {qual : Str} {scope : Scope} {f : Addr} {cd : Value} {A : Around} {outer : List Env} {s s1 : Shared} {H : Hp} {E : XK} {us : List Value} {vs : List V}
    (S : FnScope N ps scope) (hd : A.handled = none) (e0 : Env0 P w K mg base A outer s H) (hl : vs.length = ps.length) (r : Vals vs us)
    (x : InCallC s s.heap.objs.size (bindL (envOfC qual scope s.heap.objs.size f cd).kindOf (ps.zip us) fun _ => none) (cellsFrom (s.heap.objs.size + 1) scope.names []) (bindC (envOfC qual scope s.heap.objs.size f cd).kindOf (ps.zip us) fun _ => none) s1) :
    Inv (cxOf CX P w K mg base N qual scope f cd A outer s H E) [] (start N vs) H s1 := by
  have hpl : ps.length ≤ N.length := by have := congrArg List.length S.pre; rw [List.length_take] at this; omega
  obtain ⟨h1, tk, rfl, hk⟩ := x.done
  have noA : ∀ b : Addr, b ∉ (cxOf CX P w K mg base N qual scope f cd A outer s H E).ex := fun b z => absurd (show b ∈ ([] : List Addr) from z) (by simp)
  refine ⟨⟨e0.mod, S.kind, rfl, rfl, Nat.le_refl _, fun y z c h1 h2 => ?_, fun y hy => ?_, fun y c _ h => ?_, fun _ => hd, Around.frames_deeper e0.frames, .inr ⟨rfl, rfl⟩, fun b z => absurd z (noA b), e0.bs, e0.bsz, fun b _ _ => noA b, fun b z => absurd z (noA b), e0.funs, e0.frf⟩,
    rfl, e0.bare, Un.kept hk, ⟨_, x.toInCall.ns, fun i y v h1 h2 h3 => ?_⟩, fun y c h => ⟨_, x.cell y c h⟩, e0.hok.fresh (Nat.le_refl _), fun y c h => ?_, fun p hp => absurd (show p ∈ ([] : List (Addr × Obj)) from hp) (by simp), e0.hok.kept hk, ?_⟩
  · exact name_of_addr x.apart (PySem.mem_of_lookup h1) (PySem.mem_of_lookup h2)
  · have hy : scope.names.lookup y = some .cell ∨ scope.names.lookup y = some .free := hy
    rcases hy with hy | hy
    · exact cell_has hy
    · exact absurd rfl (S.nofree _ (PySem.mem_of_lookup hy))
  · exact Nat.le_of_lt (x.above y c (PySem.mem_of_lookup h))
  · have hi : i < vs.length := by
      unfold start at h2
      by_cases hi : i < vs.length
      · exact hi
      · rw [List.getElem?_append_right (by simpa using hi)] at h2
        rw [List.getElem?_replicate] at h2
        split at h2 <;> cases h2
    have ha : vs[i]? = some v := by
      unfold start at h2
      rw [List.getElem?_append_left (by simpa using hi), List.getElem?_map] at h2
      cases e : vs[i]? with
      | none => rw [e] at h2; cases h2
      | some a => rw [e] at h2; cases h2; rfl
    obtain ⟨u, hu, rv⟩ := r.get ha
    have hp : ps[i]? = some y := by
      rw [← S.pre, List.getElem?_take_of_lt (by omega)]; exact h1
    have ndP : ps.Nodup := by rw [← S.pre]; exact S.nd.sublist (List.take_sublist _ _)
    refine ⟨u, rv, ?_⟩
    rcases S.par y (List.mem_of_getElem? hp) with k | k
    · exact .inl ⟨k, bindL_get ndP hp hu k⟩
    · obtain ⟨c, e⟩ := cell_has (n := s.heap.objs.size + 1) k
      refine .inr ⟨.inl k, c, e, ?_⟩
      have q := x.cell y c e
      rw [bindC_get ndP hp hu (by show scope.names.lookup y ≠ _; rw [k]; decide)] at q
      exact q
  · exact e0.hok.fresh (Nat.le_of_lt (x.above y c (PySem.mem_of_lookup h)))
  · unfold start
    show _ = N.length
    rw [List.length_append, List.length_map, List.length_replicate]
    omega

theorem fn_of {CX : CXT} {P : Program} {w : World} {K : PySem.W.Frag} {mg : Str → Option Value} {base : Heap} {k : Nat} {f : Addr} {name qual : Str} {params : Arguments} {body : List Stmt} {scope : Scope} {dV kV doc pm cdv ct oc : Value} {an od : Option Addr}
    {osl : Array (Option Value)} {N ps : List Str} {sp : Sp} (lk : K.lookup f = some ⟨oc, od, .func (PySem.W.fnOf name qual params body scope dV kV doc pm an cdv ct), osl⟩) (hcd : PySem.W.codeIn K cdv qual = true) (S : FnScope N ps scope)
    (len : ∀ vs H Q E, sp vs H Q E → vs.length = ps.length)
    (hbody : ∀ (A : Around) (outer : List Env) (s : Shared) (H : Hp) (vs : List V) (Q : VK) (E : XK), Room k (A.deeper (envOfC qual scope s.heap.objs.size f cdv)) → sp vs H Q E →
      ∃ t, PSs (cxOf CX P w K mg base N qual scope f cdv A outer s H E) body t ∧ t { nx := fun _ H' => Q .non H', rt := Q } (start N vs) H) :
    FnOk P w K mg base CX (k + 1) f (PySem.W.fnOf name qual params body scope dV kV doc pm an cdv ct) ps sp := by
  refine ⟨len, fun A outer s H args us vs Q E hr e0 hb r hsp => ?_⟩
  have hl := len _ _ _ _ hsp
  have KX : K.In s.heap := e0.mod.kin.keeps fun b o e => (e0.bs b o e).1
  have lim : s.heap.NoLimit := e0.mod.nolimit.keeps fun b o e => (e0.bs b o e).1
  have hkind : ∀ y ∈ ps.zip us, scope.names.lookup y.1 = some .local ∨ (scope.names.lookup y.1 = some .cell ∧ ((cellsFrom (s.heap.objs.size + 1) scope.names []).lookup y.1).isSome = true) := fun ⟨n, v⟩ hy => by
    rcases S.par n (List.of_mem_zip hy).1 with q | q
    · exact .inl q
    · exact .inr ⟨q, PySem.W.cellsFrom_some _ _ _ (.inl q)⟩
  refine codeAny_call_function hr.depth (KX _ _ lk) rfl S.co S.gen rfl (PySem.W.codeRec_of KX hcd) (hb _ _ _ _ ?_)
  refine wpAny_newFunctionEnv_cells S.kind hkind fun env he s1 x => ?_
  subst he
  refine ⟨lim.keeps x.toInCall.keep, codeAny_func ?_⟩
  obtain ⟨t, ht, hq⟩ := hbody A outer s H vs Q E (hr.deeper _) hsp
  have I : Inv (cxOf CX P w K mg base N qual scope f cdv A outer s H E) [] (start N vs) H s1 := inv_start S hr.hd e0 hl r x
  refine wpAny_mono (ht [] s1 (start N vs) H _ I hq) (fun fl s' hs => ?_) fun e s' hs => hs
  have fin : ∀ {σ' : St} {H' : Hp} {v : V} {u : Value}, Inv (cxOf CX P w K mg base N qual scope f cdv A outer s H E) [] σ' H' s' → RelV v u → Q v H' → CE outer P w H s Q u s' :=
    fun {σ' H' v u} J rv q => ⟨v, H', J.os, J.bare, J.base, J.hok, rv, q⟩
  cases fl with
  | ret u =>
    obtain ⟨v, σ', H', J, rv, q⟩ := hs
    exact fin J rv q
  | next =>
    obtain ⟨σ', H', J, q⟩ := hs
    exact fin (v := V.non) (u := Value.none) J rfl q
  | brk =>
    obtain ⟨_, _, _, q⟩ := hs
    exact False.elim q
  | cont =>
    obtain ⟨_, _, _, q⟩ := hs
    exact False.elim q
end L2

namespace L2
open PySem PySem.Spec PyProof.Rows
section
variable {X : Cx} {x : Str} {p pos : Pos} {e : Expr} {es : List Expr} {t : TA} {id T : String} {r : List V → Hp → VK → Prop}

noncomputable def tCB (r : List V → Hp → VK → Prop) (t : TA) : TE := fun σ H Q => t σ H fun vs H1 => r vs H1 Q
theorem pe_callB (hc : CallR X (.builtin id) r) (hg : Gl X x) (hm : X.mg x = none) (hv : bootBuiltins x = some (.builtin id)) (ha : PA X (e :: es) t) (hn : x ≠ "__name__" := by decide) (hdb : (x == ("__debug__" : Str)) = false := by decide)
    (he : starEach (e :: es) X.env = (false, eval e X.env) :: starEach es X.env := by rfl) (hpl : (backTo pos (starEach es X.env)).any (·.1) = false := by rfl) : PE X (.Call (.Name x p) (e :: es) [] pos) (tCB r t) := by
  intro pins s σ H Q I h
  refine wpAny_Call_Name_kw (ld_blt I hg hm hv ?_ hn hdb)
  exact PyProof.Rows.callWith_builtin1 (thn (ha pos pins s σ H _ I h) fun us s1 ⟨vs, H1, I1, r1, q1⟩ => hc pins s1 σ H1 vs us Q I1 r1 q1) he hpl
theorem pe_callTy (hc : CallR X (.type T) r) (hg : Gl X x) (hm : X.mg x = none) (hv : bootBuiltins x = some (.type T)) (ha : PA X (e :: es) t) (hn : x ≠ "__name__" := by decide) (hdb : (x == ("__debug__" : Str)) = false := by decide)
    (he : starEach (e :: es) X.env = (false, eval e X.env) :: starEach es X.env := by rfl) (hpl : (backTo pos (starEach es X.env)).any (·.1) = false := by rfl) : PE X (.Call (.Name x p) (e :: es) [] pos) (tCB r t) := by
  intro pins s σ H Q I h
  refine wpAny_Call_Name_kw (ld_blt I hg hm hv ?_ hn hdb)
  exact PyProof.Rows.callWith_type1 (thn (ha pos pins s σ H _ I h) fun us s1 ⟨vs, H1, I1, r1, q1⟩ => hc pins s1 σ H1 vs us Q I1 r1 q1) he hpl
end
end L2

namespace HT
open PySem PyProof.Rows

section
open PySem.SeqAt
open PySem.AutoSeq1 (wpAny_loadPart')
open PySem.MeetsSeq PySem.MeetsSeq2 PySem.MeetsSeq3

end

section
variable {prog : Program} {w : World} {A : Around} {E : Value → Shared → Prop} {s : Shared}

noncomputable def sIx (n d : Nat) : Option Int → Nat
  | none => d
  | some v => if v < 0 then (v + (n : Int)).toNat else min v.toNat n
theorem sIx_none (n d : Nat) : sIx n d none = d := rfl
theorem sIx_nat (n d k : Nat) : sIx n d (some (k : Int)) = min k n := by
  show (if (k : Int) < 0 then ((k : Int) + (n : Int)).toNat else min (k : Int).toNat n) = min k n
  rw [if_neg (by omega), Int.toNat_natCast]
end
end HT

namespace L2
open PySem PySem.Spec PyProof.Rows

noncomputable abbrev TO := St → Hp → (Option Int → Hp → Prop) → Prop
noncomputable def PO (X : Cx) (e : Option Expr) (t : TO) : Prop :=
  ∀ (pins : List (Addr × Obj)) (s : Shared) (σ : St) (H : Hp) (Q : Option Int → Hp → Prop), Inv X pins σ H s → t σ H Q →
    wpAny (model X.prog X.w) X.A (evalPart e X.env) (fun u s' => ∃ o H', Inv X pins σ H' s' ∧ IsPart u o ∧ Q o H') X.xe s
noncomputable def tNoPart : TO := fun _ H Q => Q none H
noncomputable def tPart (t : TE) : TO := fun σ H Q => t σ H fun x H1 => ∃ i, x = .int i ∧ Q (some i) H1

theorem intsAre_of {ns : List Int} : ∀ {us : List Value}, Vals (ns.map V.int) us → IntsAre us ns := by
  induction ns with
  | nil => intro us r; rw [List.map_nil] at r; cases r; exact .nil
  | cons n ns ih =>
    intro us r
    rw [List.map_cons] at r
    cases r with
    | cons r1 r2 =>
      obtain ⟨t, e⟩ := r1
      subst e
      exact .cons n t (ih r2)

section
variable {X : Cx} {e : Expr} {te : TE} {lo hi : Option Expr} {tl th : TO} {pos p2 : Pos}

theorem po_none : PO X none tNoPart := by
  intro pins s σ H Q I h
  rw [evalPart_none]
  exact wpAny_pure ⟨none, H, I, .none, h⟩
theorem po_some (h : PE X e te) : PO X (some e) (tPart te) := by
  intro pins s σ H Q I hw
  rw [evalPart_some]
  refine thn (h pins s σ H _ I hw) fun u s1 ⟨x, H1, I1, r1, q1⟩ => ?_
  obtain ⟨i, rfl, q⟩ := q1
  obtain ⟨t, rfl⟩ := r1
  exact ⟨some i, H1, I1, .int i t, q⟩

noncomputable def SlR (X : Cx) (r : V → Option Int → Option Int → Hp → VK → Prop) : Prop :=
  ∀ (pins : List (Addr × Obj)) (s : Shared) (σ : St) (H : Hp) (x : V) (v vl vu : Value) (lo hi : Option Int) (sl : Addr) (Q : VK), Inv X pins σ H s → RelV x v → s.heap.IsSliceOf sl vl vu .none → IsPart vl lo → IsPart vu hi → r x lo hi H Q →
    ∃ T id, typeLookup (.type T) "__getitem__" = pure (some (.builtin id)) ∧ s.TypeIs v T ∧ wpAny (model X.prog X.w) X.A (getItem v (.ref sl)) (EP X pins σ Q) X.xe s
noncomputable def tSl (r : V → Option Int → Option Int → Hp → VK → Prop) (te : TE) (tl th : TO) : TE := fun σ H Q => te σ H fun x H1 => tl σ H1 fun l H2 => th σ H2 fun u H3 => r x l u H3 Q
theorem pe_slice {r : V → Option Int → Option Int → Hp → VK → Prop} (hr : SlR X r) (he : PE X e te) (hl : PO X lo tl) (hu : PO X hi th) : PE X (.Subscript e (.Slice lo hi none p2) pos) (tSl r te tl th) := by
  intro pins s σ H Q I h
  refine Subscript_ (thn (he pins s σ H _ I h) fun v s1 ⟨x, H1, I1, r1, q1⟩ => ?_)
  refine wpAny_Slice (thn (hl pins s1 σ H1 _ I1 q1) fun vl s2 ⟨l, H2, I2, pl, q2⟩ => thn (hu pins s2 σ H2 _ I2 q2) fun vu s3 ⟨u, H3, I3, pu, q3⟩ => ?_)
  rw [evalPart_none]
  refine wpAny_pure ?_
  have I4 : Inv X pins σ H3 { s3 with heap := s3.heap.push { cls := .type "slice", data := .fields #[vl, vu, .none] } } := I3.kept (t' := s3.toks) fun b ob q => Heap.get?_push_of_some _ q
  obtain ⟨T, id, hT, ht, hg⟩ := hr pins { s3 with heap := s3.heap.push { cls := .type "slice", data := .fields #[vl, vu, .none] } } σ H3 x v vl vu l u s3.heap.objs.size Q I4 r1 (Heap.IsSliceOf.new ..) pl pu q3
  show wpAny (model X.prog X.w) X.A (subscriptTail e (.Slice lo hi none p2) v (.ref s3.heap.objs.size)) (EP X pins σ Q) X.xe { s3 with heap := s3.heap.push { cls := .type "slice", data := .fields #[vl, vu, .none] } }
  exact tail_any (ops := [.ref s3.heap.objs.size, v]) ht hT hg (by with_unfolding_all rfl)

noncomputable def cutV (xs : List V) (lo hi : Option Int) : List V := (xs.drop (HT.sIx xs.length 0 lo)).take (HT.sIx xs.length xs.length hi - HT.sIx xs.length 0 lo)
theorem cutV_length (xs : List V) (lo hi : Option Int) : (cutV xs lo hi).length ≤ xs.length := by
  unfold cutV
  rw [List.length_take, List.length_drop]
  omega
end
end L2

namespace L2
open PySem PySem.Spec PyProof.Rows

noncomputable def ixN (n : Nat) (i : Int) : Option Nat := if 0 ≤ i then (if i < n then some i.toNat else none) else if -(n : Int) ≤ i then some (i + n).toNat else none
noncomputable def atI {α : Type} (xs : List α) (i : Int) : Option α := (ixN xs.length i).bind fun j => xs[j]?
theorem ixN_seq {n : Nat} {i : Int} {j : Nat} (h : ixN n i = some j) : seqIndex? i n = some j ∧ j < n ∧ -(n : Int) ≤ i ∧ i < n := by
  unfold ixN at h
  by_cases h0 : 0 ≤ i
  · rw [if_pos h0] at h
    by_cases h1 : i < n
    · rw [if_pos h1] at h
      have e : i.toNat = j := Option.some.inj h
      exact ⟨by rw [seqIndex_of h0 h1, e], by omega, by omega, h1⟩
    · rw [if_neg h1] at h; cases h
  · rw [if_neg h0] at h
    by_cases h1 : -(n : Int) ≤ i
    · rw [if_pos h1] at h
      have e : (i + n).toNat = j := Option.some.inj h
      exact ⟨by rw [seqIndex_neg (by omega) h1, e], by omega, h1, by omega⟩
    · rw [if_neg h1] at h; cases h
theorem atI_get {α : Type} {xs : List α} {i : Int} {v : α} (h : atI xs i = some v) : ∃ j, seqIndex? i xs.length = some j ∧ xs[j]? = some v ∧ j < xs.length ∧ -(xs.length : Int) ≤ i ∧ i < xs.length := by
  unfold atI at h
  cases e : ixN xs.length i with
  | none => rw [e] at h; cases h
  | some j =>
    rw [e] at h
    obtain ⟨h1, h2, h3, h4⟩ := ixN_seq e
    exact ⟨j, h1, h, h2, h3, h4⟩
theorem atI_nat {α : Type} {xs : List α} {j : Nat} {v : α} (h : xs[j]? = some v) : atI xs (j : Int) = some v := by
  have hj : j < xs.length := (List.getElem?_eq_some_iff.mp h).1
  have e : ixN xs.length (j : Int) = some j := by
    unfold ixN
    rw [if_pos (by omega), if_pos (by omega)]; simp
  unfold atI; rw [e]; exact h
noncomputable def PlainIx (b : Expr) : Prop := ∀ o i, subscripted b false o i = operate [o, i] (getItem o i)
noncomputable def IxR (X : Cx) (r : R2) : Prop :=
  ∀ (value slice : Expr) (pins : List (Addr × Obj)) (s : Shared) (σ : St) (H : Hp) (x y : V) (v u : Value) (Q : VK), Inv X pins σ H s → RelV x v → RelV y u → r x y H Q →
    subscripted slice false v u = operate [v, u] (getItem v u) → wpAny (model X.prog X.w) X.A (subscriptTail value slice v u) (EP X pins σ Q) X.xe s
noncomputable def MtR (X : Cx) (id : String) (r : V → List V → Hp → VK → Prop) : Prop :=
  ∀ (pins : List (Addr × Obj)) (s : Shared) (σ : St) (H : Hp) (x : V) (xs : List V) (v : Value) (us : List Value) (Q : VK), Inv X pins σ H s → RelV x v → Vals xs us → r x xs H Q →
    wpAny (model X.prog X.w) X.A (call (.builtin id) (v :: us)) (EP X pins σ Q) X.xe s
section
variable {X : Cx} {a b : Expr} {ta tb : TE} {pos : Pos}
theorem pe_ix {r : R2} (hr : IxR X r) (ha : PE X a ta) (hb : PE X b tb) (hs : PlainIx b) : PE X (.Subscript a b pos) (tOp r ta tb) := by
  intro pins s σ H Q I h
  exact Subscript_ (binT ha hb I h fun v u s2 x y H2 I2 rx ry q => hr a b pins s2 σ H2 x y v u Q I2 rx ry q (hs _ _))

noncomputable def rIxL (K : PySem.W.Frag) : R2 := fun x y H Q => ∃ p xs i v, x = .ref p ∧ y = .int i ∧ SqL K H p xs ∧ atI xs i = some v ∧ Q v H
noncomputable def rIxT (K : PySem.W.Frag) : R2 := fun x y H Q => ∃ p xs i v, x = .ref p ∧ y = .int i ∧ SqT K H p xs ∧ atI xs i = some v ∧ Q v H
theorem ix_list : IxR X (rIxL X.K) := by
  intro value slice pins s σ H x y v u Q I rx ry h hs
  obtain ⟨p, xs, i, z, rfl, rfl, hq, he, q⟩ := h
  cases rx
  obtain ⟨t, rfl⟩ := ry
  obtain ⟨its, r, pl, hz⟩ := I.list hq
  obtain ⟨j, h1, h2, h3, h4, h5⟩ := atI_get he
  obtain ⟨w, ew, rw'⟩ := r.get h2
  have hl := r.length
  have hn := line63
  have fin : EP X pins σ Q w s := ⟨z, H, I, rw', q⟩
  by_cases h0 : 0 ≤ i
  · have hj : i.toNat = j := by
      rw [seqIndex_of h0 h5] at h1
      exact Option.some.inj h1
    exact item_listR pl.isList h0 (by omega) (by rw [hj]; simpa using ew) fin hs
  · have hj : (i + (its.toArray.size : Int)).toNat = j := by
      rw [seqIndex_neg (by omega) h4] at h1
      rw [List.size_toArray, ← hl]
      exact Option.some.inj h1
    exact subscriptTail_builtinR (x := w) pl.isList.typeIs slot_list_getitem.lookup
      (wpAny_getItem_list_neg (Q := fun r s' => r = w ∧ EP X pins σ Q r s') pl.isList (by omega) (by rw [List.size_toArray] <;> omega) (by omega) (by rw [hj]; simpa using ew) ⟨rfl, fin⟩) hs
theorem ix_tup : IxR X (rIxT X.K) := by
  intro value slice pins s σ H x y v u Q I rx ry h hs
  obtain ⟨p, xs, i, z, rfl, rfl, hq, he, q⟩ := h
  cases rx
  obtain ⟨t, rfl⟩ := ry
  obtain ⟨its, r, pl, hz⟩ := I.tuple hq
  obtain ⟨j, h1, h2, h3, h4, h5⟩ := atI_get he
  obtain ⟨w, ew, rw'⟩ := r.get h2
  have hl := r.length
  have hn := line63
  have fin : EP X pins σ Q w s := ⟨z, H, I, rw', q⟩
  exact subscriptTail_builtinR (x := w) pl.typeIs slot_tuple_getitem.lookup
    (getItem_tuple (j := j) (Q := fun r s' => r = w ∧ EP X pins σ Q r s') pl (by omega) (by omega) (by rw [List.size_toArray, ← hl]; exact h1) (by simpa using ew) ⟨rfl, fin⟩) hs
theorem mapSeq_set (its : List Value) (n j : Nat) (u : Value) : Obj.mapSeq (·.setIfInBounds j u) { cls := .type "list", data := .seq its.toArray n } = { cls := .type "list", data := .seq (its.set j u).toArray n } := by
  simp [Obj.mapSeq]
theorem Inv.lst {pins : List (Addr × Obj)} {σ : St} {H : Hp} {s : Shared} {p : Addr} {xs : List V} (I : Inv X pins σ H s) (h : H p = some (.lst xs)) :
    ∃ (its : List Value) (n : Nat), Vals xs its ∧ s.heap.get? p = some { cls := .type "list", data := .seq its.toArray n } ∧ xs.length ≤ sizeLine := by
  obtain ⟨z, its, n, r, e⟩ := I.hok p _ h
  exact ⟨its, n, r, e, z⟩
theorem Inv.lstUpd {pins : List (Addr × Obj)} {σ : St} {H : Hp} {s : Shared} {p : Addr} {xs ys : List V} {its its' : List Value} {n n' : Nat} {f : Obj → Obj} (I : Inv X pins σ H s) (h : H p = some (.lst xs))
    (ho : s.heap.get? p = some { cls := .type "list", data := .seq its.toArray n }) (hf : f { cls := .type "list", data := .seq its.toArray n } = { cls := .type "list", data := .seq its'.toArray n' }) (r : Vals ys its') (hz : ys.length ≤ sizeLine) (t : Nat) :
    Inv X pins σ (upd H p (.lst ys)) { s with heap := s.heap.update p f, toks := t } := by
  have e : (s.heap.update p f).get? p = some { cls := .type "list", data := .seq its'.toArray n' } := by
    rw [Heap.get?_update_self f ho (by rw [hf] <;> rfl), hf]
  refine I.write (x := p) (e := p) (by rw [h]; trivial) (.inl rfl) (fun b u hb q => (Heap.get?_update_other _ _ (Ne.symm hb)).trans q) ⟨_, e⟩ ?_
  exact ⟨hz, its', n', r, e⟩
noncomputable def rSetL : V → V → V → Hp → (Hp → Prop) → Prop := fun o i v H Q => ∃ p xs k j, o = .ref p ∧ i = .int k ∧ H p = some (.lst xs) ∧ ixN xs.length k = some j ∧ Q (upd H p (.lst (xs.set j v)))
theorem set_list : PSet X rSetL := by
  intro pins s σ H o i v ov iv u Q I ro ri rv h
  obtain ⟨p, xs, k, j, rfl, rfl, hp, hj, q⟩ := h
  cases ro
  obtain ⟨t, rfl⟩ := ri
  obtain ⟨its, n, r, ho, hz⟩ := I.lst hp
  obtain ⟨h1, h2, h3, h4⟩ := ixN_seq hj
  have hl := r.length
  have hn := line63
  have I' : Inv X pins σ (upd H p (.lst (xs.set j v))) { s with heap := s.heap.update p (Obj.mapSeq (·.setIfInBounds j u)) } :=
    I.lstUpd hp ho (mapSeq_set its n j u) (r.set rv j) (by rw [List.length_set]; exact hz) s.toks
  by_cases h0 : 0 ≤ k
  · have hk : k.toNat = j := by
      rw [seqIndex_of h0 h4] at h1
      exact Option.some.inj h1
    exact PySem.W.ki_setAt ho h0 (by omega) (by rw [List.size_toArray, ← hl]; exact h4) (by rw [hk]; exact ⟨_, I', q⟩)
  · have hk : (k + (its.toArray.size : Int)).toNat = j := by
      rw [seqIndex_neg (by omega) h3] at h1
      rw [List.size_toArray, ← hl]
      exact Option.some.inj h1
    exact PySem.W.ki_setBack ho (by omega) (by rw [List.size_toArray, ← hl]; exact h3) (by omega) (by rw [hk]; exact ⟨_, I', q⟩)

theorem slice_bounds (lo hi : Option Int) (n : Nat) : (sliceBounds lo hi none n).1 = ((HT.sIx n 0 lo : Nat) : Int) ∧ (sliceBounds lo hi none n).2.1 = ((HT.sIx n n hi : Nat) : Int) ∧ (sliceBounds lo hi none n).2.2 = 1 := by
  refine ⟨?_, ?_, rfl⟩
  · cases lo with
    | none => simp [sliceBounds, HT.sIx]
    | some i =>
      simp only [sliceBounds, HT.sIx, Option.getD_none, show (1 : Int) > 0 by decide, if_true]
      by_cases h : i < 0
      · simp only [h, if_true] <;> omega
      · simp only [h, if_false] <;> omega
  · cases hi with
    | none => simp [sliceBounds, HT.sIx]
    | some i =>
      simp only [sliceBounds, HT.sIx, Option.getD_none, show (1 : Int) > 0 by decide, if_true]
      by_cases h : i < 0
      · simp only [h, if_true] <;> omega
      · simp only [h, if_false] <;> omega
theorem slicePick_cut (its : List Value) (lo hi : Option Int) : slicePick its.toArray lo hi none = ((its.drop (HT.sIx its.length 0 lo)).take (HT.sIx its.length its.length hi - HT.sIx its.length 0 lo)).toArray := by
  obtain ⟨h1, h2, h3⟩ := slice_bounds lo hi its.toArray.size
  unfold slicePick
  rw [h1, h2, h3]
  simp only [sliceRange_one, pick_run, List.size_toArray] <;> rfl
noncomputable def rSlL (K : PySem.W.Frag) : V → Option Int → Option Int → Hp → VK → Prop := fun x lo hi H Q => ∃ a xs, x = .ref a ∧ SqL K H a xs ∧ ∀ p, H p = none → Q (.ref p) (upd H p (.lst (cutV xs lo hi)))
theorem sl_list : SlR X (rSlL X.K) := by
  intro pins s σ H x v vl vu lo hi sl Q I rx hs pl pu h
  obtain ⟨a, xs, rfl, hx, q⟩ := h
  cases rx
  obtain ⟨its, r, ht, hz⟩ := I.list hx
  have hlen := r.length
  refine ⟨"list", _, slot_list_getitem.lookup, ht.isList.typeIs, ?_⟩
  refine wpAny_getItem_list_slice ht.isList hs pl pu .none (by simp) ?_ (by rw [List.size_toArray] <;> omega)
  rw [slicePick_cut, ← hlen]
  refine ⟨.ref s.heap.objs.size, _, I.laid (t' := s.toks) (o := .lst (cutV xs lo hi)) (fun b ob q => Heap.get?_push_of_some _ q) (Nat.le_refl _) ?_, rfl, q _ (I.hok.fresh (Nat.le_refl _))⟩
  exact ⟨Nat.le_trans (cutV_length xs lo hi) hz, _, 0, (r.drop (HT.sIx xs.length 0 lo)).take (HT.sIx xs.length xs.length hi - HT.sIx xs.length 0 lo), Heap.get?_push_size _ rfl⟩

noncomputable def flatV : V → Bool
  | .non => true
  | .bl _ => true
  | .int _ => true
  | .str _ => true
  | _ => false
noncomputable def eqV : V → V → Bool
  | .non, .non => true
  | .bl a, .bl b => a == b
  | .bl a, .int b => (if a then 1 else 0) == b
  | .int a, .bl b => a == (if b then 1 else 0)
  | .int a, .int b => a == b
  | .str a, .str b => a == b
  | _, _ => false
theorem eqAt_V {A : Around} {s : Shared} {y x : V} {u v : Value} (ry : RelV y u) (rx : RelV x v) (fy : flatV y = true) (fx : flatV x = true) : SeqAt.EqAt A s u v (eqV y x) := by
  cases y with
  | non =>
    cases ry
    cases x with
    | non => cases rx; exact SeqAt.EqAt.same _
    | bl b => cases rx; exact SeqAt.EqAt.none_bool b
    | int b => obtain ⟨t, rfl⟩ := rx; exact SeqAt.EqAt.none_int b t
    | str b => obtain ⟨t, rfl⟩ := rx; exact SeqAt.EqAt.none_str b t
    | _ => exact absurd (show false = true from fx) Bool.false_ne_true
  | bl a =>
    cases ry
    cases x with
    | non => cases rx; exact SeqAt.EqAt.bool_none a
    | bl b => cases rx; exact SeqAt.EqAt.bool_bool a b
    | int b => obtain ⟨t, rfl⟩ := rx; exact SeqAt.EqAt.bool_int a b t
    | str b => obtain ⟨t, rfl⟩ := rx; exact SeqAt.EqAt.bool_str a b t
    | _ => exact absurd (show false = true from fx) Bool.false_ne_true
  | int a =>
    obtain ⟨t', rfl⟩ := ry
    cases x with
    | non => cases rx; exact SeqAt.EqAt.int_none a t'
    | bl b => cases rx; exact SeqAt.EqAt.int_bool a t' b
    | int b => obtain ⟨t, rfl⟩ := rx; exact SeqAt.EqAt.int_int a t' b t
    | str b => obtain ⟨t, rfl⟩ := rx; exact SeqAt.EqAt.int_str a t' b t
    | _ => exact absurd (show false = true from fx) Bool.false_ne_true
  | str a =>
    obtain ⟨t', rfl⟩ := ry
    cases x with
    | non => cases rx; exact SeqAt.EqAt.str_none a t'
    | bl b => cases rx; exact SeqAt.EqAt.str_bool a t' b
    | int b => obtain ⟨t, rfl⟩ := rx; exact SeqAt.EqAt.str_int a t' b t
    | str b => obtain ⟨t, rfl⟩ := rx; exact SeqAt.EqAt.str_str a t' b t
    | _ => exact absurd (show false = true from fx) Bool.false_ne_true
  | _ => exact absurd (show false = true from fy) Bool.false_ne_true
theorem call_len_seq : CallR X (.builtin "len") (fun xs H Q => ∃ p ys, xs = [.ref p] ∧ (SqL X.K H p ys ∨ SqT X.K H p ys) ∧ Q (.int ys.length) H) := by
  intro pins s σ H xs us Q I r h
  obtain ⟨p, ys, rfl, hq, q⟩ := h
  obtain ⟨u, rfl, rx⟩ := vals1 r
  cases rx
  have hn := line63
  rcases hq with hq | hq
  · obtain ⟨its, r', pl, hz⟩ := I.list hq
    have hlen := r'.length
    exact Calls.call_len_list pl.isList (by simp only [List.size_toArray] <;> omega) ⟨.int ys.length, H, I.tok _, ⟨s.toks + 1, by rw [List.size_toArray, hlen]⟩, q⟩
  · obtain ⟨its, r', pl, hz⟩ := I.tuple hq
    have hlen := r'.length
    exact len_tuple pl (by simp only [List.size_toArray] <;> omega) ⟨.int ys.length, H, I.tok _, ⟨s.toks + 1, by rw [List.size_toArray, hlen]⟩, q⟩
theorem call_list_of : CallR X (.type "list") (fun xs H Q => ∃ p ys, xs = [.ref p] ∧ (SqL X.K H p ys ∨ SqT X.K H p ys) ∧ ∀ l, H l = none → Q (.ref l) (upd H l (.lst ys))) := by
  intro pins s σ H xs us Q I r h
  obtain ⟨p, ys, rfl, hq, q⟩ := h
  obtain ⟨u, rfl, rx⟩ := vals1 r
  cases rx
  have fin : ∀ (its : List Value), Vals ys its → ys.length ≤ sizeLine → ∀ (h' : Heap) (c' : Nat), (∀ b o', s.heap.get? b = some o' → h'.get? b = some o') →
      h'.get? s.heap.objs.size = some { cls := .type "list", dict := none, data := .seq its.toArray c', slots := #[] } → EP X pins σ Q (.ref s.heap.objs.size) { s with heap := h' } := fun its r' hz h' c' kp e =>
    ⟨.ref s.heap.objs.size, _, I.laid (t' := s.toks) kp (Nat.le_refl _) (show ObjOk X.prog X.w _ h' _ (.lst ys) from ⟨hz, its, c', r', e⟩), rfl, q _ (I.hok.fresh (Nat.le_refl _))⟩
  rcases hq with hq | hq
  · obtain ⟨its, r', pl, hz⟩ := I.list hq
    have hlen := r'.length
    obtain ⟨o, ho, hc, n, hd⟩ := pl.isList
    exact call_list_seq p (.inl rfl) ho hc hd (fun h' c' kp e => fin its r' hz h' c' kp e) (by simp only [List.size_toArray] <;> omega)
  · obtain ⟨its, r', pl, hz⟩ := I.tuple hq
    have hlen := r'.length
    obtain ⟨o, ho, hc, n, hd⟩ := pl
    exact call_list_seq p (.inr rfl) ho hc hd (fun h' c' kp e => fin its r' hz h' c' kp e) (by simp only [List.size_toArray] <;> omega)
theorem call_tuple_of : CallR X (.type "tuple") (fun xs H Q => ∃ p ys, xs = [.ref p] ∧ ((SqL X.K H p ys ∧ ∀ l, H l = none → Q (.ref l) (upd H l (.tup ys))) ∨ (SqT X.K H p ys ∧ Q (.ref p) H))) := by
  intro pins s σ H xs us Q I r h
  obtain ⟨p, ys, rfl, h⟩ := h
  obtain ⟨u, rfl, rx⟩ := vals1 r
  cases rx
  rcases h with ⟨hq, q⟩ | ⟨hq, q⟩
  · obtain ⟨its, r', pl, hz⟩ := I.list hq
    have hlen := r'.length
    refine call_tuple_list pl.isList (fun h' kp => ?_) (by simp only [List.size_toArray] <;> omega)
    have I1 : Inv X pins σ H { s with heap := h' } := I.kept (t' := s.toks) kp
    have I2 : Inv X pins σ (upd H h'.objs.size (.tup ys)) { s with heap := h'.push { cls := .type "tuple", data := .seq its.toArray } } :=
      I1.laid (t' := s.toks) (fun b o e => Heap.get?_push_of_some _ e) (Nat.le_refl _) (show ObjOk X.prog X.w _ _ _ (.tup ys) from ⟨hz, its, r', IsTupN.new _ _⟩)
    exact ⟨.ref h'.objs.size, _, I2, rfl, q _ (I1.hok.fresh (Nat.le_refl _))⟩
  · obtain ⟨its, r', pl, hz⟩ := I.tuple hq
    exact call_tuple_same pl ⟨.ref p, H, I, rfl, q⟩

noncomputable def tyV (K : PySem.W.Frag) (T : String) (x : V) (H : Hp) : Prop := match x with
  | .str _ => T = "str"
  | .int _ => T = "int"
  | .ref p => (T = "list" ∧ ∃ xs, SqL K H p xs) ∨ (T = "tuple" ∧ ∃ o, K.lookup p = some o ∧ o.cls = .type "tuple" ∧ o.dict = none) ∨
      (T = "dict" ∧ ((∃ kvs, H p = some (.dK kvs)) ∨ ∃ kvs, H p = some (.dT kvs))) ∨ (T = "set" ∧ ∃ S n, H p = some (.set S n))
  | _ => False
theorem tyV_is {pins : List (Addr × Obj)} {σ : St} {H : Hp} {s : Shared} {T : String} {x : V} {v : Value} (I : Inv X pins σ H s) (r : RelV x v) (ty : tyV X.K T x H) :
    s.TypeIs v T ∧ ∀ a, v = .ref a → ∃ ob, s.heap.get? a = some ob ∧ ob.dict = none := by
  cases x with
  | str z =>
    obtain ⟨t, rfl⟩ := r
    cases (show T = "str" from ty)
    exact ⟨typeIs_str s z t, fun _ e => nomatch e⟩
  | int i =>
    obtain ⟨t, rfl⟩ := r
    cases (show T = "int" from ty)
    exact ⟨typeIs_int s i t, fun _ e => nomatch e⟩
  | ref p =>
    cases r
    rcases ty with ⟨rfl, xs, hq⟩ | ⟨rfl, o, hk, hc, hd⟩ | ⟨rfl, hk⟩ | ⟨rfl, S, n, hk⟩
    · obtain ⟨its, _, pl, _⟩ := I.list hq
      refine ⟨pl.isList.typeIs, fun a e => ?_⟩
      cases e
      obtain ⟨o, n, e, c, hd, _⟩ := pl
      exact ⟨o, e, hd⟩
    · refine ⟨⟨o, I.kIn p o hk, hc⟩, fun a e => ?_⟩
      cases e
      exact ⟨o, I.kIn _ o hk, hd⟩
    · have z : ∃ o, s.heap.get? p = some o ∧ o.ExactDict := by
        rcases hk with ⟨kvs, hk⟩ | ⟨kvs, hk⟩
        · obtain ⟨_, _, _, _, o, _, _, e, ex, _⟩ := I.hok p _ hk
          exact ⟨o, e, ex⟩
        · obtain ⟨_, _, _, _, o, _, _, e, ex, _⟩ := I.hok p _ hk
          exact ⟨o, e, ex⟩
      obtain ⟨o, e, ex⟩ := z
      refine ⟨⟨o, e, ex.1⟩, fun a e2 => ?_⟩
      cases e2
      exact ⟨o, e, ex.2.1⟩
    · obtain ⟨o, _, _, _, e, ex, _⟩ := I.hok p _ hk
      refine ⟨⟨o, e, ex.1⟩, fun a e2 => ?_⟩
      cases e2
      exact ⟨o, e, ex.2.1⟩
  | _ => exact False.elim ty
noncomputable def tBM (K : PySem.W.Frag) (T : String) (r : V → List V → Hp → VK → Prop) (to : TE) (t : TA) : TE := fun σ H Q => to σ H fun x H1 => tyV K T x H1 ∧ t σ H1 fun xs H2 => r x xs H2 Q
variable {o e : Expr} {es : List Expr} {to : TE} {t : TA} {name : Str} {apos cpos : Pos} {T id : String} {r : V → List V → Hp → VK → Prop}
theorem pe_bm (pa : PlainAttrs T) (slot : Slot T name id) (hty : typeOf (.builtin id) = pure (.type "method_descriptor")) (hm : MtR X id r) (ho : PE X o to) (ha : PA X (e :: es) t)
    (hbase : attributeBase o name X.env (eval o X.env) = eval o X.env := by rfl)
    (hfew : ((backTo cpos (starEach (e :: es) X.env)).all (fun x => !x.1) && (backToKw cpos (keywordEach [] X.env)).all (fun x => x.1.isSome)
      && decide ((e :: es).length + ([] : List Keyword).length + (if ([] : List Keyword).isEmpty then 0 else 1) < 30)) = true := by rfl)
    (hline : (apos.endLine == cpos.line) = true := by rfl) (hs : starEach (e :: es) X.env = (false, eval e X.env) :: starEach es X.env := by rfl) (hplain : (backTo cpos (starEach es X.env)).any (·.1) = false := by rfl) :
    PE X (.Call (.Attribute o name apos) (e :: es) [] cpos) (tBM X.K T r to t) := by
  intro pins s σ H Q I h
  refine wpAny_Call_method_late hbase hfew hline rfl (thn (ho pins s σ H _ I h) fun v s1 ⟨x, H1, I1, r1, ty, q1⟩ => ?_)
  obtain ⟨h1, h2⟩ := tyV_is I1 r1 ty
  refine ⟨T, id, pa, slot, hty, h1, h2, ?_⟩
  have hA := ha cpos pins s1 σ H1 _ I1 q1
  rw [hs] at hA ⊢
  refine Calls.callWith_builtin (by show (false || (backTo cpos (starEach es X.env)).any (·.1)) = false; rw [hplain] <;> rfl) (Calls.evalArgs_plain ?_)
  exact thn hA fun us s2 ⟨vs, H2, I2, r2, q2⟩ => hm pins s2 σ H2 x vs v us Q I2 r1 r2 q2
/- xs.append(e), list.index on a module's tuple .. are MtR facts of 06m -/
end
end L2

namespace L2
open PySem PySem.Spec PyProof.Rows

noncomputable def MtM (X : Cx) (id : String) (r : V → List V → Hp → VK → Prop) : Prop :=
  ∀ (pins : List (Addr × Obj)) (s : Shared) (σ : St) (H : Hp) (x : V) (xs : List V) (v : Value) (us : List Value) (Q : VK), Inv X pins σ H s → RelV x v → Vals xs us → r x xs H Q →
    wpAny (model X.prog X.w) X.A (call (.builtin id) (v :: us)) (EP X pins σ Q) X.xe s

theorem Vals.one : ∀ {x : V} {us : List Value}, Vals [x] us → ∃ u, us = [u] ∧ RelV x u
  | _, _, .cons r .nil => ⟨_, rfl, r⟩
theorem Vals.eraseIdx : ∀ {xs : List V} {us : List Value} (i : Nat), Vals xs us → Vals (xs.eraseIdx i) (us.eraseIdx i)
  | _, _, _, .nil => .nil
  | _, _, 0, .cons _ t => t
  | _, _, i + 1, .cons r t => .cons r (Vals.eraseIdx i t)
theorem Vals.reverse {xs : List V} {us : List Value} (h : Vals xs us) : Vals xs.reverse us.reverse := by
  induction h with
  | nil => exact .nil
  | cons r t ih => rw [List.reverse_cons, List.reverse_cons]; exact Vals.append ih (.cons r .nil)
theorem Vals.rep {xs : List V} {us : List Value} (h : Vals xs us) : ∀ k : Nat, Vals (List.replicate k xs).flatten (List.replicate k us).flatten
  | 0 => .nil
  | k + 1 => by
    rw [List.replicate_succ, List.replicate_succ, List.flatten_cons, List.flatten_cons]
    exact Vals.append h (Vals.rep h k)
theorem len_erase {α : Type} : ∀ (l : List α) (i : Nat), (l.eraseIdx i).length ≤ l.length
  | [], _ => Nat.le_refl _
  | _ :: _, 0 => Nat.le_succ _
  | _ :: r, i + 1 => Nat.succ_le_succ (len_erase r i)
theorem foldl_rep (its : List Value) : ∀ (k : Nat) (acc : List Value),
    List.foldl (fun x1 x2 => x1 ++ x2) acc.toArray (List.replicate k its.toArray) = (acc ++ (List.replicate k its).flatten).toArray
  | 0, acc => by simp
  | k + 1, acc => by
    have e : acc.toArray ++ its.toArray = (acc ++ its).toArray := by simp
    have e2 : (acc ++ its) ++ (List.replicate k its).flatten = acc ++ (List.replicate (k + 1) its).flatten := by
      rw [List.replicate_succ, List.flatten_cons, List.append_assoc]
    rw [← e2, ← foldl_rep its k (acc ++ its), ← e, List.replicate_succ, List.foldl_cons]

section
variable {X : Cx} {pins : List (Addr × Obj)} {σ : St} {H : Hp} {s : Shared} {l b : Addr} {xs ys zs : List V}

theorem Inv.lset {its its' : List Value} {n : Nat} {f : Array Value → Array Value} {t' : Nat} (I : Inv X pins σ H s) (hH : H l = some (.lst xs))
    (e : s.heap.get? l = some { cls := .type "list", data := .seq its.toArray n }) (hf : f its.toArray = its'.toArray) (hv : Vals ys its') (hz : ys.length ≤ sizeLine) :
    Inv X pins σ (upd H l (.lst ys)) { s with heap := s.heap.update l (Obj.mapSeq f), toks := t' } := by
  have q := PySem.IsL.update e f
  rw [hf] at q
  refine I.write (x := l) (e := l) (by rw [hH]; exact trivial) (.inl rfl) (fun b' u hb hu => (Heap.get?_update_other s.heap (Obj.mapSeq f) (Ne.symm hb)).trans hu) ⟨_, q⟩ ?_
  exact ⟨hz, its', _, hv, q⟩
theorem Inv.lnew {its : List Value} {t' : Nat} (I : Inv X pins σ H s) (hv : Vals ys its) (hz : ys.length ≤ sizeLine) :
    Inv X pins σ (upd H s.heap.objs.size (.lst ys)) { s with heap := s.heap.push { cls := .type "list", data := .seq its.toArray }, toks := t' } :=
  I.laid (fun _ _ q => Heap.get?_push_of_some _ q) (Nat.le_refl _) ⟨hz, its, 0, hv, Heap.get?_push_size _ rfl⟩
theorem Inv.fresh (I : Inv X pins σ H s) : H s.heap.objs.size = none := I.hok.fresh (Nat.le_refl _)
theorem Inv.lstM (I : Inv X pins σ H s) (hH : H l = some (.lst xs)) : xs.length ≤ sizeLine ∧ ∃ (its : List Value) (n : Nat), Vals xs its ∧ xs.length = its.length ∧ s.heap.get? l = some { cls := .type "list", data := .seq its.toArray n } := by
  obtain ⟨z, its, n, r, e⟩ := I.hok l _ hH
  exact ⟨z, its, n, r, r.length, e⟩

theorem notLongL {n : Nat} (h : n ≤ sizeLine) : Builtin.List.listTooLong n = false := by
  unfold Builtin.List.listTooLong
  exact decide_eq_false (by omega)
end

section
variable {X : Cx}

noncomputable def rAppend : V → List V → Hp → VK → Prop := fun x vs H Q => ∃ l xs y, x = .ref l ∧ vs = [y] ∧ H l = some (.lst xs) ∧ xs.length < sizeLine ∧ Q .non (upd H l (.lst (xs ++ [y])))
theorem mt_append : MtM X "list.append" rAppend := by
  intro pins s σ H x vs v us Q I rx rv h
  obtain ⟨l, xs, y, rfl, rfl, hH, hz, q⟩ := h
  cases rx
  obtain ⟨u, rfl, ru⟩ := rv.one
  obtain ⟨z, its, n, r, hl, e⟩ := I.lstM hH
  refine call_meets F.slot_list_append ⟨_, e, rfl⟩ F.entry_list_append (F.args_list_append_2 _ _) (PySem.list_append l its.toArray n u (by rw [List.size_toArray]; omega)) ⟨e, ?_⟩
  refine ⟨.non, _, I.lset (its' := its ++ [u]) hH e (by simp) (r.append (.cons ru .nil)) ?_, rfl, q⟩
  rw [List.length_append, List.length_singleton]
  omega

noncomputable def rPopAt : V → List V → Hp → VK → Prop := fun x vs H Q => ∃ l xs i k y, x = .ref l ∧ vs = [.int i] ∧ H l = some (.lst xs) ∧ -(2 ^ 63) ≤ i ∧ i < 2 ^ 63 ∧ seqIndex? i xs.length = some k ∧ xs[k]? = some y ∧ Q y (upd H l (.lst (xs.eraseIdx k)))
theorem mt_popAt : MtM X "list.pop" rPopAt := by
  intro pins s σ H x vs v us Q I rx rv h
  obtain ⟨l, xs, i, k, y, rfl, rfl, hH, h1, h2, hk, hy, q⟩ := h
  cases rx
  obtain ⟨u, rfl, ru⟩ := rv.one
  obtain ⟨t, rfl⟩ := ru
  obtain ⟨z, its, n, r, hl, e⟩ := I.lstM hH
  obtain ⟨w, hw, rw'⟩ := r.get hy
  refine call_meets F.slot_list_pop ⟨_, e, rfl⟩ F.entry_list_pop (F.args_list_pop_2 _ _)
    (MeetsSeq.list_pop_at l its.toArray n i t k w (fitsIndex_both h1 h2) (by rw [List.size_toArray, ← hl]; exact hk) (by rw [← Array.getElem?_toList]; exact hw) (by rw [List.size_toArray]; omega)) ⟨e, ?_⟩
  refine ⟨y, _, I.lset (its' := its.eraseIdx k) hH e ?_ (r.eraseIdx k) ?_, rw', q⟩
  · show its.toArray.eraseIdxIfInBounds k = (its.eraseIdx k).toArray
    rw [List.eraseIdxIfInBounds_toArray]
  · have := len_erase xs k
    omega

noncomputable def rRep : R2 := fun x y H Q => ∃ l k xs, x = .ref l ∧ y = .int k ∧ H l = some (.lst xs) ∧ -(2 ^ 63) ≤ k ∧ k < 2 ^ 63 ∧ xs.length * k.toNat ≤ sizeLine ∧
  ∀ p, H p = none → Q (.ref p) (upd H p (.lst (List.replicate k.toNat xs).flatten))
theorem len_rep {α : Type} (xs : List α) (k : Nat) : (List.replicate k xs).flatten.length = k * xs.length := by
  induction k with
  | zero => simp
  | succ k ih => rw [List.replicate_succ, List.flatten_cons, List.length_append, ih, Nat.succ_mul, Nat.add_comm]
theorem op_rep : OpR X (binaryOp .Mult) rRep := by
  intro pins s σ H x y v u Q I rx ry h
  obtain ⟨l, k, xs, rfl, rfl, hH, h1, h2, hz, q⟩ := h
  cases rx
  obtain ⟨t, rfl⟩ := ry
  obtain ⟨z, its, n, r, hl, e⟩ := I.lstM hH
  have hlen : its.toArray.size * k.toNat ≤ sizeLine := by rw [List.size_toArray, ← hl]; exact hz
  have hcap : ¬ its.toArray.size * k.toNat > (2 ^ 63 - 1) / 8 := by
    have : (sizeLine : Nat) ≤ (2 ^ 63 - 1) / 8 := by decide
    omega
  have hfit : ¬ (!Builtin.List.listFitsIndex k) = true := by
    rw [fitsIndex_both h1 h2]
    exact Bool.false_ne_true
  have hlong : ¬ Builtin.List.listTooLong (its.toArray.size * k.toNat) = true := by
    rw [notLongL hlen]
    exact Bool.false_ne_true
  have hnew : List.foldl (fun x1 x2 => x1 ++ x2) #[] (List.replicate (if its.toArray.isEmpty = true then 0 else k.toNat) its.toArray) = (List.replicate k.toNat its).flatten.toArray := by
    have f0 : ∀ m : Nat, List.foldl (fun x1 x2 => x1 ++ x2) #[] (List.replicate m its.toArray) = (List.replicate m its).flatten.toArray := fun m => by
      have := foldl_rep its m []
      rw [List.nil_append] at this
      exact this
    rw [f0]
    cases its with
    | nil => simp
    | cons a r' => rw [if_neg (by simp)]
  refine wpAny_binaryOp_repeat_ref (T := "list") (U := "int") (by decide) ⟨_, e, rfl⟩ (fun s' => typeIs_int s' k t) noFill_list_mul F.fills_int_mul F.slot_int_rmul repeat_list F.slot_int_index.lookup
    (call_meets F.slot_int_rmul (typeIs_int s k t) F.entry_int_rmul (F.args_int_rmul_2 _ _) (int___rmul___int_list k t l its.toArray n)
      ⟨e, rfl, ⟨_, e, rfl⟩, call_meets F.slot_list_mul ⟨_, e, rfl⟩ F.entry_list_mul (F.args_list_mul_2 _ _) (AutoListH.list___mul___list_int_3 l its.toArray n k t hfit hcap hlong) ⟨e, ?_⟩⟩)
  rw [hnew]
  exact ⟨.ref _, _, I.lnew (t' := s.toks) (r.rep k.toNat) (by rw [len_rep, Nat.mul_comm]; exact hz), rfl, q _ I.fresh⟩

end

section
variable {prog : Program} {w : World} {A : Around} {E : Value → Shared → Prop} {s : Shared}
end

section
variable {X : Cx}
end
end L2

namespace Att
open PySem PySem.W PySem.Calls PyProof.Rows

theorem ints_of_wellAll {P : Params} {h : Heap} : ∀ (ns : List Int) (vs : List Value), WellAll P h vs (ns.map WData.int) → IntsAre vs ns := by
  intro ns
  induction ns with
  | nil =>
    intro vs w
    rw [List.map_nil] at w
    cases w
    exact .nil
  | cons n ns ih =>
    intro vs w
    rw [List.map_cons] at w
    cases w with
    | cons a b =>
      cases a
      exact .cons _ _ (ih _ b)

theorem script_of {l : OpenLaw} {n : Nat} (hn : l.most = some n) {P : Params} {h : Heap} {args : List WData} {vals : List Value}
    (hpre : l.row.toRowW.claim.pre args = true) (hwl : WellAll P h vals args) :
    ∃ a vs ns, vals = [Value.ref a] ∧ args = [WData.list (ns.map WData.int)] ∧ h.get? a = some { cls := .type "list", data := .seq vs.toArray } ∧ IntsAre vs ns ∧ ns.length ≤ n := by
  have hsh : WShape.hasAll [] args [.list .int] = true := (pre_splitW hpre).1
  have hc : l.pre.holds [] { args := args } = true := (pre_splitW hpre).2
  obtain ⟨d, r, rfl, h1, h2⟩ := hasAllW_cons hsh
  obtain rfl := hasAllW_nil h2
  obtain ⟨xs, rfl, h3⟩ := hasW_list h1
  obtain ⟨ns, rfl⟩ := items_int h3
  have hlen : ns.length ≤ n := by
    unfold OpenLaw.pre at hc
    have h4 : (WTm.not (.lt (.lit (.int (n : Int))) (.len (.arg 0)))).holds [] { args := [.list (ns.map .int)] } = true := by
      have h4 := (holds_andW hc).1
      rw [hn] at h4
      exact h4
    have h5 := condW_of h4 (w_not (w_lt w_lit (w_len_list (w_arg rfl))))
    rw [List.length_map] at h5
    refine Nat.le_of_not_lt fun q => ?_
    have q' : (n : Int) < ((ns.length : Nat) : Int) := by omega
    first
      | (rw [decide_eq_true q'] at h5; exact absurd h5 (by decide))
      | (simp at h5; omega)
  cases hwl with
  | cons w1 w2 =>
    cases w2
    cases w1 with
    | list ho hall => exact ⟨_, _, ns, rfl, rfl, ho, ints_of_wellAll ns _ hall, hlen⟩

theorem post_true (l : OpenLaw) (args : List WData) : l.row.toRowW.claim.post args (.bool true) args = true :=
  postW_of (r := l.row.toRowW) (X := (true == true))
    (show WShape.has [] (.bool true) .bool = true by first | rfl | decide | simp [WShape.has, WShape.arms, WShape.armsAll])
    (show (WTm.eq .res (.lit (.bool true))).value [] { args := args, res := some (.bool true), after := args } = some (.bool (true == true)) from w_eq_bool (w_res rfl) w_lit) rfl

theorem attach_call {l : OpenLaw} {n : Nat} {q : Program} {loose : List Str} {XP : (Str → Option Value) → Heap → Prop} {YP : World → Heap → Prop} {d : DefRec}
    (hn : l.most = some n) (hdf : d.params.defaults = [])
    (call : ∀ (w : World) (s₀ s₁ : Shared) (mg mb : Str → Option Value) (fa : Addr) (o : Obj) (pm cd doc : Value) (a : Addr) (vs : List Value) (ns : List Int),
      Ground q loose [] XP w s₀ mg mb s₁.heap → YP w s₁.heap →
      s₁.heap.get? fa = some o → o.data = .func (docDef d.name d.params d.body d.scope pm cd doc) → s₁.heap.CodeRec cd d.name → mg d.name = some (.ref fa) →
      s₁.heap.get? a = some { cls := .type "list", data := .seq vs.toArray } → IntsAre vs ns → ns.length ≤ n → s₁.gens = #[] →
      codeAny (model l.prog w) callerA (.call (.ref fa) ⟨[.ref a], []⟩) (fun r s' => r = .ok (.ret (.bool true)) ∧ OldK s₁.heap s'.heap ∧ s'.os = s₁.os ∧ AllBare s'.gens) s₁) :
    WalkO q loose XP YP l.row.toRowW d [] (fun f vs => PySem.call f vs) := by
  intro w s₀ s₁ mg mb G Y fa o pm cd doc dV kV ho hd hcd hD hmg hg args vals as hpre hlay hrd hwl hlo
  obtain rfl : dV = .none := Dflts.none hD hdf
  obtain rfl : kV = .none := Dflts.noKw hD
  obtain ⟨a, vs, ns, rfl, rfl, hobj, hints, hlen⟩ := script_of hn hpre hwl
  refine enter_call (codeAny_mono (call w s₀ s₁ mg mb fa o pm cd doc a vs ns G Y ho (fd_plain hd) hcd hmg hobj hints hlen hg) fun r s' hq => ?_)
  obtain ⟨rfl, h2, h3, h4⟩ := hq
  exact ⟨.inl ⟨.bool true, .bool true, [], rfl, fun _ => rfl, .bool true, post_true l _, fun _ => ⟨List.Pairwise.nil, fun _ hm => (nomatch hm)⟩⟩, h2, h3, h4⟩

section
variable {prog : Program} {w : World} {A : Around} {E : Value → Shared → Prop} {s : Shared} {K : Frag}

end
end Att

namespace L2
open PySem PySem.Spec PyProof.Rows

theorem vals_ints : ∀ {vs : List Value} {ns : List Int}, IntsAre vs ns → Vals (ns.map V.int) vs
  | _, _, .nil => .nil
  | _, _, .cons n t h => .cons ⟨t, rfl⟩ (vals_ints h)

noncomputable def Only (H : Hp) : Prop := ∀ b, H b = none ∨ ∃ o xs, H b = some (.frz o (.lst xs))

theorem law_call {P : Program} {w : World} {K : PySem.W.Frag} {mg mb : Str → Option Value} {CX : CXT} {k : Nat} {fa a : Addr} {fd : FuncData} {x : Str} {sp : Sp} {s₁ : Shared} {vs : List Value} {ns : List Int}
    (KX : K.In s₁.heap) (hns : s₁.heap.Ns mainGlobals mg) (hb : s₁.heap.Ns builtinsNs mb) (hbb : ∀ x : Str, x ≠ "__name__" → mb x = bootBuiltins x) (hlim : s₁.heap.NoLimit) (hg : s₁.gens = #[])
    (ha : s₁.heap.get? a = some { cls := .type "list", data := .seq vs.toArray }) (hi : IntsAre vs ns) (hl : ns.length ≤ sizeLine) (hr : Room k callerA)
    (F : ∀ base : Heap, K.In base → base.Ns mainGlobals mg → FnOk P w K mg base CX k fa fd [x] sp) (hbind : ∀ (s : Shared) (u : Value), BindsTo s fd ⟨[u], []⟩ [(x, u)])
    (hsp : ∀ H : Hp, Only H → SqL K H a (ns.map V.int) → sp [.ref a] H (fun v _ => v = .bl true) fun _ _ _ => False)
    (hCX : ∀ H e s', CX [] H s₁ (fun _ _ _ => False) e s' → False) :
    codeAny (model P w) callerA (.call (.ref fa) ⟨[.ref a], []⟩) (fun r s' => r = .ok (.ret (.bool true)) ∧ OldK s₁.heap s'.heap ∧ s'.os = s₁.os ∧ AllBare s'.gens) s₁ := by
  have rv := vals_ints hi
  have lenV := hi.length
  -- from an abstract heap in which nothing but the script may be tracked
  have core : ∀ H : Hp, Only H → SqL K H a (ns.map V.int) → HOk P w H s₁.heap → (∀ b, H b ≠ none → b = a) → (H a ≠ none → K.lookup a = none) →
      codeAny (model P w) callerA (.call (.ref fa) ⟨[.ref a], []⟩) (fun r s' => r = .ok (.ret (.bool true)) ∧ OldK s₁.heap s'.heap ∧ s'.os = s₁.os ∧ AllBare s'.gens) s₁ := by
    intro H hO hS hok hA hK
    have base_of : ∀ {b : Addr} {o : Obj}, s₁.heap.get? b = some o → H b = none → (hidT s₁.heap H).get? b = some o := fun e n => hidT_get e n
    have noA : ∀ {b : Addr} {o : Obj} {es : Array DictEntry} {ep : Nat}, s₁.heap.get? b = some o → o.data = .dict es ep → H b = none := fun {b o es ep} e d => by
      cases q : H b with
      | none => rfl
      | some u =>
        have e' : b = a := hA b (by rw [q]; simp)
        subst e'
        rw [ha] at e; cases e
        have d' : Data.seq vs.toArray _ = Data.dict es ep := d
        cases d'
    have nsK : ∀ {b : Addr} {m : Str → Option Value}, s₁.heap.Ns b m → (hidT s₁.heap H).Ns b m := fun {b m} ⟨o, es, ep, e, d, r⟩ => ⟨o, es, ep, base_of e (noA e d), d, r⟩
    have hKb : K.In (hidT s₁.heap H) := fun b o e => base_of (KX b o e) (by
      cases q : H b with
      | none => rfl
      | some u =>
        have e' : b = a := hA b (by rw [q]; simp)
        subst e'
        rw [hK (by rw [q]; simp)] at e; cases e)
    have hM : Mod K mg (hidT s₁.heap H) := ⟨hKb, nsK hns, ⟨mb, nsK hb, hbb⟩, let ⟨mc, h1, h2⟩ := hlim; ⟨mc, nsK h1, h2⟩⟩
    have e0 : Env0 P w K mg (hidT s₁.heap H) callerA [] s₁ H := ⟨rfl, hM, fun b o e => of_hidT e, Nat.le_of_eq (hidT_size _ _), trivial, fun b hb => absurd (show b ∈ ([] : List Addr) from hb) (by simp), hok, .of_eq hg⟩
    refine codeAny_mono ((F _ hKb (nsK hns)).run callerA [] s₁ H ⟨[.ref a], []⟩ [.ref a] [.ref a] _ _ hr e0 (hbind s₁ (.ref a)) (.cons rfl .nil) (hsp H hO hS)) fun r s' h => ?_
    cases r with
    | error e => exact (hCX H e s' h).elim
    | ok fl =>
      cases fl with
      | next => exact False.elim h
      | brk => exact False.elim h
      | cont => exact False.elim h
      | ret u =>
        obtain ⟨v, H', os, bare, un, hok', r', q⟩ := h
        have q' : v = .bl true := q
        subst q'
        obtain rfl : u = Value.bool true := r'
        refine ⟨rfl, OldK.of_keep fun b o e => ?_, os, bare⟩
        cases q : H b with
        | none => exact un.keep b o e q (by intro z; exact absurd (show b ∈ ([] : List Addr) from z) (by simp)) (by simp)
        | some u =>
          rcases hO b with z | ⟨ob, xs, z⟩
          · rw [q] at z; cases z
          · have z2 := un.frzs b ob _ z
            obtain ⟨e1, _⟩ := hok b _ z
            obtain ⟨e2, _⟩ := hok' b _ z2
            rw [e] at e1; cases e1
            exact e2
  cases hk : K.lookup a with
  | some o =>
    -- the script is one of the module's own objects
    have e := KX a o hk
    rw [ha] at e
    cases e
    refine core (fun _ => none) (fun _ => .inl rfl) (.inr ⟨_, vs.toArray, _, hk, rfl, rfl, rfl, by rw [List.size_toArray, lenV]; exact hl, by simpa using rv⟩) (fun b u z => by have z' : (none : Option HO) = some u := z; cases z') (fun b z => absurd rfl z) fun z => absurd rfl z
  | none =>
    refine core (fun b => if b = a then some (.frz { cls := .type "list", data := .seq vs.toArray } (.lst (ns.map V.int))) else none) (fun b => ?_) (.inl (.inr ⟨{ cls := .type "list", data := .seq vs.toArray }, if_pos rfl⟩)) (fun b u z => ?_) (fun b z => ?_) fun _ => hk
    · by_cases hb : b = a
      · exact .inr ⟨_, _, if_pos hb⟩
      · exact .inl (if_neg hb)
    · by_cases hb : b = a
      · have z' := (if_pos hb).symm.trans z
        cases z'
        subst hb
        exact ⟨ha, by rw [List.length_map]; exact hl, vs, _, rv, ha⟩
      · have z' := (if_neg hb).symm.trans z
        cases z'
    · by_cases hb : b = a
      · exact hb
      · exact absurd (if_neg hb) z
end L2

namespace L2
open PySem PySem.Spec PyProof.Rows

theorem walk_of {l : PySem.W.OpenLaw} {n k : Nat} {q : Program} {loose : List Str} {XP : (Str → Option Value) → Heap → Prop} {YP : World → Heap → Prop} {d : DefRec} {K : Params → PySem.W.Frag} {CX : World → CXT} {sp : World → Sp} {x : Str}
    (hn : l.most = some n) (hn2 : n ≤ sizeLine) (hdf : d.params.defaults = []) (hr : Room k callerA)
    (hY : ∀ (w : World) (h : Heap), YP w h → (K w.params).In h)
    (F : ∀ (w : World) (mg : Str → Option Value) (fa : Addr) (h : Heap), (K w.params).In h → h.Ns mainGlobals mg → mg d.name = some (.ref fa) →
      ∃ fd : FuncData, (∀ (s : Shared) (u : Value), BindsTo s fd ⟨[u], []⟩ [(x, u)]) ∧
        ∀ base : Heap, (K w.params).In base → base.Ns mainGlobals mg → FnOk l.prog w (K w.params) mg base (CX w) k fa fd [x] (sp w))
    (hsp : ∀ (w : World) (H : Hp) (a : Addr) (ns : List Int), ns.length ≤ n → Only H → SqL (K w.params) H a (ns.map V.int) → sp w [.ref a] H (fun v _ => v = .bl true) fun _ _ _ => False)
    (hCX : ∀ (w : World) (H : Hp) (s : Shared) (e : Value) (s' : Shared), CX w [] H s (fun _ _ _ => False) e s' → False) :
    PySem.W.WalkO q loose XP YP l.row.toRowW d [] (fun f vs => PySem.call f vs) := by
  refine Att.attach_call hn hdf fun w s₀ s₁ mg mb fa o pm cd doc a vs ns G Y ho hd hcd hmg hobj hints hlen hg => ?_
  have KX := hY w _ Y
  obtain ⟨fd, hb, hF⟩ := F w mg fa _ KX G.T.g hmg
  exact law_call KX G.T.g G.T.b G.T.builtins G.T.nolimit hg hobj hints (Nat.le_trans hlen hn2) hr hF hb (fun H hO hS => hsp w H a ns hlen hO hS) fun H e s' => hCX w H s₁ e s'
end L2

namespace L2
open PySem PySem.Spec PyProof.Rows

noncomputable def defArgs (s : Stmt) : Arguments := match s with
  | .FunctionDef _ a _ _ _ _ _ _ _ _ => a
  | _ => { posonlyargs := [], args := [], vararg := none, kwonlyargs := [], kw_defaults := [], kwarg := none, defaults := [] }
noncomputable def defBody (s : Stmt) : List Stmt := match s with
  | .FunctionDef _ _ b _ _ _ _ _ _ _ => b
  | _ => []
noncomputable def defScope (s : Stmt) : Scope := match s with
  | .FunctionDef _ _ _ _ _ _ sc _ _ _ => sc
  | _ => { kind := .function, names := [], isGenerator := false, isCoroutine := false }

noncomputable abbrev CX0 : CXT := fun _ _ _ _ _ _ => False
noncomputable abbrev E0 : XK := fun _ _ _ => False
theorem pass0 {X : Cx} : Passes CX0 X E0 := fun _ _ _ _ _ _ _ h => h.elim

structure Fun (K : PySem.W.Frag) (x qual : Str) (st : Stmt) (f : Addr) (fd : FuncData) : Prop where
  ex : ∃ (oc : Value) (od : Option Addr) (kV doc pm : Value) (an : Option Addr) (cdv ct : Value) (osl : Array (Option Value)),
    fd = PySem.W.fnOf x qual (defArgs st) (defBody st) (defScope st) .none kV doc pm an cdv ct ∧ K.lookup f = some ⟨oc, od, .func fd, osl⟩ ∧ PySem.W.codeIn K cdv qual = true
  kp : PySem.W.keepIn K (.ref f) = true
section
variable {P : Program} {w : World} {K : PySem.W.Frag} {mg : Str → Option Value} {base : Heap}
theorem Fun.ok {x qual : Str} {st : Stmt} {f : Addr} {fd : FuncData} {N ps : List Str} {k : Nat} {sp : Sp} (F : Fun K x qual st f fd) (S : FnScope N ps (defScope st)) (len : ∀ vs H Q E, sp vs H Q E → vs.length = ps.length)
    (hbody : ∀ (cdv : Value) (A : Around) (outer : List Env) (s : Shared) (H : Hp) (vs : List V) (Q : VK) (E : XK), Room k (A.deeper (envOfC qual (defScope st) s.heap.objs.size f cdv)) → sp vs H Q E →
      ∃ t, PSs (cxOf CX0 P w K mg base N qual (defScope st) f cdv A outer s H E).nox (defBody st) t ∧ t { nx := fun _ H' => Q .non H', rt := Q } (start N vs) H) : FnOk P w K mg base CX0 (k + 1) f fd ps sp := by
  obtain ⟨oc, od, kV, doc, pm, an, cdv, ct, osl, rfl, lk, hcd⟩ := F.ex
  refine fn_of lk hcd S len fun A outer s H vs Q E hr hsp => ?_
  obtain ⟨t, h, q⟩ := hbody cdv A outer s H vs Q E hr hsp
  exact ⟨t, h.nox, q⟩
theorem Fun.binds {x qual : Str} {st : Stmt} {f : Addr} {fd : FuncData} {ps : List Str} (F : Fun K x qual st f fd)
    (h : ∀ (kV doc pm : Value) (an : Option Addr) (cdv ct : Value) (us : List Value), us.length = ps.length → bindArgs (PySem.W.fnOf x qual (defArgs st) (defBody st) (defScope st) .none kV doc pm an cdv ct) ⟨us, []⟩ = pure (ps.zip us)) : Binds K fd ps [] := by
  obtain ⟨oc, od, kV, doc, pm, an, cdv, ct, osl, rfl, lk, hcd⟩ := F.ex
  exact .all (h kV doc pm an cdv ct)
theorem fun_mk {x qual : Str} {st : Stmt} {f : Addr} {oc : Value} {od an : Option Addr} {osl : Array (Option Value)} {kV doc pm cdv ct : Value} (l : K.lookup f = some ⟨oc, od, .func (PySem.W.fnOf x qual (defArgs st) (defBody st) (defScope st) .none kV doc pm an cdv ct), osl⟩)
    (c : PySem.W.codeIn K cdv qual = true) (k : PySem.W.keepIn K (.ref f) = true) : Fun K x qual st f (PySem.W.fnOf x qual (defArgs st) (defBody st) (defScope st) .none kV doc pm an cdv ct) := ⟨⟨oc, od, kV, doc, pm, an, cdv, ct, osl, rfl, l, c⟩, k⟩
end
theorem small1000 {n : Nat} (h : n ≤ 1000) : n < sizeLine := Nat.lt_of_le_of_lt h (by decide)

section
variable {X : Cx}
theorem pv (i : Nat) {x : Str} {pos : Pos} (hN : X.N[i]? = some x := by rfl) (hv : Vis X.env.scope x := by first | exact Or.inl rfl | exact Or.inr (Or.inl rfl) | exact Or.inr (Or.inr rfl)) (hd : (x == ("__debug__" : Str)) = false := by decide)
    (hcd : (x == ("__classdict__" : Str)) = false := by decide) : PE X (.Name x pos) (tVar i) := pe_var hN hv hd hcd
end

theorem iteF {A B : Prop} (h : B) : if false = true then A else B := by
  rw [if_neg Bool.false_ne_true]
  exact h
theorem iteT {A B : Prop} (h : A) : if true = true then A else B := by
  rw [if_pos rfl]
  exact h
noncomputable def Same (H H' : Hp) : Prop := ∀ b o, H b = some o → H' b = some o
theorem Same.refl (H : Hp) : Same H H := fun _ _ h => h
theorem Same.trans {H H1 H2 : Hp} (a : Same H H1) (b : Same H1 H2) : Same H H2 := fun c o h => b c o (a c o h)
theorem Same.free {H H' : Hp} (e : Same H H') {l : Addr} (h : H' l = Option.none) : H l = Option.none := by
  cases q : H l with
  | none => rfl
  | some o =>
    rw [e l o q] at h
    cases h
theorem Same.seq {K : PySem.W.Frag} {H H' : Hp} {a : Addr} {xs : List V} (e : Same H H') (h : SqL K H a xs) : SqL K H' a xs := by
  rcases h with (h | ⟨o, h⟩) | h
  · exact .inl (.inl (e _ _ h))
  · exact .inl (.inr ⟨o, e _ _ h⟩)
  · exact .inr h

end L2

namespace L2
open PySem PySem.Spec PyProof.Rows

section
variable {prog : Program} {w : World} {A : Around} {R : Result → Shared → Prop} {s : Shared}
theorem compLoop_any {elt target iter : Expr} {ifs : List Expr} {scope : Scope} {pos : Pos} {it acc : Value} {env : Env} (I : Nat → Shared → Prop)
    (turn : ∀ n s, I n s → wpAny (model prog w) A (pyNext it) (fun r s₁ => match r with
      | none => R (.ok .next) s₁
      | some v => wpAny (model prog w) A (letOwnedTupleGo target it v) (fun _ s₁' => wpAny (model prog w) A (assign target env v) (fun _ s₂ =>
          wpAny (model prog w) A (forIn ifs true fun c r => if r = true then do let ok ← isTrue c env (eval c env); pure (ForInStep.yield ok) else pure (ForInStep.yield r)) (fun ok s₃ =>
            if ok = true then wpAny (model prog w) A (eval elt env) (fun x s₄ =>
              wpAny (model prog w) A (call (.builtin "list.append") [acc, x]) (fun _ s₅ => ∃ m, m < n ∧ I m s₅) (fun _ _ => False) s₄) (fun _ _ => False) s₃
            else ∃ m, m < n ∧ I m s₃) (fun _ _ => False) s₂) (fun _ _ => False) s₁') (fun _ _ => False) s₁) (fun _ _ => False) s)
    (n : Nat) (h : I n s) :
    codeAny (model prog w) A (.compLoop (.ListComp elt [⟨target, iter, ifs, 0⟩] scope pos) 0 it acc env) R s := by
  refine codeAny_loop rfl I (fun n s hI => ?_) n h
  show wpAny _ A ((compTurn (.ListComp elt [⟨target, iter, ifs, 0⟩] scope pos) 0 it acc env).onRaise (fun x => do noteFrame x env; theTreesLotGoes x)) _ _ s
  refine wpAny_noted ?_
  rw [compTurn_list]
  have el : ∀ {E' : Value → Shared → Prop} (x : Value) (s' : Shared), False → E' x s' := fun _ _ f => f.elim
  refine wpAny_bind (wpAny_standAt (wpAny_bind (wpAny_mono (turn n s hI) (fun r s₁ h₁ => ?_) fun _ _ f => f.elim)))
  cases r with
  | none => exact wpAny_pure h₁
  | some v =>
    refine wpAny_bind (wpAny_mono h₁ (fun _ s₁' h₁' => ?_) fun _ _ f => f.elim)
    refine wpAny_bind (wpAny_mono h₁' (fun _ s₂ h₂ => wpAny_bind (wpAny_mono h₂ (fun ok s₃ h₃ => ?_) fun _ _ f => f.elim)) fun _ _ f => f.elim)
    cases ok with
    | false => exact wpAny_pure ⟨rfl, h₃⟩
    | true =>
      exact wpAny_bind (wpAny_bind (wpAny_mono h₃ (fun x s₄ h₄ => wpAny_bind (wpAny_mono h₄ (fun _ s₅ h₅ => wpAny_pure (wpAny_pure ⟨rfl, h₅⟩)) fun _ _ f => f.elim)) fun _ _ f => f.elim))
end

noncomputable def compX (X : Cx) (N' : List Str) (scope : Scope) (cl : List (Str × Addr)) (C : Addr) (s : Shared) (H : Hp) (fp : List Addr) : Cx where
  prog := X.prog
  w := X.w
  K := X.K
  mg := X.mg
  base := X.base
  A := X.A
  N := N'
  s₀ := s
  H₀ := H
  env := compEnvC scope cl C X.env
  outer := X.stack
  stack := X.stack
  ex := fp
  fn := fun _ => false
  calm := X.calm
  pn := []
  xe := fun _ _ => False

noncomputable def PTs (X : Cx) (ifs : List Expr) (t : TT) : Prop :=
  ∀ (pins : List (Addr × Obj)) (s : Shared) (σ : St) (H : Hp) (Q : Bool → Hp → Prop), Inv X pins σ H s → t σ H Q →
    wpAny (model X.prog X.w) X.A (forIn ifs true fun c r => if r = true then do let ok ← isTrue c X.env (eval c X.env); pure (ForInStep.yield ok) else pure (ForInStep.yield r)) (TP X pins σ Q) X.xe s
theorem pts_nil {X : Cx} : PTs X [] (fun _ H Q => Q true H) := fun _ _ _ H _ I h => wpAny_pure ⟨H, I, h⟩
noncomputable def Cap (X : Cx) (sc : Scope) : List Str → List (Option Nat) → Prop
  | [], [] => True
  | _ :: N, none :: ks => Cap X sc N ks
  | x :: N, some k :: ks => (X.N[k]? = some x ∧ X.env.scope.names.lookup x = some .cell ∧ (sc.names.lookup x = some .cell ∨ sc.names.lookup x = some .free)) ∧ Cap X sc N ks
  | _, _ => False
theorem Cap.len {X : Cx} {sc : Scope} : ∀ {N : List Str} {ks : List (Option Nat)}, Cap X sc N ks → ks.length = N.length
  | [], [], _ => rfl
  | _ :: N, none :: ks, h => by simp [Cap.len (show Cap X sc N ks from h)]
  | _ :: N, some _ :: ks, h => by simp [Cap.len (show Cap X sc N ks from h.2)]
  | [], _ :: _, h => by cases h
  | _ :: _, [], h => by cases h
theorem Cap.get {X : Cx} {sc : Scope} : ∀ {N : List Str} {ks : List (Option Nat)} {i k : Nat} {x : Str}, Cap X sc N ks → N[i]? = some x → ks[i]? = some (some k) →
    X.N[k]? = some x ∧ X.env.scope.names.lookup x = some .cell ∧ (sc.names.lookup x = some .cell ∨ sc.names.lookup x = some .free)
  | [], [], _, _, _, _, e, _ => by simp at e
  | [], _ :: _, _, _, _, h, _, _ => by cases h
  | _ :: _, [], _, _, _, h, _, _ => by cases h
  | _ :: N, none :: ks, 0, k, x, h, e1, e2 => by simp at e2
  | _ :: N, none :: ks, i + 1, k, x, h, e1, e2 => Cap.get (i := i) (show Cap X sc N ks from h) (by simpa using e1) (by simpa using e2)
  | y :: N, some j :: ks, 0, k, x, h, e1, e2 => by
    simp at e1 e2
    subst e1 e2
    exact h.1
  | _ :: N, some _ :: ks, i + 1, k, x, h, e1, e2 => Cap.get (i := i) (show Cap X sc N ks from h.2) (by simpa using e1) (by simpa using e2)
noncomputable def capt (ks : List (Option Nat)) (σ : St) : St := ks.map fun o => match o with
  | none => none
  | some k => σ.getD k none

noncomputable def CompW (J : It) (D : Addr) (g : TG) (tt : TT) (te : TE) (Q : VK) (σ0 : St) (H0 : Hp) : Prop :=
  ∃ W : Nat → Nat → List V → St → Hp → Prop, (∃ m, W 0 m [] σ0 H0) ∧ ∀ i m ys σ' H', W i m ys σ' H' → H' D = some (.lst ys) ∧
    ((J.stop i H' ∧ Q (.ref D) H') ∨ (J.go i H' ∧ ∀ x H2, J.yld i H' x H2 → g x σ' H2 fun σ3 H3 => tt σ3 H3 fun b H4 => if b = true then
      te σ3 H4 fun y H5 => H5 D = some (.lst ys) ∧ ys.length < sizeLine ∧ ∃ m', m' < m ∧ W (i + 1) m' (ys ++ [y]) σ3 (upd H5 D (.lst (ys ++ [y]))) else ∃ m', m' < m ∧ W (i + 1) m' ys σ3 H4))
noncomputable def tComp (wi : TI) (ks : List (Option Nat)) (g : TG) (tt : TT) (te : TE) : TE := fun σ H Q => wi σ H fun J H1 => ∀ D, H1 D = none → CompW J D g tt te Q (capt ks σ) (upd H1 D (.lst []))

section
variable {X : Cx}
theorem pe_comp {tg iter elt : Expr} {ifs : List Expr} {scope : Scope} {pos : Pos} {N' : List Str} {ks : List (Option Nat)} {cl : List (Str × Addr)} {wi : TI} {g : TG} {tt : TT} {te : TE}
    (hcalm : X.calm = true) (hi : PI X tg iter wi) (hclos : closureFor scope X.env = pure cl) (hcl : ∀ x c, cl.lookup x = some c → X.env.cells.lookup x = some c)
    (hcell : ∀ y ∈ scope.names, y.2 ≠ .cell) (hkind : scope.kind = .function) (hnames : ∀ y ∈ scope.names, y.2 = .local → scope.names.lookup y.1 = some .local)
    (hhas : ∀ x, ((relabel scope X.env).names.lookup x = some .cell ∨ (relabel scope X.env).names.lookup x = some .free) → ∃ c, cl.lookup x = some c)
    (hcap : Cap X (relabel scope X.env) N' ks)
    (hg : ∀ C s H fp, PG (compX X N' scope cl C s H fp) tg g) (ht : ∀ C s H fp, PTs (compX X N' scope cl C s H fp) ifs tt) (he : ∀ C s H fp, PE (compX X N' scope cl C s H fp) elt te)
    (hs : ∀ x, foldedSetIterable iter X.env x = pure x := by intro _; rfl) : PE X (.ListComp elt [⟨tg, iter, ifs, 0⟩] scope pos) (tComp wi ks g tt te) := by
  intro pins s σ H Q I h
  rw [eval_ListComp]
  refine wpAny_comprehension_free (use := none) rfl hs hclos hkind hnames (thn (hi pins s σ H _ I h) fun v s1 h1 => thn h1 fun itv s2 h2 => ?_)
  obtain ⟨it, fp, tn, J, H2, e, I2, T, st2, f2, R⟩ := h2
  subst e
  refine wpAny_newObj_type (wpAny_newFunctionEnv hcell (by intro y hy; simp at hy) (fun h₁ hns₁ hsb₁ => ?_) hkind)
  dsimp only at hns₁ hsb₁ ⊢
  have hD : H2 s2.heap.objs.size = none := I2.hok.fresh (Nat.le_refl _)
  obtain ⟨W, ⟨m0, w0⟩, turn⟩ := R _ hD
  generalize hs3 : ({ s2 with heap := s2.heap.push { cls := .type "list", dict := none, data := .seq ([] : List Value).toArray } } : Shared) = s3
  have e3 : s3.heap = s2.heap.push { cls := .type "list", dict := none, data := .seq ([] : List Value).toArray } := by rw [← hs3]
  have I3 : Inv X pins σ (upd H2 s2.heap.objs.size (.lst [])) s3 := by
    rw [← hs3]
    exact I2.laid (t' := s2.toks) (fun b o e => Heap.get?_push_of_some _ e) (Nat.le_refl _) ⟨Nat.zero_le _, [], 0, .nil, Heap.get?_push_size _ rfl⟩
  generalize hD0 : s2.heap.objs.size = D at *
  generalize hH3 : upd H2 D (.lst []) = H3 at *
  rw [← e3] at hns₁ hsb₁ ⊢
  -- what newFunctionEnv keeps
  have kp : ∀ b o, s3.heap.get? b = some o → h₁.get? b = some o := fun b o e => hsb₁.extBut b o (Nat.ne_of_lt (Heap.lt_size e)) (Heap.get?_push_of_some _ e)
  have f3 : ∀ b ∈ fp, FpOk X pins H3 b ∧ b < s3.heap.objs.size := fun b hb => by
    obtain ⟨o, ho, _⟩ := T.obj 0 _ st2 b hb
    have hlt : b < D := by rw [← hD0]; exact Heap.lt_size ho
    refine ⟨⟨?_, (f2 b hb).2⟩, ?_⟩
    · rw [← hH3, upd_ne (Nat.ne_of_lt hlt)]; exact (f2 b hb).1
    · rw [e3, Heap.size_push, hD0]; exact Nat.lt_succ_of_lt hlt
  have st3 : tn 0 h₁ := T.keep 0 s2.heap h₁ st2 fun b hb o e => kp b o (by rw [e3]; exact Heap.get?_push_of_some _ e)
  have capK : ∀ x c, cl.lookup x = some c → X.env.cells.lookup x = some c := hcl
  have stkne : ∀ b ∈ fp, b ∉ frs X.stack := fun b hb z => by
    rcases List.mem_cons.mp (I3.stkSub b z) with e | e
    · exact (f3 b hb).1.2.1 e
    · exact (f3 b hb).1.2.2.1 e
  have Cfresh : H3 s3.heap.objs.size = none := I3.hok.fresh (Nat.le_refl _)
  have ok' : (compX X N' scope cl s3.heap.objs.size s3 H3 fp).Ok := by
    refine ⟨I3.ok.mod, hkind, I3.ok.glob, I3.ok.blt, Nat.le_refl _, fun x y c h1 h2 => I3.ok.inj x y c (capK x c h1) (capK y c h2), fun x hx => hhas x hx, fun x c hf _ => absurd (show false = true from hf) Bool.false_ne_true, fun z => I3.ok.hd z, I3.ok.frames, .inl rfl,
      fun b hb => ⟨Nat.ne_of_lt (f3 b hb).2, fun x c e => (f3 b hb).1.2.2.2.2.1 x c (capK x c e)⟩, I3.bs, Nat.le_trans I3.ok.bsz I3.sz, fun b o e hb => ?_, fun b hb => stkne b hb, I3.stack, I3.stkFree⟩
    rcases (f3 b hb).1.2.2.2.1 with z | z
    · exact I3.ok.noex b o e z
    · exact absurd (Nat.lt_of_lt_of_le (Heap.lt_size e) (Nat.le_trans I3.ok.bsz z)) (Nat.lt_irrefl _)
  have I4 : Inv (compX X N' scope cl s3.heap.objs.size s3 H3 fp) [] (capt ks σ) H3 { s3 with heap := h₁, toks := s3.toks + ([] : List (Str × Value)).length } := by
    refine ⟨ok', rfl, I3.bare, Un.kept kp, ⟨_, hns₁, fun i x v e1 e2 e3' => ?_⟩, fun x c e => ?_, Cfresh, fun x c e => I3.freeC x c (capK x c e), fun p hp => absurd (show p ∈ ([] : List (Addr × Obj)) from hp) (by simp), I3.hok.kept kp, ?_⟩
    · have e2' : (capt ks σ)[i]? = some (some v) := e2
      unfold capt at e2'
      rw [List.getElem?_map] at e2'
      cases hk : ks[i]? with
      | none => rw [hk] at e2'; cases e2'
      | some o =>
        rw [hk] at e2'
        cases o with
        | none => cases e2'
        | some k =>
          have ev : σ.getD k none = some v := Option.some.inj e2'
          obtain ⟨c1, c2, c3⟩ := hcap.get e1 hk
          obtain ⟨m, hn, hl⟩ := I3.loc
          have es : σ[k]? = some (some v) := by
            rw [List.getD_eq_getElem?_getD] at ev
            cases q : σ[k]? with
            | none => rw [q] at ev; cases ev
            | some z => rw [q] at ev; exact congrArg some ev
          obtain ⟨u, r, l⟩ := hl k x v c1 es (.inr (.inl c2))
          refine ⟨u, r, .inr ⟨c3, ?_⟩⟩
          rcases l with ⟨l1, _⟩ | ⟨_, c, l2, l3⟩
          · have l1' : X.env.scope.names.lookup x = some .local := l1
            rw [c2] at l1'; cases l1'
          · obtain ⟨c', hc'⟩ := hhas x c3
            have : X.env.cells.lookup x = some c' := capK x c' hc'
            rw [l2] at this
            cases this
            refine ⟨c, hc', ?_⟩
            obtain ⟨o, ho, hd⟩ := l3
            exact ⟨o, kp c o ho, hd⟩
    · obtain ⟨v, o, ho, hd⟩ := I3.cell x c (capK x c e)
      exact ⟨v, o, kp c o ho, hd⟩
    · show (capt ks σ).length = N'.length
      unfold capt
      rw [List.length_map, hcap.len]
  -- behind the block
  have Cne : ∀ p ∈ X.pn ++ pins, p.1 ≠ s3.heap.objs.size := fun p hp => Nat.ne_of_lt (Heap.lt_size (I3.pin p hp).1)
  have back : ∀ {σ' : St} {H' : Hp} {s' : Shared}, Inv (compX X N' scope cl s3.heap.objs.size s3 H3 fp) [] σ' H' s' → ∀ h'' : Heap, Heap.SameBut s3.heap.objs.size s'.heap h'' → Inv X pins σ H' { s' with heap := h'' } := fun {σ' H' s'} I' h'' sb => by
    have J1 : Inv X pins σ H' s' := I3.call' (ch := fp) I'.os I'.base I'.hok I'.bare fun b hb => ⟨(f3 b hb).1.2.2.2.1, (f3 b hb).1.2.1, (f3 b hb).1.2.2.2.2.1, (f3 b hb).1.2.2.2.2.2⟩
    refine J1.turned (t' := s'.toks) (it := s3.heap.objs.size) (fun b o hb e => (sb.2 b hb).trans e) I'.free (Nat.ne_of_gt I3.lt) (.inr I3.sz) (fun x c e => ?_) Cne
    obtain ⟨v, q⟩ := I3.cell x c e
    exact Nat.ne_of_lt q.lt
  have fpok : ∀ {H' : Hp}, (∀ b ∈ fp, H' b = none) → ∀ b ∈ fp, FpOk (compX X N' scope cl s3.heap.objs.size s3 H3 fp) [] H' b := fun hn b hb =>
    ⟨hn b hb, Nat.ne_of_lt (f3 b hb).2, stkne b hb, .inl hb, fun x c e => (f3 b hb).1.2.2.2.2.1 x c (capK x c e), fun p hp => absurd (show p ∈ ([] : List (Addr × Obj)) from hp) (by simp)⟩
  have loop : codeAny (model X.prog X.w) X.A (.compLoop (.ListComp elt [⟨tg, iter, ifs, 0⟩] scope pos) 0 (.ref it) (.ref D) (compEnvC scope cl s3.heap.objs.size X.env))
      (compPost (model X.prog X.w) X.A X.xe none (EP X pins σ Q) (.ref D) s3.heap.objs.size) { s3 with heap := h₁, toks := s3.toks + ([] : List (Str × Value)).length } := by
    refine compLoop_any (fun n s' => ∃ i ys σ' H', Inv (compX X N' scope cl s3.heap.objs.size s3 H3 fp) [] σ' H' s' ∧ tn i s'.heap ∧ (∀ b ∈ fp, H' b = none) ∧ W i n ys σ' H') ?_ m0 ⟨0, [], _, _, I4, st3, fun b hb => (f3 b hb).1.1, w0⟩
    rintro n s5 ⟨i, ys, σ5, H5, I5, st5, fr5, w5⟩
    obtain ⟨hD5, tq⟩ := turn i n ys σ5 H5 w5
    rcases tq with ⟨stop, q⟩ | ⟨go, step⟩
    · refine thn (T.done (compX X N' scope cl s3.heap.objs.size s3 H3 fp) rfl rfl rfl hcalm i [] s5 σ5 H5 _ I5 (fpok fr5) st5 stop) fun r s6 ⟨hr, I6⟩ => ?_
      subst hr
      obtain ⟨m, hn, _⟩ := I6.loc
      exact ⟨m, hn, fun h'' sb => ⟨.ref D, H5, back I6 h'' sb, rfl, q⟩⟩
    · refine thn (T.item (compX X N' scope cl s3.heap.objs.size s3 H3 fp) rfl rfl rfl hcalm i [] s5 σ5 H5 _ I5 (fpok fr5) st5 go) fun r s6 ⟨u, hr, h6⟩ => ?_
      subst hr
      refine thn h6 fun _ s7 ⟨x, H7, I7, r7, y7, st7, fr7⟩ => ?_
      have I7' := I7.pinned (fpok fr7) (T.obj _ _ st7)
      refine thn (hg _ _ _ _ _ s7 σ5 H7 x u _ I7' r7 (step x H7 y7)) fun _ s8 ⟨σ8, H8, I8, q8⟩ => ?_
      refine thn (ht _ _ _ _ _ s8 σ8 H8 _ I8 q8) fun ok s9 ⟨H9, I9, q9⟩ => ?_
      have again : ∀ {σ' : St} {H' : Hp} {s' : Shared} {ys' : List V}, Inv (compX X N' scope cl s3.heap.objs.size s3 H3 fp) ([] ++ pinsAt fp s7.heap) σ' H' s' → (∃ m', m' < n ∧ W (i + 1) m' ys' σ' H') →
          ∃ m', m' < n ∧ ∃ i ys σ' H', Inv (compX X N' scope cl s3.heap.objs.size s3 H3 fp) [] σ' H' s' ∧ tn i s'.heap ∧ (∀ b ∈ fp, H' b = none) ∧ W i m' ys σ' H' := fun {σ' H' s' ys'} I' hw => by
        obtain ⟨m', hm, w'⟩ := hw
        refine ⟨m', hm, i + 1, ys', σ', H', I'.unpinned, T.keep _ _ _ st7 fun b hb o e => (I'.pin (b, o) (List.mem_append_right _ (List.mem_append_right _ (mem_pinsAt hb e)))).1, fun b hb => ?_, w'⟩
        obtain ⟨o, e, d⟩ := T.obj _ _ st7 b hb
        exact (I'.pin (b, o) (List.mem_append_right _ (List.mem_append_right _ (mem_pinsAt hb e)))).2.1
      cases ok with
      | false =>
        rw [if_neg Bool.false_ne_true] at q9 ⊢
        exact again I9 q9
      | true =>
        rw [if_pos rfl] at q9 ⊢
        refine thn (he _ _ _ _ _ s9 σ8 H9 _ I9 q9) fun y s10 ⟨yv, H10, I10, r10, q10, z10, w10⟩ => ?_
        refine thn (mt_append _ s10 σ8 H10 (.ref D) [yv] (.ref D) [y] (fun v H' => v = .non ∧ H' = upd H10 D (.lst (ys ++ [yv]))) I10 rfl (.cons r10 .nil) ⟨D, ys, yv, rfl, rfl, q10, z10, rfl, rfl⟩) fun _ s11 ⟨_, H11, I11, _, _, e11⟩ => ?_
        subst e11
        exact again I11 w10
  have es : ({ s3 with heap := h₁, toks := s3.toks + ([] : List (Str × Value)).length } : Shared) = { s2 with heap := h₁, toks := s2.toks + ([] : List (Str × Value)).length } := by rw [← hs3]
  rw [es] at loop
  exact codeAny_compStart_list loop (T.self _ 0 _ _ _ st3 loop)
end
end L2

namespace L2
open PySem PySem.Spec PyProof.Rows

noncomputable def Sz (n : Nat) (k : Int) : Prop := k.natAbs < 2 ^ n
theorem Sz.mono {n m : Nat} {k : Int} (h : Sz n k) (l : n ≤ m) : Sz m k := Nat.lt_of_lt_of_le h (Nat.pow_le_pow_right (by decide) l)
theorem Sz.mul {n m : Nat} {a b : Int} (h : Sz n a) (h' : Sz m b) : Sz (n + m) (a * b) := by
  unfold Sz at *
  rw [Int.natAbs_mul, Nat.pow_add]
  exact Nat.mul_lt_mul'' h h'
theorem Sz.add {n : Nat} {a b : Int} (h : Sz n a) (h' : Sz n b) : Sz (n + 1) (a + b) := by
  unfold Sz at *
  rw [Nat.pow_succ]
  omega
theorem Sz.sub {n : Nat} {a b : Int} (h : Sz n a) (h' : Sz n b) : Sz (n + 1) (a - b) := by
  unfold Sz at *
  rw [Nat.pow_succ]
  omega
theorem Sz.neg {n : Nat} {a : Int} (h : Sz n a) : Sz n (-a) := by
  unfold Sz at *
  omega
theorem Sz.bits {n : Nat} {k : Int} (h : Sz n k) : Builtin.Int.intBits k ≤ n := by
  unfold Builtin.Int.intBits
  split
  · exact Nat.zero_le _
  · rename_i hk
    have h0 : k.natAbs ≠ 0 := fun z => hk (by simp at z; simp [z])
    have := (Nat.log2_lt h0).mpr h
    omega
theorem Sz.log2 {n : Nat} {k : Int} (h : Sz n k) (hn : 0 < n) : k.natAbs.log2 < n := by
  by_cases h0 : k.natAbs = 0
  · rw [h0]; exact hn
  · exact (Nat.log2_lt h0).mpr h
noncomputable def CMulB (i j : Int) : Prop := Sz 100000 i ∧ Sz 100000 j
theorem CMulB.ok {i j : Int} (h : CMulB i j) : IntMulOk i j := by
  have h1 := h.1.bits
  have h2 := h.2.bits
  have e : Builtin.Int.intTooBig ((Builtin.Int.intBits i : Int) + Builtin.Int.intBits j) = false := by
    unfold Builtin.Int.intTooBig
    refine decide_eq_false ?_
    have : (bitsLine : Nat) = 134217728 := rfl
    rw [this]
    omega
  unfold IntMulOk
  simp [e]
noncomputable def CDivB (_ j : Int) : Prop := j ≠ 0 ∧ Sz 9000 j
section
variable {X : Cx}
theorem op_mulB : OpR X (binaryOp .Mult) (rI CMulB fun i j => .int (i * j)) := opI fun _ _ _ _ _ _ _ hc q => mul_int q hc.ok
theorem op_fdivB : OpR X (binaryOp .FloorDiv) (rI CDivB fun i j => .int (i.fdiv j)) := opI fun _ _ _ _ _ _ _ hc q => floordiv_int hc.1 q (.inl (PyProof.noPylong_of_log2 (hc.2.log2 (by decide))))
end

inductive Dt where
  | non | bl (b : Bool) | int (i : Int) | str (x : Str) | tup (xs : List Dt) | lst (xs : List Dt)
mutual
def Den (K : PySem.W.Frag) (H : Hp) : Dt → V → Prop
  | .non, v => v = .non
  | .bl b, v => v = .bl b
  | .int i, v => v = .int i
  | .str x, v => v = .str x
  | .tup ds, v => ∃ a xs, v = .ref a ∧ SqT K H a xs ∧ Dens K H ds xs
  | .lst ds, v => ∃ a xs, v = .ref a ∧ SqL K H a xs ∧ Dens K H ds xs
def Dens (K : PySem.W.Frag) (H : Hp) : List Dt → List V → Prop
  | [], xs => xs = []
  | d :: ds, xs => ∃ x r, xs = x :: r ∧ Den K H d x ∧ Dens K H ds r
end
mutual
def eqD : Dt → Dt → Bool
  | .non, .non => true
  | .bl a, .bl b => a == b
  | .bl a, .int b => (if a then 1 else 0) == b
  | .int a, .bl b => a == (if b then 1 else 0)
  | .int a, .int b => a == b
  | .str a, .str b => a == b
  | .tup xs, .tup ys => eqDs xs ys
  | .lst xs, .lst ys => eqDs xs ys
  | _, _ => false
def eqDs : List Dt → List Dt → Bool
  | [], [] => true
  | x :: xs, y :: ys => eqD x y && eqDs xs ys
  | _, _ => false
end
mutual
def depD : Dt → Nat
  | .tup xs => depDs xs + 1
  | .lst xs => depDs xs + 1
  | _ => 0
def depDs : List Dt → Nat
  | [] => 0
  | x :: xs => max (depD x) (depDs xs)
end
mutual
theorem eqD_refl : ∀ d : Dt, eqD d d = true
  | .non => rfl
  | .bl b => by simp [eqD]
  | .int b => by simp [eqD]
  | .str b => by simp [eqD]
  | .tup xs => by simp only [eqD]; exact eqDs_refl xs
  | .lst xs => by simp only [eqD]; exact eqDs_refl xs
theorem eqDs_refl : ∀ ds : List Dt, eqDs ds ds = true
  | [] => rfl
  | x :: xs => by simp only [eqDs, eqD_refl x, eqDs_refl xs, Bool.and_self]
end
theorem Dens.length {K : PySem.W.Frag} {H : Hp} : ∀ {ds : List Dt} {xs : List V}, Dens K H ds xs → xs.length = ds.length
  | [], _, h => by simp only [Dens] at h; subst h; rfl
  | d :: ds, _, h => by
    simp only [Dens] at h
    obtain ⟨x, r, rfl, _, h⟩ := h
    simp [Dens.length h]
section
variable {X : Cx} {pins : List (Addr × Obj)} {σ : St} {H : Hp} {s : Shared}
theorem kinds_apart (I : Inv X pins σ H s) {a : Addr} {xs ys : List V} (h : SqT X.K H a xs) (h' : SqL X.K H a ys) : False := by
  obtain ⟨its, _, ⟨o, e, c, _⟩, _⟩ := I.tuple h
  obtain ⟨its', _, ⟨o', n', e', c', _⟩, _⟩ := I.list h'
  rw [e] at e'; cases e'
  rw [c] at c'
  have : ("tuple" : String) = "list" := by injection c'
  exact absurd this (by decide)
mutual
theorem Den.inj (I : Inv X pins σ H s) : ∀ {d e : Dt} {v : V}, Den X.K H d v → Den X.K H e v → d = e
  | .non, e, v, h, h' => by
    simp only [Den] at h
    subst h
    cases e <;> simp only [Den] at h' <;> first
      | rfl
      | (obtain ⟨_, _, z, _⟩ := h'; cases z; done)
      | (cases h'; done)
  | .bl b, e, v, h, h' => by
    simp only [Den] at h
    subst h
    cases e <;> simp only [Den] at h' <;> first
      | (obtain ⟨_, _, z, _⟩ := h'; cases z; done)
      | (cases h'; rfl)
      | (cases h'; done)
  | .int b, e, v, h, h' => by
    simp only [Den] at h
    subst h
    cases e <;> simp only [Den] at h' <;> first
      | (obtain ⟨_, _, z, _⟩ := h'; cases z; done)
      | (cases h'; rfl)
      | (cases h'; done)
  | .str b, e, v, h, h' => by
    simp only [Den] at h
    subst h
    cases e <;> simp only [Den] at h' <;> first
      | (obtain ⟨_, _, z, _⟩ := h'; cases z; done)
      | (cases h'; rfl)
      | (cases h'; done)
  | .tup ds, e, v, h, h' => by
    simp only [Den] at h
    obtain ⟨a, xs, rfl, hx, hd⟩ := h
    cases e with
    | tup es =>
      simp only [Den] at h'
      obtain ⟨b, ys, z, hy, he⟩ := h'
      cases z
      rw [I.tuple_inj hy hx] at he
      rw [Dens.inj I hd he]
    | lst es =>
      simp only [Den] at h'
      obtain ⟨b, ys, z, hy, he⟩ := h'
      cases z
      exact (kinds_apart I hx hy).elim
    | non => simp only [Den] at h'; cases h'
    | bl b => simp only [Den] at h'; cases h'
    | int b => simp only [Den] at h'; cases h'
    | str b => simp only [Den] at h'; cases h'
  | .lst ds, e, v, h, h' => by
    simp only [Den] at h
    obtain ⟨a, xs, rfl, hx, hd⟩ := h
    cases e with
    | lst es =>
      simp only [Den] at h'
      obtain ⟨b, ys, z, hy, he⟩ := h'
      cases z
      rw [I.list_inj hy hx] at he
      rw [Dens.inj I hd he]
    | tup es =>
      simp only [Den] at h'
      obtain ⟨b, ys, z, hy, he⟩ := h'
      cases z
      exact (kinds_apart I hy hx).elim
    | non => simp only [Den] at h'; cases h'
    | bl b => simp only [Den] at h'; cases h'
    | int b => simp only [Den] at h'; cases h'
    | str b => simp only [Den] at h'; cases h'
theorem Dens.inj (I : Inv X pins σ H s) : ∀ {ds es : List Dt} {vs : List V}, Dens X.K H ds vs → Dens X.K H es vs → ds = es
  | [], [], _, _, _ => rfl
  | [], e :: es, vs, h, h' => by
    simp only [Dens] at h h'
    subst h
    obtain ⟨_, _, z, _⟩ := h'
    cases z
  | d :: ds, [], vs, h, h' => by
    simp only [Dens] at h h'
    subst h'
    obtain ⟨_, _, z, _⟩ := h
    cases z
  | d :: ds, e :: es, vs, h, h' => by
    simp only [Dens] at h h'
    obtain ⟨x, r, rfl, h1, h2⟩ := h
    obtain ⟨y, r', z, h3, h4⟩ := h'
    cases z
    rw [Den.inj I h1 h3, Dens.inj I h2 h4]
end
noncomputable def eqAtD (ds es : List Dt) (j : Nat) : Bool := match ds[j]?, es[j]? with
  | some d, some e => eqD d e
  | _, _ => true
theorem all_eqAtD : ∀ (ds es : List Dt), ds.length = es.length → (List.range ds.length).all (eqAtD ds es) = eqDs ds es
  | [], [], _ => rfl
  | d :: ds, e :: es, h => by
    have ih := all_eqAtD ds es (by simpa using h)
    rw [List.length_cons, List.range_succ_eq_map, List.all_cons, List.all_map]
    have e0 : eqAtD (d :: ds) (e :: es) 0 = eqD d e := rfl
    have e1 : (eqAtD (d :: ds) (e :: es)) ∘ Nat.succ = eqAtD ds es := by
      funext j
      simp [eqAtD, Function.comp]
    rw [e0, e1, ih]
    rfl
theorem eqDs_len : ∀ (ds es : List Dt), ds.length ≠ es.length → eqDs ds es = false
  | [], [], h => absurd rfl h
  | [], _ :: _, _ => rfl
  | _ :: _, [], _ => rfl
  | d :: ds, e :: es, h => by
    simp only [eqDs]
    rw [eqDs_len ds es (by simpa using h), Bool.and_false]
end
end L2

namespace L2
open PySem PySem.Spec PyProof.Rows
section
variable {X : Cx} {pins : List (Addr × Obj)} {σ : St} {H : Hp} {s : Shared}
theorem Dens.get {K : PySem.W.Frag} {H : Hp} : ∀ {ds : List Dt} {xs : List V} {j : Nat} {d : Dt}, Dens K H ds xs → ds[j]? = some d → ∃ x, xs[j]? = some x ∧ Den K H d x
  | [], _, _, _, _, e => by simp at e
  | d :: ds, xs, 0, d', h, e => by
    simp only [Dens] at h
    obtain ⟨x, r, rfl, h1, _⟩ := h
    simp at e
    subst e
    exact ⟨x, rfl, h1⟩
  | d :: ds, xs, j + 1, d', h, e => by
    simp only [Dens] at h
    obtain ⟨x, r, rfl, _, h2⟩ := h
    obtain ⟨y, h3, h4⟩ := Dens.get (j := j) h2 (by simpa using e)
    exact ⟨y, by simpa using h3, h4⟩
theorem depDs_mem : ∀ {ds : List Dt} {j : Nat} {d : Dt}, ds[j]? = some d → depD d ≤ depDs ds
  | [], _, _, e => by simp at e
  | d :: ds, 0, d', e => by simp at e; subst e; simp only [depDs]; exact Nat.le_max_left _ _
  | d :: ds, j + 1, d', e => by
    have := depDs_mem (ds := ds) (j := j) (d := d') (by simpa using e)
    simp only [depDs]
    exact Nat.le_trans this (Nat.le_max_right _ _)
theorem items_eq {A : Around} (n : Nat) (ih : ∀ (A : Around) (d e : Dt) (x y : V) (u v : Value), depD d ≤ n → A.units + n < cLine → Den X.K H d x → Den X.K H e y → RelV x u → RelV y v → SeqAt.EqAt A s u v (eqD d e))
    {ds es : List Dt} {xs ys : List V} {us vs : List Value} (hd : depDs ds ≤ n) (hu : A.units + n + 1 < cLine) (h1 : Dens X.K H ds xs) (h2 : Dens X.K H es ys) (r1 : Vals xs us) (r2 : Vals ys vs) :
    ∀ j (g1 : j < us.toArray.size) (g2 : j < vs.toArray.size), SeqAt.EqAt A.in1 s us.toArray[j] vs.toArray[j] (eqAtD ds es j) := by
  intro j g1 g2
  have l1 := h1.length
  have l2 := h2.length
  have l3 := r1.length
  have l4 := r2.length
  have g1' : j < us.length := by simpa using g1
  have g2' : j < vs.length := by simpa using g2
  have j1 : j < ds.length := by rw [← l1, l3]; exact g1'
  have j2 : j < es.length := by rw [← l2, l4]; exact g2'
  have e1 : ds[j]? = some ds[j] := by simp [j1]
  have e2 : es[j]? = some es[j] := by simp [j2]
  obtain ⟨x, ex, dx⟩ := h1.get e1
  obtain ⟨y, ey, dy⟩ := h2.get e2
  obtain ⟨u, eu, ru⟩ := r1.get ex
  obtain ⟨v, ev, rv⟩ := r2.get ey
  have e3 : eqAtD ds es j = eqD ds[j] es[j] := by unfold eqAtD; rw [e1, e2]
  rw [e3]
  have a1 : us.toArray[j] = u := by
    have : us[j]? = some us[j] := by simp [g1']
    rw [this] at eu
    simpa using Option.some.inj eu
  have a2 : vs.toArray[j] = v := by
    have : vs[j]? = some vs[j] := by simp [g2']
    rw [this] at ev
    simpa using Option.some.inj ev
  rw [a1, a2]
  exact ih A.in1 _ _ x y u v (Nat.le_trans (depDs_mem e1) hd) (by show A.units + 1 + n < cLine; omega) dx dy ru rv
theorem rc_seqT {A : Around} (I : Inv X pins σ H s) (n : Nat) (ih : ∀ (A : Around) (d e : Dt) (x y : V) (u v : Value), depD d ≤ n → A.units + n < cLine → Den X.K H d x → Den X.K H e y → RelV x u → RelV y v → SeqAt.EqAt A s u v (eqD d e))
    {ds es : List Dt} {a b : Addr} {xs ys : List V} (hd : depDs ds ≤ n) (hu : A.units + n + 1 < cLine) (ha : SqT X.K H a xs) (hb : SqT X.K H b ys) (h1 : Dens X.K H ds xs) (h2 : Dens X.K H es ys) :
    SeqAt.RcAt A s (.ref a) (.ref b) (eqDs ds es) ∧ SeqAt.RcNeAt A s (.ref a) (.ref b) (!eqDs ds es) := by
  obtain ⟨its, r1, p1, _⟩ := I.tuple ha
  obtain ⟨its2, r2, p2, _⟩ := I.tuple hb
  have l1 := h1.length
  have l2 := h2.length
  have l3 := r1.length
  have l4 := r2.length
  have hu' : A.units < cLine := by omega
  have q := SeqAt.RcAt.tuples (A := A) (s := s) (e := eqAtD ds es) p1 p2 hu' (items_eq n ih hd hu h1 h2 r1 r2)
  have q2 := SeqAt.RcNeAt.tuples (A := A) (s := s) (e := eqAtD ds es) p1 p2 hu' (items_eq n ih hd hu h1 h2 r1 r2)
  have e : ((List.range (min its.toArray.size its2.toArray.size)).all (eqAtD ds es) && its.toArray.size == its2.toArray.size) = eqDs ds es := by
    simp only [List.size_toArray]
    by_cases hl : ds.length = es.length
    · have : its.length = its2.length := by rw [← l3, ← l4, l1, l2, hl]
      rw [this, Nat.min_self, ← l4, l2, ← hl, all_eqAtD ds es hl]
      simp
    · have : its.length ≠ its2.length := by rw [← l3, ← l4, l1, l2]; exact hl
      rw [eqDs_len ds es hl]
      simp [this]
  rw [e] at q q2
  exact ⟨q, q2⟩
theorem rc_seqL {A : Around} (I : Inv X pins σ H s) (n : Nat) (ih : ∀ (A : Around) (d e : Dt) (x y : V) (u v : Value), depD d ≤ n → A.units + n < cLine → Den X.K H d x → Den X.K H e y → RelV x u → RelV y v → SeqAt.EqAt A s u v (eqD d e))
    {ds es : List Dt} {a b : Addr} {xs ys : List V} (hd : depDs ds ≤ n) (hu : A.units + n + 1 < cLine) (ha : SqL X.K H a xs) (hb : SqL X.K H b ys) (h1 : Dens X.K H ds xs) (h2 : Dens X.K H es ys) :
    SeqAt.RcAt A s (.ref a) (.ref b) (eqDs ds es) ∧ SeqAt.RcNeAt A s (.ref a) (.ref b) (!eqDs ds es) := by
  obtain ⟨its, r1, p1, _⟩ := I.list ha
  obtain ⟨its2, r2, p2, _⟩ := I.list hb
  have l1 := h1.length
  have l2 := h2.length
  have l3 := r1.length
  have l4 := r2.length
  have hu' : A.units < cLine := by omega
  by_cases hl : ds.length = es.length
  · have hsz : its.toArray.size = its2.toArray.size := by simp only [List.size_toArray]; rw [← l3, ← l4, l1, l2, hl]
    have q := SeqAt.RcAt.lists (A := A) (s := s) (e := eqAtD ds es) p1.isList p2.isList hsz hu' (items_eq n ih hd hu h1 h2 r1 r2)
    have q2 := SeqAt.RcNeAt.lists (A := A) (s := s) (e := eqAtD ds es) p1.isList p2.isList hsz hu' (items_eq n ih hd hu h1 h2 r1 r2)
    have e : (List.range its.toArray.size).all (eqAtD ds es) = eqDs ds es := by
      simp only [List.size_toArray]
      rw [← l3, l1, all_eqAtD ds es hl]
    rw [e] at q q2
    exact ⟨q, q2⟩
  · have hsz : (its.toArray.size != its2.toArray.size) = true := by
      simp only [List.size_toArray]
      rw [← l3, ← l4, l1, l2]
      simpa using hl
    rw [eqDs_len ds es hl]
    exact ⟨SeqAt.RcAt.lists_lengths p1.isList p2.isList hsz hu', SeqAt.RcNeAt.lists_lengths p1.isList p2.isList hsz hu'⟩
theorem eqAt_D (I : Inv X pins σ H s) : ∀ (n : Nat) (A : Around) (d e : Dt) (x y : V) (u v : Value), depD d ≤ n → A.units + n < cLine → Den X.K H d x → Den X.K H e y → RelV x u → RelV y v → SeqAt.EqAt A s u v (eqD d e) := by
  intro n
  induction n with
  | zero =>
    intro A d e x y u v hd hu h1 h2 rx ry
    have hu' : A.units < cLine := by omega
    cases d with
    | tup ds => simp only [depD] at hd; omega
    | lst ds => simp only [depD] at hd; omega
    | non =>
      simp only [Den] at h1
      subst h1
      cases e with
      | tup es =>
        simp only [Den] at h2
        obtain ⟨b, ys, rfl, hy, _⟩ := h2
        cases rx; cases ry
        obtain ⟨its, _, p, _⟩ := I.tuple hy
        exact SeqAt.EqAt.none_tuple p hu'
      | lst es =>
        simp only [Den] at h2
        obtain ⟨b, ys, rfl, hy, _⟩ := h2
        cases rx; cases ry
        obtain ⟨its, _, p, _⟩ := I.list hy
        exact SeqAt.EqAt.none_list p.isList hu'
      | _ => simp only [Den] at h2; subst h2; exact eqAt_V rx ry rfl rfl
    | bl i =>
      simp only [Den] at h1
      subst h1
      cases e with
      | tup es =>
        simp only [Den] at h2
        obtain ⟨b, ys, rfl, hy, _⟩ := h2
        cases rx; cases ry
        obtain ⟨its, _, p, _⟩ := I.tuple hy
        exact SeqAt.EqAt.bool_tuple _ p hu'
      | lst es =>
        simp only [Den] at h2
        obtain ⟨b, ys, rfl, hy, _⟩ := h2
        cases rx; cases ry
        obtain ⟨its, _, p, _⟩ := I.list hy
        exact SeqAt.EqAt.bool_list _ p.isList hu'
      | _ => simp only [Den] at h2; subst h2; exact eqAt_V rx ry rfl rfl
    | int i =>
      simp only [Den] at h1
      subst h1
      cases e with
      | tup es =>
        simp only [Den] at h2
        obtain ⟨b, ys, rfl, hy, _⟩ := h2
        obtain ⟨t, rfl⟩ := rx
        cases ry
        obtain ⟨its, _, p, _⟩ := I.tuple hy
        exact SeqAt.EqAt.int_tuple _ _ p hu'
      | lst es =>
        simp only [Den] at h2
        obtain ⟨b, ys, rfl, hy, _⟩ := h2
        obtain ⟨t, rfl⟩ := rx
        cases ry
        obtain ⟨its, _, p, _⟩ := I.list hy
        exact SeqAt.EqAt.int_list _ _ p.isList hu'
      | _ => simp only [Den] at h2; subst h2; exact eqAt_V rx ry rfl rfl
    | str i =>
      simp only [Den] at h1
      subst h1
      cases e with
      | tup es =>
        simp only [Den] at h2
        obtain ⟨b, ys, rfl, hy, _⟩ := h2
        obtain ⟨t, rfl⟩ := rx
        cases ry
        obtain ⟨its, _, p, _⟩ := I.tuple hy
        exact SeqAt.EqAt.str_tuple _ _ p hu'
      | lst es =>
        simp only [Den] at h2
        obtain ⟨b, ys, rfl, hy, _⟩ := h2
        obtain ⟨t, rfl⟩ := rx
        cases ry
        obtain ⟨its, _, p, _⟩ := I.list hy
        exact SeqAt.EqAt.str_list _ _ p.isList hu'
      | _ => simp only [Den] at h2; subst h2; exact eqAt_V rx ry rfl rfl
  | succ n ih =>
    intro A d e x y u v hd hu h1 h2 rx ry
    have hu' : A.units < cLine := by omega
    by_cases hle : depD d ≤ n
    · exact ih A d e x y u v hle (by omega) h1 h2 rx ry
    cases d with
    | tup ds =>
      simp only [depD] at hd
      have h1' := h1
      simp only [Den] at h1
      obtain ⟨a, xs, rfl, hx, hds⟩ := h1
      cases rx
      have hT := I.tuple hx
      obtain ⟨its, r1, p1, _⟩ := hT
      cases e with
      | tup es =>
        have h2' := h2
        simp only [Den] at h2
        obtain ⟨b, ys, rfl, hy, hes⟩ := h2
        cases ry
        by_cases hab : a = b
        · subst hab
          rw [Den.inj I h1' h2', eqD_refl]
          exact SeqAt.EqAt.same _
        · simp only [eqD]
          exact SeqAt.EqAt.of_refs hab (rc_seqT I n ih (by omega) (by omega) hx hy hds hes).1
      | lst es =>
        simp only [Den] at h2
        obtain ⟨b, ys, rfl, hy, _⟩ := h2
        cases ry
        obtain ⟨its', _, p, _⟩ := I.list hy
        exact SeqAt.EqAt.tuple_list p1 p.isList hu'
      | non => simp only [Den] at h2; subst h2; cases ry; exact SeqAt.EqAt.tuple_none p1 hu'
      | bl i => simp only [Den] at h2; subst h2; cases ry; exact SeqAt.EqAt.tuple_bool _ p1 hu'
      | int i => simp only [Den] at h2; subst h2; obtain ⟨t, rfl⟩ := ry; exact SeqAt.EqAt.tuple_int _ _ p1 hu'
      | str i => simp only [Den] at h2; subst h2; obtain ⟨t, rfl⟩ := ry; exact SeqAt.EqAt.tuple_str _ _ p1 hu'
    | lst ds =>
      simp only [depD] at hd
      have h1' := h1
      simp only [Den] at h1
      obtain ⟨a, xs, rfl, hx, hds⟩ := h1
      cases rx
      have hT := I.list hx
      obtain ⟨its, r1, p1, _⟩ := hT
      cases e with
      | lst es =>
        have h2' := h2
        simp only [Den] at h2
        obtain ⟨b, ys, rfl, hy, hes⟩ := h2
        cases ry
        by_cases hab : a = b
        · subst hab
          rw [Den.inj I h1' h2', eqD_refl]
          exact SeqAt.EqAt.same _
        · simp only [eqD]
          exact SeqAt.EqAt.of_refs hab (rc_seqL I n ih (by omega) (by omega) hx hy hds hes).1
      | tup es =>
        simp only [Den] at h2
        obtain ⟨b, ys, rfl, hy, _⟩ := h2
        cases ry
        obtain ⟨its', _, p, _⟩ := I.tuple hy
        exact SeqAt.EqAt.list_tuple p1.isList p hu'
      | non => simp only [Den] at h2; subst h2; cases ry; exact SeqAt.EqAt.list_none p1.isList hu'
      | bl i => simp only [Den] at h2; subst h2; cases ry; exact SeqAt.EqAt.list_bool _ p1.isList hu'
      | int i => simp only [Den] at h2; subst h2; obtain ⟨t, rfl⟩ := ry; exact SeqAt.EqAt.list_int _ _ p1.isList hu'
      | str i => simp only [Den] at h2; subst h2; obtain ⟨t, rfl⟩ := ry; exact SeqAt.EqAt.list_str _ _ p1.isList hu'
    | _ => simp only [depD] at hle; omega
end
section
variable {X : Cx}
noncomputable def rEqD (K : PySem.W.Frag) (neg : Bool) : R2 := fun x y H Q => ∃ a b xs ys ds es, x = .ref a ∧ y = .ref b ∧ ((SqT K H a xs ∧ SqT K H b ys) ∨ (SqL K H a xs ∧ SqL K H b ys)) ∧ Dens K H ds xs ∧ Dens K H es ys ∧ depDs ds ≤ 20 ∧
  Q (.bl (if neg then !eqDs ds es else eqDs ds es)) H
theorem op_eqD {k : Nat} (hr : Room k X.A) : OpR X (compareOp .Eq) (rEqD X.K false) := by
  intro pins s σ H x y v u Q I rx ry h
  obtain ⟨a, b, xs, ys, ds, es, rfl, rfl, hk, h1, h2, hd, q⟩ := h
  cases rx
  cases ry
  have hu := hr.units
  rcases hk with ⟨ha, hb⟩ | ⟨ha, hb⟩
  · exact (rc_seqT (A := X.A) I 20 (eqAt_D I 20) hd (by omega) ha hb h1 h2).1 _ _ _ _ ⟨.bl _, H, I, rfl, q⟩
  · exact (rc_seqL (A := X.A) I 20 (eqAt_D I 20) hd (by omega) ha hb h1 h2).1 _ _ _ _ ⟨.bl _, H, I, rfl, q⟩
theorem op_neD {k : Nat} (hr : Room k X.A) : OpR X (compareOp .NotEq) (rEqD X.K true) := by
  intro pins s σ H x y v u Q I rx ry h
  obtain ⟨a, b, xs, ys, ds, es, rfl, rfl, hk, h1, h2, hd, q⟩ := h
  cases rx
  cases ry
  have hu := hr.units
  rcases hk with ⟨ha, hb⟩ | ⟨ha, hb⟩
  · exact (rc_seqT (A := X.A) I 20 (eqAt_D I 20) hd (by omega) ha hb h1 h2).2 _ _ _ _ ⟨.bl _, H, I, rfl, q⟩
  · exact (rc_seqL (A := X.A) I 20 (eqAt_D I 20) hd (by omega) ha hb h1 h2).2 _ _ _ _ ⟨.bl _, H, I, rfl, q⟩

noncomputable def rIsi (K : PySem.W.Frag) : List V → Hp → VK → Prop := fun xs H Q => ∃ x T t b, xs = [x, .ty T] ∧ TyOf K H x t ∧ PySem.W.kitOne K t (.type T) = some b ∧ Q (.bl b) H
theorem call_isi : CallR X (.builtin "isinstance") (rIsi X.K) := by
  intro pins s σ H xs us Q I r h
  obtain ⟨x, T, t, b, rfl, ty, e, q⟩ := h
  obtain ⟨u, w', rfl, ru, rw'⟩ := vals2 r
  cases rw'
  exact isinst_ok I ru ty e fun tk => ⟨.bl b, H, I.tok tk, rfl, q⟩
theorem isi_tt (K : PySem.W.Frag) : PySem.W.kitOne K (.type "tuple") (.type "tuple") = some true := rfl
theorem isi_ii (K : PySem.W.Frag) : PySem.W.kitOne K (.type "int") (.type "int") = some true := by rfl
theorem isi_ib (K : PySem.W.Frag) : PySem.W.kitOne K (.type "int") (.type "bool") = some false := by rfl
end
end L2

namespace L2
open PySem PySem.Spec PyProof.Rows

section
variable {prog : Program} {w : World} {A : Around} {E : Value → Shared → Prop} {s : Shared}
end
end L2

namespace L2
open PySem PySem.Spec PyProof.Rows
section
variable {X : Cx} {pins : List (Addr × Obj)} {σ : St} {H : Hp} {s : Shared} {h' : Heap}
end
end L2

namespace L2
open PySem PySem.Spec PyProof.Rows
section
variable {X : Cx} {pins : List (Addr × Obj)} {σ : St} {H : Hp} {s : Shared}
end
section
variable {X : Cx}
end
end L2

namespace Pw
noncomputable def mk (a b : Int) : Int × Int := if b < 0 then (a.fdiv (-(Int.gcd a b : Int)), b.fdiv (-(Int.gcd a b : Int))) else (a.fdiv (Int.gcd a b : Int), b.fdiv (Int.gcd a b : Int))
noncomputable def Canon (p : Int × Int) : Prop := 0 < p.2 ∧ Int.gcd p.1 p.2 = 1
theorem gpos {a b : Int} (h : b ≠ 0) : 0 < (Int.gcd a b : Int) := by
  have : 0 < Int.gcd a b := Nat.pos_of_ne_zero fun z => h (Int.gcd_eq_zero_iff.mp z).2
  omega
theorem dvd_left {k m n : Int} (h : k ∣ m * n) (c : Int.gcd m k = 1) : k ∣ n := by
  have h1 : k.natAbs ∣ m.natAbs * n.natAbs := by rw [← Int.natAbs_mul]; exact Int.natAbs_dvd_natAbs.mpr h
  have h2 : Nat.Coprime k.natAbs m.natAbs := by
    show Nat.gcd _ _ = 1
    rw [Nat.gcd_comm]; exact c
  exact Int.natAbs_dvd_natAbs.mp (Nat.Coprime.dvd_of_dvd_mul_left h2 h1)
theorem mk_spec {a b : Int} (h : b ≠ 0) : Canon (mk a b) ∧ (mk a b).1 * b = a * (mk a b).2 := by
  have hg := gpos (a := a) h
  obtain ⟨x, hx⟩ : ((Int.gcd a b : Nat) : Int) ∣ a := Int.gcd_dvd_left ..
  obtain ⟨y, hy⟩ : ((Int.gcd a b : Nat) : Int) ∣ b := Int.gcd_dvd_right ..
  generalize hG : (Int.gcd a b : Int) = g at *
  have hgn : g ≠ 0 := by omega
  have cop : Int.gcd x y = 1 := by
    have h1 : Int.gcd a b = Int.gcd (g * x) (g * y) := by rw [← hx, ← hy]
    rw [Int.gcd_mul_left] at h1
    have h2 : (g.natAbs : Int) = g := by omega
    have h3 : (Int.gcd a b : Int) = g.natAbs := by rw [hG, h2]
    have h4 : Int.gcd a b = g.natAbs := by omega
    have h5 : g.natAbs * Int.gcd x y = g.natAbs * 1 := by rw [← h1, h4]; simp
    exact Nat.eq_of_mul_eq_mul_left (by omega) h5
  have e1 : a.fdiv g = x := by rw [hx]; exact Int.mul_fdiv_cancel_left _ hgn
  have e2 : b.fdiv g = y := by rw [hy]; exact Int.mul_fdiv_cancel_left _ hgn
  have e3 : a.fdiv (-g) = -x := by
    have : a = (-g) * (-x) := by rw [Int.neg_mul_neg]; exact hx
    rw [this]; exact Int.mul_fdiv_cancel_left _ (by omega)
  have e4 : b.fdiv (-g) = -y := by
    have : b = (-g) * (-y) := by rw [Int.neg_mul_neg]; exact hy
    rw [this]; exact Int.mul_fdiv_cancel_left _ (by omega)
  unfold mk
  rw [hG]
  by_cases hb : b < 0
  · rw [if_pos hb, e3, e4]
    have hy0 : y < 0 := by
      refine Int.not_le.mp fun hy0 => ?_
      have := Int.mul_nonneg (Int.le_of_lt hg) hy0
      omega
    refine ⟨⟨by show 0 < -y; omega, by show Int.gcd (-x) (-y) = 1; rw [Int.neg_gcd, Int.gcd_neg]; exact cop⟩, ?_⟩
    show -x * b = a * -y
    rw [hx, hy]; grind
  · rw [if_neg hb, e1, e2]
    have hy0 : 0 < y := by
      refine Int.not_le.mp fun hy0 => ?_
      have := Int.mul_nonneg (Int.le_of_lt hg) (show 0 ≤ -y by omega)
      rw [Int.mul_neg, ← hy] at this
      omega
    refine ⟨⟨hy0, cop⟩, ?_⟩
    show x * b = a * y
    rw [hx, hy]; grind
theorem canon_unique {p q : Int × Int} (hp : Canon p) (hq : Canon q) (h : p.1 * q.2 = q.1 * p.2) : p = q := by
  obtain ⟨p1, p2⟩ := p
  obtain ⟨q1, q2⟩ := q
  obtain ⟨a1, a2⟩ := hp
  obtain ⟨b1, b2⟩ := hq
  simp only at *
  have d1 : p2 ∣ q2 := by
    have : p2 ∣ p1 * q2 := ⟨q1, by rw [h]; grind⟩
    exact dvd_left this a2
  have d2 : q2 ∣ p2 := by
    have : q2 ∣ q1 * p2 := ⟨p1, by rw [← h]; grind⟩
    exact dvd_left this b2
  have e : p2 = q2 := Int.dvd_antisymm (by omega) (by omega) d1 d2
  subst e
  have : p1 = q1 := Int.eq_of_mul_eq_mul_right (by omega) h
  rw [this]
theorem mk_uniq {a b : Int} {p : Int × Int} (h : b ≠ 0) (hp : Canon p) (hw : p.1 * b = a * p.2) : mk a b = p := by
  obtain ⟨c, w⟩ := mk_spec (a := a) h
  refine canon_unique c hp (Int.eq_of_mul_eq_mul_right h ?_)
  grind
theorem mk_mul {a b m : Int} (h : b ≠ 0) (hm : m ≠ 0) : mk (a * m) (b * m) = mk a b := by
  obtain ⟨c, w⟩ := mk_spec (a := a) h
  exact mk_uniq (Int.mul_ne_zero h hm) c (by grind)
theorem mk_canon {p : Int × Int} (h : Canon p) : mk p.1 p.2 = p := mk_uniq (by have := h.1; omega) h (by grind)
theorem mk_le {a b : Int} (h : b ≠ 0) : (mk a b).1.natAbs ≤ a.natAbs ∧ (mk a b).2.natAbs ≤ b.natAbs := by
  obtain ⟨⟨c1, c2⟩, w⟩ := mk_spec (a := a) h
  generalize mk a b = p at *
  obtain ⟨x, y⟩ := p
  simp only at *
  have d1 : y ∣ b := by
    have : y ∣ x * b := ⟨a, by rw [w]; grind⟩
    exact dvd_left this c2
  have d2 : x ∣ a := by
    have : x ∣ y * a := ⟨b, by rw [w]; grind⟩
    exact dvd_left this (by rw [Int.gcd_comm]; exact c2)
  refine ⟨?_, Nat.le_of_dvd (by omega) (Int.natAbs_dvd_natAbs.mpr d1)⟩
  by_cases ha : a = 0
  · subst ha
    have : x * b = 0 := by rw [w, Int.zero_mul]
    rcases Int.mul_eq_zero.mp this with z | z
    · rw [z]; simp
    · exact absurd z h
  · exact Nat.le_of_dvd (by omega) (Int.natAbs_dvd_natAbs.mpr d2)
theorem gcd_turn {x y : Int} (hx : 0 ≤ x) (hy : 0 < y) : Int.gcd y (x % y) = Int.gcd x y := by
  obtain ⟨m, rfl⟩ := Int.eq_ofNat_of_zero_le hx
  obtain ⟨n, rfl⟩ := Int.eq_ofNat_of_zero_le (Int.le_of_lt hy)
  show Nat.gcd n (((m : Int) % (n : Int)).natAbs) = Nat.gcd m n
  have e : ((m : Int) % (n : Int)).natAbs = m % n := by rw [← Int.natCast_emod, Int.natAbs_natCast]
  rw [e, Nat.gcd_comm m n, Nat.gcd_comm n (m % n), ← Nat.gcd_rec]
end Pw

namespace L2
open PySem PySem.Spec PyProof.Rows
theorem ifT {b : Bool} {A B : Prop} (e : b = true) (a : A) : if b = true then A else B := by rw [if_pos e]; exact a
theorem ifF {b : Bool} {A B : Prop} (e : b = false) (h : B) : if b = true then A else B := by rw [e]; exact iteF h
theorem if2 {b : Bool} {A B : Prop} (h1 : b = true → A) (h2 : b = false → B) : if b = true then A else B := by
  cases b with
  | true => exact iteT (h1 rfl)
  | false => exact iteF (h2 rfl)
theorem vne {i j : Int} (h : i ≠ j) : (!decide (V.int i = V.int j)) = true := by
  rw [decide_eq_false (fun z => h (V.int.inj z))]; rfl
theorem veq {i j : Int} (h : i = j) : (!decide (V.int i = V.int j)) = false := by
  rw [decide_eq_true (congrArg V.int h)]; rfl
theorem sz_of {k : Int} (n : Nat) {m : Nat} (h : k.natAbs < 2 ^ n) (l : n ≤ m := by decide) : Sz m k := Sz.mono h l

noncomputable def Wt (Pv : Nat → List V → St → Hp → Prop) (n : Nat) : Nat → Nat → List V → St → Hp → Prop := fun i m ys σ H => m = n - i ∧ i ≤ n ∧ Pv i ys σ H
theorem Wt.next {Pv : Nat → List V → St → Hp → Prop} {n i : Nat} {ys : List V} {σ : St} {H : Hp} (h : i < n) (p : Pv (i + 1) ys σ H) : ∃ m', m' < n - i ∧ Wt Pv n (i + 1) m' ys σ H := ⟨n - (i + 1), by omega, rfl, h, p⟩
section
variable {K : PySem.W.Frag} {a D : Addr} {xs : List V} {g : TG} {tt : TT} {te : TE} {σ0 : St} {H0 : Hp} {Q : VK}
theorem comp_tup (Pv : Nat → List V → St → Hp → Prop) (h0 : Pv 0 [] σ0 H0) (hl : ∀ i ys σ H, Pv i ys σ H → SqT K H a xs ∧ H D = some (.lst ys))
    (hs : ∀ i x ys σ H, xs[i]? = some x → i < xs.length → Pv i ys σ H → g x σ H fun σ3 H3 => tt σ3 H3 fun b H4 => if b = true then
      te σ3 H4 fun y H5 => H5 D = some (.lst ys) ∧ ys.length < sizeLine ∧ ∃ m', m' < xs.length - i ∧ Wt Pv xs.length (i + 1) m' (ys ++ [y]) σ3 (upd H5 D (.lst (ys ++ [y]))) else ∃ m', m' < xs.length - i ∧ Wt Pv xs.length (i + 1) m' ys σ3 H4)
    (hd : ∀ ys σ H, Pv xs.length ys σ H → Q (.ref D) H) :
    CompW (Itt K a) D g tt te Q σ0 H0 := by
  refine ⟨Wt Pv xs.length, ⟨xs.length, rfl, Nat.zero_le _, h0⟩, ?_⟩
  rintro i m ys σ' H' ⟨rfl, hi, p⟩
  obtain ⟨hq, hD⟩ := hl i ys σ' H' p
  refine ⟨hD, ?_⟩
  by_cases hlt : i < xs.length
  · refine .inr ⟨⟨xs, xs[i], hq, by simp [hlt]⟩, fun x H2 y => ?_⟩
    obtain ⟨e, y⟩ := y
    subst e
    exact hs i x ys σ' _ (y xs hq) hlt p
  · have e : i = xs.length := by omega
    subst e
    exact .inl ⟨⟨xs, hq, Nat.le_refl _⟩, hd ys σ' H' p⟩
theorem comp_lst (Pv : Nat → List V → St → Hp → Prop) (h0 : Pv 0 [] σ0 H0) (hl : ∀ i ys σ H, Pv i ys σ H → SqL K H a xs ∧ H D = some (.lst ys))
    (hs : ∀ i x ys σ H, xs[i]? = some x → i < xs.length → Pv i ys σ H → g x σ H fun σ3 H3 => tt σ3 H3 fun b H4 => if b = true then
      te σ3 H4 fun y H5 => H5 D = some (.lst ys) ∧ ys.length < sizeLine ∧ ∃ m', m' < xs.length - i ∧ Wt Pv xs.length (i + 1) m' (ys ++ [y]) σ3 (upd H5 D (.lst (ys ++ [y]))) else ∃ m', m' < xs.length - i ∧ Wt Pv xs.length (i + 1) m' ys σ3 H4)
    (hd : ∀ ys σ H, Pv xs.length ys σ H → Q (.ref D) H) :
    CompW (Itl K a) D g tt te Q σ0 H0 := by
  refine ⟨Wt Pv xs.length, ⟨xs.length, rfl, Nat.zero_le _, h0⟩, ?_⟩
  rintro i m ys σ' H' ⟨rfl, hi, p⟩
  obtain ⟨hq, hD⟩ := hl i ys σ' H' p
  refine ⟨hD, ?_⟩
  by_cases hlt : i < xs.length
  · refine .inr ⟨⟨xs, xs[i], hq, by simp [hlt]⟩, fun x H2 y => ?_⟩
    obtain ⟨e, y⟩ := y
    subst e
    exact hs i x ys σ' _ (y xs hq) hlt p
  · have e : i = xs.length := by omega
    subst e
    exact .inl ⟨⟨xs, hq, Nat.le_refl _⟩, hd ys σ' H' p⟩
end

section
variable {X : Cx} {K : PySem.W.Frag}
theorem call_lenK (e : X.K = K) : CallR X (.builtin "len") (fun xs H Q => ∃ p ys, xs = [.ref p] ∧ (SqL K H p ys ∨ SqT K H p ys) ∧ Q (.int ys.length) H) := e ▸ call_len_seq
theorem ix_tupK (e : X.K = K) : IxR X (rIxT K) := e ▸ ix_tup
end

theorem dens_ints (K : PySem.W.Frag) (H : Hp) : ∀ ns : List Int, Dens K H (ns.map Dt.int) (ns.map V.int)
  | [] => by simp only [List.map_nil, Dens]
  | n :: ns => by
    simp only [List.map_cons, Dens]
    exact ⟨_, _, rfl, by simp only [Den], dens_ints K H ns⟩
theorem eqDs_ints : ∀ ns ms : List Int, eqDs (ns.map Dt.int) (ms.map Dt.int) = decide (ns = ms)
  | [], [] => rfl
  | [], _ :: _ => rfl
  | _ :: _, [] => rfl
  | n :: ns, m :: ms => by
    simp only [List.map_cons, eqDs, eqD]
    rw [eqDs_ints ns ms]
    by_cases h : n = m
    · subst h; simp
    · simp [h]
theorem dens2 (K : PySem.W.Frag) (H : Hp) (x y : Int) : Dens K H [Dt.int x, Dt.int y] [V.int x, V.int y] := dens_ints K H [x, y]
theorem dep2 (x y : Int) : depDs [Dt.int x, Dt.int y] ≤ 20 := by simp only [depDs, depD]; decide
theorem eqDs2 (x y z u : Int) : eqDs [Dt.int x, Dt.int y] [Dt.int z, Dt.int u] = decide ((x, y) = (z, u)) := by
  rw [show ([Dt.int x, Dt.int y] : List Dt) = [x, y].map Dt.int from rfl, show ([Dt.int z, Dt.int u] : List Dt) = [z, u].map Dt.int from rfl, eqDs_ints]
  simp

noncomputable def Kp (p : Addr) (H H' : Hp) : Prop := ∀ b o, H b = some o → b ≠ p → H' b = some o
theorem Kp.trans {p : Addr} {H H1 H2 : Hp} (a : Kp p H H1) (b : Kp p H1 H2) : Kp p H H2 := fun c o h n => b c o (a c o h n) n
theorem Kp.new {p q : Addr} {H : Hp} {o : HO} (hq : H q = none) : Kp p H (upd H q o) := fun b u h _ => by rw [upd_ne (ne_of_none h hq)]; exact h
theorem Kp.set {p : Addr} {H : Hp} {o : HO} : Kp p H (upd H p o) := fun b u h n => by rw [upd_ne n]; exact h
theorem Same.new {q : Addr} {H : Hp} {o : HO} (hq : H q = none) : Same H (upd H q o) := fun b u h => by rw [upd_ne (ne_of_none h hq)]; exact h
theorem Same.seqT {K : PySem.W.Frag} {H H' : Hp} {a : Addr} {xs : List V} (e : Same H H') (h : SqT K H a xs) : SqT K H' a xs := by
  rcases h with (h | ⟨o, h⟩) | h
  · exact .inl (.inl (e _ _ h))
  · exact .inl (.inr ⟨o, e _ _ h⟩)
  · exact .inr h
noncomputable def spCommon : Sp := fun vs H Q _ => ∃ x y : Int, vs = [.int x, .int y] ∧ 0 ≤ x ∧ 0 ≤ y ∧ Q (.int (Int.gcd x y : Int)) H
noncomputable def spMade : Sp := fun vs H Q _ => ∃ x y : Int, vs = [.int x, .int y] ∧ y ≠ 0 ∧ Sz 8000 x ∧ Sz 8000 y ∧ ∀ p, H p = none → Q (.ref p) (upd H p (.tup [.int (Pw.mk x y).1, .int (Pw.mk x y).2]))
noncomputable def spLaw (K : PySem.W.Frag) : Sp := fun vs H Q _ => ∃ (a : Addr) (ns : List Int), vs = [.ref a] ∧ SqL K H a (ns.map V.int) ∧ ns.length ≤ 63 ∧ ∀ H', Q (.bl true) H'
end L2

namespace Pw
noncomputable def fplus (p q : Int × Int) : Int × Int := mk (p.1 * q.2 + q.1 * p.2) (p.2 * q.2)
noncomputable def fless (p q : Int × Int) : Int × Int := mk (p.1 * q.2 - q.1 * p.2) (p.2 * q.2)
noncomputable def ftimes (p q : Int × Int) : Int × Int := mk (p.1 * q.1) (p.2 * q.2)
structure Fr (A : Int × Int) (n d : Int) : Prop where
  canon : Canon A
  ne : d ≠ 0
  w : A.1 * d = n * A.2
theorem Fr.pos {A : Int × Int} {n d : Int} (h : Fr A n d) : A.2 ≠ 0 := by have := h.canon.1; omega
theorem Fr.made {n d : Int} (h : d ≠ 0) : Fr (Pw.mk n d) n d := ⟨(mk_spec h).1, h, (mk_spec h).2⟩
theorem Fr.of {A : Int × Int} (h : Canon A) : Fr A A.1 A.2 := ⟨h, by have := h.1; omega, rfl⟩
end Pw
namespace L2
open PySem PySem.Spec PyProof.Rows
section
variable {X : Cx}
end

noncomputable def tMid (t u : TS) : TS := fun D σ H => ∃ R : St → Hp → Prop, t { D with nx := R } σ H ∧ ∀ σ' H', R σ' H' → u D σ' H'
theorem pss_mid {X : Cx} {st : Stmt} {rest : List Stmt} {t u : TS} (h1 : PS X st t) (h2 : PSs X rest u) : PSs X (st :: rest) (tMid t u) := by
  intro pins s σ H D I h
  obtain ⟨R, h, hR⟩ := h
  refine wpAny_execs_cons (thn (h1 pins s σ H { D with nx := R } I h) fun f s1 q => ?_)
  cases f with
  | next =>
    obtain ⟨σ', H', I', q⟩ := q
    exact h2 pins s1 σ' H' D I' (hR σ' H' q)
  | ret v => exact q
  | brk => exact q
  | cont => exact q

noncomputable def tTupS (t : TA) : TE := fun σ H Q => t σ H fun xs H1 => xs.length ≤ sizeLine ∧ ∀ (p : Addr) (H' : Hp), Same H1 H' → H1 p = none → H' p = some (.tup xs) → Q (.ref p) H'
noncomputable def tLstS (t : TA) : TE := fun σ H Q => t σ H fun xs H1 => xs.length ≤ sizeLine ∧ ∀ (p : Addr) (H' : Hp), Same H1 H' → H1 p = none → H' p = some (.lst xs) → Q (.ref p) H'
section
variable {X : Cx} {es : List Expr} {t : TA} {pos : Pos}
theorem pe_tupS {x1} (h : PA X es t) : PE X (.Tuple es x1 pos) (tTupS t) := by
  intro pins s σ H Q I hq
  refine wpAny_Tuple_spliced (thn (h pos pins s σ H _ I hq) fun us s1 ⟨xs, H1, I1, r, z, q⟩ => ⟨by rw [← r.length]; exact z, ?_⟩)
  have hf : H1 s1.heap.objs.size = none := I1.hok.fresh (Nat.le_refl _)
  refine ⟨.ref s1.heap.objs.size, upd H1 s1.heap.objs.size (.tup xs), I1.laid (t' := s1.toks) (fun b u e => Heap.get?_push_of_some _ e) (Nat.le_refl _) ?_, rfl, q _ _ (Same.new hf) hf upd_same⟩
  exact ⟨z, us, r, ⟨_, Heap.get?_push_size _ rfl, rfl, _, rfl⟩⟩
theorem pe_lstS (h : PA X es t) : PE X (.List es pos) (tLstS t) := by
  intro pins s σ H Q I hq
  refine wpAny_List_spliced (thn (h pos pins s σ H _ I hq) fun us s1 ⟨xs, H1, I1, r, z, q⟩ => ⟨by rw [← r.length]; exact z, ?_⟩)
  have hf : H1 s1.heap.objs.size = none := I1.hok.fresh (Nat.le_refl _)
  refine ⟨.ref s1.heap.objs.size, upd H1 s1.heap.objs.size (.lst xs), I1.laid (t' := s1.toks) (fun b u e => Heap.get?_push_of_some _ e) (Nat.le_refl _) ?_, rfl, q _ _ (Same.new hf) hf upd_same⟩
  exact ⟨z, us, 0, r, Heap.get?_push_size _ rfl⟩
end
noncomputable def Sz2 (n : Nat) (A : Int × Int) : Prop := Sz n A.1 ∧ Sz n A.2
theorem Sz2.mono {n m : Nat} {A : Int × Int} (h : Sz2 n A) (l : n ≤ m) : Sz2 m A := ⟨h.1.mono l, h.2.mono l⟩
theorem mk_sz {n : Nat} {x y : Int} (hy : y ≠ 0) (sx : Sz n x) (sy : Sz n y) : Sz2 n (Pw.mk x y) :=
  ⟨Nat.lt_of_le_of_lt (Pw.mk_le hy).1 sx, Nat.lt_of_le_of_lt (Pw.mk_le hy).2 sy⟩
theorem ftimes_sz {n m : Nat} {A B : Int × Int} (a : Sz2 n A) (b : Sz2 m B) (ha : A.2 ≠ 0) (hb : B.2 ≠ 0) : Sz2 (n + m + 1) (Pw.ftimes A B) :=
  mk_sz (Int.mul_ne_zero ha hb) ((a.1.mul b.1).mono (by omega)) ((a.2.mul b.2).mono (by omega))
noncomputable abbrev FrA (_ : PySem.W.Frag) (H : Hp) (p : Addr) (A : Int × Int) : Prop := H p = some (.tup [.int A.1, .int A.2])
theorem neF {K : PySem.W.Frag} {H : Hp} {p q : Addr} {A B : Int × Int} {Q : VK} (h1 : FrA K H p A) (h2 : FrA K H q B) (k : Q (.bl (!decide (A = B))) H) : rEqD K true (.ref p) (.ref q) H Q :=
  ⟨p, q, _, _, _, _, rfl, rfl, .inl ⟨SqT.of h1, SqT.of h2⟩, dens2 _ _ _ _, dens2 _ _ _ _, dep2 _ _, by rw [if_pos rfl, eqDs2]; exact k⟩
theorem nd0 {A B : Int × Int} (e : A = B) : (!decide (A = B)) = false := by rw [decide_eq_true e]; rfl
end L2

namespace Srt
open PySem PySem.W PyProof.Rows
structure Ord (lt : Nat → Nat → Bool) : Prop where
  asym : ∀ i j, lt i j = true → lt j i = false
  trans : ∀ i j k, lt j i = false → lt k j = false → lt k i = false
section
variable {lt : Nat → Nat → Bool} (O : Ord lt)
end
end Srt

namespace Srt
open PySem PySem.W PyProof.Rows
section
variable {n : Nat} (hn : 0 < n)
include hn
end
end Srt
namespace L2
open PySem PySem.Spec PyProof.Rows PySem.W
section
variable {prog : Program} {w : World} {A : Around} {E : Value → Shared → Prop} {s : Shared}
end
end L2

namespace L2
open PySem PySem.Spec PyProof.Rows PySem.W
section
variable {X : Cx} {pins : List (Addr × Obj)} {σ : St} {H : Hp} {s : Shared}
end
end L2

namespace L2
open PySem PySem.Spec PyProof.Rows PySem.W
noncomputable def dtP (p : Int × Int) : Dt := .tup [.int p.1, .int p.2]
section
variable {X : Cx} {pins : List (Addr × Obj)} {σ : St} {H : Hp} {s : Shared}
end
end L2

namespace L2
open PySem PySem.Spec PyProof.Rows PySem.W
theorem closure_loop (env : Env) : ∀ (names : List (Str × NameKind)) (cs : List (Str × Addr)), (∀ y ∈ names, y.2 = .free → ∃ c, env.cells.lookup y.1 = some c) → (∀ p ∈ cs, env.cells.lookup p.1 = some p.2) →
    ∃ cl : List (Str × Addr), (forIn names cs fun x cs => (match x with | (name, kind) => if (kind == .free) = true then do let __do_lift ← cellOf env name; pure (ForInStep.yield ((name, __do_lift) :: cs)) else pure (ForInStep.yield cs) : Sem (ForInStep (List (Str × Addr))))) = pure cl ∧
      (∀ p ∈ cl, env.cells.lookup p.1 = some p.2) ∧ (∀ p ∈ cs, p ∈ cl) ∧ ∀ x, (x, NameKind.free) ∈ names → ∃ c, (x, c) ∈ cl
  | [], cs, _, hc => ⟨cs, by rw [List.forIn_nil], hc, fun _ h => h, fun x h => by simp at h⟩
  | (n, k) :: names, cs, h, hc => by
    have h' := fun y hy => h y (List.mem_cons_of_mem _ hy)
    rw [List.forIn_cons]
    by_cases hk : k = .free
    · subst hk
      obtain ⟨c, e⟩ := h (n, .free) List.mem_cons_self rfl
      obtain ⟨cl, e1, e2, e3, e4⟩ := closure_loop env names ((n, c) :: cs) h' fun p hp => by
        rcases List.mem_cons.mp hp with rfl | hp
        · exact e
        · exact hc p hp
      refine ⟨cl, ?_, e2, fun p hp => e3 p (List.mem_cons_of_mem _ hp), fun x hx => ?_⟩
      · have ec : cellOf env n = pure c := by unfold cellOf; rw [e]
        simp only [ec, beq_self_eq_true, if_true, pure_bind]
        exact e1
      · rcases List.mem_cons.mp hx with z | hx
        · cases z; exact ⟨c, e3 _ List.mem_cons_self⟩
        · exact e4 x hx
    · obtain ⟨cl, e1, e2, e3, e4⟩ := closure_loop env names cs h' hc
      refine ⟨cl, ?_, e2, e3, fun x hx => ?_⟩
      · have : (k == NameKind.free) = false := by simpa using hk
        simp only [this, Bool.false_eq_true, if_false, pure_bind]
        exact e1
      · rcases List.mem_cons.mp hx with z | hx
        · cases z; exact absurd rfl hk
        · exact e4 x hx
theorem lookup_some_of_mem {x : Str} {c : Addr} : ∀ {l : List (Str × Addr)}, (x, c) ∈ l → ∃ c', l.lookup x = some c'
  | [], h => by simp at h
  | (n, d) :: l, h => by
    rw [List.lookup_cons]
    cases e : x == n with
    | true => exact ⟨d, rfl⟩
    | false =>
      rcases List.mem_cons.mp h with z | h
      · cases z; simp at e
      · exact lookup_some_of_mem h
theorem closure_ok {scope : Scope} {env : Env} (h : ∀ y ∈ scope.names, y.2 = .free → ∃ c, env.cells.lookup y.1 = some c) :
    ∃ cl, closureFor scope env = pure cl ∧ (∀ x c, cl.lookup x = some c → env.cells.lookup x = some c) ∧ ∀ x, (x, NameKind.free) ∈ scope.names → ∃ c, cl.lookup x = some c := by
  obtain ⟨cl, e1, e2, _, e4⟩ := closure_loop env scope.names [] h (fun p hp => by simp at hp)
  refine ⟨cl, ?_, fun x c hx => e2 (x, c) (PySem.mem_of_lookup hx), fun x hx => ?_⟩
  · unfold closureFor
    refine Eq.trans (congrArg (fun t => t >>= fun cs => pure cs) ?_) (bind_pure _)
    exact e1
  · obtain ⟨c, hc⟩ := e4 x hx
    exact lookup_some_of_mem hc
section
variable {X : Cx}
theorem pe_compC {tg iter elt : Expr} {ifs : List Expr} {scope : Scope} {pos : Pos} (N' : List Str) (ks : List (Option Nat)) {wi : TI} {g : TG} {tt : TT} {te : TE}
    (hcalm : X.calm = true) (hi : PI X tg iter wi) (hfree : ∀ y ∈ scope.names, y.2 = .free → X.env.scope.names.lookup y.1 = some .cell)
    (hcell : ∀ y ∈ scope.names, y.2 ≠ .cell) (hkind : scope.kind = .function) (hnames : ∀ y ∈ scope.names, y.2 = .local → scope.names.lookup y.1 = some .local)
    (hcap : Cap X (relabel scope X.env) N' ks)
    (hg : ∀ cl C s H fp, PG (compX X N' scope cl C s H fp) tg g) (ht : ∀ cl C s H fp, PTs (compX X N' scope cl C s H fp) ifs tt) (he : ∀ cl C s H fp, PE (compX X N' scope cl C s H fp) elt te)
    (hs : ∀ x, foldedSetIterable iter X.env x = pure x := by intro _; rfl) : PE X (.ListComp elt [⟨tg, iter, ifs, 0⟩] scope pos) (tComp wi ks g tt te) := by
  intro pins s σ H Q I h
  obtain ⟨cl, e1, e2, e3⟩ := closure_ok (scope := scope) (env := X.env) fun y hy hf => I.ok.has y.1 (.inl (hfree y hy hf))
  refine pe_comp hcalm hi e1 e2 hcell hkind hnames (fun x hx => ?_) hcap (hg cl) (ht cl) (he cl) hs pins s σ H Q I h
  have key : ∀ k, (x, k) ∈ (relabel scope X.env).names → k = .cell ∨ k = .free → (x, NameKind.free) ∈ scope.names := fun k hm hk => by
    unfold relabel at hm
    obtain ⟨⟨n, k'⟩, hy, e⟩ := List.mem_map.mp hm
    dsimp only at e
    split at e
    · rename_i hc
      cases e
      have : k' = .free := by simp at hc; exact hc.1.1
      rw [← this]; exact hy
    · cases e
      rcases hk with rfl | rfl
      · exact absurd rfl (hcell _ hy)
      · exact hy
  rcases hx with hx | hx
  · exact e3 x (key _ (PySem.mem_of_lookup hx) (.inl rfl))
  · exact e3 x (key _ (PySem.mem_of_lookup hx) (.inr rfl))
theorem comp_rng {lo : Int} {n : Nat} {D : Addr} {g : TG} {tt : TT} {te : TE} {σ0 : St} {H0 : Hp} {Q : VK} (Pv : Nat → List V → St → Hp → Prop) (h0 : Pv 0 [] σ0 H0) (hl : ∀ i ys σ H, Pv i ys σ H → H D = some (.lst ys))
    (hs : ∀ i ys σ H, i < n → Pv i ys σ H → g (.int (lo + i)) σ H fun σ3 H3 => tt σ3 H3 fun b H4 => if b = true then
      te σ3 H4 fun y H5 => H5 D = some (.lst ys) ∧ ys.length < sizeLine ∧ ∃ m', m' < n - i ∧ Wt Pv n (i + 1) m' (ys ++ [y]) σ3 (upd H5 D (.lst (ys ++ [y]))) else ∃ m', m' < n - i ∧ Wt Pv n (i + 1) m' ys σ3 H4)
    (hd : ∀ ys σ H, Pv n ys σ H → Q (.ref D) H) :
    CompW (Itr lo n) D g tt te Q σ0 H0 := by
  refine ⟨Wt Pv n, ⟨n, rfl, Nat.zero_le _, h0⟩, ?_⟩
  rintro i m ys σ' H' ⟨rfl, hi, p⟩
  refine ⟨hl i ys σ' H' p, ?_⟩
  by_cases hlt : i < n
  · refine .inr ⟨hlt, fun x H2 y => ?_⟩
    obtain ⟨e, y⟩ := y
    subst e y
    exact hs i ys σ' _ hlt p
  · have e : i = n := by omega
    subst e
    exact .inl ⟨Nat.le_refl _, hd ys σ' H' p⟩
theorem pg_tupK {K : PySem.W.Frag} {es : List Expr} {k : Nat} {t : TGs} {pos : Pos} (n : Nat) (e : X.K = K) (hc : X.calm = true) (h : PGs X es t)
    (hn : (assignEach es X.env).length = n := by rfl) (hst : (assignEach es X.env).findIdx? (·.1) = none := by rfl) : PG X (.Tuple es k pos) (gTup K n t) := e ▸ pg_tup hc h hn hst
noncomputable def rSum (K : PySem.W.Frag) : List V → Hp → VK → Prop := fun xs H Q => ∃ (l : Addr) (ns : List Int), xs = [.ref l] ∧ SqL K H l (ns.map V.int) ∧ Q (.int ns.sum) H
theorem call_sum (hc : X.calm = true) : CallR X (.builtin "sum") (rSum X.K) := by
  intro pins s σ H xs us Q I r h
  obtain ⟨l, ns, rfl, hl, q⟩ := h
  obtain ⟨u, rfl, rfl⟩ := vals1 r
  obtain ⟨its, rv, pl, _⟩ := I.list hl
  have hi := intsAre_of rv
  obtain ⟨xs, hx⟩ := hi.allInts.items
  have hl' : s.heap.IsList l (intItems xs) := hx ▸ pl.isList
  refine sum_intListG (I.ok.hd hc) hl' fun h' tk t' hk => ?_
  have e1 : ns = xs.toList.map (·.1) := by
    rw [← nums_intItems, ← hx]
    exact (show numsOf its.toArray.toList = ns from hi.numsOf).symm
  have e2 : preSum (numAt xs) xs.size = ns.sum := by
    rw [preSum_eq, List.take_of_length_le (by simp), e1]
  rw [e2]
  exact ⟨.int ns.sum, H, I.kept (t' := tk) hk, ⟨_, rfl⟩, q⟩
end

theorem newS {H : Hp} {Q : VK} {o : HO} (h : ∀ (p : Addr) (H' : Hp), Same H H' → H p = none → H' p = some o → Q (.ref p) H') : ∀ p, H p = none → Q (.ref p) (upd H p o) := fun p hp => h p _ (Same.new hp) hp upd_same
noncomputable def KL (H H' : Hp) : Prop := ∀ b o, H b = some o → (∀ xs, o ≠ .lst xs) → H' b = some o
theorem KL.trans {H H1 H2 : Hp} (a : KL H H1) (b : KL H1 H2) : KL H H2 := fun c o h n => b c o (a c o h n) n
theorem Same.kl {H H' : Hp} (s : Same H H') : KL H H' := fun b o h _ => s b o h
theorem KL.set {H : Hp} {l : Addr} {xs ys : List V} (h : H l = some (.lst xs)) : KL H (upd H l (.lst ys)) := fun b o e n => by
  have : b ≠ l := by rintro rfl; rw [h] at e; cases e; exact n xs rfl
  rw [upd_ne this]; exact e
theorem Kp.kl {H H' : Hp} {l : Addr} {xs : List V} (k : Kp l H H') (h : H l = some (.lst xs)) : KL H H' := fun b o e n => k b o e (by rintro rfl; rw [h] at e; cases e; exact n xs rfl)
theorem KL.tup {H H' : Hp} {b : Addr} {xs : List V} (k : KL H H') (h : H b = some (.tup xs)) : H' b = some (.tup xs) := k b _ h fun _ z => by cases z
theorem eqDs_prs : ∀ ps qs : List (Int × Int), eqDs (ps.map dtP) (qs.map dtP) = decide (ps = qs)
  | [], [] => rfl
  | [], _ :: _ => rfl
  | _ :: _, [] => rfl
  | p :: ps, q :: qs => by
    have e : eqD (dtP p) (dtP q) = decide (p = q) := by
      simp only [dtP, eqD]
      exact eqDs2 p.1 p.2 q.1 q.2
    simp only [List.map_cons, eqDs, e, eqDs_prs ps qs]
    by_cases h : p = q <;> simp [h]
noncomputable def rRepS : R2 := fun x y H Q => ∃ l k xs, x = .ref l ∧ y = .int k ∧ H l = some (.lst xs) ∧ -(2 ^ 63) ≤ k ∧ k < 2 ^ 63 ∧ xs.length * k.toNat ≤ sizeLine ∧
  ∀ (p : Addr) (H' : Hp), Same H H' → H p = none → H' p = some (.lst (List.replicate k.toNat xs).flatten) → Q (.ref p) H'
noncomputable def rTupOf (K : PySem.W.Frag) : List V → Hp → VK → Prop := fun xs H Q => ∃ (p : Addr) (ys : List V), xs = [.ref p] ∧ SqL K H p ys ∧ ∀ (t : Addr) (H' : Hp), Same H H' → H t = none → H' t = some (.tup ys) → Q (.ref t) H'
section
variable {X : Cx}
theorem op_repS : OpR X (binaryOp .Mult) rRepS := fun pins s σ H x y v u Q I rx ry ⟨l, k, xs, e1, e2, h1, h2, h3, h4, q⟩ => op_rep pins s σ H x y v u Q I rx ry ⟨l, k, xs, e1, e2, h1, h2, h3, h4, newS q⟩
theorem call_tupOf : CallR X (.type "tuple") (rTupOf X.K) := fun pins s σ H xs us Q I r ⟨p, ys, e, h1, q⟩ => call_tuple_of pins s σ H xs us Q I r ⟨p, ys, e, .inl ⟨h1, newS q⟩⟩
end
end L2

namespace Pw
end Pw
namespace L2
open PySem PySem.Spec PyProof.Rows PySem.W
end L2

namespace L2
open PySem PySem.Spec PyProof.Rows PySem.W
section
variable {X : Cx}
end
end L2

namespace Pw
theorem mk_nonneg {a b : Int} (hb : 0 < b) (ha : 0 ≤ a) : 0 ≤ (mk a b).1 := by
  obtain ⟨⟨c1, _⟩, w⟩ := mk_spec (a := a) (b := b) (by omega)
  have h : 0 ≤ (mk a b).1 * b := by rw [w]; exact Int.mul_nonneg ha (by omega)
  exact Int.nonneg_of_mul_nonneg_left h hb
theorem mk_le1 {a b : Int} (hb : 0 < b) (ha : a ≤ b) : (mk a b).1 ≤ (mk a b).2 := by
  obtain ⟨⟨c1, _⟩, w⟩ := mk_spec (a := a) (b := b) (by omega)
  have h : (mk a b).1 * b ≤ (mk a b).2 * b := by
    rw [w, Int.mul_comm (mk a b).2 b]
    exact Int.mul_le_mul_of_nonneg_right ha (by omega)
  exact Int.le_of_mul_le_mul_right h hb
theorem sum_nn : ∀ {l : List Int}, (∀ n ∈ l, 0 ≤ n) → 0 ≤ l.sum
  | [], _ => by simp
  | a :: l, h => by
    have := sum_nn fun n hn => h n (List.mem_cons_of_mem _ hn)
    have := h a List.mem_cons_self
    rw [List.sum_cons]; omega
theorem sum_pos : ∀ {l : List Int} {m : Int}, (∀ n ∈ l, 0 ≤ n) → m ∈ l → 0 < m → 0 < l.sum
  | a :: l, m, h, hm, p => by
    have h1 := sum_nn fun n hn => h n (List.mem_cons_of_mem _ hn)
    have h2 := h a List.mem_cons_self
    rw [List.sum_cons]
    rcases List.mem_cons.mp hm with rfl | hm
    · omega
    · have := sum_pos (fun n hn => h n (List.mem_cons_of_mem _ hn)) hm p
      omega
theorem sum_le {B : Int} : ∀ {l : List Int}, (∀ n ∈ l, n ≤ B) → l.sum ≤ l.length * B
  | [], _ => by simp
  | a :: l, h => by
    have h1 := sum_le fun n hn => h n (List.mem_cons_of_mem _ hn)
    have h2 := h a List.mem_cons_self
    rw [List.sum_cons, List.length_cons, Int.natCast_add, Int.add_mul]
    omega
end Pw
namespace L2
open PySem PySem.Spec PyProof.Rows
noncomputable def FrL (K : PySem.W.Frag) (H : Hp) : List (Int × Int) → List V → Prop
  | [], vs => vs = []
  | A :: As, vs => ∃ p r, vs = .ref p :: r ∧ FrA K H p A ∧ FrL K H As r
noncomputable def tupD (A : Int × Int) : Dt := .tup [.int A.1, .int A.2]
theorem FrL.same {K : PySem.W.Frag} {H H' : Hp} (s : Same H H') : ∀ {As : List (Int × Int)} {vs : List V}, FrL K H As vs → FrL K H' As vs
  | [], _, h => h
  | _ :: _, _, ⟨p, r, e, f, h⟩ => ⟨p, r, e, s _ _ f, FrL.same s h⟩
theorem FrL.snoc {K : PySem.W.Frag} {H : Hp} {p : Addr} {A : Int × Int} (f : FrA K H p A) : ∀ {As : List (Int × Int)} {vs : List V}, FrL K H As vs → FrL K H (As ++ [A]) (vs ++ [.ref p])
  | [], _, h => by
    have h : _ = ([] : List V) := h
    subst h
    exact ⟨p, [], rfl, f, rfl⟩
  | _ :: _, _, ⟨q, r, e, g, h⟩ => ⟨q, r ++ [.ref p], by rw [e]; rfl, g, FrL.snoc f h⟩
theorem FrL.dens {K : PySem.W.Frag} {H : Hp} : ∀ {As : List (Int × Int)} {vs : List V}, FrL K H As vs → Dens K H (As.map tupD) vs
  | [], _, h => by simp only [List.map_nil, Dens]; exact h
  | A :: As, _, ⟨p, r, e, f, h⟩ => by
    simp only [List.map_cons, Dens]
    refine ⟨.ref p, r, e, ?_, FrL.dens h⟩
    unfold tupD
    simp only [Den]
    exact ⟨p, _, rfl, SqT.of f, dens2 K H A.1 A.2⟩
theorem FrL.dep : ∀ As : List (Int × Int), depDs (As.map tupD) ≤ 20
  | [] => by simp only [List.map_nil, depDs]; decide
  | A :: As => by
    have := FrL.dep As
    simp only [List.map_cons, depDs, tupD, depD]
    omega
theorem FrL.len {K : PySem.W.Frag} {H : Hp} : ∀ {As : List (Int × Int)} {vs : List V}, FrL K H As vs → vs.length = As.length
  | [], _, h => by
    have h : _ = ([] : List V) := h
    subst h; rfl
  | _ :: _, _, ⟨p, r, e, f, h⟩ => by rw [e]; simp [FrL.len h]
theorem FrL.kp {K : PySem.W.Frag} {H H' : Hp} (k : KL H H') : ∀ {As : List (Int × Int)} {vs : List V}, FrL K H As vs → FrL K H' As vs
  | [], _, h => h
  | _ :: _, _, ⟨p, r, e, f, h⟩ => ⟨p, r, e, k.tup f, FrL.kp k h⟩
theorem FrL.at {K : PySem.W.Frag} {H : Hp} {As : List (Int × Int)} {vs : List V} (h : FrL K H As vs) {j : Nat} {A : Int × Int} (e : As[j]? = some A) : ∃ p, vs[j]? = some (.ref p) ∧ FrA K H p A := by
  induction As generalizing vs j with
  | nil => simp at e
  | cons B As ih =>
    obtain ⟨p, r, rfl, f, h⟩ := h
    cases j with
    | zero => simp at e; subst e; exact ⟨p, by simp, f⟩
    | succ j =>
      obtain ⟨q, a, b⟩ := ih h (j := j) (by simpa using e)
      exact ⟨q, by simpa using a, b⟩
structure Wts (pages : Int) (ws : List Int) : Prop where
  len : (ws.length : Int) = pages
  nn : ∀ w ∈ ws, 0 ≤ w ∧ w < 2 ^ 37
  pos : 0 < ws.sum
noncomputable def lps (ws : List Int) : List (Int × Int) := ws.map fun w => Pw.mk w ws.sum
section
variable {X : Cx}
theorem call_sumK {K : PySem.W.Frag} (e : X.K = K) (hc : X.calm = true) : CallR X (.builtin "sum") (rSum K) := e ▸ call_sum hc
theorem pa_consX {e : Expr} {es : List Expr} {te : TE} {t : TA} (hs : starEach (e :: es) X.env = (false, eval e X.env) :: starEach es X.env) (h1 : PE X e te) (h2 : PA X es t) : PA X (e :: es) (tCons te t) := pa_cons h1 h2 hs
theorem ps_setX {pos : Pos} {i : Nat} {x : Str} {e : Expr} {te : TE} {pos' : Pos} (hs : swapsWith e (some (.Name x pos')) pos.line X.env = pure false) (hf : X.fn x = true ∨ X.env.scope.names.lookup x = some .local) (hN : X.N.Nodup) (hi : X.N[i]? = some x) (hx : Loc X.env.scope x) (he : PE X e te) :
    PS X (.Assign [.Name x pos'] e pos) (tAsg te (gName i)) := ps_set hN hi hx he hs hf
end
end L2

namespace L2
open PySem PySem.Spec PyProof.Rows PySem.W
noncomputable def rNil (K : PySem.W.Frag) (neg : Bool) : R2 := fun x y H Q => ∃ a b xs, x = .ref a ∧ y = .ref b ∧ ((SqT K H a xs ∧ SqT K H b []) ∨ (SqL K H a xs ∧ SqL K H b [])) ∧ Q (.bl (if neg then !xs.isEmpty else xs.isEmpty)) H
section
variable {X : Cx} {pins : List (Addr × Obj)} {σ : St} {H : Hp} {s : Shared}
theorem rc_nilT {A : Around} {a b : Addr} {xs : List V} (I : Inv X pins σ H s) (hu : A.units < cLine) (ha : SqT X.K H a xs) (hb : SqT X.K H b []) :
    SeqAt.RcAt A s (.ref a) (.ref b) xs.isEmpty ∧ SeqAt.RcNeAt A s (.ref a) (.ref b) (!xs.isEmpty) := by
  obtain ⟨its, r1, p1, _⟩ := I.tuple ha
  obtain ⟨its2, r2, p2, _⟩ := I.tuple hb
  cases r2
  have l3 := r1.length
  have q := SeqAt.RcAt.tuples (A := A) (s := s) (e := fun _ => true) p1 p2 hu (fun j h1 h2 => absurd h2 (Nat.not_lt_zero j))
  have q2 := SeqAt.RcNeAt.tuples (A := A) (s := s) (e := fun _ => true) p1 p2 hu (fun j h1 h2 => absurd h2 (Nat.not_lt_zero j))
  have e : ((List.range (min its.toArray.size ([] : List Value).toArray.size)).all (fun _ => true) && its.toArray.size == ([] : List Value).toArray.size) = xs.isEmpty := by
    cases xs <;> cases its <;> simp at l3 ⊢
  rw [e] at q q2
  exact ⟨q, q2⟩
theorem rc_nilL {A : Around} {a b : Addr} {xs : List V} (I : Inv X pins σ H s) (hu : A.units < cLine) (ha : SqL X.K H a xs) (hb : SqL X.K H b []) :
    SeqAt.RcAt A s (.ref a) (.ref b) xs.isEmpty ∧ SeqAt.RcNeAt A s (.ref a) (.ref b) (!xs.isEmpty) := by
  obtain ⟨its, r1, p1, _⟩ := I.list ha
  obtain ⟨its2, r2, p2, _⟩ := I.list hb
  cases r2
  have l3 := r1.length
  cases xs with
  | nil =>
    cases r1
    exact ⟨SeqAt.RcAt.lists (A := A) (s := s) (e := fun _ => true) p1.isList p2.isList rfl hu (fun j h1 h2 => absurd h2 (Nat.not_lt_zero j)), SeqAt.RcNeAt.lists (A := A) (s := s) (e := fun _ => true) p1.isList p2.isList rfl hu (fun j h1 h2 => absurd h2 (Nat.not_lt_zero j))⟩
  | cons x xs =>
    have hsz : (its.toArray.size != ([] : List Value).toArray.size) = true := by
      cases its <;> simp at l3 ⊢
    exact ⟨SeqAt.RcAt.lists_lengths p1.isList p2.isList hsz hu, SeqAt.RcNeAt.lists_lengths p1.isList p2.isList hsz hu⟩
end
section
variable {X : Cx}
theorem op_eqNil {k : Nat} (hr : Room k X.A) : OpR X (compareOp .Eq) (rNil X.K false) := by
  intro pins s σ H x y v u Q I rx ry h
  obtain ⟨a, b, xs, rfl, rfl, hk, q⟩ := h
  cases rx
  cases ry
  have hu := hr.units
  rcases hk with ⟨ha, hb⟩ | ⟨ha, hb⟩
  · exact (rc_nilT (A := X.A) I (by omega) ha hb).1 _ _ _ _ ⟨.bl _, H, I, rfl, q⟩
  · exact (rc_nilL (A := X.A) I (by omega) ha hb).1 _ _ _ _ ⟨.bl _, H, I, rfl, q⟩
theorem op_neNil {k : Nat} (hr : Room k X.A) : OpR X (compareOp .NotEq) (rNil X.K true) := by
  intro pins s σ H x y v u Q I rx ry h
  obtain ⟨a, b, xs, rfl, rfl, hk, q⟩ := h
  cases rx
  cases ry
  have hu := hr.units
  rcases hk with ⟨ha, hb⟩ | ⟨ha, hb⟩
  · exact (rc_nilT (A := X.A) I (by omega) ha hb).2 _ _ _ _ ⟨.bl _, H, I, rfl, q⟩
  · exact (rc_nilL (A := X.A) I (by omega) ha hb).2 _ _ _ _ ⟨.bl _, H, I, rfl, q⟩
end
end L2

namespace HT
open PySem PyProof.Rows
section
variable {prog : Program} {w : World} {A : Around} {E : Value → Shared → Prop} {s : Shared}
theorem fm_map {α β : Type} (f : α → Option β) (g : α → β) : ∀ (l : List α), (∀ x ∈ l, f x = some (g x)) → l.filterMap f = l.map g
  | [], _ => rfl
  | x :: l, h => by rw [List.filterMap_cons_some (h x List.mem_cons_self), List.map_cons, fm_map f g l fun y hy => h y (List.mem_cons_of_mem _ hy)]
theorem pick_rev (xs : List Value) : ((List.range xs.toArray.size).filterMap fun (k : Nat) => xs.toArray[(((xs.toArray.size : Nat) : Int) - 1 + (k : Int) * -1).toNat]?).toArray = xs.reverse.toArray := by
  congr 1
  rw [List.size_toArray]
  refine List.ext_getElem? fun i => ?_
  by_cases hi : i < xs.length
  · have e : (List.range xs.length).filterMap (fun (k : Nat) => xs.toArray[((xs.length : Int) - 1 + (k : Int) * -1).toNat]?) = (List.range xs.length).map (fun (k : Nat) => (xs[xs.length - 1 - k]?).getD .none) := by
      refine fm_map _ _ _ fun k hk => ?_
      have hk := List.mem_range.mp hk
      have : ((xs.length : Int) - 1 + (k : Int) * -1).toNat = xs.length - 1 - k := by omega
      rw [this, List.getElem?_toArray]
      have : xs.length - 1 - k < xs.length := by omega
      simp [this]
    rw [e, List.getElem?_map, List.getElem?_range hi, List.getElem?_reverse hi]
    have : xs.length - 1 - i < xs.length := by omega
    simp [this]
  · rw [List.getElem?_eq_none (l := xs.reverse) (by rw [List.length_reverse]; omega)]
    refine List.getElem?_eq_none ?_
    have := List.length_filterMap_le (fun (k : Nat) => xs.toArray[((xs.length : Int) - 1 + (k : Int) * -1).toNat]?) (List.range xs.length)
    rw [List.length_range] at this
    omega
end
end HT
namespace L2
open PySem PySem.Spec PyProof.Rows PySem.W
section
variable {X : Cx}
noncomputable def rListS (K : PySem.W.Frag) : List V → Hp → VK → Prop := fun xs H Q => ∃ (p : Addr) (ys : List V), xs = [.ref p] ∧ (SqL K H p ys ∨ SqT K H p ys) ∧ ∀ (l : Addr) (H' : Hp), Same H H' → H l = none → H' l = some (.lst ys) → Q (.ref l) H'
theorem call_listS : CallR X (.type "list") (rListS X.K) := fun pins s σ H xs us Q I r ⟨p, ys, e, h1, q⟩ => call_list_of pins s σ H xs us Q I r ⟨p, ys, e, h1, newS q⟩
end
end L2

namespace L2
open PySem PySem.Spec PyProof.Rows

section
variable {κ : Type} [DecidableEq κ]
end


section
variable {P : Program} {w : World} {H : Hp} {h : Heap} {a : Addr}
end

section
variable {X : Cx} {pins : List (Addr × Obj)} {σ : St} {H : Hp} {s : Shared} {a : Addr} {y v : V} {u r : Value} {o : Option V} {A : Around} {E : Value → Shared → Prop}

end

section
variable {X : Cx} {pins : List (Addr × Obj)} {σ : St} {H : Hp} {s : Shared} {a : Addr} {kvs : List (Key × V)} {k : Key} {u : Value} {A : Around} {E : Value → Shared → Prop}
end


section
variable {X : Cx} {o i e value : Expr} {pos pos' tpos : Pos} {td ty tv : TE}
end


section
variable {X : Cx} {pos : Pos}
end

end L2

namespace L2
open PySem PySem.Spec PyProof.Rows PySem.W
theorem pe_neg1 {X : Cx} {j : Nat} {pos pos' : Pos} : PE X (.UnaryOp .USub (.Constant (.int 1) j pos') pos) (tC (.int (-1))) := fun pins s σ H Q I h => pe_un un_neg pe_int pins s σ H Q I ⟨_, rfl, h⟩
section
variable {K : PySem.W.Frag} {H H' : Hp} {n m : Nat} {v : V}
end
end L2

namespace L2
open PySem PySem.Spec PyProof.Rows PySem.W
section
variable {X : Cx}
theorem ps_forX {tg iter : Expr} {body : List Stmt} {wi : TI} {g : TG} {tb : TS} {pos : Pos} (hs : ∀ x : Value, foldedSetIterable iter X.env x = pure x) (h1 : PassesOwn (model X.prog X.w) X.A X.env X.xe) (h2 : X.calm = true) (hi : PI X tg iter wi) (hg : PG X tg g) (hb : PSs X body tb) :
    PS X (.For tg iter body [] pos) (tFor wi g tb) := ps_for h1 h2 hi hg hb hs
end
end L2

namespace Pw
noncomputable def qs : Nat → (Nat → Rat) → Rat
  | 0, _ => 0
  | n + 1, f => qs n f + f n
theorem qs_congr {f g : Nat → Rat} : ∀ {n : Nat}, (∀ i, i < n → f i = g i) → qs n f = qs n g
  | 0, _ => rfl
  | n + 1, h => by
    show qs n f + f n = qs n g + g n
    rw [qs_congr (n := n) fun i hi => h i (by omega), h n (by omega)]
theorem qs_add (f g : Nat → Rat) : ∀ n, qs n (fun i => f i + g i) = qs n f + qs n g
  | 0 => by show (0 : Rat) = 0 + 0; grind
  | n + 1 => by
    show qs n _ + (f n + g n) = (qs n f + f n) + (qs n g + g n)
    rw [qs_add f g n]; grind
theorem qs_mul (c : Rat) (f : Nat → Rat) : ∀ n, qs n (fun i => c * f i) = c * qs n f
  | 0 => by show (0 : Rat) = c * 0; grind
  | n + 1 => by
    show qs n _ + c * f n = c * (qs n f + f n)
    rw [qs_mul c f n]; grind
theorem qs_zero : ∀ n, qs n (fun _ => 0) = 0
  | 0 => rfl
  | n + 1 => by show qs n _ + 0 = (0:Rat); rw [qs_zero n]; grind
theorem qs_swap (f : Nat → Nat → Rat) (m : Nat) : ∀ n, qs n (fun i => qs m (fun j => f i j)) = qs m (fun j => qs n (fun i => f i j))
  | 0 => (qs_zero m).symm
  | n + 1 => by
    show qs n _ + qs m _ = qs m (fun j => qs n (fun i => f i j) + f n j)
    rw [qs_add, qs_swap f m n]
theorem qs_nonneg {f : Nat → Rat} : ∀ {n : Nat}, (∀ i, i < n → 0 ≤ f i) → 0 ≤ qs n f
  | 0, _ => by show (0 : Rat) ≤ 0; grind
  | n + 1, h => by
    have h1 := qs_nonneg (n := n) fun i hi => h i (by omega)
    have h2 := h n (by omega)
    show 0 ≤ qs n f + f n
    grind
noncomputable def val (A : Int × Int) : Rat := (A.1 : Rat) / (A.2 : Rat)
theorem castne {d : Int} (h : d ≠ 0) : (d : Rat) ≠ 0 := by simpa using h
theorem div_eq {a b c d : Rat} (hb : b ≠ 0) (hd : d ≠ 0) : a / b = c / d ↔ a * d = c * b := by
  constructor
  · intro h; grind
  · intro h; grind
end Pw

namespace Pw
theorem val_fr {A : Int × Int} {n d : Int} (h : Fr A n d) : val A = (n : Rat) / (d : Rat) := by
  unfold val
  rw [div_eq (castne h.pos) (castne h.ne)]
  exact_mod_cast h.w
theorem val_inj {A B : Int × Int} (a : Canon A) (b : Canon B) (h : val A = val B) : A = B := by
  have ha := (Fr.of a).pos
  have hb := (Fr.of b).pos
  unfold val at h
  rw [div_eq (castne ha) (castne hb)] at h
  exact canon_unique a b (by exact_mod_cast h)
theorem val_mk {a b : Int} (h : b ≠ 0) : val (mk a b) = (a : Rat) / (b : Rat) := val_fr (Fr.made h)
theorem canon_mk {a b : Int} (h : b ≠ 0) : Canon (mk a b) := (mk_spec h).1
theorem val_fplus {A B : Int × Int} (ha : A.2 ≠ 0) (hb : B.2 ≠ 0) : val (fplus A B) = val A + val B := by
  unfold fplus
  rw [val_mk (Int.mul_ne_zero ha hb)]
  unfold val
  have h1 := castne ha
  have h2 := castne hb
  rw [Rat.intCast_add, Rat.intCast_mul, Rat.intCast_mul, Rat.intCast_mul]
  grind
theorem val_fless {A B : Int × Int} (ha : A.2 ≠ 0) (hb : B.2 ≠ 0) : val (fless A B) = val A - val B := by
  unfold fless
  rw [val_mk (Int.mul_ne_zero ha hb)]
  unfold val
  have h1 := castne ha
  have h2 := castne hb
  rw [Rat.intCast_sub, Rat.intCast_mul, Rat.intCast_mul, Rat.intCast_mul]
  grind
theorem val_ftimes {A B : Int × Int} (ha : A.2 ≠ 0) (hb : B.2 ≠ 0) : val (ftimes A B) = val A * val B := by
  unfold ftimes
  rw [val_mk (Int.mul_ne_zero ha hb)]
  unfold val
  have h1 := castne ha
  have h2 := castne hb
  rw [Rat.intCast_mul, Rat.intCast_mul]
  grind
theorem canon_fplus {A B : Int × Int} (ha : A.2 ≠ 0) (hb : B.2 ≠ 0) : Canon (fplus A B) := canon_mk (Int.mul_ne_zero ha hb)
theorem canon_fless {A B : Int × Int} (ha : A.2 ≠ 0) (hb : B.2 ≠ 0) : Canon (fless A B) := canon_mk (Int.mul_ne_zero ha hb)
theorem canon_ftimes {A B : Int × Int} (ha : A.2 ≠ 0) (hb : B.2 ≠ 0) : Canon (ftimes A B) := canon_mk (Int.mul_ne_zero ha hb)
theorem canon_ne {A : Int × Int} (h : Canon A) : A.2 ≠ 0 := by have := h.1; omega
theorem val11 : val (1, 1) = 1 := by unfold val; show ((1 : Int) : Rat) / ((1 : Int) : Rat) = 1; rw [Rat.intCast_one]; grind
noncomputable def Canons (Bs : List (Int × Int)) : Prop := ∀ B ∈ Bs, Canon B
theorem qs_list : ∀ ws : List Int, qs ws.length (fun t => ((ws.getD t 0 : Int) : Rat)) = ((ws.sum : Int) : Rat) := by
  intro ws
  have key : ∀ k, k ≤ ws.length → qs k (fun t => ((ws.getD t 0 : Int) : Rat)) = (((ws.take k).sum : Int) : Rat) := by
    intro k
    induction k with
    | zero => intro _; simp [qs]
    | succ k ih =>
      intro hk
      show qs k _ + _ = _
      have e : ws[k]? = some ws[k] := by simp
      rw [ih (by omega), List.take_succ, List.sum_append, Rat.intCast_add, e]
      show _ + ((ws.getD k 0 : Int) : Rat) = _
      rw [List.getD_eq_getElem?_getD, e]
      simp
  have := key ws.length (Nat.le_refl _)
  rwa [List.take_of_length_le (Nat.le_refl _)] at this
end Pw
namespace L2
theorem lps_len (ws : List Int) : (lps ws).length = ws.length := by unfold lps; simp
theorem lps_canon {pages : Int} {ws : List Int} (h : Wts pages ws) : Pw.Canons (lps ws) := by
  intro B hB
  obtain ⟨x, _, rfl⟩ := List.mem_map.mp hB
  have := h.pos
  exact Pw.canon_mk (by omega)
theorem lps_sz {pages : Int} {ws : List Int} (h : Wts pages ws) (hp : pages ≤ 12) : ∀ B ∈ lps ws, Sz2 41 B := by
  intro B hB
  obtain ⟨x, hx, rfl⟩ := List.mem_map.mp hB
  have hl := h.len
  have hb := h.nn x hx
  have hsum : ws.sum ≤ 12 * 2 ^ 37 := by
    have h1 := Pw.sum_le (B := 2 ^ 37) fun n hn => Int.le_of_lt (h.nn n hn).2
    have h2 : (ws.length : Int) * 2 ^ 37 ≤ 12 * 2 ^ 37 := Int.mul_le_mul_of_nonneg_right (by omega) (by decide)
    omega
  have := h.pos
  exact mk_sz (by omega) (sz_of 41 (by omega)) (sz_of 41 (by omega))
theorem lps_nn {pages : Int} {ws : List Int} (h : Wts pages ws) : ∀ B ∈ lps ws, 0 ≤ B.1 := by
  intro B hB
  obtain ⟨x, hx, rfl⟩ := List.mem_map.mp hB
  exact Pw.mk_nonneg h.pos (h.nn x hx).1
theorem lps_sum {pages : Int} {ws : List Int} (h : Wts pages ws) : Pw.qs ws.length (fun t => Pw.val ((lps ws).getD t (0, 1))) = 1 := by
  have hp := h.pos
  have h0 : ws.sum ≠ 0 := by omega
  have h0' := Pw.castne h0
  rw [Pw.qs_congr (g := fun t => (1 / (ws.sum : Rat)) * ((ws.getD t 0 : Int) : Rat)) fun t ht => ?_, Pw.qs_mul, Pw.qs_list]
  · grind
  · have e : ws[t]? = some ws[t] := by simp
    rw [List.getD_eq_getElem?_getD, List.getD_eq_getElem?_getD]
    unfold lps
    rw [List.getElem?_map, e]
    show Pw.val (Pw.mk ws[t] ws.sum) = _
    rw [Pw.val_mk h0]
    simp only [Option.getD_some]
    grind
end L2

namespace L2
open PySem PySem.Spec PyProof.Rows
section
variable {X : Cx} {pins : List (Addr × Obj)} {σ : St} {H : Hp} {s : Shared} {h' : Heap}
theorem Inv.turnedL {ch : List Addr} {t' : Nat} (I : Inv X pins σ H s) (k : ∀ b ob, b ∉ ch → s.heap.get? b = some ob → h'.get? b = some ob) (fe : ∀ b ∈ ch, FpOk X pins H b) : Inv X pins σ H { s with heap := h', toks := t' } := by
  have nit : ∀ b u, H b = some u → b ∉ ch := fun b u q z => by rw [(fe b z).1] at q; cases q
  refine I.step (g' := s.gens) (d' := s.drawn) (ch := ch) (fun b hb => ?_) (fun b ob _ _ hc q _ => k b ob hc q) (fun b ob _ _ hc q _ => ⟨ob.slots, k b ob hc q⟩) (fun _ _ _ _ n => n)
    (fun b ob hc q => ⟨ob, k b ob hc q⟩) (fun _ _ q => q) (fun _ _ _ q => q) (fun b ps q => ⟨#[], by rw [q]; simp⟩) (fun m hm => ?_) (fun b u q => ?_) I.bare
  · have z := fe b hb
    exact ⟨z.2.2.2.1, z.2.1, z.2.2.2.2.1, z.2.2.2.2.2⟩
  · obtain ⟨ob, es, ep, ho, r⟩ := hm
    exact ⟨ob, es, ep, k _ ob (fun z => (fe _ z).2.1 rfl) ho, r⟩
  · refine (I.hok b u q).stay (fun c v hc z => k c v ?_ z) (fun _ z => z) fun _ _ z => z
    rcases hc with z | z
    · rw [z]; exact nit b u q
    · exact nit c _ z
theorem Inv.turnedNewL {ch : List Addr} {T : Addr} {o : HO} {t' : Nat} (I : Inv X pins σ H s) (k : ∀ b ob, b ∉ ch → s.heap.get? b = some ob → h'.get? b = some ob) (fe : ∀ b ∈ ch, FpOk X pins H b)
    (hT : s.heap.objs.size ≤ T) (new : ObjOk X.prog X.w (upd H T o) h' T o) : Inv X pins σ (upd H T o) { s with heap := h', toks := t' } := by
  have hn : H T = none := I.hok.fresh hT
  have neT : ∀ b ob, s.heap.get? b = some ob → b ≠ T := fun b ob q => Nat.ne_of_lt (Nat.lt_of_lt_of_le (Heap.lt_size q) hT)
  have nit : ∀ b u, H b = some u → b ∉ ch := fun b u q z => by rw [(fe b z).1] at q; cases q
  refine I.step (g' := s.gens) (d' := s.drawn) (ch := ch) (fun b hb => ?_) (fun b ob _ _ hc q _ => k b ob hc q) (fun b ob _ _ hc q _ => ⟨ob.slots, k b ob hc q⟩)
    (fun b ob _ q n => by rw [upd_ne (neT b ob q)]; exact n) (fun b ob hc q => ⟨ob, k b ob hc q⟩)
    (fun b xs q => by rw [upd_ne (ne_of_none q hn)]; exact q) (fun b ob u q => by rw [upd_ne (ne_of_none q hn)]; exact q) (fun b ps q => ⟨#[], by rw [upd_ne (ne_of_none q hn), q]; simp⟩) (fun m hm => ?_) (fun b u q => ?_) I.bare
  · have z := fe b hb
    exact ⟨z.2.2.2.1, z.2.1, z.2.2.2.2.1, z.2.2.2.2.2⟩
  · obtain ⟨ob, es, ep, ho, r⟩ := hm
    exact ⟨ob, es, ep, k _ ob (fun z => (fe _ z).2.1 rfl) ho, r⟩
  · by_cases hb : b = T
    · subst hb; rw [upd_same] at q; cases q; exact new
    · rw [upd_ne hb] at q
      refine (I.hok b u q).stay (fun c v hc z => ?_) (fun c z => by rw [upd_ne (ne_of_none z hn)]; exact z) fun c xs z => by rw [upd_ne (ne_of_none z hn)]; exact z
      rcases hc with e1 | e1
      · subst e1; exact k _ v (nit _ u q) z
      · exact k c v (nit c _ e1) z
end
noncomputable def ItemN (prog : Program) (w : World) (A : Around) (I : Addr) (wr : List Addr) (n : Nat) (Pt : Nat → Array Value → Prop) (St : Nat → Heap → Prop) (Mid : Nat → Addr → Heap → Prop) : Prop :=
  ∀ (i : Nat) (s : Shared) (Q : Option Value → Shared → Prop) (E : Value → Shared → Prop), i < n → St i s.heap →
    (∀ (T : Addr) (x y : Value) (h' : Heap) (tk : Nat), Pt i #[x, y] → s.heap.objs.size ≤ T → h'.get? T = some { cls := .type "tuple", data := .seq #[x, y] } → Mid i T h' → (∀ b o, b ∉ wr → s.heap.get? b = some o → h'.get? b = some o) → Q (some (.ref T)) { s with heap := h', toks := tk }) →
    wpAny (model prog w) A (pyNext (.ref I)) Q E s
theorem itemN_enum {prog : Program} {w : World} {A : Around} {it : Addr} {fp : List Addr} {n : Nat} {Pp : Nat → Value → Prop} {St : Nat → Heap → Prop} (D : Draws prog w A.in1 it fp n Pp St) (e : Addr) (hei : e ≠ it) (hef : e ∉ fp) :
    ItemN prog w A e [e, it] n (fun i vals => ∃ t x, Pp i x ∧ vals = #[.int i t, x]) (fun i h => (∃ old, IsEnum h e it i old) ∧ St i h) (fun i T h => (∃ x, IsEnumOut h e it ((i : Int) + 1) x T) ∧ St (i + 1) h ∧ T ≠ e ∧ T ≠ it) := fun i s Q E hi hst q => by
  obtain ⟨⟨old, he⟩, hs⟩ := hst
  refine wpAny_pyNext_enum_itemD D he hs hi hei hef fun x hp tk hP ho hs' hT hsz hk => ?_
  have l1 : e < s.heap.objs.size := Heap.lt_size he
  have l2 : it < s.heap.objs.size := by obtain ⟨_, y⟩ := D.live _ _ hs; exact Heap.lt_size y
  exact q _ _ _ hp (tk + 1) ⟨_, _, hP, rfl⟩ (Nat.le_refl _) hT ⟨⟨_, ho⟩, hs', Nat.ne_of_gt l1, Nat.ne_of_gt l2⟩ fun b o hb y => hk b o (fun z => hb (by simp [z])) (fun z => hb (by simp [z])) y
noncomputable def ItP (go : Nat → Hp → Prop) (pr : Nat → Hp → V → V → Prop) (stop : Nat → Hp → Prop) : It := ⟨go, fun i H x H' => ∃ T u v, x = .ref T ∧ H T = none ∧ H' = upd H T (.tup [u, v]) ∧ pr i H u v, stop⟩
section
variable {P : Program} {w : World} {K : PySem.W.Frag}
theorem turn_pairs {elts : List Expr} {ek : Nat} {epos : Pos} {go : Nat → Hp → Prop} {pr : Nat → Hp → V → V → Prop} {stop : Nat → Hp → Prop} {I : Addr} {fp wr : List Addr} {tn : Nat → Heap → Prop}
    (hI : I ∈ fp) (hw : ∀ b ∈ wr, b ∈ fp) (obj : ∀ i h, tn i h → ∀ b ∈ fp, ∃ o, h.get? b = some o ∧ ∀ v, o.data ≠ .cell v)
    (keep : ∀ i h h', tn i h → (∀ b ∈ fp, ∀ o, h.get? b = some o → h'.get? b = some o) → tn i h')
    (self : ∀ (A : Around) (i : Nat) (s : Shared) (Q : Value → Shared → Prop) (E : Value → Shared → Prop), tn i s.heap → Q (.ref I) s → wpAny (model P w) A (pyIter (.ref I)) Q E s)
    (it : ∀ (X : Cx), X.prog = P → X.w = w → X.K = K → X.calm = true → ∀ (i : Nat) (pins : List (Addr × Obj)) (s : Shared) (σ : St) (H : Hp), Inv X pins σ H s → (∀ b ∈ fp, FpOk X pins H b) → tn i s.heap → go i H →
      ∃ fp' n Pt St Mid, (WalksT P w X.A I fp' wr n Pt St Mid ∧ ItemN P w X.A I wr n Pt St Mid) ∧ i < n ∧ St i s.heap ∧ (∀ h', St (i + 1) h' → tn (i + 1) h') ∧ ∀ vals, Pt i vals → ∃ u v x y, vals = #[x, y] ∧ RelV u x ∧ RelV v y ∧ pr i H u v)
    (dn : ∀ (X : Cx), X.prog = P → X.w = w → X.K = K → X.calm = true → ∀ (i : Nat) (pins : List (Addr × Obj)) (s : Shared) (σ : St) (H : Hp), Inv X pins σ H s → (∀ b ∈ fp, FpOk X pins H b) → tn i s.heap → stop i H →
      ∃ fp' n Pt St Mid, WalksT P w X.A I fp' wr n Pt St Mid ∧ St n s.heap) :
    Turn P w K (.Tuple elts ek epos) (ItP go pr stop) fp I tn where
  mem := hI
  obj := obj
  keep := keep
  self := self
  item := by
    intro X hP hw' hK hc i pins s σ H E I0 hf st hg
    obtain ⟨fp', n, Pt, St, Mid, ⟨W, WN⟩, hi, hst, hnx, hpt⟩ := it X hP hw' hK hc i pins s σ H I0 hf st hg
    subst hP hw' hK
    refine WN i s _ _ hi hst fun T x0 y0 h1 tk hv hT hIT hmid hk1 => ⟨.ref T, rfl, ?_⟩
    refine W.go elts ek epos i T _ _ _ hmid fun h2 hs2 hk2 => ?_
    obtain ⟨u, v, x, y, exy, ru, rv, hpr⟩ := hpt _ hv
    cases exy
    have fe : ∀ b ∈ wr, FpOk X pins H b := fun b hb => hf b (hw b hb)
    have hTw : T ∉ wr := W.apart i T _ hmid
    have hn : H T = none := I0.hok.fresh hT
    have I2 : Inv X pins σ (upd H T (.tup [u, v])) { s with heap := h2, toks := tk } :=
      I0.turnedNewL (ch := wr) (fun b ob hb q => hk2 b ob hb (hk1 b ob hb q)) fe hT ⟨by show 2 ≤ sizeLine; decide, [x0, y0], .cons ru (.cons rv .nil), ⟨_, hk2 T _ hTw hIT, rfl, _, rfl⟩⟩
    refine ⟨.ref T, _, I2, rfl, ⟨T, u, v, rfl, hn, rfl, hpr⟩, hnx _ hs2, fun b hb => ?_⟩
    obtain ⟨ob, eb, _⟩ := obj i _ st b hb
    rw [upd_ne (Nat.ne_of_lt (Nat.lt_of_lt_of_le (Heap.lt_size eb) hT))]
    exact (hf b hb).1
  done := by
    intro X hP hw' hK hc i pins s σ H E I0 hf st hg
    obtain ⟨fp', n, Pt, St, Mid, W, hst⟩ := dn X hP hw' hK hc i pins s σ H I0 hf st hg
    subst hP hw' hK
    exact W.done s _ _ hst fun h1 tk hk => ⟨rfl, I0.turnedL hk fun b hb => hf b (hw b hb)⟩
end

section
variable {prog : Program} {w : World} {A : Around}
theorem nextT_some {j t : Addr} {i : Nat} {its : Array Value} {y : Value} {s : Shared} {E Q : Value → Shared → Prop} (hj : s.heap.IsTupleIter j t i) (hs : s.heap.IsTuple t its) (hy : its[i]? = some y) (q : ∀ hp, hp.IsTupleIter j t (i + 1) → Heap.SameBut j s.heap hp → Q y { s with heap := hp }) : wpAny (model prog w) A (Builtin.SmallTypes.nextOf (.ref j)) Q E s := by
  obtain ⟨oj, gj, cj, dj⟩ := id hj
  obtain ⟨ot, gt, ct, nt, dt⟩ := hs
  unfold Builtin.SmallTypes.nextOf; refine wpAny_bind (wpAny_callSpecial?_slot (name := Str.ofString "__next__") hj.typeIs slot_tupleiter_next (wpAny_call_entry slot_tupleiter_next hj.typeIs entry_tupleiter_next ?_ (args_tupleiter_next _)))
  show wpAny _ _ (field (.ref j) 0 >>= _) _ _ s; refine wpAny_bind (wpAny_field gj dj (x := .ref t) rfl ?_)
  show wpAny _ _ (if (Value.ref t == Value.none) = true then _ else _) _ _ s; rw [if_neg (show ¬ ((Value.ref t == Value.none) = true) from Bool.false_ne_true)]
  show wpAny _ _ (field (.ref j) 1 >>= _) _ _ s; refine wpAny_bind (wpAny_field gj dj (x := .int i 0) rfl ?_)
  show wpAny _ _ (seqItems? (.ref t) >>= _) _ _ s; refine wpAny_bind (wpAny_seqItems gt dt ?_)
  simp only [Int.toNat_natCast, hy]; refine wpAny_bind (wpAny_setField gj dj (by simp) (wpAny_pure ⟨y, rfl, wpAny_pure (q _ ?_ (Heap.SameBut.update ..))⟩))
  exact ⟨_, Heap.get?_update_self _ gj (Obj.isFreed_of_fields (Obj.data_mapFields dj _)), (Obj.cls_mapFields ..).trans cj, by rw [Obj.data_mapFields dj]; simp [rawInt]⟩
theorem nextT_none {j t : Addr} {i : Nat} {its : Array Value} {s : Shared} {E Q : Value → Shared → Prop} (hh : A.handled = none) (hj : s.heap.IsTupleIter j t i) (hs : s.heap.IsTuple t its) (hy : its[i]? = none) (q : ∀ hp e, Heap.ExtBut j s.heap hp → (∃ o, hp.get? e = some o ∧ o.cls = .type "StopIteration") → E (.ref e) { s with heap := hp }) : wpAny (model prog w) A (Builtin.SmallTypes.nextOf (.ref j)) Q E s := by
  obtain ⟨oj, gj, cj, dj⟩ := id hj
  obtain ⟨ot, gt, ct, nt, dt⟩ := hs
  unfold Builtin.SmallTypes.nextOf; refine wpAny_bind (wpAny_callSpecial?_slot (name := Str.ofString "__next__") hj.typeIs slot_tupleiter_next (wpAny_call_entry slot_tupleiter_next hj.typeIs entry_tupleiter_next ?_ (args_tupleiter_next _)))
  show wpAny _ _ (field (.ref j) 0 >>= _) _ _ s; refine wpAny_bind (wpAny_field gj dj (x := .ref t) rfl ?_)
  show wpAny _ _ (if (Value.ref t == Value.none) = true then _ else _) _ _ s; rw [if_neg (show ¬ ((Value.ref t == Value.none) = true) from Bool.false_ne_true)]
  show wpAny _ _ (field (.ref j) 1 >>= _) _ _ s; refine wpAny_bind (wpAny_field gj dj (x := .int i 0) rfl ?_)
  show wpAny _ _ (seqItems? (.ref t) >>= _) _ _ s; refine wpAny_bind (wpAny_seqItems gt dt ?_)
  simp only [Int.toNat_natCast, hy]; refine wpAny_bind (wpAny_rule (wpAny_bind (wpAny_setField gj dj (by simp) ?_)))
  show wpAny _ _ (newExc (.type "StopIteration") [] >>= _) _ _ _; refine wpAny_bind ?_; simp only [newExc, newTuple]
  refine wpAny_bind (wpAny_newObj_type ?_ (by size_fits)); refine wpAny_bind (m := firstArgMember _ _) (wpAny_of_eq (a := Value.none) (by first | rfl | (simp only [firstArgMember]; rfl)) ?_)
  refine wpAny_newObj_type ?_ (by size_fits); simp only [raiseNew]; refine wpAny_bind (wpAny_handled ?_)
  first | rw [show A.in1.handled = none from hh] | rw [hh]
  refine wpAny_bind (wpAny_pure (wpAny_throw ?_)); exact q _ _ (((Heap.SameBut.update ..).extBut.push _).push _) ⟨_, Heap.get?_push_size _ rfl, rfl⟩
theorem drawsT (hh : A.handled = none) (it l : Addr) (hne : l ≠ it) (its : Array Value) :
    Draws prog w A it [it, l] its.size (fun i v => its[i]? = some v) (fun i h => h.IsTupleIter it l i ∧ h.IsTuple l its) where
  live := fun _ _ st => by
    obtain ⟨o, ho, _⟩ := st.1
    exact ⟨o, ho⟩
  frame := fun _ _ _ st hk => by
    obtain ⟨o, ho, r⟩ := st.2
    exact ⟨st.1.at fun o e => hk it (by simp) o e, o, hk l (by simp) o ho, r⟩
  item := fun i s Q E hi st hQ => by
    obtain ⟨s1, o, ho, r⟩ := st
    exact nextT_some s1 ⟨o, ho, r⟩ (y := its[i]) (by simp [hi]) fun hp a b => hQ _ hp s.toks (by simp [hi]) ⟨a, o, b.extBut l o hne ho, r⟩ b
  done := fun s Q E st hE => nextT_none hh st.1 st.2 (by simp) hE
end

noncomputable def ItEL (K : PySem.W.Frag) (a : Addr) : It := ItP (fun i H => ∃ xs x, SqL K H a xs ∧ xs[i]? = some x) (fun i H u v => u = .int i ∧ ∀ xs, SqL K H a xs → xs[i]? = some v) (fun i H => ∃ xs, SqL K H a xs ∧ xs.length = i)
section
variable {P : Program} {w : World} {K : PySem.W.Frag} {elts : List Expr} {ek : Nat} {epos : Pos}
theorem turn_enumL {a e it : Addr} (hei : e ≠ it) (hae : a ≠ e) (hai : a ≠ it) : Turn P w K (.Tuple elts ek epos) (ItEL K a) [e, it] e (fun i h => (∃ old, IsEnum h e it i old) ∧ h.IsListIter it a i) := by
  have hef : e ∉ [it, a] := fun z => by
    rcases List.mem_cons.mp z with z | z
    · exact hei z
    · exact hae (List.mem_singleton.mp z).symm
  refine turn_pairs (wr := [e, it]) (by simp) (fun b hb => hb) (fun i h st b hb => ?_) (fun i h h' st k => ?_) (fun A i s Q E st q => ?_) ?_ ?_
  · obtain ⟨⟨old, g⟩, o, ho, oc, od⟩ := st
    rcases List.mem_cons.mp hb with z | z
    · subst z; exact ⟨_, g, fun v z => by cases z⟩
    · have z := List.mem_singleton.mp z
      subst z; exact ⟨o, ho, fun v z => by rw [od] at z; cases z⟩
  · obtain ⟨⟨old, g⟩, g2⟩ := st
    exact ⟨⟨old, k e (by simp) _ g⟩, g2.at fun o z => k it (by simp) o z⟩
  · obtain ⟨⟨old, g⟩, g2⟩ := st
    exact wpAny_pyIter_enum g q
  · intro X hP hw' hK hc i pins s σ H I0 hf st hg
    obtain ⟨xs, x, hq, hx⟩ := hg
    rw [← hK] at hq
    obtain ⟨its, rv, p, hz⟩ := I0.list hq
    obtain ⟨u, hu, ru⟩ := rv.get hx
    have hl := rv.length
    have hix : i < xs.length := (List.getElem?_eq_some_iff.mp hx).1
    refine ⟨_, _, _, _, _, ⟨WalksT.enumerateD (Draws.list (prog := P) (w := w) (A := X.A.in1) (I0.ok.hd hc) it a hai its.toArray) e hei hef (by simp), itemN_enum (Draws.list (prog := P) (w := w) (A := X.A.in1) (I0.ok.hd hc) it a hai its.toArray) e hei hef⟩, by rw [List.size_toArray]; omega, ⟨st.1, st.2, p.isList⟩, fun h' z => ⟨z.1, z.2.1⟩, ?_⟩
    rintro vals ⟨t, y, hy, rfl⟩
    refine ⟨.int i, x, _, y, rfl, ⟨t, rfl⟩, ?_, rfl, fun ys hys => ?_⟩
    · have : its[i]? = some y := by simpa using hy
      rw [hu] at this
      cases this
      exact ru
    · have hys' : SqL X.K H a ys := by rw [hK]; exact hys
      rw [I0.list_inj hys' hq]; exact hx
  · intro X hP hw' hK hc i pins s σ H I0 hf st hg
    obtain ⟨xs, hq, hx⟩ := hg
    rw [← hK] at hq
    obtain ⟨its, rv, p, hz⟩ := I0.list hq
    have hl := rv.length
    have e1 : its.toArray.size = i := by rw [List.size_toArray]; omega
    refine ⟨_, _, _, _, _, WalksT.enumerateD (Draws.list (prog := P) (w := w) (A := X.A.in1) (I0.ok.hd hc) it a hai its.toArray) e hei hef (by simp), ?_⟩
    rw [e1]
    exact ⟨st.1, st.2, p.isList⟩
end
section
variable {X : Cx} {elts : List Expr} {ek : Nat} {epos : Pos}
noncomputable def iEnL (K : PySem.W.Frag) (ta : TA) : TI := fun σ H R => ta σ H fun vs H1 => ∃ a xs, vs = [.ref a] ∧ SqL K H1 a xs ∧ R (ItEL K a) H1
theorem pi_enL {a : Expr} {ta : TA} {p pos : Pos} (hg : Gl X "enumerate") (hm : X.mg "enumerate" = none) (ha : PA X [a] ta) (hs : starEach [a] X.env = [(false, eval a X.env)] := by rfl) : PI X (.Tuple elts ek epos) (.Call (.Name "enumerate" p) [a] [] pos) (iEnL X.K ta) := by
  intro pins s σ H R I h
  refine Call_ (ld_blt I hg hm boot_enumerate (PyProof.Rows.callWith_type1 (thn (ha pos pins s σ H _ I h) fun us s1 ⟨vs, H1, I1, r1, q1⟩ => ?_) hs rfl))
  obtain ⟨l, xs, rfl, hl, q⟩ := q1
  obtain ⟨u, rfl, ru⟩ := vals1 r1
  cases ru
  obtain ⟨its, rv, pl, hz⟩ := id (I1.list hl)
  have hll : l < s1.heap.objs.size := by obtain ⟨o, z, _⟩ := pl.isList; exact Heap.lt_size z
  refine call_enumerate_list pl.isList fun hp he hit hsz hk => ?_
  have I2 : Inv X pins σ H1 { s1 with heap := hp } := I1.kept (t' := s1.toks) hk
  have nx : ∀ b, s1.heap.objs.size ≤ b → FpOk X pins H1 b := fun b hb => I1.fpOk hb (I1.hok.fresh hb)
  refine wpAny_pyIter_enum he ⟨_, [s1.heap.objs.size + 1, s1.heap.objs.size], _, _, H1, rfl, I2, turn_enumL (Nat.succ_ne_self _) (Nat.ne_of_lt (Nat.lt_succ_of_lt hll)) (Nat.ne_of_lt hll), ⟨⟨_, he⟩, hit⟩, fun b hb => ?_, q⟩
  rcases List.mem_cons.mp hb with z | z
  · subst z; exact nx _ (Nat.le_succ _)
  · have z := List.mem_singleton.mp z
    subst z; exact nx _ (Nat.le_refl _)
end
section
variable {X : Cx}
end
end L2

namespace L2
open PySem PySem.Spec PyProof.Rows
noncomputable def Fnd (K : PySem.W.Frag) (mg : Str → Option Value) (nm : Str) (st : Stmt) (ps : List Str) : Prop := ∃ (f : Addr) (fd : FuncData), Fun K nm nm st f fd ∧ mg nm = some (.ref f) ∧ Binds K fd ps []
noncomputable def Def (P : Program) (w : World) (K : PySem.W.Frag) (mg : Str → Option Value) (base : Heap) (k : Nat) (nm : Str) (ps : List Str) (sp : Sp) : Prop :=
  ∃ (f : Addr) (fd : FuncData), PySem.W.keepIn K (.ref f) = true ∧ mg nm = some (.ref f) ∧ Binds K fd ps [] ∧ FnOk P w K mg base CX0 k f fd ps sp
theorem Fnd.def {P : Program} {w : World} {K : PySem.W.Frag} {mg : Str → Option Value} {base : Heap} {k : Nat} {nm : Str} {st : Stmt} {ps : List Str} {sp : Sp} (S : Fnd K mg nm st ps) (h : ∀ f fd, Fun K nm nm st f fd → FnOk P w K mg base CX0 k f fd ps sp) : Def P w K mg base k nm ps sp := by
  obtain ⟨f, fd, F, m, b⟩ := S
  exact ⟨f, fd, F.kp, m, b, h f fd F⟩
section
variable {X : Cx}
theorem pe_def {k : Nat} {nm : Str} {ps : List Str} {sp : Sp} {e : Expr} {es : List Expr} {t : TA} {p pos : Pos} (hg : Gl X nm) (he : starEach (e :: es) X.env = (false, eval e X.env) :: starEach es X.env) (hpl : (backTo pos (starEach es X.env)).any (·.1) = false) (hdb : (nm == ("__debug__" : Str)) = false)
    (D : Def X.prog X.w X.K X.mg X.base k nm ps sp) (hr : Room k X.A) (ha : PA X (e :: es) t) :
    PE X (.Call (.Name nm p) (e :: es) [] pos) (tCall sp [] E0 t) := by
  obtain ⟨f, fd, a, b, c, F⟩ := D
  exact pe_call F hr hg b a c .nil pass0 ha hdb he hpl
theorem pi_enLK {K : PySem.W.Frag} {elts : List Expr} {ek : Nat} {epos : Pos} {a : Expr} {ta : TA} {p pos : Pos} (hg : Gl X "enumerate") (hs : starEach [a] X.env = [(false, eval a X.env)]) (e : X.K = K) (hm : X.mg "enumerate" = none) (ha : PA X [a] ta) : PI X (.Tuple elts ek epos) (.Call (.Name "enumerate" p) [a] [] pos) (iEnL K ta) := e ▸ pi_enL hg hm ha hs
end
section
variable {K : PySem.W.Frag} {a b D : Addr} {xs zs : List V} {g : TG} {tt : TT} {te : TE} {σ0 : St} {H0 : Hp} {Q : VK}
theorem comp_enL (Pv : Nat → List V → St → Hp → Prop) (h0 : Pv 0 [] σ0 H0) (hl : ∀ i ys σ H, Pv i ys σ H → SqL K H a xs ∧ H D = some (.lst ys))
    (hs : ∀ i x ys σ H T G, xs[i]? = some x → i < xs.length → Pv i ys σ H → H T = none → Same H G → G T = some (.tup [.int i, x]) → g (.ref T) σ G fun σ3 H3 => tt σ3 H3 fun b H4 => if b = true then
      te σ3 H4 fun y H5 => H5 D = some (.lst ys) ∧ ys.length < sizeLine ∧ ∃ m', m' < xs.length - i ∧ Wt Pv xs.length (i + 1) m' (ys ++ [y]) σ3 (upd H5 D (.lst (ys ++ [y]))) else ∃ m', m' < xs.length - i ∧ Wt Pv xs.length (i + 1) m' ys σ3 H4)
    (hd : ∀ ys σ H, Pv xs.length ys σ H → Q (.ref D) H) : CompW (ItEL K a) D g tt te Q σ0 H0 := by
  refine ⟨Wt Pv xs.length, ⟨xs.length, rfl, Nat.zero_le _, h0⟩, ?_⟩
  rintro i m ys σ' H' ⟨rfl, hi, p⟩
  obtain ⟨hq, hD⟩ := hl i ys σ' H' p
  refine ⟨hD, ?_⟩
  by_cases hlt : i < xs.length
  · refine .inr ⟨⟨xs, xs[i], hq, by simp [hlt]⟩, fun x H2 y => ?_⟩
    obtain ⟨T, u, v, rfl, hT, rfl, rfl, hv⟩ := y
    exact hs i v ys σ' H' T _ (hv xs hq) hlt p hT (Same.new hT) upd_same
  · have e : i = xs.length := by omega
    subst e
    exact .inl ⟨⟨xs, hq, rfl⟩, hd ys σ' H' p⟩
end
structure Txt (mg : Str → Option Value) : Prop where
  abs : mg "abs" = none
  isi : mg "isinstance" = none
  tup : mg "tuple" = none
  int : mg "int" = none
  bool : mg "bool" = none
  lst : mg "list" = none
  enu : mg "enumerate" = none
  len : mg "len" = none
  range : mg "range" = none
  srt : mg "sorted" = none
  sum : mg "sum" = none
  zip : mg "zip" = none
  max : mg "max" = none
noncomputable def SqF (K : PySem.W.Frag) (H : Hp) (p : Addr) (A : Int × Int) : Prop := SqT K H p [.int A.1, .int A.2]
theorem SqF.of {K : PySem.W.Frag} {H : Hp} {p : Addr} {A : Int × Int} (h : FrA K H p A) : SqF K H p A := SqT.of h
noncomputable def spF2G (K : PySem.W.Frag) (op : Int × Int → Int × Int → Int × Int) : Sp := fun vs H Q _ => ∃ (p q : Addr) (A B : Int × Int), vs = [.ref p, .ref q] ∧ SqF K H p A ∧ SqF K H q B ∧ 0 < A.2 ∧ 0 < B.2 ∧ Sz2 3000 A ∧ Sz2 3000 B ∧ ∀ (r : Addr) (H' : Hp), Same H H' → FrA K H' r (op A B) → Q (.ref r) H'
noncomputable def spMadeS : Sp := fun vs H Q _ => ∃ x y : Int, vs = [.int x, .int y] ∧ y ≠ 0 ∧ Sz 8000 x ∧ Sz 8000 y ∧ ∀ (p : Addr) (H' : Hp), Same H H' → H' p = some (.tup [.int (Pw.mk x y).1, .int (Pw.mk x y).2]) → Q (.ref p) H'
end L2

namespace L2
open PySem PySem.Spec PyProof.Rows
section
variable {X : Cx}
end
end L2

namespace L2
open PySem PySem.Spec PyProof.Rows
theorem tupD_refl (As : List (Int × Int)) : eqDs (As.map tupD) (As.map tupD) = true := (eqDs_prs As As).trans (by simp)
section
variable {K : PySem.W.Frag} {H : Hp} {p q : Addr} {W V' : List (Int × Int)} {xs ys : List V} {Q : VK}
theorem neLL (h1 : SqL K H p xs) (h2 : SqL K H q ys) (f1 : FrL K H W xs) (f2 : FrL K H W ys) (k : Q (.bl false) H) : rEqD K true (.ref p) (.ref q) H Q :=
  ⟨p, q, _, _, _, _, rfl, rfl, .inr ⟨h1, h2⟩, f1.dens, f2.dens, FrL.dep _, by rw [if_pos rfl, tupD_refl]; exact k⟩
theorem neTT (h1 : SqT K H p xs) (h2 : SqT K H q ys) (f1 : FrL K H W xs) (f2 : FrL K H W ys) (k : Q (.bl false) H) : rEqD K true (.ref p) (.ref q) H Q :=
  ⟨p, q, _, _, _, _, rfl, rfl, .inl ⟨h1, h2⟩, f1.dens, f2.dens, FrL.dep _, by rw [if_pos rfl, tupD_refl]; exact k⟩
theorem eqTT (h1 : SqT K H p xs) (h2 : SqT K H q ys) (f1 : FrL K H W xs) (f2 : FrL K H W ys) (k : Q (.bl true) H) : rEqD K false (.ref p) (.ref q) H Q :=
  ⟨p, q, _, _, _, _, rfl, rfl, .inl ⟨h1, h2⟩, f1.dens, f2.dens, FrL.dep _, by rw [if_neg Bool.false_ne_true, tupD_refl]; exact k⟩
end
theorem mem_getD {Bs : List (Int × Int)} {t : Nat} (h : t < Bs.length) : Bs.getD t (0, 1) ∈ Bs := by
  rw [List.getD_eq_getElem?_getD, List.getElem?_eq_getElem h]
  exact List.getElem_mem h
end L2

namespace Pw
noncomputable def ofQ (q : Rat) : Int × Int := (q.num, (q.den : Int))
theorem ofQ_canon (q : Rat) : Canon (ofQ q) := ⟨by show (0 : Int) < (q.den : Int); have := q.den_nz; omega, by show Int.gcd q.num (q.den : Int) = 1; have := q.reduced; unfold Int.gcd; simpa [Nat.Coprime] using this⟩
theorem val_ofQ (q : Rat) : val (ofQ q) = q := by
  unfold val ofQ
  show ((q.num : Int) : Rat) / (((q.den : Nat) : Int) : Rat) = q
  rw [← Rat.divInt_eq_div, Rat.num_divInt_den]
theorem ofQ_val {A : Int × Int} (h : Canon A) : ofQ (val A) = A := val_inj (ofQ_canon _) h (val_ofQ _)
theorem fplus_ofQ {A B : Int × Int} (ha : A.2 ≠ 0) (hb : B.2 ≠ 0) : fplus A B = ofQ (val A + val B) := val_inj (canon_fplus ha hb) (ofQ_canon _) (by rw [val_fplus ha hb, val_ofQ])
theorem cpos {d : Int} (h : 0 < d) : (0 : Rat) < (d : Rat) := by
  have : ((0 : Int) : Rat) < (d : Rat) := Rat.intCast_lt_intCast.mpr h
  simpa using this
theorem cnn {d : Int} (h : 0 ≤ d) : (0 : Rat) ≤ (d : Rat) := by
  have : ((0 : Int) : Rat) ≤ (d : Rat) := Rat.intCast_le_intCast.mpr h
  simpa using this
theorem mul_le_r {a b c : Rat} (h : a ≤ b) (hc : 0 ≤ c) : a * c ≤ b * c := Rat.mul_le_mul_of_nonneg_right h hc
theorem mul_nn {a b : Rat} (ha : 0 ≤ a) (hb : 0 ≤ b) : 0 ≤ a * b := by
  have := mul_le_r ha hb
  grind
theorem div_nn {a b : Rat} (ha : 0 ≤ a) (hb : 0 < b) : 0 ≤ a / b := by
  rw [Rat.div_def]
  exact mul_nn ha (Rat.le_of_lt (Rat.inv_pos.mpr hb))
theorem le_of_mul {a b c : Rat} (hc : 0 < c) (h : a * c ≤ b * c) : a ≤ b := Rat.le_of_mul_le_mul_right h hc
theorem val_nn {A : Int × Int} (h : 0 < A.2) (h1 : 0 ≤ A.1) : 0 ≤ val A := div_nn (cnn h1) (cpos h)
structure Bd (D : Int) (C : Rat) (q : Rat) : Prop where
  int : ∃ n : Int, q * (D : Rat) = (n : Rat)
  lo : -C ≤ q
  hi : q ≤ C
theorem Bd.zero {D : Int} : Bd D 0 0 := ⟨⟨0, by simp⟩, by grind, by grind⟩
theorem Bd.add {D : Int} {C C' p q : Rat} (a : Bd D C p) (b : Bd D C' q) : Bd D (C + C') (p + q) := by
  obtain ⟨⟨n, hn⟩, l1, h1⟩ := a
  obtain ⟨⟨m, hm⟩, l2, h2⟩ := b
  refine ⟨⟨n + m, ?_⟩, by grind, by grind⟩
  rw [Rat.intCast_add]; grind
theorem Bd.mono {D : Int} {C C' q : Rat} (a : Bd D C q) (h : C ≤ C') : Bd D C' q := ⟨a.int, by have := a.lo; grind, by have := a.hi; grind⟩
theorem Bd.qs {D : Int} {C : Rat} {f : Nat → Rat} : ∀ {n : Nat}, (∀ i, i < n → Bd D C (f i)) → Bd D ((n : Nat) * C) (qs n f)
  | 0, _ => by
    have : (((0 : Nat) : Rat)) * C = 0 := by simp
    rw [this]; exact Bd.zero
  | n + 1, h => by
    have h1 := (Bd.qs (n := n) fun i hi => h i (by omega)).add (h n (by omega))
    have e : (((n + 1 : Nat) : Rat)) * C = ((n : Nat) : Rat) * C + C := by
      have : ((n + 1 : Nat) : Rat) = ((n : Nat) : Rat) + 1 := by push_cast; rfl
      rw [this]; grind
    rw [e]
    exact h1
theorem den_dvd {q : Rat} {D n : Int} (hD : D ≠ 0) (h : q * (D : Rat) = (n : Rat)) : (q.den : Int) ∣ D := by
  have hq : Fr (ofQ q) n D := by
    refine ⟨ofQ_canon q, hD, ?_⟩
    have e := val_ofQ q
    unfold val at e
    have hd := castne (canon_ne (ofQ_canon q))
    have : ((ofQ q).1 : Rat) * (D : Rat) = (n : Rat) * ((ofQ q).2 : Rat) := by rw [← h]; rw [← e]; grind
    exact_mod_cast this
  have w := hq.w
  have : (ofQ q).2 ∣ (ofQ q).1 * D := ⟨n, by rw [w]; exact Int.mul_comm ..⟩
  exact dvd_left this hq.canon.2
theorem Bd.sz {D : Int} {C : Int} {q : Rat} {k : Nat} (a : Bd D (C : Rat) q) (hD : 0 < D) (hC : 1 ≤ C) (z : L2.Sz k (C * D)) : L2.Sz2 k (ofQ q) := by
  obtain ⟨⟨n, hn⟩, lo, hi⟩ := a
  have hd := den_dvd (by omega) hn
  have hle : (q.den : Int) ≤ D := Int.le_of_dvd hD hd
  have hp : (0 : Int) < (q.den : Int) := (ofQ_canon q).1
  have hz : (C * D).natAbs < 2 ^ k := z
  have hCD : D ≤ C * D := by
    have := Int.mul_le_mul_of_nonneg_right hC (Int.le_of_lt hD)
    omega
  refine ⟨?_, ?_⟩
  · show q.num.natAbs < 2 ^ k
    have e := val_ofQ q
    unfold val at e
    have hpq := cpos hp
    have hne := castne (d := (q.den : Int)) (by omega)
    have en : (q.num : Rat) = q * ((q.den : Int) : Rat) := by
      have : ((ofQ q).1 : Rat) / ((ofQ q).2 : Rat) = q := e
      have e2 : (q.num : Rat) / ((q.den : Int) : Rat) = q := this
      grind
    have u1 : (q.num : Rat) ≤ ((C * (q.den : Int) : Int) : Rat) := by
      rw [en, Rat.intCast_mul]; exact mul_le_r hi (Rat.le_of_lt hpq)
    have u2 : ((-(C * (q.den : Int)) : Int) : Rat) ≤ (q.num : Rat) := by
      rw [en, Rat.intCast_neg, Rat.intCast_mul]
      have := mul_le_r lo (Rat.le_of_lt hpq)
      grind
    have v1 : q.num ≤ C * (q.den : Int) := Rat.intCast_le_intCast.mp u1
    have v2 : -(C * (q.den : Int)) ≤ q.num := Rat.intCast_le_intCast.mp u2
    have v3 : C * (q.den : Int) ≤ C * D := Int.mul_le_mul_of_nonneg_left hle (by omega)
    omega
  · show (q.den : Int).natAbs < 2 ^ k
    omega
end Pw

namespace L2
open PySem PySem.Spec PyProof.Rows
noncomputable def Sq (b : Bool) (K : PySem.W.Frag) (H : Hp) (a : Addr) (xs : List V) : Prop := if b = true then SqL K H a xs else SqT K H a xs
noncomputable def ItB (b : Bool) (K : PySem.W.Frag) (a : Addr) : It := if b = true then Itl K a else Itt K a
noncomputable def iSeq (K : PySem.W.Frag) (tl : TE) : TI := fun σ H R => tl σ H fun x H1 => ∃ (b : Bool) (a : Addr), x = .ref a ∧ (∃ xs, Sq b K H1 a xs) ∧ R (ItB b K a) H1
theorem Sq.same {b : Bool} {K : PySem.W.Frag} {H H' : Hp} {a : Addr} {xs : List V} (h : Sq b K H a xs) (s : Same H H') : Sq b K H' a xs := by
  cases b
  · exact s.seqT h
  · exact s.seq h
theorem pi_seq {X : Cx} {tg l : Expr} {tl : TE} (hl : PE X l tl) : PI X tg l (iSeq X.K tl) := by
  intro pins s σ H R I h
  refine thn (hl pins s σ H _ I h) fun v s1 ⟨x, H1, I1, r1, q1⟩ => ?_
  obtain ⟨b, a, e, ⟨xs, hq⟩, q⟩ := q1
  subst e
  cases r1
  cases b with
  | true =>
    have hq : SqL X.K H1 a xs := hq
    have q : R (Itl X.K a) H1 := q
    obtain ⟨its, rv, p, hz⟩ := I1.list hq
    refine wpAny_pyIter_list p.isList ?_
    refine ⟨s1.heap.objs.size, [s1.heap.objs.size], _, _, H1, rfl, I1.kept (t' := s1.toks) fun b o e => Heap.get?_push_of_some _ e, turn_list a _, ⟨_, Heap.get?_push_size _ rfl, rfl, rfl⟩, fun b hb => ?_, q⟩
    have e : b = s1.heap.objs.size := by simpa using hb
    subst e
    exact I1.fpOk (Nat.le_refl _) (I1.hok.fresh (Nat.le_refl _))
  | false =>
    have hq : SqT X.K H1 a xs := hq
    have q : R (Itt X.K a) H1 := q
    obtain ⟨its, rv, p, hz⟩ := I1.tuple hq
    refine wpAny_pyIter_tuple (show s1.heap.IsTuple a its.toArray from p) ?_
    refine ⟨s1.heap.objs.size, [s1.heap.objs.size], _, _, H1, rfl, I1.kept (t' := s1.toks) fun b o e => Heap.get?_push_of_some _ e, turn_tuple a _, ⟨_, Heap.get?_push_size _ rfl, rfl, rfl⟩, fun b hb => ?_, q⟩
    have e : b = s1.heap.objs.size := by simpa using hb
    subst e
    exact I1.fpOk (Nat.le_refl _) (I1.hok.fresh (Nat.le_refl _))
section
variable {b : Bool} {K : PySem.W.Frag} {a D : Addr} {xs : List V} {g : TG} {tt : TT} {te : TE} {σ0 : St} {H0 : Hp} {Q : VK}
end
theorem for_seq {b : Bool} {K : PySem.W.Frag} {a : Addr} {xs : List V} {g : TG} {tb : TS} {D : Ends} {σ : St} {H : Hp} (Pv : Nat → St → Hp → Prop) (h0 : Pv 0 σ H) (hl : ∀ i σ H, i ≤ xs.length → Pv i σ H → Sq b K H a xs)
    (hs : ∀ i x σ H, xs[i]? = some x → Pv i σ H → g x σ H fun σ2 H2 => tb { D with nx := Pv (i + 1), ct := Pv (i + 1), bk := D.nx } σ2 H2) (hd : ∀ σ H, Pv xs.length σ H → D.nx σ H) :
    ∃ W : Nat → Nat → St → Hp → Prop, (∃ m, W 0 m σ H) ∧ ∀ i m σ H, W i m σ H →
      ((ItB b K a).stop i H ∧ D.nx σ H) ∨ ((ItB b K a).go i H ∧ ∃ N : St → Hp → Prop, (∀ σ' H', N σ' H' → ∃ m', m' < m ∧ W (i + 1) m' σ' H') ∧ ∀ x H', (ItB b K a).yld i H x H' → g x σ H' fun σ2 H2 => tb { D with nx := N, ct := N, bk := D.nx } σ2 H2) := by
  cases b
  · exact for_tup Pv h0 hl hs hd
  · exact for_list Pv h0 hl hs hd
structure Rw (Rs : List (Int × Int)) (n : Nat) (D C : Int) : Prop where
  len : Rs.length = n
  canon : Pw.Canons Rs
  dpos : 0 < D
  cpos : 1 ≤ C
  dvd : ∀ R ∈ Rs, R.2 ∣ D
  bnd : ∀ R ∈ Rs, -(C * R.2) ≤ R.1 ∧ R.1 ≤ C * R.2
  sz : Sz 2000 (C * D)
theorem Rw.bd {Rs : List (Int × Int)} {n : Nat} {D C : Int} (h : Rw Rs n D C) {R : Int × Int} (hR : R ∈ Rs) : Pw.Bd D (C : Rat) (Pw.val R) := by
  have c := h.canon R hR
  have hp := Pw.cpos c.1
  have hne := Pw.castne (Pw.canon_ne c)
  obtain ⟨u, hu⟩ := h.dvd R hR
  obtain ⟨b1, b2⟩ := h.bnd R hR
  have e : Pw.val R * (R.2 : Rat) = (R.1 : Rat) := by unfold Pw.val; grind
  refine ⟨⟨R.1 * u, ?_⟩, ?_, ?_⟩
  · rw [hu, Rat.intCast_mul, Rat.intCast_mul, ← e]; grind
  · refine Pw.le_of_mul hp ?_
    rw [e]
    have : ((-(C * R.2) : Int) : Rat) ≤ (R.1 : Rat) := Rat.intCast_le_intCast.mpr b1
    rw [Rat.intCast_neg, Rat.intCast_mul] at this
    grind
  · refine Pw.le_of_mul hp ?_
    rw [e]
    have : (R.1 : Rat) ≤ ((C * R.2 : Int) : Rat) := Rat.intCast_le_intCast.mpr b2
    rw [Rat.intCast_mul] at this
    exact this
theorem Rw.sz2 {Rs : List (Int × Int)} {n : Nat} {D C : Int} (h : Rw Rs n D C) {R : Int × Int} (hR : R ∈ Rs) : Sz2 2000 R := by
  have := (h.bd hR).sz h.dpos h.cpos h.sz
  rwa [Pw.ofQ_val (h.canon R hR)] at this
end L2
namespace Pw
noncomputable def prodN : Nat → (Nat → Int) → Int
  | 0, _ => 1
  | n + 1, f => prodN n f * f n
theorem prodN_pos {f : Nat → Int} : ∀ {n : Nat}, (∀ i, i < n → 0 < f i) → 0 < prodN n f
  | 0, _ => by show (0 : Int) < 1; decide
  | n + 1, h => Int.mul_pos (prodN_pos fun i hi => h i (by omega)) (h n (by omega))
theorem prodN_dvd {f : Nat → Int} : ∀ {n i : Nat}, i < n → f i ∣ prodN n f
  | n + 1, i, h => by
    by_cases e : i = n
    · subst e; exact Int.dvd_mul_left ..
    · exact Int.dvd_trans (prodN_dvd (n := n) (by omega)) (Int.dvd_mul_right ..)
theorem prodN_sz {f : Nat → Int} {k : Nat} : ∀ {n : Nat}, (∀ i, i < n → L2.Sz k (f i)) → L2.Sz (k * n + 1) (prodN n f)
  | 0, _ => by show (1 : Int).natAbs < 2 ^ (k * 0 + 1); simp
  | n + 1, h => (L2.Sz.mul (prodN_sz fun i hi => h i (by omega)) (h n (by omega))).mono (by rw [Nat.mul_add]; omega)
theorem qs_ge {f : Nat → Rat} : ∀ {n k : Nat}, k < n → (∀ i, i < n → 0 ≤ f i) → f k ≤ qs n f
  | n + 1, k, hk, h => by
    show f k ≤ qs n f + f n
    by_cases e : k = n
    · subst e
      have := qs_nonneg (n := k) (f := f) fun i hi => h i (by omega)
      grind
    · have h1 := qs_ge (n := n) (k := k) (by omega) fun i hi => h i (by omega)
      have h2 := h n (by omega)
      grind
end Pw

namespace L2
open PySem PySem.Spec PyProof.Rows
theorem newEnv_cell1 {M : Model} {A : Around} {E : Value → Shared → Prop} {s : Shared} {xo : Str} {scope : Scope} {globals : Addr} {cl : List (Str × Addr)} {qual : Str} {around : Env} {Q : Env → Shared → Prop}
    (hcf : ∀ (n : Addr) (l : List (Str × Addr)), cellsFrom n scope.names l = (xo, n) :: l) (hpc : ∀ h : Heap, pushCells h scope.names = h.push { cls := .type "cell", data := .cell none })
    (q : ∀ h₁ : Heap, h₁.Ns s.heap.objs.size (fun _ => none) → (∀ b o, s.heap.get? b = some o → h₁.get? b = some o) → h₁.IsCell (s.heap.objs.size + 1) none → Q (newEnv scope s.heap.objs.size globals ((xo, s.heap.objs.size + 1) :: cl) qual none .none (some around) builtinsNs) { s with heap := h₁ }) :
    wpAny M A (newFunctionEnv scope globals cl [] qual none .none (some around)) Q E s := by
  simp only [newFunctionEnv, Option.isSome_some, if_true]
  refine wpAny_bind (wpAny_alloc ?_); refine wpAny_bind (wpAny_layCells _ (fun name kind cells => by cases hkc : kind == NameKind.cell <;> simp [hkc]) _ _ _ _ ?_)
  have z : ({ s with heap := s.heap.push { cls := .type "dict", data := .dict #[] } } : Shared).heap.objs.size = s.heap.objs.size + 1 := Heap.size_push ..
  rw [hcf, hpc, z]
  simp only [List.forIn_nil]
  refine wpAny_bind (wpAny_pure (wpAny_pure (q _ ((Heap.Ns.new s.heap (.type "dict")).keeps fun b o e => Heap.get?_push_of_some _ e) (fun b o e => Heap.get?_push_of_some _ (Heap.get?_push_of_some _ e)) ⟨{ cls := .type "cell", data := .cell none }, ?_, rfl⟩)))
  have := Heap.get?_push_size (s.heap.push { cls := .type "dict", data := .dict #[] }) (o := { cls := .type "cell", data := .cell none }) rfl
  rw [show (s.heap.push { cls := .type "dict", data := .dict #[] }).objs.size = s.heap.objs.size + 1 from Heap.size_push ..] at this
  exact this
noncomputable def compX1 (xo : Str) (X : Cx) (N' : List Str) (scope : Scope) (cl : List (Str × Addr)) (C : Addr) (s : Shared) (H : Hp) (fp : List Addr) : Cx :=
  { compX X N' scope ((xo, C + 1) :: cl) C s H fp with fn := fun y => y == xo }
section
variable {X : Cx}
theorem pe_comp1 {xo : Str} {tg iter elt : Expr} {ifs : List Expr} {scope : Scope} {pos : Pos} {N' : List Str} {ks : List (Option Nat)} {cl : List (Str × Addr)} {wi : TI} {g : TG} {tt : TT} {te : TE}
    (hcalm : X.calm = true) (hi : PI X tg iter wi) (hclos : closureFor scope X.env = pure cl) (hcl : ∀ x c, cl.lookup x = some c → X.env.cells.lookup x = some c)
    (hcf : ∀ (n : Addr) (l : List (Str × Addr)), cellsFrom n scope.names l = (xo, n) :: l) (hpc : ∀ h : Heap, pushCells h scope.names = h.push { cls := .type "cell", data := .cell none }) (hno : ∀ (i k : Nat), ks[i]? = some (some k) → N'[i]? ≠ some xo) (hkind : scope.kind = .function) (hnames : ∀ y ∈ scope.names, y.2 = .local → scope.names.lookup y.1 = some .local)
    (hhas : ∀ x, ((relabel scope X.env).names.lookup x = some .cell ∨ (relabel scope X.env).names.lookup x = some .free) → x = xo ∨ ∃ c, cl.lookup x = some c)
    (hcap : Cap X (relabel scope X.env) N' ks)
    (hg : ∀ C s H fp, PG (compX1 xo X N' scope cl C s H fp) tg g) (ht : ∀ C s H fp, PTs (compX1 xo X N' scope cl C s H fp) ifs tt) (he : ∀ C s H fp, PE (compX1 xo X N' scope cl C s H fp) elt te)
    (hs : ∀ x, foldedSetIterable iter X.env x = pure x := by intro _; rfl) : PE X (.ListComp elt [⟨tg, iter, ifs, 0⟩] scope pos) (tComp wi ks g tt te) := by
  intro pins s σ H Q I h
  rw [eval_ListComp]
  refine wpAny_comprehension_free (use := none) rfl hs hclos hkind hnames (thn (hi pins s σ H _ I h) fun v s1 h1 => thn h1 fun itv s2 h2 => ?_)
  obtain ⟨it, fp, tn, J, H2, e, I2, T, st2, f2, R⟩ := h2
  subst e
  refine wpAny_newObj_type (newEnv_cell1 hcf hpc (fun h₁ hns₁ hkp₁ hce₁ => ?_))
  dsimp only at hns₁ hkp₁ hce₁ ⊢
  have hD : H2 s2.heap.objs.size = none := I2.hok.fresh (Nat.le_refl _)
  obtain ⟨W, ⟨m0, w0⟩, turn⟩ := R _ hD
  generalize hs3 : ({ s2 with heap := s2.heap.push { cls := .type "list", dict := none, data := .seq ([] : List Value).toArray } } : Shared) = s3
  have e3 : s3.heap = s2.heap.push { cls := .type "list", dict := none, data := .seq ([] : List Value).toArray } := by rw [← hs3]
  have I3 : Inv X pins σ (upd H2 s2.heap.objs.size (.lst [])) s3 := by
    rw [← hs3]
    exact I2.laid (t' := s2.toks) (fun b o e => Heap.get?_push_of_some _ e) (Nat.le_refl _) ⟨Nat.zero_le _, [], 0, .nil, Heap.get?_push_size _ rfl⟩
  generalize hD0 : s2.heap.objs.size = D at *
  generalize hH3 : upd H2 D (.lst []) = H3 at *
  rw [← e3] at hns₁ hkp₁ hce₁ ⊢
  -- what newFunctionEnv keeps
  have kp : ∀ b o, s3.heap.get? b = some o → h₁.get? b = some o := hkp₁
  have lk : ∀ y c, ((xo, s3.heap.objs.size + 1) :: cl).lookup y = some c → (y = xo ∧ c = s3.heap.objs.size + 1) ∨ cl.lookup y = some c := fun y c e => by
    rw [List.lookup_cons] at e
    cases hb : y == xo with
    | true => rw [hb] at e; cases e; exact .inl ⟨beq_iff_eq.mp hb, rfl⟩
    | false => rw [hb] at e; exact .inr e
  have lk2 : ∀ y c, y ≠ xo → cl.lookup y = some c → ((xo, s3.heap.objs.size + 1) :: cl).lookup y = some c := fun y c hy e => by
    rw [List.lookup_cons, beq_eq_false_iff_ne.mpr hy]; exact e
  have small : ∀ y c, cl.lookup y = some c → c < s3.heap.objs.size := fun y c e => by
    obtain ⟨v, q⟩ := I3.cell y c (hcl y c e)
    exact q.lt
  have f3 : ∀ b ∈ fp, FpOk X pins H3 b ∧ b < s3.heap.objs.size := fun b hb => by
    obtain ⟨o, ho, _⟩ := T.obj 0 _ st2 b hb
    have hlt : b < D := by rw [← hD0]; exact Heap.lt_size ho
    refine ⟨⟨?_, (f2 b hb).2⟩, ?_⟩
    · rw [← hH3, upd_ne (Nat.ne_of_lt hlt)]; exact (f2 b hb).1
    · rw [e3, Heap.size_push, hD0]; exact Nat.lt_succ_of_lt hlt
  have st3 : tn 0 h₁ := T.keep 0 s2.heap h₁ st2 fun b hb o e => kp b o (by rw [e3]; exact Heap.get?_push_of_some _ e)
  have capK : ∀ x c, cl.lookup x = some c → X.env.cells.lookup x = some c := hcl
  have stkne : ∀ b ∈ fp, b ∉ frs X.stack := fun b hb z => by
    rcases List.mem_cons.mp (I3.stkSub b z) with e | e
    · exact (f3 b hb).1.2.1 e
    · exact (f3 b hb).1.2.2.1 e
  have Cfresh : H3 s3.heap.objs.size = none := I3.hok.fresh (Nat.le_refl _)
  have ok' : (compX1 xo X N' scope cl s3.heap.objs.size s3 H3 fp).Ok := by
    refine ⟨I3.ok.mod, hkind, I3.ok.glob, I3.ok.blt, Nat.le_refl _, fun x y c h1 h2 => ?_, fun x hx => ?_, fun x c hf h1 => ?_, fun z => I3.ok.hd z, I3.ok.frames, .inl rfl,
      fun b hb => ⟨Nat.ne_of_lt (f3 b hb).2, fun x c e => ?_⟩, I3.bs, Nat.le_trans I3.ok.bsz I3.sz, fun b o e hb => ?_, fun b hb => stkne b hb, I3.stack, I3.stkFree⟩
    · rcases lk x c h1 with ⟨a1, a2⟩ | a <;> rcases lk y c h2 with ⟨b1, b2⟩ | b
      · rw [a1, b1]
      · exact absurd (small y c b) (by rw [a2]; exact Nat.not_lt.mpr (Nat.le_succ _))
      · exact absurd (small x c a) (by rw [b2]; exact Nat.not_lt.mpr (Nat.le_succ _))
      · exact I3.ok.inj x y c (capK x c a) (capK y c b)
    · by_cases hxo : x = xo
      · subst hxo; exact ⟨_, List.lookup_cons_self⟩
      · rcases hhas x hx with z | ⟨c, z⟩
        · exact absurd z hxo
        · exact ⟨c, lk2 x c hxo z⟩
    · have hf : (x == xo) = true := hf
      rcases lk x c h1 with ⟨_, a2⟩ | a
      · rw [a2]; exact Nat.le_succ _
      · have h1 : ((xo, s3.heap.objs.size + 1) :: cl).lookup x = some c := h1
        rw [beq_iff_eq.mp hf, List.lookup_cons_self] at h1
        cases h1
        exact Nat.le_succ _
    · rcases lk x c e with ⟨_, a2⟩ | a
      · rw [a2]; exact Nat.ne_of_gt (Nat.lt_succ_of_lt (f3 b hb).2)
      · exact (f3 b hb).1.2.2.2.2.1 x c (capK x c a)
    rcases (f3 b hb).1.2.2.2.1 with z | z
    · exact I3.ok.noex b o e z
    · exact absurd (Nat.lt_of_lt_of_le (Heap.lt_size e) (Nat.le_trans I3.ok.bsz z)) (Nat.lt_irrefl _)
  have I4 : Inv (compX1 xo X N' scope cl s3.heap.objs.size s3 H3 fp) [] (capt ks σ) H3 { s3 with heap := h₁ } := by
    refine ⟨ok', rfl, I3.bare, Un.kept kp, ⟨_, hns₁, fun i x v e1 e2 e3' => ?_⟩, fun x c e => ?_, Cfresh, fun x c e => ?_, fun p hp => absurd (show p ∈ ([] : List (Addr × Obj)) from hp) (by simp), I3.hok.kept kp, ?_⟩
    · have e2' : (capt ks σ)[i]? = some (some v) := e2
      unfold capt at e2'
      rw [List.getElem?_map] at e2'
      cases hk : ks[i]? with
      | none => rw [hk] at e2'; cases e2'
      | some o =>
        rw [hk] at e2'
        cases o with
        | none => cases e2'
        | some k =>
          have ev : σ.getD k none = some v := Option.some.inj e2'
          obtain ⟨c1, c2, c3⟩ := hcap.get e1 hk
          obtain ⟨m, hn, hl⟩ := I3.loc
          have es : σ[k]? = some (some v) := by
            rw [List.getD_eq_getElem?_getD] at ev
            cases q : σ[k]? with
            | none => rw [q] at ev; cases ev
            | some z => rw [q] at ev; exact congrArg some ev
          obtain ⟨u, r, l⟩ := hl k x v c1 es (.inr (.inl c2))
          refine ⟨u, r, .inr ⟨c3, ?_⟩⟩
          rcases l with ⟨l1, _⟩ | ⟨_, c, l2, l3⟩
          · have l1' : X.env.scope.names.lookup x = some .local := l1
            rw [c2] at l1'; cases l1'
          · have hxo : x ≠ xo := fun z => hno i k hk (by have e1 : N'[i]? = some x := e1; rw [e1, z])
            obtain ⟨c', hc'⟩ := (hhas x c3).resolve_left hxo
            have : X.env.cells.lookup x = some c' := capK x c' hc'
            rw [l2] at this
            cases this
            refine ⟨c, lk2 x c hxo hc', ?_⟩
            obtain ⟨o, ho, hd⟩ := l3
            exact ⟨o, kp c o ho, hd⟩
    · rcases lk x c e with ⟨_, a2⟩ | a
      · rw [a2]; exact ⟨_, hce₁⟩
      · obtain ⟨v, o, ho, hd⟩ := I3.cell x c (capK x c a)
        exact ⟨v, o, kp c o ho, hd⟩
    · rcases lk x c e with ⟨_, a2⟩ | a
      · rw [a2]; exact I3.hok.fresh (Nat.le_succ _)
      · exact I3.freeC x c (capK x c a)
    · show (capt ks σ).length = N'.length
      unfold capt
      rw [List.length_map, hcap.len]
  -- behind the block
  have Cne : ∀ p ∈ X.pn ++ pins, p.1 ≠ s3.heap.objs.size := fun p hp => Nat.ne_of_lt (Heap.lt_size (I3.pin p hp).1)
  have back : ∀ {σ' : St} {H' : Hp} {s' : Shared}, Inv (compX1 xo X N' scope cl s3.heap.objs.size s3 H3 fp) [] σ' H' s' → ∀ h'' : Heap, Heap.SameBut s3.heap.objs.size s'.heap h'' → Inv X pins σ H' { s' with heap := h'' } := fun {σ' H' s'} I' h'' sb => by
    have J1 : Inv X pins σ H' s' := I3.call' (ch := fp) I'.os I'.base I'.hok I'.bare fun b hb => ⟨(f3 b hb).1.2.2.2.1, (f3 b hb).1.2.1, (f3 b hb).1.2.2.2.2.1, (f3 b hb).1.2.2.2.2.2⟩
    refine J1.turned (t' := s'.toks) (it := s3.heap.objs.size) (fun b o hb e => (sb.2 b hb).trans e) I'.free (Nat.ne_of_gt I3.lt) (.inr I3.sz) (fun x c e => ?_) Cne
    obtain ⟨v, q⟩ := I3.cell x c e
    exact Nat.ne_of_lt q.lt
  have fpok : ∀ {H' : Hp}, (∀ b ∈ fp, H' b = none) → ∀ b ∈ fp, FpOk (compX1 xo X N' scope cl s3.heap.objs.size s3 H3 fp) [] H' b := fun hn b hb =>
    ⟨hn b hb, Nat.ne_of_lt (f3 b hb).2, stkne b hb, .inl hb, fun x c e => by
        rcases lk x c e with ⟨_, a2⟩ | a
        · rw [a2]; exact Nat.ne_of_gt (Nat.lt_succ_of_lt (f3 b hb).2)
        · exact (f3 b hb).1.2.2.2.2.1 x c (capK x c a), fun p hp => absurd (show p ∈ ([] : List (Addr × Obj)) from hp) (by simp)⟩
  have loop : codeAny (model X.prog X.w) X.A (.compLoop (.ListComp elt [⟨tg, iter, ifs, 0⟩] scope pos) 0 (.ref it) (.ref D) (compEnvC scope ((xo, s3.heap.objs.size + 1) :: cl) s3.heap.objs.size X.env))
      (compPost (model X.prog X.w) X.A X.xe none (EP X pins σ Q) (.ref D) s3.heap.objs.size) { s3 with heap := h₁ } := by
    refine compLoop_any (fun n s' => ∃ i ys σ' H', Inv (compX1 xo X N' scope cl s3.heap.objs.size s3 H3 fp) [] σ' H' s' ∧ tn i s'.heap ∧ (∀ b ∈ fp, H' b = none) ∧ W i n ys σ' H') ?_ m0 ⟨0, [], _, _, I4, st3, fun b hb => (f3 b hb).1.1, w0⟩
    rintro n s5 ⟨i, ys, σ5, H5, I5, st5, fr5, w5⟩
    obtain ⟨hD5, tq⟩ := turn i n ys σ5 H5 w5
    rcases tq with ⟨stop, q⟩ | ⟨go, step⟩
    · refine thn (T.done (compX1 xo X N' scope cl s3.heap.objs.size s3 H3 fp) rfl rfl rfl hcalm i [] s5 σ5 H5 _ I5 (fpok fr5) st5 stop) fun r s6 ⟨hr, I6⟩ => ?_
      subst hr
      obtain ⟨m, hn, _⟩ := I6.loc
      exact ⟨m, hn, fun h'' sb => ⟨.ref D, H5, back I6 h'' sb, rfl, q⟩⟩
    · refine thn (T.item (compX1 xo X N' scope cl s3.heap.objs.size s3 H3 fp) rfl rfl rfl hcalm i [] s5 σ5 H5 _ I5 (fpok fr5) st5 go) fun r s6 ⟨u, hr, h6⟩ => ?_
      subst hr
      refine thn h6 fun _ s7 ⟨x, H7, I7, r7, y7, st7, fr7⟩ => ?_
      have I7' := I7.pinned (fpok fr7) (T.obj _ _ st7)
      refine thn (hg _ _ _ _ _ s7 σ5 H7 x u _ I7' r7 (step x H7 y7)) fun _ s8 ⟨σ8, H8, I8, q8⟩ => ?_
      refine thn (ht _ _ _ _ _ s8 σ8 H8 _ I8 q8) fun ok s9 ⟨H9, I9, q9⟩ => ?_
      have again : ∀ {σ' : St} {H' : Hp} {s' : Shared} {ys' : List V}, Inv (compX1 xo X N' scope cl s3.heap.objs.size s3 H3 fp) ([] ++ pinsAt fp s7.heap) σ' H' s' → (∃ m', m' < n ∧ W (i + 1) m' ys' σ' H') →
          ∃ m', m' < n ∧ ∃ i ys σ' H', Inv (compX1 xo X N' scope cl s3.heap.objs.size s3 H3 fp) [] σ' H' s' ∧ tn i s'.heap ∧ (∀ b ∈ fp, H' b = none) ∧ W i m' ys σ' H' := fun {σ' H' s' ys'} I' hw => by
        obtain ⟨m', hm, w'⟩ := hw
        refine ⟨m', hm, i + 1, ys', σ', H', I'.unpinned, T.keep _ _ _ st7 fun b hb o e => (I'.pin (b, o) (List.mem_append_right _ (List.mem_append_right _ (mem_pinsAt hb e)))).1, fun b hb => ?_, w'⟩
        obtain ⟨o, e, d⟩ := T.obj _ _ st7 b hb
        exact (I'.pin (b, o) (List.mem_append_right _ (List.mem_append_right _ (mem_pinsAt hb e)))).2.1
      cases ok with
      | false =>
        rw [if_neg Bool.false_ne_true] at q9 ⊢
        exact again I9 q9
      | true =>
        rw [if_pos rfl] at q9 ⊢
        refine thn (he _ _ _ _ _ s9 σ8 H9 _ I9 q9) fun y s10 ⟨yv, H10, I10, r10, q10, z10, w10⟩ => ?_
        refine thn (mt_append _ s10 σ8 H10 (.ref D) [yv] (.ref D) [y] (fun v H' => v = .non ∧ H' = upd H10 D (.lst (ys ++ [yv]))) I10 rfl (.cons r10 .nil) ⟨D, ys, yv, rfl, rfl, q10, z10, rfl, rfl⟩) fun _ s11 ⟨_, H11, I11, _, _, e11⟩ => ?_
        subst e11
        exact again I11 w10
  have es : ({ s3 with heap := h₁ } : Shared) = { s2 with heap := h₁ } := by rw [← hs3]
  rw [es] at loop
  exact codeAny_compStart_list loop (T.self _ 0 _ _ _ st3 loop)
theorem pe_compC1 (xo : Str) {tg iter elt : Expr} {ifs : List Expr} {scope : Scope} {pos : Pos} (N' : List Str) (ks : List (Option Nat)) {wi : TI} {g : TG} {tt : TT} {te : TE}
    (hcalm : X.calm = true) (hi : PI X tg iter wi) (hfree : ∀ y ∈ scope.names, y.2 = .free → X.env.scope.names.lookup y.1 = some .cell)
    (hcf : ∀ (n : Addr) (l : List (Str × Addr)), cellsFrom n scope.names l = (xo, n) :: l) (hpc : ∀ h : Heap, pushCells h scope.names = h.push { cls := .type "cell", data := .cell none }) (hno : ∀ (i k : Nat), ks[i]? = some (some k) → N'[i]? ≠ some xo) (hcell : ∀ y ∈ scope.names, y.2 = .cell → y.1 = xo) (hkind : scope.kind = .function) (hnames : ∀ y ∈ scope.names, y.2 = .local → scope.names.lookup y.1 = some .local)
    (hcap : Cap X (relabel scope X.env) N' ks)
    (hg : ∀ cl C s H fp, PG (compX1 xo X N' scope cl C s H fp) tg g) (ht : ∀ cl C s H fp, PTs (compX1 xo X N' scope cl C s H fp) ifs tt) (he : ∀ cl C s H fp, PE (compX1 xo X N' scope cl C s H fp) elt te)
    (hs : ∀ x, foldedSetIterable iter X.env x = pure x := by intro _; rfl) : PE X (.ListComp elt [⟨tg, iter, ifs, 0⟩] scope pos) (tComp wi ks g tt te) := by
  intro pins s σ H Q I h
  obtain ⟨cl, e1, e2, e3⟩ := closure_ok (scope := scope) (env := X.env) fun y hy hf => I.ok.has y.1 (.inl (hfree y hy hf))
  refine pe_comp1 hcalm hi e1 e2 hcf hpc hno hkind hnames (fun x hx => ?_) hcap (hg cl) (ht cl) (he cl) hs pins s σ H Q I h
  have key : ∀ k, (x, k) ∈ (relabel scope X.env).names → k = .cell ∨ k = .free → x = xo ∨ (x, NameKind.free) ∈ scope.names := fun k hm hk => by
    unfold relabel at hm
    obtain ⟨⟨n, k'⟩, hy, e⟩ := List.mem_map.mp hm
    dsimp only at e
    split at e
    · rename_i hc
      cases e
      have : k' = .free := by simp at hc; exact hc.1.1
      exact .inr (by rw [← this]; exact hy)
    · cases e
      rcases hk with rfl | rfl
      · exact .inl (hcell _ hy rfl)
      · exact .inr hy
  rcases hx with hx | hx
  · exact (key _ (PySem.mem_of_lookup hx) (.inl rfl)).imp id (e3 x)
  · exact (key _ (PySem.mem_of_lookup hx) (.inr rfl)).imp id (e3 x)
end
end L2

namespace L2
open PySem PySem.Spec PyProof.Rows
theorem le_sz {k : Nat} {x y : Int} (h0 : 0 ≤ x) (h : x ≤ y) (z : Sz k y) : Sz k x := by
  have z' : y.natAbs < 2 ^ k := z
  show x.natAbs < 2 ^ k
  omega
theorem getD_mapI {ns : List Int} {i : Nat} (h : i < ns.length) : ns[i]? = some (ns.getD i 0) := by
  rw [List.getD_eq_getElem?_getD, List.getElem?_eq_getElem h]; rfl
end L2

namespace L2
open PySem PySem.Spec PyProof.Rows
theorem pi_listK {K : PySem.W.Frag} {X : Cx} {tg l : Expr} {tl : TE} (e : X.K = K) (hl : PE X l tl) : PI X tg l (iList K tl) := e ▸ pi_list hl
theorem hno_cons {xo : Str} {N : List Str} {ks : List (Option Nat)} (h : xo ∉ N) : ∀ (i k : Nat), (none :: ks)[i]? = some (some k) → (xo :: N)[i]? ≠ some xo
  | 0, k, e => by simp at e
  | i + 1, k, _ => fun z => h (List.mem_of_getElem? (by simpa using z))
end L2
namespace Pw
end Pw

namespace L2
open PySem PySem.Spec PyProof.Rows
section
variable {ps : List (Int × Int)} {A : Int × Int} {Bs Rs : List (Int × Int)} {S D C : Int} {n : Nat}
end
end L2

namespace L2
open PySem PySem.Spec PyProof.Rows
end L2

namespace Pw
section
variable (A : Nat → Vec)
end
end Pw

namespace Pw
end Pw

namespace Pw
end Pw

namespace Pw
section
variable (ps : List (Int × Int)) (A : Int × Int) (ss : List Int) (n : Nat)
end
section
variable {ps : List (Int × Int)} {A : Int × Int} {ss : List Int} {n : Nat}
end
end Pw

namespace L2
open PySem PySem.Spec PyProof.Rows
section
variable {X : Cx}
end
end L2

namespace L2
open PySem PySem.Spec PyProof.Rows
end L2

namespace Pw
end Pw
namespace L2
open PySem PySem.Spec PyProof.Rows
theorem le_sum : ∀ {ns : List Int} {s : Int}, (∀ n ∈ ns, 0 ≤ n) → s ∈ ns → s ≤ ns.sum
  | n :: ns, s, h, hs => by
    have h1 := Pw.sum_nn fun m hm => h m (List.mem_cons_of_mem _ hm)
    have h2 := h n List.mem_cons_self
    rw [List.sum_cons]
    rcases List.mem_cons.mp hs with rfl | hs
    · omega
    · have := le_sum (fun m hm => h m (List.mem_cons_of_mem _ hm)) hs
      omega
theorem sum_szR {Rs : List (Int × Int)} {n : Nat} {D C : Int} (h : Rw Rs n D C) (hn : n ≤ 13) {j : Nat} (hj : j ≤ n) : Sz2 2004 (Pw.ofQ (Pw.qs j (fun t => Pw.val (Rs.getD t (0, 1))))) := by
  have hb := Pw.Bd.qs (n := j) (D := D) (C := (C : Rat)) (f := fun t => Pw.val (Rs.getD t (0, 1))) fun i hi => h.bd (mem_getD (by have := h.len; omega))
  have hC := h.cpos
  have hC0 := Pw.cnn (d := C) (by omega)
  have h13' : ((13 * C : Int) : Rat) = 13 * (C : Rat) := by rw [Rat.intCast_mul]; rfl
  have h0 : Sz 4 13 := sz_of 4 (by decide)
  have z : Sz 2004 ((13 * C) * D) := by rw [Int.mul_assoc]; exact (h0.mul h.sz).mono (by decide)
  refine Pw.Bd.sz (C := 13 * C) (hb.mono ?_) h.dpos (by omega) z
  rw [h13']
  refine Pw.mul_le_r ?_ hC0
  have : ((j : Int) : Rat) ≤ ((13 : Int) : Rat) := Rat.intCast_le_intCast.mpr (by omega)
  exact this
end L2

namespace L2
theorem Wts.sz {pages : Int} {ws : List Int} (wt : Wts pages ws) (hp : pages ≤ 12) : Sz 41 ws.sum := by
  have hl := wt.len
  have h1 := Pw.sum_le (B := 2 ^ 37) fun n hn => Int.le_of_lt (wt.nn n hn).2
  have h2 : (ws.length : Int) * 2 ^ 37 ≤ 12 * 2 ^ 37 := Int.mul_le_mul_of_nonneg_right (by omega) (by decide)
  have := wt.pos
  exact sz_of 41 (by omega)
end L2

namespace Pw
section
variable {ps : List (Int × Int)} {A : Int × Int} {Bs : List (Int × Int)} {S : Int} {n : Nat} {Ss : List (Int × Int)}
end
end Pw

namespace L2
open PySem PySem.Spec PyProof.Rows
end L2

namespace L2
end L2

namespace L2
open PySem PySem.Spec PyProof.Rows
end L2
namespace Pw
section
variable {ps : List (Int × Int)} {A : Int × Int} {Bs Ds : List (Int × Int)} {n : Nat}
end
end Pw

namespace Pw
end Pw

namespace Pw
section
variable {Bs : List (Int × Int)} {A : Int × Int} {c n : Nat}
end
end Pw
namespace L2
open PySem PySem.Spec PyProof.Rows
end L2

namespace L2
open PySem PySem.Spec PyProof.Rows
end L2
namespace Pw
theorem qs_cut (f : Nat → Rat) (n : Nat) : ∀ m, qs (n + m) f = qs n f + qs m (fun i => f (n + i))
  | 0 => by show qs n f = qs n f + 0; grind
  | m + 1 => by
    show qs (n + m) f + f (n + m) = qs n f + (qs m (fun i => f (n + i)) + f (n + m))
    rw [qs_cut f n m]; grind
section
variable {P : Int × Int} {Bs Cs : List (Int × Int)}
section
variable {n m : Nat} {ps qs' : List (Int × Int)} {A : Int × Int} {P : Int × Int} {Bs Cs Ss Ts : List (Int × Int)}
end
end
end Pw
namespace L2
open PySem PySem.Spec PyProof.Rows
end L2

namespace L2
open PySem PySem.Spec PyProof.Rows
end L2

namespace L2
open PySem PySem.Spec PyProof.Rows
end L2

namespace L2
open PySem PySem.Spec PyProof.Rows
structure ZFar (z TI TO i1 i2 : Addr) (f1 f2 : List Addr) : Prop where
  a1 : TI ≠ z
  a2 : TO ≠ z
  a3 : i1 ≠ z
  a4 : i2 ≠ z
  a5 : TI ≠ TO
  a6 : TI ≠ i1
  a7 : TI ≠ i2
  a8 : TO ≠ i1
  a9 : TO ≠ i2
  b0 : i1 ≠ i2
  b1 : z ∉ f1
  b2 : z ∉ f2
  b3 : TO ∉ f1
  b4 : TO ∉ f2
  b5 : i2 ∉ f1
  b6 : i1 ∉ f2
section
variable {prog : Program} {w : World} {A : Around} {E : Value → Shared → Prop} {s : Shared} {z TI TO i1 i2 : Addr} {f1 f2 : List Addr} {n1 n2 k : Nat} {P1 P2 : Nat → Value → Prop} {S1 S2 : Nat → Heap → Prop} {a b : Value}
theorem Draws.but {it c : Addr} {f : List Addr} {n i : Nat} {Pp : Nat → Value → Prop} {St : Nat → Heap → Prop} {h h' : Heap} (D : Draws prog w A it f n Pp St) (nc : c ∉ f) (x : Heap.ExtBut c h h') (st : St i h) : St i h' :=
  D.frame i h h' st fun b hb o e => x b o (fun y => nc (y ▸ hb)) e
theorem zipD_item {Q : Value → Shared → Prop} (D1 : Draws prog w A i1 f1 n1 P1 S1) (D2 : Draws prog w A i2 f2 n2 P2 S2) (Z : ZFar z TI TO i1 i2 f1 f2)
    (gz : IsZip s.heap z TI TO .none) (gI : IsPair s.heap TI (.ref i1) (.ref i2)) (gO : IsPair s.heap TO a b) (g1 : S1 k s.heap) (g2 : S2 k s.heap) (l1 : k < n1) (l2 : k < n2)
    (q : ∀ x y hp tk, P1 k x → P2 k y → IsZip hp z TI TO (rawInt s.heap.objs.size) → IsPair hp TO x y → S1 (k + 1) hp → S2 (k + 1) hp → IsPair hp s.heap.objs.size x y →
      (∀ c o, c ≠ z → c ≠ TO → c ≠ i1 → c ≠ i2 → s.heap.get? c = some o → hp.get? c = some o) → Q (.ref s.heap.objs.size) { s with heap := hp, toks := tk }) :
    wpAny (model prog w) A (Builtin.«zip.__next__» ⟨[.ref z], []⟩) (fun fin s' => ∃ v, fin = .done (.ret v) ∧ Q v s') E s := by
  show wpAny _ _ (field (.ref z) 2 >>= _) _ _ _; refine wpAny_bind (wpAny_field gz rfl (x := .bool false) rfl ?_)
  show wpAny _ _ (field (.ref z) 3 >>= _) _ _ _; refine wpAny_bind (wpAny_field gz rfl (x := .ref TI) rfl (wpAny_bind (wpAny_seqItems gI rfl ?_)))
  show wpAny _ _ (Builtin.SmallTypes.ownedTupleIsFree (.ref z) >>= _) _ _ _; refine wpAny_bind ?_; unfold Builtin.SmallTypes.ownedTupleIsFree
  refine wpAny_bind (wpAny_field gz rfl (x := .none) rfl (wpAny_pure ?_)); simp only [if_true]
  refine wpAny_bind (wpAny_rule (wpAny_bind (wpAny_field gz rfl (x := .ref TO) rfl (wpAny_bind (wpAny_setField_rec gz (by simp) fun p1 gz1 t1 => ?_)))))
  replace gz1 : IsZip p1 z TI TO .ellipsis := gz1; refine wpAny_bind ?_; simp only [List.zipIdx_cons, List.zipIdx_nil, List.forIn_cons, List.forIn_nil]
  refine wpAny_bind (wpAny_bind (wpAny_onRaise ?_)); show wpAny _ _ (Builtin.SmallTypes.nextOf (.ref i1) >>= _) _ _ _
  refine wpAny_bind (D1.item k _ _ _ l1 (Draws.but D1 Z.b1 t1.extBut g1) fun x p2 tk2 px g12 t2 => wpAny_pure ?_)
  have gO2 : IsPair p2 TO a b := t2.extBut _ _ Z.a8 (t1.extBut _ _ Z.a2 gO)
  refine wpAny_bind (wpAny_seqItems gO2 rfl (wpAny_bind (wpAny_updateSeq_pair gO2 fun p3 gO3 t3 => ?_)))
  replace gO3 : IsPair p3 TO x b := gO3; refine wpAny_bind (wpAny_letGo (wpAny_pure ?_))
  refine wpAny_bind (wpAny_bind (wpAny_onRaise ?_)); show wpAny _ _ (Builtin.SmallTypes.nextOf (.ref i2) >>= _) _ _ _
  refine wpAny_bind (D2.item k _ _ _ l2 (Draws.but D2 Z.b4 t3.extBut (Draws.but D2 Z.b6 t2.extBut (Draws.but D2 Z.b2 t1.extBut g2))) fun y p4 tk4 py g24 t4 => wpAny_pure ?_)
  have gO4 : IsPair p4 TO x b := t4.extBut _ _ Z.a9 gO3
  refine wpAny_bind (wpAny_seqItems gO4 rfl (wpAny_bind (wpAny_updateSeq_pair gO4 fun p5 gO5 t5 => ?_)))
  replace gO5 : IsPair p5 TO x y := gO5; refine wpAny_bind (wpAny_letGo (wpAny_pure (wpAny_pure ?_)))
  refine wpAny_bind (wpAny_seqItems gO5 rfl (wpAny_bind (wpAny_newTuple ?_)))
  have sz : p5.objs.size = s.heap.objs.size := by rw [t5.1, t4.1, t3.1, t2.1, t1.1]
  have gz5 : IsZip p5 z TI TO .ellipsis := t5.extBut _ _ Z.a2.symm (t4.extBut _ _ Z.a4.symm (t3.extBut _ _ Z.a2.symm (t2.extBut _ _ Z.a3.symm gz1)))
  have kp5 : ∀ c o, c ≠ z → c ≠ TO → c ≠ i1 → c ≠ i2 → s.heap.get? c = some o → p5.get? c = some o := fun c o c1 c2 c3 c4 e => t5.extBut _ _ c2 (t4.extBut _ _ c4 (t3.extBut _ _ c2 (t2.extBut _ _ c3 (t1.extBut _ _ c1 e))))
  have g15 : S1 (k + 1) p5 := Draws.but D1 Z.b3 t5.extBut (Draws.but D1 Z.b5 t4.extBut (Draws.but D1 Z.b3 t3.extBut g12))
  have g25 : S2 (k + 1) p5 := Draws.but D2 Z.b4 t5.extBut g24
  have lz : z < p5.objs.size := Heap.lt_size gz5
  show wpAny _ _ (Builtin.SmallTypes.ownedTupleHandOut (.ref z) (.ref p5.objs.size) >>= _) _ _ _; refine wpAny_bind ?_; unfold Builtin.SmallTypes.ownedTupleHandOut
  have gz6 : IsZip (p5.push { cls := .type "tuple", data := .seq #[x, y] }) z TI TO .ellipsis := Heap.get?_push_of_some _ gz5
  refine wpAny_bind (wpAny_setField_rec gz6 (by simp) fun p7 gz7 t7 => ?_); replace gz7 : IsZip p7 z TI TO (rawInt p5.objs.size) := gz7
  refine wpAny_setField_rec gz7 (by simp) fun p8 gz8 t8 => ?_; replace gz8 : IsZip p8 z TI TO (rawInt p5.objs.size) := gz8
  have up : ∀ c o, c ≠ z → p5.get? c = some o → p8.get? c = some o := fun c o c1 e => t8.extBut _ _ c1 (t7.extBut _ _ c1 (Heap.get?_push_of_some _ e))
  have gT8 : IsPair p8 p5.objs.size x y := t8.extBut _ _ (Nat.ne_of_gt lz) (t7.extBut _ _ (Nat.ne_of_gt lz) (Heap.get?_push_size _ rfl))
  rw [sz] at gz8 gT8
  refine wpAny_pure ⟨_, rfl, ?_⟩; show Q (.ref p5.objs.size) _; rw [sz]
  exact q x y p8 tk4 px py gz8 (up _ _ Z.a2 gO5) (D1.frame _ _ _ g15 fun b hb o e => up _ o (fun y => Z.b1 (y ▸ hb)) e) (D2.frame _ _ _ g25 fun b hb o e => up _ o (fun y => Z.b2 (y ▸ hb)) e) gT8 fun c o c1 c2 c3 c4 e => up c o c1 (kp5 c o c1 c2 c3 c4 e)
theorem zipD_end {Q : Fin → Shared → Prop} (D1 : Draws prog w A i1 f1 n1 P1 S1) (D2 : Draws prog w A i2 f2 n2 P2 S2) (Z : ZFar z TI TO i1 i2 f1 f2) (gz : IsZip s.heap z TI TO .none) (gI : IsPair s.heap TI (.ref i1) (.ref i2)) (gO : IsPair s.heap TO a b) (g1 : S1 k s.heap) (g2 : S2 k s.heap) (hk : k = n1 ∨ (k < n1 ∧ k = n2))
    (q : ∀ hp e tk, (∀ c o, c ≠ z → c ≠ TO → c ≠ i1 → c ≠ i2 → s.heap.get? c = some o → hp.get? c = some o) → (∃ o, hp.get? e = some o ∧ o.cls = .type "StopIteration") → E (.ref e) { s with heap := hp, toks := tk }) :
    wpAny (model prog w) A (Builtin.«zip.__next__» ⟨[.ref z], []⟩) Q E s := by
  show wpAny _ _ (field (.ref z) 2 >>= _) _ _ _; refine wpAny_bind (wpAny_field gz rfl (x := .bool false) rfl ?_)
  show wpAny _ _ (field (.ref z) 3 >>= _) _ _ _; refine wpAny_bind (wpAny_field gz rfl (x := .ref TI) rfl (wpAny_bind (wpAny_seqItems gI rfl ?_)))
  show wpAny _ _ (Builtin.SmallTypes.ownedTupleIsFree (.ref z) >>= _) _ _ _; refine wpAny_bind ?_; unfold Builtin.SmallTypes.ownedTupleIsFree
  refine wpAny_bind (wpAny_field gz rfl (x := .none) rfl (wpAny_pure ?_)); simp only [if_true]
  refine wpAny_bind (wpAny_rule (wpAny_bind (wpAny_field gz rfl (x := .ref TO) rfl (wpAny_bind (wpAny_setField_rec gz (by simp) fun p1 gz1 t1 => ?_)))))
  replace gz1 : IsZip p1 z TI TO .ellipsis := gz1; refine wpAny_bind ?_; simp only [List.zipIdx_cons, List.zipIdx_nil, List.forIn_cons, List.forIn_nil]
  refine wpAny_bind (wpAny_bind (wpAny_onRaise ?_)); show wpAny _ _ (Builtin.SmallTypes.nextOf (.ref i1) >>= _) _ _ _
  rcases hk with e | ⟨hlt, e⟩
  · subst e
    refine wpAny_bind (D1.done _ _ _ (Draws.but D1 Z.b1 t1.extBut g1) fun p2 e t2 he => ?_)
    obtain ⟨oe, hoe, hce⟩ := he
    have gz2 : IsZip p2 z TI TO .ellipsis := t2 _ _ Z.a3.symm gz1
    have ez : e ≠ z := fun x => by subst x; rw [gz2] at hoe; cases hoe; simp at hce
    exact wpAny_setField_rec gz2 (by simp) fun p3 _ t3 => q p3 e _ (fun c o c1 _ c3 _ x => t3.extBut _ _ c1 (t2 _ _ c3 (t1.extBut _ _ c1 x))) ⟨oe, t3.extBut _ _ ez hoe, hce⟩
  · subst e
    refine wpAny_bind (D1.item k _ _ _ hlt (Draws.but D1 Z.b1 t1.extBut g1) fun x p2 tk2 px g12 t2 => wpAny_pure ?_)
    have gO2 : IsPair p2 TO a b := t2.extBut _ _ Z.a8 (t1.extBut _ _ Z.a2 gO)
    refine wpAny_bind (wpAny_seqItems gO2 rfl (wpAny_bind (wpAny_updateSeq_pair gO2 fun p3 gO3 t3 => ?_)))
    refine wpAny_bind (wpAny_letGo (wpAny_pure (wpAny_bind (wpAny_bind (wpAny_onRaise ?_))))); show wpAny _ _ (Builtin.SmallTypes.nextOf (.ref i2) >>= _) _ _ _
    refine wpAny_bind (D2.done _ _ _ (Draws.but D2 Z.b4 t3.extBut (Draws.but D2 Z.b6 t2.extBut (Draws.but D2 Z.b2 t1.extBut g2))) fun p4 e t4 he => ?_)
    obtain ⟨oe, hoe, hce⟩ := he
    have gz4 : IsZip p4 z TI TO .ellipsis := t4 _ _ Z.a4.symm (t3.extBut _ _ Z.a2.symm (t2.extBut _ _ Z.a3.symm gz1))
    have ez : e ≠ z := fun x => by subst x; rw [gz4] at hoe; cases hoe; simp at hce
    exact wpAny_setField_rec gz4 (by simp) fun p5 _ t5 => q p5 e _ (fun c o c1 c2 c3 c4 x => t5.extBut _ _ c1 (t4 _ _ c4 (t3.extBut _ _ c2 (t2.extBut _ _ c3 (t1.extBut _ _ c1 x))))) ⟨oe, t5.extBut _ _ ez hoe, hce⟩
end
section
variable {prog : Program} {w : World} {A : Around} {z TI TO i1 i2 : Addr} {f1 f2 : List Addr} {n1 n2 : Nat} {P1 P2 : Nat → Value → Prop} {S1 S2 : Nat → Heap → Prop}
noncomputable def ZSt (z TI TO i1 i2 : Addr) (S1 S2 : Nat → Heap → Prop) (i : Nat) (h : Heap) : Prop := IsZip h z TI TO .none ∧ IsPair h TI (.ref i1) (.ref i2) ∧ (∃ a b, IsPair h TO a b) ∧ S1 i h ∧ S2 i h
noncomputable def ZMid (z TI TO i1 i2 : Addr) (S1 S2 : Nat → Heap → Prop) (i : Nat) (T : Addr) (h : Heap) : Prop := IsZip h z TI TO (rawInt T) ∧ IsPair h TI (.ref i1) (.ref i2) ∧ (∃ a b, IsPair h TO a b) ∧ S1 (i + 1) h ∧ S2 (i + 1) h ∧ T ≠ z ∧ T ≠ TO ∧ T ≠ i1 ∧ T ≠ i2
theorem itemZ (D1 : Draws prog w A.in1 i1 f1 n1 P1 S1) (D2 : Draws prog w A.in1 i2 f2 n2 P2 S2) (Z : ZFar z TI TO i1 i2 f1 f2) :
    ItemN prog w A z [z, TO, i1, i2] (min n1 n2) (fun i vals => ∃ x y, P1 i x ∧ P2 i y ∧ vals = #[x, y]) (ZSt z TI TO i1 i2 S1 S2) (ZMid z TI TO i1 i2 S1 S2) := fun i s Q E hi st q => by
  obtain ⟨gz, gI, ⟨a, b, gO⟩, g1, g2⟩ := st
  have hT : s.TypeIs (.ref z) "zip" := ⟨_, gz, rfl⟩
  have gt : ∀ {c : Addr} {o : Obj}, s.heap.get? c = some o → s.heap.objs.size ≠ c := fun e => Nat.ne_of_gt (Heap.lt_size e)
  unfold pyNext
  refine wpAny_bind (wpAny_attempt (wpAny_callSpecial?_slot (name := Str.ofString "__next__") hT F.slot_zip_next (wpAny_call_entry F.slot_zip_next hT F.entry_zip_next
      (zipD_item D1 D2 Z gz gI gO g1 g2 (Nat.lt_of_lt_of_le hi (Nat.min_le_left ..)) (Nat.lt_of_lt_of_le hi (Nat.min_le_right ..)) fun x y hp tk px py a1 a2 a3 a4 a5 kp => wpAny_pure ?_) (F.args_zip_next_1 _))))
  exact q _ _ _ hp tk ⟨_, _, px, py, rfl⟩ (Nat.le_refl _) a5 ⟨a1, kp _ _ Z.a1 Z.a5 Z.a6 Z.a7 gI, ⟨_, _, a2⟩, a3, a4, gt gz, gt gO, (by obtain ⟨_, e⟩ := D1.live _ _ g1; exact gt e), (by obtain ⟨_, e⟩ := D2.live _ _ g2; exact gt e)⟩
    fun c o hc e => kp c o (fun y => hc (by simp [y])) (fun y => hc (by simp [y])) (fun y => hc (by simp [y])) (fun y => hc (by simp [y])) e
theorem walkZ (D1 : Draws prog w A.in1 i1 f1 n1 P1 S1) (D2 : Draws prog w A.in1 i2 f2 n2 P2 S2) (Z : ZFar z TI TO i1 i2 f1 f2) :
    WalksT prog w A z ([z, TI, TO, i1, i2] ++ (f1 ++ f2)) [z, TO, i1, i2] (min n1 n2) (fun i vals => ∃ x y, P1 i x ∧ P2 i y ∧ vals = #[x, y]) (ZSt z TI TO i1 i2 S1 S2) (ZMid z TI TO i1 i2 S1 S2) where
  sub := fun c hc => by
    simp at hc ⊢
    rcases hc with rfl | rfl | rfl | rfl <;> simp
  frame := fun i h h' st hk => by
    obtain ⟨gz, gI, ⟨a, b, gO⟩, g1, g2⟩ := st
    exact ⟨hk z (by simp) _ gz, hk TI (by simp) _ gI, ⟨a, b, hk TO (by simp) _ gO⟩, D1.frame _ _ _ g1 fun b hb o e => hk b (by simp [hb]) o e, D2.frame _ _ _ g2 fun b hb o e => hk b (by simp [hb]) o e⟩
  item := fun i s Q E hi st hQ => itemZ D1 D2 Z i s Q E hi st fun T x y h' tk pt hT gT mid kp => hQ T #[x, y] h' tk pt hT ⟨_, gT, rfl, _, rfl⟩ mid kp
  go := fun elts k pos i T s Q E hm hQ => by
    obtain ⟨gz, gI, ⟨a, b, gO⟩, g1, g2, _⟩ := hm
    exact wpAny_letOwnedTupleGo_zip gz fun h' gz' t => hQ h' ⟨gz', t.extBut _ _ Z.a1 gI, ⟨a, b, t.extBut _ _ Z.a2 gO⟩, Draws.but D1 Z.b1 t.extBut g1, Draws.but D2 Z.b2 t.extBut g2⟩ fun c o hc e => t.extBut _ _ (fun x => hc (by simp [x])) e
  apart := fun i T h hm hT => by
    obtain ⟨_, _, _, _, _, t1, t2, t3, t4⟩ := hm
    simp at hT
    rcases hT with y | y | y | y
    · exact t1 y
    · exact t2 y
    · exact t3 y
    · exact t4 y
  done := fun s Q E st hQ => by
    obtain ⟨gz, gI, ⟨a, b, gO⟩, g1, g2⟩ := st
    have hT : s.TypeIs (.ref z) "zip" := ⟨_, gz, rfl⟩
    unfold pyNext
    refine wpAny_bind (wpAny_attempt (wpAny_callSpecial?_slot (name := Str.ofString "__next__") hT F.slot_zip_next (wpAny_call_entry F.slot_zip_next hT F.entry_zip_next (zipD_end D1 D2 Z gz gI gO g1 g2 (by omega) fun h' e tk hk he => ?_) (F.args_zip_next_1 _))))
    obtain ⟨o, ho, hc⟩ := he
    refine wpAny_bind (wpAny_isInstance (T := "StopIteration") (b := true) ⟨o, ho, hc⟩ isSubtype_stop (wpAny_pure ?_))
    exact hQ _ _ fun c o hc e => hk c o (fun x => hc (by simp [x])) (fun x => hc (by simp [x])) (fun x => hc (by simp [x])) (fun x => hc (by simp [x])) e
  self := fun i s Q E st hQ => wpAny_pyIter_zip st.1 hQ
end

noncomputable def IterB (b : Bool) (h : Heap) (it a : Addr) (i : Nat) : Prop := if b = true then h.IsListIter it a i else h.IsTupleIter it a i
noncomputable def SeqB (b : Bool) (h : Heap) (a : Addr) (its : Array Value) : Prop := if b = true then h.IsList a its else h.IsTuple a its
theorem drawsB {prog : Program} {w : World} {A : Around} (b : Bool) (hh : A.handled = none) (it l : Addr) (hne : l ≠ it) (its : Array Value) :
    Draws prog w A it [it, l] its.size (fun i v => its[i]? = some v) (fun i h => IterB b h it l i ∧ SeqB b h l its) := by
  cases b
  · exact drawsT hh it l hne its
  · exact Draws.list hh it l hne its
theorem Inv.seqB {X : Cx} {pins : List (Addr × Obj)} {σ : St} {H : Hp} {s : Shared} {b : Bool} {a : Addr} {xs : List V} (I : Inv X pins σ H s) (h : Sq b X.K H a xs) : ∃ its : List Value, Vals xs its ∧ SeqB b s.heap a its.toArray := by
  cases b
  · obtain ⟨its, r, p, _⟩ := I.tuple h; exact ⟨its, r, p⟩
  · obtain ⟨its, r, p, _⟩ := I.list h; exact ⟨its, r, p.isList⟩
theorem Inv.seqB_inj {X : Cx} {pins : List (Addr × Obj)} {σ : St} {H : Hp} {s : Shared} {b : Bool} {a : Addr} {xs ys : List V} (I : Inv X pins σ H s) (h : Sq b X.K H a xs) (h' : Sq b X.K H a ys) : xs = ys := by
  cases b
  · exact I.tuple_inj h h'
  · exact I.list_inj h h'
theorem IterB.at {b : Bool} {h h' : Heap} {it a : Addr} {i : Nat} (x : IterB b h it a i) (k : ∀ o, h.get? it = some o → h'.get? it = some o) : IterB b h' it a i := by
  cases b
  · obtain ⟨o, e, r⟩ := x; exact ⟨o, k o e, r⟩
  · obtain ⟨o, e, r⟩ := x; exact ⟨o, k o e, r⟩
theorem IterB.obj {b : Bool} {h : Heap} {it a : Addr} {i : Nat} (x : IterB b h it a i) : ∃ o, h.get? it = some o ∧ ∀ v, o.data ≠ .cell v := by
  cases b
  · obtain ⟨o, e, c, d⟩ := x; exact ⟨o, e, fun v z => by rw [d] at z; cases z⟩
  · obtain ⟨o, e, c, d⟩ := x; exact ⟨o, e, fun v z => by rw [d] at z; cases z⟩
noncomputable def ItZS (b1 b2 : Bool) (K : PySem.W.Frag) (a b : Addr) : It := ItP (fun i H => ∃ xs ys x y, Sq b1 K H a xs ∧ Sq b2 K H b ys ∧ xs[i]? = some x ∧ ys[i]? = some y) (fun i H u v => (∀ xs, Sq b1 K H a xs → xs[i]? = some u) ∧ ∀ ys, Sq b2 K H b ys → ys[i]? = some v) (fun i H => ∃ xs ys, Sq b1 K H a xs ∧ Sq b2 K H b ys ∧ min xs.length ys.length = i)
noncomputable def ZApart (z TI TO i1 i2 l1 l2 : Addr) : Prop := ZFar z TI TO i1 i2 [i1, l1] [i2, l2] ∧ l1 ≠ i1 ∧ l2 ≠ i2
section
variable {P : Program} {w : World} {K : PySem.W.Frag} {elts : List Expr} {ek : Nat} {epos : Pos} {b1 b2 : Bool}
theorem turn_zipS {z TI TO i1 i2 l1 l2 : Addr} (Z : ZApart z TI TO i1 i2 l1 l2) : Turn P w K (.Tuple elts ek epos) (ItZS b1 b2 K l1 l2) [z, TI, TO, i1, i2] z (fun i h => IsZip h z TI TO .none ∧ IsPair h TI (.ref i1) (.ref i2) ∧ (∃ a b, IsPair h TO a b) ∧ IterB b1 h i1 l1 i ∧ IterB b2 h i2 l2 i) := by
  obtain ⟨Z, n1, n2⟩ := Z
  refine turn_pairs (wr := [z, TO, i1, i2]) (by simp) (fun b hb => ?_) (fun i h st b hb => ?_) (fun i h h' st k => ?_) (fun A i s Q E st q => ?_) ?_ ?_
  · simp at hb ⊢
    rcases hb with y | y | y | y <;> simp [y]
  · obtain ⟨g1, g2, ⟨x, y, g3⟩, g4, g5⟩ := st
    simp at hb
    rcases hb with y | y | y | y | y
    · exact ⟨_, y ▸ g1, fun v z => by cases z⟩
    · exact ⟨_, y ▸ g2, fun v z => by cases z⟩
    · exact ⟨_, y ▸ g3, fun v z => by cases z⟩
    · rw [y]; exact g4.obj
    · rw [y]; exact g5.obj
  · obtain ⟨g1, g2, ⟨x, y, g3⟩, g4, g5⟩ := st
    exact ⟨k z (by simp) _ g1, k TI (by simp) _ g2, ⟨x, y, k TO (by simp) _ g3⟩, g4.at fun o e => k i1 (by simp) o e, g5.at fun o e => k i2 (by simp) o e⟩
  · exact wpAny_pyIter_zip st.1 q
  · intro X hP hw' hK hc i pins s σ H I0 hf st hg
    obtain ⟨xs, ys, x, y, hq, hq', hx, hy⟩ := hg
    rw [← hK] at hq hq'
    obtain ⟨its, rv, p⟩ := I0.seqB hq
    obtain ⟨its', rv', p'⟩ := I0.seqB hq'
    obtain ⟨u, hu, ru⟩ := rv.get hx
    obtain ⟨u', hu', ru'⟩ := rv'.get hy
    have hl := rv.length
    have hl' := rv'.length
    have hix : i < xs.length := (List.getElem?_eq_some_iff.mp hx).1
    have hiy : i < ys.length := (List.getElem?_eq_some_iff.mp hy).1
    obtain ⟨g1, g2, g3, g4, g5⟩ := st
    have D1 := drawsB (prog := P) (w := w) (A := X.A.in1) b1 (I0.ok.hd hc) i1 l1 n1 its.toArray
    have D2 := drawsB (prog := P) (w := w) (A := X.A.in1) b2 (I0.ok.hd hc) i2 l2 n2 its'.toArray
    refine ⟨_, _, _, _, _, ⟨walkZ D1 D2 Z, itemZ D1 D2 Z⟩, by rw [List.size_toArray, List.size_toArray]; omega, ⟨g1, g2, g3, ⟨g4, p⟩, ⟨g5, p'⟩⟩, fun h' q => ⟨q.1, q.2.1, q.2.2.1, q.2.2.2.1.1, q.2.2.2.2.1⟩, ?_⟩
    rintro vals ⟨v, v', hv, hv', rfl⟩
    have e1 : its[i]? = some v := by simpa using hv
    have e2 : its'[i]? = some v' := by simpa using hv'
    rw [hu] at e1; rw [hu'] at e2; cases e1; cases e2
    exact ⟨x, y, _, _, rfl, ru, ru', fun ys hys => by rw [← hK] at hys; rw [I0.seqB_inj hys hq]; exact hx, fun ys hys => by rw [← hK] at hys; rw [I0.seqB_inj hys hq']; exact hy⟩
  · intro X hP hw' hK hc i pins s σ H I0 hf st hg
    obtain ⟨xs, ys, hq, hq', hx⟩ := hg
    rw [← hK] at hq hq'
    obtain ⟨its, rv, p⟩ := I0.seqB hq
    obtain ⟨its', rv', p'⟩ := I0.seqB hq'
    have hl := rv.length
    have hl' := rv'.length
    obtain ⟨g1, g2, g3, g4, g5⟩ := st
    have e1 : min its.toArray.size its'.toArray.size = i := by rw [List.size_toArray, List.size_toArray]; omega
    refine ⟨_, _, _, _, _, walkZ (drawsB (prog := P) (w := w) (A := X.A.in1) b1 (I0.ok.hd hc) i1 l1 n1 its.toArray) (drawsB (prog := P) (w := w) (A := X.A.in1) b2 (I0.ok.hd hc) i2 l2 n2 its'.toArray) Z, ?_⟩
    rw [e1]
    exact ⟨g1, g2, g3, ⟨g4, p⟩, ⟨g5, p'⟩⟩
end
noncomputable def itO (b : Bool) (l : Addr) : Obj := if b = true then { cls := .type "list_iterator", data := .fields #[.ref l, .int 0 0] } else { cls := .type "tuple_iterator", data := .fields #[.ref l, .int 0 0] }
noncomputable def zH (b1 b2 : Bool) (h : Heap) (l1 l2 : Addr) : Heap := ((((h.push (itO b1 l1)).push (itO b2 l2)).push { cls := .type "tuple", data := .seq #[.ref h.objs.size, .ref (h.objs.size + 1)] }).push { cls := .type "tuple", data := .seq #[.none, .none] }).push { cls := .type "zip", data := .fields #[.none, .bool false, .bool false, .ref (h.objs.size + 2), .ref (h.objs.size + 3)] }
theorem iter_seqB {prog : Program} {w : World} {A : Around} {E : Value → Shared → Prop} {s : Shared} {b : Bool} {l : Addr} {its : Array Value} {Q : Value → Shared → Prop} (hl : SeqB b s.heap l its) (q : Q (.ref s.heap.objs.size) { s with heap := s.heap.push (itO b l) }) : wpAny (model prog w) A (pyIter (.ref l)) Q E s := by
  cases b
  · exact wpAny_pyIter_tuple hl q
  · exact wpAny_pyIter_list hl q
theorem SeqB.push {b : Bool} {h : Heap} {l : Addr} {its : Array Value} (x : SeqB b h l its) (o : Obj) : SeqB b (h.push o) l its := by
  cases b
  · obtain ⟨u, e, r⟩ := x; exact ⟨u, Heap.get?_push_of_some _ e, r⟩
  · obtain ⟨u, e, r⟩ := x; exact ⟨u, Heap.get?_push_of_some _ e, r⟩
theorem zip_newS (b1 b2 : Bool) (l1 l2 : Addr) (xs ys : Array Value) :
    Meets (Builtin.«zip.__new__» ⟨[.type "zip", .ref l1, .ref l2], []⟩) (fun _ R s => SeqB b1 s.heap l1 xs ∧ SeqB b2 s.heap l2 ys ∧ R (.ok (.ret (.ref (s.heap.objs.size + 4)))) { s with heap := zH b1 b2 s.heap l1 l2 }) :=
  .of_wp fun prog w A R s h => by
    obtain ⟨hp, g, d, tk, os⟩ := s; obtain ⟨hl1, hl2, h⟩ := h; have hsub := sub_zip
    have hL1 : SeqB b1 (Shared.heap ⟨hp, g, d, tk, os⟩) l1 xs := hl1
    have hL2 : SeqB b2 (Shared.heap ⟨hp.push (itO b1 l1), g, d, tk, os⟩) l2 ys := hl2.push _
    wp_walk using iter_seqB hL1, iter_seqB hL2
    refine ⟨_, rfl, ?_⟩
    simp only [Heap.size_push]
    exact h
theorem call_zipS {prog : Program} {w : World} {A : Around} {E : Value → Shared → Prop} {s : Shared} {b1 b2 : Bool} {l1 l2 : Addr} {xs ys : Array Value} {Q : Value → Shared → Prop} (hl1 : SeqB b1 s.heap l1 xs) (hl2 : SeqB b2 s.heap l2 ys)
    (q : ∀ hp, IsZip hp (s.heap.objs.size + 4) (s.heap.objs.size + 2) (s.heap.objs.size + 3) .none → IsPair hp (s.heap.objs.size + 2) (.ref s.heap.objs.size) (.ref (s.heap.objs.size + 1)) → IsPair hp (s.heap.objs.size + 3) .none .none → IterB b1 hp s.heap.objs.size l1 0 → IterB b2 hp (s.heap.objs.size + 1) l2 0 →
      (∀ c o, s.heap.get? c = some o → hp.get? c = some o) → Q (.ref (s.heap.objs.size + 4)) { s with heap := hp }) : wpAny (model prog w) A (call (.type "zip") [.ref l1, .ref l2]) Q E s := by
  refine callType_new F.called_zip (by decide) (F.typeCall_zip_2 _ _) (F.newCall_zip_2 _ _) (fun obj => F.args_object_init_3 obj _ _) F.entry_zip_new (zip_newS b1 b2 l1 l2 xs ys) ⟨hl1, hl2, ?_⟩
  generalize hn : s.heap.objs.size = n at q
  have z1 : (s.heap.push (itO b1 l1)).objs.size = n + 1 := by rw [Heap.size_push, hn]
  have z2 : ((s.heap.push (itO b1 l1)).push (itO b2 l2)).objs.size = n + 2 := by rw [Heap.size_push, z1]
  have z3 : (((s.heap.push (itO b1 l1)).push (itO b2 l2)).push { cls := .type "tuple", data := .seq #[.ref s.heap.objs.size, .ref (s.heap.objs.size + 1)] }).objs.size = n + 3 := by rw [Heap.size_push, z2]
  have z4 : ((((s.heap.push (itO b1 l1)).push (itO b2 l2)).push { cls := .type "tuple", data := .seq #[.ref s.heap.objs.size, .ref (s.heap.objs.size + 1)] }).push { cls := .type "tuple", data := .seq #[.none, .none] }).objs.size = n + 4 := by rw [Heap.size_push, z3]
  have itf : ∀ b l, (itO b l).isFreed = false := fun b l => by cases b <;> rfl
  have g5 : (zH b1 b2 s.heap l1 l2).get? (n + 4) = some { cls := .type "zip", data := .fields #[.none, .bool false, .bool false, .ref (s.heap.objs.size + 2), .ref (s.heap.objs.size + 3)] } := by rw [← z4]; exact Heap.get?_push_size _ rfl
  have g4 : (zH b1 b2 s.heap l1 l2).get? (n + 3) = some { cls := .type "tuple", data := .seq #[.none, .none] } := by rw [← z3]; exact Heap.get?_push_of_some _ (Heap.get?_push_size _ rfl)
  have g3 : (zH b1 b2 s.heap l1 l2).get? (n + 2) = some { cls := .type "tuple", data := .seq #[.ref s.heap.objs.size, .ref (s.heap.objs.size + 1)] } := by rw [← z2]; exact Heap.get?_push_of_some _ (Heap.get?_push_of_some _ (Heap.get?_push_size _ rfl))
  have g2 : (zH b1 b2 s.heap l1 l2).get? (n + 1) = some (itO b2 l2) := by rw [← z1]; exact Heap.get?_push_of_some _ (Heap.get?_push_of_some _ (Heap.get?_push_of_some _ (Heap.get?_push_size _ (itf _ _))))
  have g1 : (zH b1 b2 s.heap l1 l2).get? n = some (itO b1 l1) := by rw [← hn]; exact Heap.get?_push_of_some _ (Heap.get?_push_of_some _ (Heap.get?_push_of_some _ (Heap.get?_push_of_some _ (Heap.get?_push_size _ (itf _ _)))))
  rw [hn] at g5 g3
  have i1 : IterB b1 (zH b1 b2 s.heap l1 l2) n l1 0 := by
    cases b1
    · exact ⟨_, g1, rfl, rfl⟩
    · exact ⟨_, g1, rfl, rfl⟩
  have i2 : IterB b2 (zH b1 b2 s.heap l1 l2) (n + 1) l2 0 := by
    cases b2
    · exact ⟨_, g2, rfl, rfl⟩
    · exact ⟨_, g2, rfl, rfl⟩
  show _ ∧ _
  exact ⟨⟨_, g5, rfl⟩, q _ g5 g3 g4 i1 i2 fun c o x => Heap.get?_push_of_some _ (Heap.get?_push_of_some _ (Heap.get?_push_of_some _ (Heap.get?_push_of_some _ (Heap.get?_push_of_some _ x))))⟩
section
variable {X : Cx} {elts : List Expr} {ek : Nat} {epos : Pos}
noncomputable def iZipS (K : PySem.W.Frag) (ta : TA) : TI := fun σ H R => ta σ H fun vs H1 => ∃ b1 b2 a b xs ys, vs = [.ref a, .ref b] ∧ Sq b1 K H1 a xs ∧ Sq b2 K H1 b ys ∧ R (ItZS b1 b2 K a b) H1
theorem zApart_new {n l1 l2 : Addr} (h1 : l1 < n) (h2 : l2 < n) : ZApart (n + 4) (n + 2) (n + 3) n (n + 1) l1 l2 := by
  have m : ∀ c x y : Addr, c ≠ x → c ≠ y → c ∉ [x, y] := fun c x y a b h => by
    rcases List.mem_cons.mp h with h | h
    · exact a h
    · exact b (List.mem_singleton.mp h)
  have ne : ∀ n i j : Nat, i ≠ j → n + i ≠ n + j := fun n i j h e => h (Nat.add_left_cancel e)
  have nl : ∀ n l i : Nat, l < n → n + i ≠ l := fun n l i h e => by omega
  have nr : ∀ n l i : Nat, l < n → l ≠ n + i := fun n l i h e => by omega
  exact ⟨⟨ne n 2 4 (by decide), ne n 3 4 (by decide), ne n 0 4 (by decide), ne n 1 4 (by decide), ne n 2 3 (by decide), ne n 2 0 (by decide), ne n 2 1 (by decide), ne n 3 0 (by decide), ne n 3 1 (by decide), ne n 0 1 (by decide),
    m _ _ _ (ne n 4 0 (by decide)) (nl n l1 4 h1), m _ _ _ (ne n 4 1 (by decide)) (nl n l2 4 h2), m _ _ _ (ne n 3 0 (by decide)) (nl n l1 3 h1), m _ _ _ (ne n 3 1 (by decide)) (nl n l2 3 h2), m _ _ _ (ne n 1 0 (by decide)) (nl n l1 1 h1), m _ _ _ (ne n 0 1 (by decide)) (nl n l2 0 h2)⟩, nr n l1 0 h1, nr n l2 1 h2⟩
theorem pi_zipSK {K : PySem.W.Frag} {a b : Expr} {ta : TA} {p pos : Pos} (hg : Gl X "zip") (hs : starEach [a, b] X.env = [(false, eval a X.env), (false, eval b X.env)]) (hs2 : starEach [b] X.env = [(false, eval b X.env)]) (eK : X.K = K) (hm : X.mg "zip" = none) (ha : PA X [a, b] ta) :
    PI X (.Tuple elts ek epos) (.Call (.Name "zip" p) [a, b] [] pos) (iZipS K ta) := by
  subst eK
  intro pins s σ H R I h
  refine Call_ (ld_blt I hg hm boot_zip (PyProof.Rows.callWith_type1 (thn (ha pos pins s σ H _ I h) fun us s1 ⟨vs, H1, I1, r1, q1⟩ => ?_) (by rw [hs, hs2]) (by rw [hs2]; rfl)))
  obtain ⟨b1, b2, l, l', xs, ys, rfl, hl, hl', q⟩ := q1
  obtain ⟨u, v, rfl, ru, rv'⟩ := vals2 r1
  cases ru; cases rv'
  obtain ⟨its, rv, pl⟩ := I1.seqB hl
  obtain ⟨its', rv', pl'⟩ := I1.seqB hl'
  have lt : ∀ {b : Bool} {l : Addr} {its : Array Value}, SeqB b s1.heap l its → l < s1.heap.objs.size := fun {b l its} x => by
    cases b
    · obtain ⟨o, z, _⟩ := x; exact Heap.lt_size z
    · obtain ⟨o, z, _⟩ := x; exact Heap.lt_size z
  have hll := lt pl
  have hll' := lt pl'
  refine call_zipS pl pl' fun hp g1 g2 g3 g4 g5 hk => ?_
  have I2 : Inv X pins σ H1 { s1 with heap := hp } := I1.kept (t' := s1.toks) hk
  have nx : ∀ b, s1.heap.objs.size ≤ b → FpOk X pins H1 b := fun b hb => I1.fpOk hb (I1.hok.fresh hb)
  generalize s1.heap.objs.size = n at *
  refine wpAny_pyIter_zip g1 ⟨_, [n + 4, n + 2, n + 3, n, n + 1], _, _, H1, rfl, I2, turn_zipS (zApart_new hll hll'), ⟨g1, g2, ⟨_, _, g3⟩, g4, g5⟩, fun b hb => ?_, q⟩
  simp at hb
  rcases hb with rfl | rfl | rfl | rfl | rfl <;> exact nx _ (by first | exact Nat.le_add_right _ _ | exact Nat.le_refl _)
end
section
variable {K : PySem.W.Frag} {b1 b2 : Bool} {a b D : Addr} {xs zs : List V} {g : TG} {tt : TT} {te : TE} {σ0 : St} {H0 : Hp} {Q : VK}
theorem for_zipS {tb : TS} {DD : Ends} {σ : St} {H : Hp} (hlen : zs.length = xs.length) (Pv : Nat → St → Hp → Prop) (h0 : Pv 0 σ H) (hl : ∀ i σ H, Pv i σ H → Sq b1 K H a xs ∧ Sq b2 K H b zs)
    (hs : ∀ i x z σ H T G, xs[i]? = some x → zs[i]? = some z → i < xs.length → Pv i σ H → H T = none → Same H G → G T = some (.tup [x, z]) → g (.ref T) σ G fun σ2 H2 => tb { DD with nx := Pv (i + 1), ct := Pv (i + 1), bk := DD.nx } σ2 H2) (hd : ∀ σ H, Pv xs.length σ H → DD.nx σ H) :
    ∃ W : Nat → Nat → St → Hp → Prop, (∃ m, W 0 m σ H) ∧ ∀ i m σ H, W i m σ H →
      ((ItZS b1 b2 K a b).stop i H ∧ DD.nx σ H) ∨ ((ItZS b1 b2 K a b).go i H ∧ ∃ N : St → Hp → Prop, (∀ σ' H', N σ' H' → ∃ m', m' < m ∧ W (i + 1) m' σ' H') ∧ ∀ x H', (ItZS b1 b2 K a b).yld i H x H' → g x σ H' fun σ2 H2 => tb { DD with nx := N, ct := N, bk := DD.nx } σ2 H2) := by
  refine ⟨fun i m σ H => m = xs.length - i ∧ i ≤ xs.length ∧ Pv i σ H, ⟨xs.length, by simp, Nat.zero_le _, h0⟩, ?_⟩
  rintro i m σ H ⟨rfl, hi, p⟩
  obtain ⟨hq, hq'⟩ := hl i σ H p
  by_cases hlt : i < xs.length
  · refine .inr ⟨⟨xs, zs, xs[i], zs[i], hq, hq', by simp [hlt], by simp [hlt, hlen]⟩, Pv (i + 1), fun σ' H' p' => ⟨xs.length - (i + 1), by omega, rfl, hlt, p'⟩, fun x H' y => ?_⟩
    obtain ⟨T, u, v, rfl, hT, rfl, hu, hv⟩ := y
    exact hs i u v σ H T _ (hu xs hq) (hv zs hq') hlt p hT (Same.new hT) upd_same
  · have e : i = xs.length := by omega
    subst e
    exact .inl ⟨⟨xs, zs, hq, hq', by rw [hlen]; exact Nat.min_self _⟩, hd σ H p⟩
end
end L2

namespace L2
open PySem PySem.Spec PyProof.Rows
noncomputable def DrawsAt (H : Hp) (d : Addr) : Prop := ∃ ns : List Int, H d = some (.lst (ns.map V.int)) ∧ ns.length ≤ 240
noncomputable def spDraws (K : PySem.W.Frag) : Sp := fun vs H Q _ => ∃ (a : Addr) (ns : List Int), vs = [.ref a] ∧ SqL K H a (ns.map V.int) ∧ ns.length ≤ 63 ∧ ∀ (d : Addr) (H' : Hp), Same H H' → H d = none → DrawsAt H' d → Q (.ref d) H'
noncomputable def spTake : Sp := fun vs H Q _ => ∃ (d : Addr) (m : Int), vs = [.ref d, .int m] ∧ 0 < m ∧ DrawsAt H d ∧ ∀ (v : Int) (H' : Hp), 0 ≤ v → v < m → DrawsAt H' d → Kp d H H' → Q (.int v) H'
theorem DrawsAt.kl {H H' : Hp} {l : Addr} (h : DrawsAt H l) (k : Kp l H H') : KL H H' := by
  obtain ⟨ns, e, _⟩ := h
  exact k.kl e
theorem DrawsAt.same {H H' : Hp} {l : Addr} (h : DrawsAt H l) (k : Same H H') : DrawsAt H' l := by
  obtain ⟨ns, e, z⟩ := h
  exact ⟨ns, k _ _ e, z⟩
theorem DrawsAt.ne {H : Hp} {l p : Addr} (h : DrawsAt H l) (e : H p = none) : p ≠ l := by
  obtain ⟨ns, e', z⟩ := h
  rintro rfl
  rw [e] at e'; cases e'
theorem DrawsAt.neT {H : Hp} {l p : Addr} {us : List V} (h : DrawsAt H l) (e : H p = some (.tup us)) : p ≠ l := by
  obtain ⟨ns, e', z⟩ := h
  exact ne_of e e' (by intro z; cases z)
theorem Same.kpd {H H' : Hp} {l : Addr} (k : Same H H') : Kp l H H' := fun b o e _ => k b o e
noncomputable def spAreF (K : PySem.W.Frag) : Sp := fun vs H Q _ => ∃ (p : Addr) (us : List V) (As : List (Int × Int)) (n : Int), vs = [.ref p, .int n] ∧ H p = some (.tup us) ∧ FrL K H As us ∧ Pw.Canons As ∧ (∀ A ∈ As, Sz2 3000 A) ∧ n = (As.length : Nat) ∧ ∀ H', Same H H' → Q (.bl true) H'
theorem Kp.freeD {H H' : Hp} {p l : Addr} (k : Kp p H H') (h : DrawsAt H' p) (hl : H' l = none) : H l = none := by
  cases e : H l with
  | none => rfl
  | some o =>
    by_cases n : l = p
    · subst n; obtain ⟨ns, e', _⟩ := h; rw [hl] at e'; cases e'
    · rw [k _ _ e n] at hl; cases hl
end L2
namespace Pw
end Pw
namespace L2
open PySem PySem.Spec PyProof.Rows
theorem small16 {n : Nat} (h : n ≤ 10000) : n < sizeLine := Nat.lt_of_le_of_lt h (by decide)
theorem cut240 (ds : List Int) : ∃ es : List Int, cutV (ds.map V.int) none (some 240) = es.map V.int ∧ es.length ≤ 240 := by
  have e : HT.sIx (ds.map V.int).length (ds.map V.int).length (some 240) = min 240 (ds.map V.int).length := HT.sIx_nat _ _ 240
  refine ⟨ds.take (min 240 (ds.map V.int).length), ?_, by rw [List.length_take]; omega⟩
  unfold cutV
  rw [e, HT.sIx_none, List.drop_zero, Nat.sub_zero, List.map_take]
theorem while_in {c : TT} {tb : TS} {D : Ends} {σ : St} {H : Hp} (Pv : St → Hp → Prop) (μ : St → Hp → Nat) (h0 : Pv σ H)
    (hs : ∀ σ H, Pv σ H → c σ H fun b H1 => if b = true then ∃ N : St → Hp → Prop, (∀ σ' H', N σ' H' → ∃ m', m' < μ σ H ∧ m' = μ σ' H' ∧ Pv σ' H') ∧ tb { D with nx := N, ct := N, bk := D.nx } σ H1 else D.nx σ H1) : tWhile c tb D σ H :=
  ⟨fun m σ H => m = μ σ H ∧ Pv σ H, ⟨_, rfl, h0⟩, fun m σ H ⟨e, p⟩ => by subst e; exact hs σ H p⟩
theorem wN {Pv : St → Hp → Prop} {μ : St → Hp → Nat} {n : Nat} : ∀ σ' H', (Pv σ' H' ∧ μ σ' H' < n) → ∃ m', m' < n ∧ m' = μ σ' H' ∧ Pv σ' H' := fun _ _ ⟨p, l⟩ => ⟨_, l, rfl, p⟩
end L2

namespace L2
open PySem PySem.Spec PyProof.Rows
theorem wtest {K : PySem.W.Frag} {σ : St} {i j : Nat} {d : Addr} {m lim : Int} {G : Hp} {Q : Bool → Hp → Prop} (e1 : σ[i]? = some (some (.ref d))) (e2 : σ[j]? = some (some (.int m))) (hd : DrawsAt G d) (hl : 1 ≤ lim)
    (hT : m < lim → ∀ G1, Same G G1 → Q true G1) (hF : ∀ G1, Same G G1 → Q false G1) :
    tOr (tTest (tOp (rI0 fun i j => .bl (decide (i < j))) (tVar j) (tC (.int 1)))) (tAnd (tTest (tOp (rNil K true) (tVar i) (tLstS tNil))) (tTest (tOp (rI0 fun i j => .bl (decide (i < j))) (tVar j) (tC (.int lim))))) σ G Q := by
  refine ⟨_, e2, _, _, rfl, rfl, _, rfl, ?_⟩
  refine if2 (fun h => ?_) (fun h => ?_)
  · exact hT (by have : m < 1 := of_decide_eq_true h; omega) G (Same.refl _)
  obtain ⟨ns, e, z⟩ := hd
  refine ⟨_, e1, (by show 0 ≤ sizeLine; decide), fun p G1 s1 hp hp1 => ?_⟩
  refine ⟨d, p, _, rfl, rfl, .inr ⟨SqL.of (s1 _ _ e), SqL.of hp1⟩, _, rfl, ?_⟩
  refine if2 (fun h => ?_) (fun h => ?_)
  · refine ⟨_, e2, _, _, rfl, rfl, _, rfl, ?_⟩
    by_cases h3 : m < lim
    · rw [decide_eq_true h3]; exact hT h3 G1 s1
    · rw [decide_eq_false h3]; exact hF G1 s1
  · exact hF G1 s1
end L2
namespace Pw
end Pw
namespace L2
end L2
namespace Pw
end Pw

namespace Pw
section
variable {ps : List (Int × Int)} {A : Int × Int} {Bs : List (Int × Int)} {S : Int} {n : Nat}
end
end Pw
namespace L2
open PySem PySem.Spec PyProof.Rows
end L2
namespace L2
open PySem PySem.Spec PyProof.Rows
end L2

namespace L2
open PySem PySem.Spec PyProof.Rows
section
variable {prog : Program} {w : World} {A : Around} {E : Value → Shared → Prop} {s : Shared}
end
section
variable {X : Cx}
end
end L2

namespace Pw
section
variable (ps : List (Int × Int)) (A : Int × Int) (Bs : List (Int × Int)) (n : Nat)
end
section
variable {ps : List (Int × Int)} {A : Int × Int} {Bs : List (Int × Int)} {n : Nat}
end
end Pw
namespace L2
open PySem PySem.Spec PyProof.Rows
end L2

namespace Pw
end Pw
namespace L2
open PySem PySem.Spec PyProof.Rows
noncomputable def spLeapsD (K : PySem.W.Frag) : Sp := fun vs H Q _ => ∃ (d : Addr) (pages : Int), vs = [.ref d, .int pages] ∧ 1 ≤ pages ∧ pages ≤ 12 ∧ DrawsAt H d ∧
  ∀ (p : Addr) (H' : Hp) (ws : List Int) (us : List V), Wts pages ws → DrawsAt H' d → H' p = some (.tup us) → FrL K H' (lps ws) us → Kp d H H' → Q (.ref p) H'
end L2
namespace Pw
section
variable {ps : List (Int × Int)} {A : Int × Int} {Bs : List (Int × Int)} {n : Nat} {S : Int}
end
end Pw

open PySem PySem.Spec PyProof.Rows
namespace L2
section
variable {prog : Program} {w : World} {A : Around} {E : Value → Shared → Prop} {s : Shared}
end
theorem Inv.plainL {X : Cx} {pins : List (Addr × Obj)} {σ : St} {H : Hp} {s : Shared} {a : Addr} {xs : List V} (I : Inv X pins σ H s) (h : H a = some (.lst xs)) : ∃ its : List Value, Vals xs its ∧ s.heap.PlainList a its.toArray := by
  obtain ⟨_, its, n, r, e⟩ : xs.length ≤ sizeLine ∧ ∃ (its : List Value) (n : Nat), Vals xs its ∧ s.heap.get? a = some { cls := .type "list", data := .seq its.toArray n } := I.hok a _ h
  exact ⟨its, r, n, e⟩
section
variable {X : Cx} {tg : Expr}
end
end L2

namespace Pw
theorem fless_one {A : Int × Int} (c : Canon A) : fless (1, 1) A = (A.2 - A.1, A.2) := by
  have cc : Canon (A.2 - A.1, A.2) := ⟨c.1, by
    show Int.gcd (A.2 - A.1) A.2 = 1
    have h := c.2
    have h1 : Int.gcd (A.2 - A.1) A.2 ∣ Int.gcd A.1 A.2 := by
      refine Int.dvd_gcd ?_ (Int.gcd_dvd_right ..)
      have := Int.dvd_sub (Int.gcd_dvd_right (A.2 - A.1) A.2) (Int.gcd_dvd_left (A.2 - A.1) A.2)
      rwa [show A.2 - (A.2 - A.1) = A.1 by omega] at this
    rw [h] at h1
    exact Nat.dvd_one.mp h1⟩
  refine val_inj (canon_fless (by decide) (canon_ne c)) cc ?_
  rw [val_fless (by decide) (canon_ne c), val11]
  unfold val
  have := castne (canon_ne c)
  show (1 : Rat) - _ = ((A.2 - A.1 : Int) : Rat) / _
  rw [Rat.intCast_sub]
  grind
end Pw
namespace L2
open PySem PySem.Spec PyProof.Rows
end L2

namespace Pw
end Pw

open PySem PySem.Spec PyProof PyProof.Rows
namespace L2
section
variable {X : Cx}
theorem vals_toks : ∀ {ns : List Int} {its : List Value}, Vals (ns.map V.int) its → ∃ xs : Array (Int × Tok), its.toArray = intItems xs ∧ xs.toList.map (·.1) = ns
  | [], its, r => by cases r; exact ⟨#[], by simp [intItems], rfl⟩
  | n :: ns, its, r => by
    obtain ⟨v, vs, rfl⟩ : ∃ v vs, its = v :: vs := by cases r; exact ⟨_, _, rfl⟩
    have hr : RelV (.int n) v ∧ Vals (ns.map V.int) vs := by
      cases r with
      | cons rx rs => exact ⟨rx, rs⟩
    obtain ⟨⟨t, rfl⟩, rs⟩ := hr
    obtain ⟨xs, e1, e2⟩ := vals_toks rs
    refine ⟨((n, t) :: xs.toList).toArray, ?_, ?_⟩
    · have e3 : vs = xs.toList.map (fun p : Int × Tok => Value.int p.1 p.2) := by
        have := congrArg Array.toList e1
        simpa [intItems] using this
      simp [intItems, e3]
    · simp [e2]
noncomputable def rMaxL : List V → Hp → VK → Prop := fun vs H Q => ∃ (p : Addr) (ns : List Int), vs = [.ref p] ∧ H p = some (.lst (ns.map V.int)) ∧ ns ≠ [] ∧ ∀ m, m ∈ ns → (∀ x ∈ ns, x ≤ m) → Q (.int m) H
theorem call_maxL (hc : X.calm = true) : CallR X (.builtin "max") rMaxL := by
  intro pins s σ H xs us Q I r h
  obtain ⟨p, ns, rfl, hp, hn, q⟩ := h
  obtain ⟨u, rfl, ru⟩ := vals1 r
  cases ru
  obtain ⟨its, rv, pl⟩ := I.plainL hp
  obtain ⟨ys, e1, e2⟩ := vals_toks rv
  rw [e1] at pl
  have hsz : ys.size = ns.length := by rw [← e2, List.length_map, Array.length_toList]
  have h0 : 0 < ys.size := by
    rw [hsz]
    exact List.length_pos_iff.mpr hn
  refine max_intList (I.ok.hd hc) pl.isList h0 fun v h' tk hv hk => ?_
  obtain ⟨t, rfl⟩ := intItems_at hv
  refine ⟨.int (numAt ys (argBest (fun i j => decide (numAt ys i > numAt ys j)) (ys.size - 1))), H, I.kept hk, ⟨t, rfl⟩, q _ ?_ fun x hx => ?_⟩
  · have hlt := (Array.getElem?_eq_some_iff.mp hv).1
    generalize argBest (fun i j => decide (numAt ys i > numAt ys j)) (ys.size - 1) = k at *
    have hk2 : k < ys.size := by simpa [intItems] using hlt
    rw [← e2]
    unfold numAt
    rw [Array.getElem?_eq_getElem hk2]
    exact List.mem_map.mpr ⟨ys[k], Array.getElem_mem_toList hk2, rfl⟩
  · rw [← e2] at hx
    obtain ⟨y, hy, rfl⟩ := List.mem_map.mp hx
    obtain ⟨j, hj, ej⟩ := List.getElem_of_mem hy
    have hj2 : j < ys.size := by simpa using hj
    have e3 : numAt ys j = y.1 := by
      unfold numAt
      rw [Array.getElem?_eq_getElem hj2]
      show (ys[j]).1 = y.1
      rw [← ej, Array.getElem_toList]
    rw [← e3]
    exact (argBest_gt (numAt ys) (ys.size - 1)).2 j (by omega)
theorem slicePick_rev (its : List Value) : slicePick its.toArray none none (some (-1)) = its.reverse.toArray := by
  have hb : sliceBounds none none (some (-1)) its.toArray.size = (((its.toArray.size : Nat) : Int) - 1, -1, -1) := rfl
  unfold slicePick
  rw [hb]
  show ((sliceRange (((its.toArray.size : Nat) : Int) - 1) (-1) (-1)).filterMap (its.toArray[·]?)).toArray = _
  have hr : sliceRange (((its.toArray.size : Nat) : Int) - 1) (-1) (-1) = (List.range its.toArray.size).map fun (k : Nat) => (((its.toArray.size : Nat) : Int) - 1 + (k : Int) * -1).toNat := by
    unfold sliceRange
    have hc : (if (-1 : Int) > 0 then (if ((its.toArray.size : Nat) : Int) - 1 < -1 then (-1 - (((its.toArray.size : Nat) : Int) - 1) + -1 - 1) / -1 else 0) else (if ((its.toArray.size : Nat) : Int) - 1 > -1 then (((its.toArray.size : Nat) : Int) - 1 - -1 - -1 - 1) / (- -1) else 0)).toNat = its.toArray.size := by
      rw [if_neg (by decide)]
      split
      · rw [show (- -1 : Int) = 1 by decide, Int.ediv_one]; omega
      · omega
    simp only [hc]
    refine List.map_congr_left fun k _ => ?_
    rw [Int.mul_comm]
  rw [hr, List.filterMap_map]
  exact HT.pick_rev its
noncomputable def tRevL (te : TE) : TE := fun σ H Q => te σ H fun x H1 => ∃ a xs, x = .ref a ∧ H1 a = some (.lst xs) ∧ ∀ (p : Addr) (H' : Hp), Same H1 H' → H1 p = none → H' p = some (.lst xs.reverse) → Q (.ref p) H'
theorem pe_revL {e st : Expr} {te : TE} {pos p2 : Pos} (he : PE X e te) (hst : PE X st (tC (.int (-1)))) : PE X (.Subscript e (.Slice none none (some st) p2) pos) (tRevL te) := by
  intro pins s σ H Q I h
  refine Subscript_ (thn (he pins s σ H _ I h) fun v s1 ⟨x, H1, I1, r1, q1⟩ => ?_)
  refine wpAny_Slice ?_
  rw [evalPart_none]
  refine wpAny_pure ?_
  refine wpAny_pure ?_
  rw [evalPart_some]
  refine thn (hst pins s1 σ H1 (fun y H' => y = .int (-1) ∧ H1 = H') I1 ⟨rfl, rfl⟩) fun u s3 ⟨y, H3, I3, ry, e1, e2⟩ => ?_
  subst e1 e2
  obtain ⟨t, rfl⟩ := ry
  obtain ⟨a, xs, rfl, ha, q⟩ := q1
  cases r1
  have I4 : Inv X pins σ H1 { s3 with heap := s3.heap.push { cls := .type "slice", data := .fields #[.none, .none, .int (-1) t] } } := I3.kept (t' := s3.toks) fun b ob q => Heap.get?_push_of_some _ q
  obtain ⟨its, r, ht, hz⟩ := I4.list (SqL.of ha)
  have hlen := r.length
  show wpAny (model X.prog X.w) X.A (subscriptTail e (.Slice none none (some st) p2) (.ref a) (.ref s3.heap.objs.size)) (EP X pins σ Q) X.xe { s3 with heap := s3.heap.push { cls := .type "slice", data := .fields #[.none, .none, .int (-1) t] } }
  refine tail_any (ops := [.ref a, .ref s3.heap.objs.size]) ht.isList.typeIs slot_list_getitem.lookup ?_ (by with_unfolding_all rfl)
  refine wpAny_getItem_list_slice ht.isList (Heap.IsSliceOf.new ..) .none .none (.int _ _) (by simp) ?_ (by rw [List.size_toArray] <;> omega)
  rw [slicePick_rev]
  refine ⟨.ref _, _, I4.laid (t' := s3.toks) (o := .lst xs.reverse) (fun b ob q => Heap.get?_push_of_some _ q) (Nat.le_refl _) ?_, rfl, q _ _ (Same.new I4.fresh) I4.fresh upd_same⟩
  exact ⟨by rw [List.length_reverse]; exact hz, its.reverse, 0, r.reverse, Heap.get?_push_size _ rfl⟩
end
end L2

namespace Pw
noncomputable abbrev Mx := (Int × Int) × List (Int × Int)
noncomputable def mxd : Mx := ((0, 1), [])
noncomputable def mixQ (Ms : List Mx) (t : Nat) : Rat := qs Ms.length (fun i => val (Ms.getD i mxd).1 * val ((Ms.getD i mxd).2.getD t (0, 1)))
noncomputable def mixL (Ms : List Mx) (n : Nat) : List (Int × Int) := (List.range n).map fun t => ofQ (mixQ Ms t)
noncomputable def prodRow (Ms : List Mx) (t : Nat) : List (Int × Int) := Ms.map fun M => ftimes M.1 (M.2.getD t (0, 1))
theorem qs_front (f : Nat → Rat) (n : Nat) : qs (n + 1) f = f 0 + qs n (fun i => f (i + 1)) := by
  have h := qs_cut f 1 n
  rw [Nat.add_comm 1 n] at h
  rw [h]
  have h1 : qs 1 f = f 0 := by show qs 0 f + f 0 = f 0; show (0 : Rat) + f 0 = f 0; grind
  rw [h1]
  congr 1
  exact qs_congr fun i _ => by rw [Nat.add_comm]
theorem qs_rev (f : Nat → Rat) : ∀ n, qs n (fun i => f (n - 1 - i)) = qs n f
  | 0 => rfl
  | n + 1 => by
    rw [qs_front]
    show f (n + 1 - 1 - 0) + _ = qs n f + f n
    rw [← qs_rev f n]
    have : qs n (fun i => f (n + 1 - 1 - (i + 1))) = qs n (fun i => f (n - 1 - i)) := qs_congr fun i _ => by congr 1; omega
    rw [this]
    show f n + _ = _
    grind
theorem mixQ_rev (Ms : List Mx) (t : Nat) : mixQ Ms.reverse t = mixQ Ms t := by
  unfold mixQ
  rw [List.length_reverse, ← qs_rev (fun i => val (Ms.getD i mxd).1 * val ((Ms.getD i mxd).2.getD t (0, 1)))]
  refine qs_congr fun i hi => ?_
  have e : Ms.reverse.getD i mxd = Ms.getD (Ms.length - 1 - i) mxd := by
    rw [List.getD_eq_getElem?_getD, List.getD_eq_getElem?_getD, List.getElem?_reverse hi]
  rw [e]
theorem mixL_rev (Ms : List Mx) (n : Nat) : mixL Ms.reverse n = mixL Ms n := by
  unfold mixL
  exact List.map_congr_left fun t _ => by rw [mixQ_rev]
theorem mk_dvd2 {a b : Int} (hb : b ≠ 0) : (mk a b).2 ∣ b := by
  obtain ⟨⟨c1, g⟩, w⟩ := mk_spec (a := a) (b := b) hb
  have h : (mk a b).2 ∣ (mk a b).1 * b := ⟨a, by rw [w, Int.mul_comm]⟩
  have g' : Int.gcd (mk a b).2 (mk a b).1 = 1 := by rw [Int.gcd_comm]; exact g
  have h2 := Int.natAbs_dvd_natAbs.mpr h
  rw [Int.natAbs_mul] at h2
  exact Int.natAbs_dvd_natAbs.mp (Nat.Coprime.dvd_of_dvd_mul_left (show Nat.Coprime _ _ from g') h2)
structure F01 (A : Int × Int) : Prop where
  c : Canon A
  lo : 0 ≤ A.1
  hi : A.1 ≤ A.2
  sz : L2.Sz2 100 A
structure MixOk (Ms : List Mx) (n : Nat) (D : Int) : Prop where
  few : Ms.length ≤ 12
  pos : 0 < Ms.length
  n12 : n ≤ 12
  dpos : 0 < D
  dsz : L2.Sz 700 D
  part : ∀ M ∈ Ms, F01 M.1
  len : ∀ M ∈ Ms, M.2.length = n
  row : ∀ M ∈ Ms, ∀ B ∈ M.2, F01 B
  dvd : ∀ M ∈ Ms, ∀ B ∈ M.2, M.1.2 * B.2 ∣ D
theorem MixOk.rev {Ms : List Mx} {n : Nat} {D : Int} (h : MixOk Ms n D) : MixOk Ms.reverse n D :=
  ⟨by rw [List.length_reverse]; exact h.few, by rw [List.length_reverse]; exact h.pos, h.n12, h.dpos, h.dsz, fun M hM => h.part M (List.mem_reverse.mp hM), fun M hM => h.len M (List.mem_reverse.mp hM), fun M hM => h.row M (List.mem_reverse.mp hM), fun M hM => h.dvd M (List.mem_reverse.mp hM)⟩
theorem prodRow_len (Ms : List Mx) (t : Nat) : (prodRow Ms t).length = Ms.length := List.length_map ..
theorem MixOk.rw {Ms : List Mx} {n : Nat} {D : Int} (h : MixOk Ms n D) {t : Nat} (ht : t < n) : L2.Rw (prodRow Ms t) Ms.length D 1 := by
  have key : ∀ R ∈ prodRow Ms t, ∃ A B : Int × Int, R = ftimes A B ∧ F01 A ∧ F01 B ∧ A.2 * B.2 ∣ D := fun R hR => by
    obtain ⟨M, hM, rfl⟩ := List.mem_map.mp hR
    have hm := L2.mem_getD (Bs := M.2) (t := t) (by rw [h.len M hM]; exact ht)
    exact ⟨_, _, rfl, h.part M hM, h.row M hM _ hm, h.dvd M hM _ hm⟩
  refine ⟨prodRow_len .., fun R hR => ?_, h.dpos, by decide, fun R hR => ?_, fun R hR => ?_, by rw [Int.one_mul]; exact h.dsz.mono (by decide)⟩
  · obtain ⟨A, B, rfl, a, b, _⟩ := key R hR
    exact canon_ftimes (canon_ne a.c) (canon_ne b.c)
  · obtain ⟨A, B, rfl, a, b, d⟩ := key R hR
    exact Int.dvd_trans (mk_dvd2 (a := A.1 * B.1) (b := A.2 * B.2) (Int.mul_ne_zero (canon_ne a.c) (canon_ne b.c))) d
  · obtain ⟨A, B, rfl, a, b, d⟩ := key R hR
    have p2 : 0 < A.2 * B.2 := Int.mul_pos a.c.1 b.c.1
    have lo : 0 ≤ (ftimes A B).1 := mk_nonneg p2 (Int.mul_nonneg a.lo b.lo)
    have hi : (ftimes A B).1 ≤ (ftimes A B).2 := mk_le1 p2 (Int.mul_le_mul a.hi b.hi b.lo (Int.le_of_lt a.c.1))
    have := (canon_ftimes (canon_ne a.c) (canon_ne b.c)).1
    omega
theorem MixOk.sum {Ms : List Mx} {n : Nat} {D : Int} (h : MixOk Ms n D) {t : Nat} (ht : t < n) : qs Ms.length (fun i => val ((prodRow Ms t).getD i (0, 1))) = mixQ Ms t := by
  refine qs_congr fun i hi => ?_
  have e1 : (prodRow Ms t).getD i (0, 1) = ftimes (Ms.getD i mxd).1 ((Ms.getD i mxd).2.getD t (0, 1)) := by
    unfold prodRow
    rw [List.getD_eq_getElem?_getD, List.getD_eq_getElem?_getD, List.getElem?_map, List.getElem?_eq_getElem hi]
    rfl
  have hM : Ms.getD i mxd ∈ Ms := by
    rw [List.getD_eq_getElem?_getD, List.getElem?_eq_getElem hi]
    exact List.getElem_mem hi
  have hm := L2.mem_getD (Bs := (Ms.getD i mxd).2) (t := t) (by rw [h.len _ hM]; exact ht)
  rw [e1, val_ftimes (canon_ne (h.part _ hM).c) (canon_ne (h.row _ hM _ hm).c)]
end Pw
namespace L2
open PySem PySem.Spec PyProof.Rows
noncomputable def spTotS (K : PySem.W.Frag) : Sp := fun vs H Q _ => ∃ (b : Bool) (t : Addr) (us : List V) (As : List (Int × Int)) (n : Nat) (D C : Int), vs = [.ref t] ∧ Sq b K H t us ∧ FrL K H As us ∧ Rw As n D C ∧ n ≤ 13 ∧ ∀ (r : Addr) (H' : Hp), Same H H' → SqF K H' r (Pw.ofQ (Pw.qs n (fun t => Pw.val (As.getD t (0, 1))))) → (0 < n → FrA K H' r (Pw.ofQ (Pw.qs n (fun t => Pw.val (As.getD t (0, 1)))))) → Q (.ref r) H'
noncomputable def MixAt (K : PySem.W.Frag) (H : Hp) (L : Addr) (Ms : List Pw.Mx) (us : List V) : Prop := H L = some (.lst us) ∧ us.length = Ms.length ∧ ∀ (i : Nat) (M : Pw.Mx), Ms[i]? = some M → ∃ (q p l : Addr) (ws : List V), us[i]? = some (.ref q) ∧ H q = some (.tup [.ref p, .ref l]) ∧ FrA K H p M.1 ∧ H l = some (.tup ws) ∧ FrL K H M.2 ws
theorem MixAt.same {K : PySem.W.Frag} {H H' : Hp} {L : Addr} {Ms : List Pw.Mx} {us : List V} (h : MixAt K H L Ms us) (s : Same H H') : MixAt K H' L Ms us := ⟨s _ _ h.1, h.2.1, fun i M hM => by
  obtain ⟨q, p, l, ws, a, b, c, d, e⟩ := h.2.2 i M hM
  exact ⟨q, p, l, ws, a, s _ _ b, s _ _ c, s _ _ d, e.same s⟩⟩
noncomputable def spMixed (K : PySem.W.Frag) : Sp := fun vs H Q _ => ∃ (L : Addr) (Ms : List Pw.Mx) (us : List V) (n : Nat) (D : Int), vs = [.ref L] ∧ MixAt K H L Ms us ∧ Pw.MixOk Ms n D ∧ ∀ (t : Addr) (H' : Hp) (ys : List V), Same H H' → H' t = some (.tup ys) → FrL K H' (Pw.mixL Ms n) ys → Q (.ref t) H'
end L2

namespace L2
open PySem PySem.Spec PyProof.Rows
noncomputable def MixE (K : PySem.W.Frag) (H : Hp) (Ms : List Pw.Mx) (us : List V) : Prop := us.length = Ms.length ∧ ∀ (i : Nat) (M : Pw.Mx), Ms[i]? = some M → ∃ (q p l : Addr) (ws : List V), us[i]? = some (.ref q) ∧ H q = some (.tup [.ref p, .ref l]) ∧ FrA K H p M.1 ∧ H l = some (.tup ws) ∧ FrL K H M.2 ws
theorem MixE.kl {K : PySem.W.Frag} {H H' : Hp} {Ms : List Pw.Mx} {us : List V} (h : MixE K H Ms us) (s : KL H H') : MixE K H' Ms us := ⟨h.1, fun i M hM => by
  obtain ⟨q, p, l, ws, a, b, c, d, e⟩ := h.2 i M hM
  exact ⟨q, p, l, ws, a, s.tup b, s.tup c, s.tup d, e.kp s⟩⟩
theorem MixE.nil {K : PySem.W.Frag} {H : Hp} : MixE K H [] [] := ⟨rfl, fun i M hM => by simp at hM⟩
theorem MixE.snoc {K : PySem.W.Frag} {H : Hp} {Ms : List Pw.Mx} {us : List V} (h : MixE K H Ms us) {M : Pw.Mx} {q p l : Addr} {ws : List V} (b : H q = some (.tup [.ref p, .ref l])) (c : FrA K H p M.1) (d : H l = some (.tup ws)) (e : FrL K H M.2 ws) : MixE K H (Ms ++ [M]) (us ++ [.ref q]) := by
  refine ⟨by rw [List.length_append, List.length_append, h.1]; rfl, fun i M' hM => ?_⟩
  by_cases hi : i < Ms.length
  · rw [List.getElem?_append_left hi] at hM
    obtain ⟨q, p, l, ws, a, r⟩ := h.2 i M' hM
    exact ⟨q, p, l, ws, by rw [List.getElem?_append_left (by rw [h.1]; exact hi)]; exact a, r⟩
  · have hl := (List.getElem?_eq_some_iff.mp hM).1
    rw [List.length_append, List.length_singleton] at hl
    have ei : i = Ms.length := by omega
    subst ei
    rw [List.getElem?_append_right (Nat.le_refl _), Nat.sub_self] at hM
    cases hM
    refine ⟨q, p, l, ws, ?_, b, c, d, e⟩
    rw [← h.1, List.getElem?_append_right (Nat.le_refl _), Nat.sub_self]; rfl
theorem MixE.at {K : PySem.W.Frag} {H : Hp} {L : Addr} {Ms : List Pw.Mx} {us : List V} (h : MixE K H Ms us) (e : H L = some (.lst us)) : MixAt K H L Ms us := ⟨e, h⟩
theorem MixAt.e {K : PySem.W.Frag} {H : Hp} {L : Addr} {Ms : List Pw.Mx} {us : List V} (h : MixAt K H L Ms us) : MixE K H Ms us := h.2
theorem MixE.rev {K : PySem.W.Frag} {H : Hp} {Ms : List Pw.Mx} {us : List V} (h : MixE K H Ms us) : MixE K H Ms.reverse us.reverse := by
  refine ⟨by rw [List.length_reverse, List.length_reverse, h.1], fun i M hM => ?_⟩
  have hi : i < Ms.length := by have := (List.getElem?_eq_some_iff.mp hM).1; rwa [List.length_reverse] at this
  rw [List.getElem?_reverse hi] at hM
  obtain ⟨q, p, l, ws, a, r⟩ := h.2 _ M hM
  refine ⟨q, p, l, ws, ?_, r⟩
  rw [List.getElem?_reverse (by rw [h.1]; exact hi), h.1]; exact a
theorem lps_f01 {pages : Int} {ws : List Int} (h : Wts pages ws) (hp : pages ≤ 12) : ∀ B ∈ lps ws, Pw.F01 B := fun B hB => by
  refine ⟨lps_canon h B hB, lps_nn h B hB, ?_, (lps_sz h hp B hB).mono (by decide)⟩
  obtain ⟨w, hw, rfl⟩ := List.mem_map.mp hB
  exact Pw.mk_le1 h.pos (le_sum (fun n hn => (h.nn n hn).1) hw)
theorem lps_dvd {pages : Int} {ws : List Int} (h : Wts pages ws) : ∀ B ∈ lps ws, B.2 ∣ ws.sum := fun B hB => by
  obtain ⟨w, hw, rfl⟩ := List.mem_map.mp hB
  exact Pw.mk_dvd2 (by have := h.pos; omega)
structure Ptd (pages : Int) (ws : List Int) (Ms : List Pw.Mx) (P : Int) : Prop where
  len : Ms.length ≤ ws.length
  part : ∀ i, i < Ms.length → (Ms.getD i Pw.mxd).1 = (lps ws).getD i (0, 1)
  rows : ∀ M ∈ Ms, ∃ vs : List Int, Wts pages vs ∧ M.2 = lps vs ∧ vs.sum ∣ P
  pos : 0 < P
  sz : Sz (41 * Ms.length + 1) P
theorem Ptd.nil {pages : Int} {ws : List Int} : Ptd pages ws [] 1 := ⟨Nat.zero_le _, fun i hi => by simp at hi, fun M hM => by simp at hM, by decide, sz_of 1 (by decide)⟩
theorem Ptd.snoc {pages : Int} {ws vs : List Int} {Ms : List Pw.Mx} {P : Int} (h : Ptd pages ws Ms P) (hl : Ms.length < ws.length) (hp : pages ≤ 12) (wt : Wts pages vs) : Ptd pages ws (Ms ++ [((lps ws).getD Ms.length (0, 1), lps vs)]) (P * vs.sum) := by
  refine ⟨by rw [List.length_append, List.length_singleton]; omega, fun i hi => ?_, fun M hM => ?_, Int.mul_pos h.pos wt.pos, ?_⟩
  · rw [List.length_append, List.length_singleton] at hi
    by_cases e : i < Ms.length
    · rw [← h.part i e, List.getD_eq_getElem?_getD, List.getElem?_append_left e, List.getD_eq_getElem?_getD]
    · have : i = Ms.length := by omega
      subst this
      rw [List.getD_eq_getElem?_getD, List.getElem?_append_right (Nat.le_refl _), Nat.sub_self]; rfl
  · rcases List.mem_append.mp hM with hM | hM
    · obtain ⟨vs', a, b, c⟩ := h.rows M hM
      exact ⟨vs', a, b, Int.dvd_trans c (Int.dvd_mul_right ..)⟩
    · simp at hM
      subst hM
      exact ⟨vs, wt, rfl, Int.dvd_mul_left ..⟩
  · rw [List.length_append, List.length_singleton]
    exact (h.sz.mul (wt.sz hp)).mono (by omega)
theorem Ptd.ok {pages k : Int} {ws : List Int} {Ms : List Pw.Mx} {P : Int} (h : Ptd pages ws Ms P) (hk : Wts k ws) (k0 : 1 ≤ k) (k12 : k ≤ 12) (p0 : 1 ≤ pages) (p12 : pages ≤ 12) (hl : Ms.length = ws.length) : Pw.MixOk Ms pages.toNat (ws.sum * P) := by
  have hwl := hk.len
  have part : ∀ M ∈ Ms, M.1 ∈ lps ws := fun M hM => by
    obtain ⟨i, hi, rfl⟩ := List.getElem_of_mem hM
    have e := h.part i hi
    rw [List.getD_eq_getElem?_getD, List.getElem?_eq_getElem hi] at e
    show Ms[i].1 ∈ _
    have e : Ms[i].1 = (lps ws).getD i (0, 1) := e
    rw [e]
    exact mem_getD (by rw [lps_len]; omega)
  refine ⟨by omega, by omega, by omega, Int.mul_pos hk.pos h.pos, ((hk.sz k12).mul h.sz).mono (by omega), fun M hM => lps_f01 hk k12 _ (part M hM), fun M hM => ?_, fun M hM B hB => ?_, fun M hM B hB => ?_⟩
  · obtain ⟨vs, wt, e, _⟩ := h.rows M hM
    rw [e, lps_len]
    have := wt.len
    omega
  · obtain ⟨vs, wt, e, _⟩ := h.rows M hM
    rw [e] at hB
    exact lps_f01 wt p12 B hB
  · obtain ⟨vs, wt, e, d⟩ := h.rows M hM
    rw [e] at hB
    exact Int.mul_dvd_mul (lps_dvd hk _ (part M hM)) (Int.dvd_trans (lps_dvd wt _ hB) d)
theorem Ptd.one {pages k : Int} {ws : List Int} {Ms : List Pw.Mx} {P : Int} (h : Ptd pages ws Ms P) (hk : Wts k ws) (hl : Ms.length = ws.length) : Pw.qs pages.toNat (fun t => Pw.mixQ Ms t) = 1 := by
  unfold Pw.mixQ
  rw [Pw.qs_swap (fun t i => Pw.val (Ms.getD i Pw.mxd).1 * Pw.val ((Ms.getD i Pw.mxd).2.getD t (0, 1)))]
  have e : ∀ i, i < Ms.length → Pw.qs pages.toNat (fun t => Pw.val (Ms.getD i Pw.mxd).1 * Pw.val ((Ms.getD i Pw.mxd).2.getD t (0, 1))) = Pw.val ((lps ws).getD i (0, 1)) := fun i hi => by
    have hM : Ms.getD i Pw.mxd ∈ Ms := by
      rw [List.getD_eq_getElem?_getD, List.getElem?_eq_getElem hi]
      exact List.getElem_mem hi
    obtain ⟨vs, wt, e, _⟩ := h.rows _ hM
    rw [Pw.qs_mul, e, h.part i hi]
    have hv := wt.len
    rw [show pages.toNat = vs.length by omega, lps_sum wt]
    grind
  rw [Pw.qs_congr e, hl]
  exact lps_sum hk
noncomputable def spPartedM (K : PySem.W.Frag) : Sp := fun vs H Q _ => ∃ (d : Addr) (pages : Int), vs = [.ref d, .int pages] ∧ 1 ≤ pages ∧ pages ≤ 12 ∧ DrawsAt H d ∧
  ∀ (L : Addr) (H' : Hp) (Ms : List Pw.Mx) (us : List V) (D : Int), DrawsAt H' d → MixAt K H' L Ms us → Pw.MixOk Ms pages.toNat D → Pw.qs pages.toNat (fun t => Pw.mixQ Ms t) = 1 → L ≠ d → Kp d H H' → Q (.ref L) H'
end L2

namespace Pw
theorem mix2_q (p r : Int × Int) (Bs Os : List (Int × Int)) (t : Nat) : mixQ [(p, Bs), (r, Os)] t = val p * val (Bs.getD t (0, 1)) + val r * val (Os.getD t (0, 1)) := by
  show (0 : Rat) + val p * val (Bs.getD t (0, 1)) + val r * val (Os.getD t (0, 1)) = _
  grind
theorem mix2_ok {p r : Int × Int} {Bs Os : List (Int × Int)} {n : Nat} (n12 : n ≤ 12) (fp : F01 p) (fr : F01 r) (dp : p.2 ∣ 100) (dr : r.2 ∣ 100) (lB : Bs.length = n) (lO : Os.length = n) (fB : ∀ B ∈ Bs, F01 B) (zB : ∀ B ∈ Bs, B.2 ≤ 1000000000000000) (fO : ∀ O ∈ Os, F01 O ∧ O.2 = 1) : MixOk [(p, Bs), (r, Os)] n (100 * prodN n fun i => (Bs.getD i (0, 1)).2) := by
  have mB : ∀ i, i < n → Bs.getD i (0, 1) ∈ Bs := fun i hi => L2.mem_getD (by omega)
  have hz := prodN_sz (n := n) (f := fun i => (Bs.getD i (0, 1)).2) (k := 50) fun i hi => by
    have := zB _ (mB i hi)
    have := (fB _ (mB i hi)).c.1
    exact L2.sz_of 50 (by omega)
  have z100 : L2.Sz 7 (100 : Int) := L2.sz_of 7 (by decide)
  have pp := prodN_pos (n := n) (f := fun i => (Bs.getD i (0, 1)).2) fun i hi => (fB _ (mB i hi)).c.1
  refine ⟨(show 2 ≤ 12 by decide), (show 0 < 2 by decide), n12, Int.mul_pos (by decide) pp, (z100.mul hz).mono (by omega), fun M hM => ?_, fun M hM => ?_, fun M hM B hB => ?_, fun M hM B hB => ?_⟩
  · simp at hM
    rcases hM with rfl | rfl
    · exact fp
    · exact fr
  · simp at hM
    rcases hM with rfl | rfl
    · exact lB
    · exact lO
  · simp at hM
    rcases hM with rfl | rfl
    · exact fB B hB
    · exact (fO B hB).1
  · simp at hM
    rcases hM with rfl | rfl
    · obtain ⟨i, hi, rfl⟩ := List.getElem_of_mem hB
      have hi' : i < Bs.length := hi
      have e : Bs[i] = Bs.getD i (0, 1) := by rw [List.getD_eq_getElem?_getD, List.getElem?_eq_getElem hi']; rfl
      show p.2 * (Bs[i]).2 ∣ _
      rw [e]
      exact Int.mul_dvd_mul dp (prodN_dvd (f := fun i => (Bs.getD i (0, 1)).2) (by omega))
    · rw [(fO B hB).2, Int.mul_one]
      exact Int.dvd_trans dr (Int.dvd_mul_right ..)
theorem f01_rest {p : Int × Int} (h : F01 p) : F01 (p.2 - p.1, p.2) := by
  have e := fless_one h.c
  have c : Canon (p.2 - p.1, p.2) := e ▸ canon_fless (A := (1, 1)) (by decide) (canon_ne h.c)
  have hp := h.c.1
  have l := h.lo
  have l2 := h.hi
  refine ⟨c, by show 0 ≤ p.2 - p.1; omega, by show p.2 - p.1 ≤ p.2; omega, ?_, h.sz.2⟩
  exact L2.le_sz (by show 0 ≤ p.2 - p.1; omega) (show p.2 - p.1 ≤ p.2 by omega) h.sz.2
end Pw
namespace L2
open PySem PySem.Spec PyProof.Rows
noncomputable def spAgain (K : PySem.W.Frag) : Sp := fun vs H Q _ => ∃ (d l : Addr) (us : List V) (Bs : List (Int × Int)) (n : Nat), vs = [.ref d, .ref l] ∧ DrawsAt H d ∧ H l = some (.tup us) ∧ FrL K H Bs us ∧ Bs.length = n ∧ 1 ≤ n ∧ n ≤ 12 ∧ (∀ B ∈ Bs, Pw.Canon B ∧ 0 ≤ B.1 ∧ B.1 ≤ B.2) ∧ ∀ H', DrawsAt H' d → Kp d H H' → Q (.bl true) H'
noncomputable def mxD (M : Pw.Mx) : Dt := .tup [tupD M.1, .tup (M.2.map tupD)]
theorem MixE.cons {K : PySem.W.Frag} {H : Hp} {M : Pw.Mx} {Ms : List Pw.Mx} {us : List V} (h : MixE K H (M :: Ms) us) : ∃ (q p l : Addr) (ws vs : List V), us = .ref q :: vs ∧ H q = some (.tup [.ref p, .ref l]) ∧ FrA K H p M.1 ∧ H l = some (.tup ws) ∧ FrL K H M.2 ws ∧ MixE K H Ms vs := by
  obtain ⟨q, p, l, ws, a, b, c, d, e⟩ := h.2 0 M rfl
  cases us with
  | nil => cases a
  | cons u vs =>
    cases a
    exact ⟨q, p, l, ws, vs, rfl, b, c, d, e, by have := h.1; simpa using this, fun i M' hM => h.2 (i + 1) M' hM⟩
theorem MixE.dens {K : PySem.W.Frag} {H : Hp} : ∀ {Ms : List Pw.Mx} {us : List V}, MixE K H Ms us → Dens K H (Ms.map mxD) us
  | [], us, h => by
    simp only [List.map_nil, Dens]
    exact List.length_eq_zero_iff.mp h.1
  | M :: Ms, us, h => by
    obtain ⟨q, p, l, ws, vs, rfl, b, c, d, e, h'⟩ := h.cons
    simp only [List.map_cons, Dens]
    refine ⟨_, _, rfl, ?_, MixE.dens h'⟩
    unfold mxD
    simp only [Den]
    refine ⟨q, _, rfl, SqT.of b, ?_⟩
    simp only [Dens]
    refine ⟨_, _, rfl, ?_, _, _, rfl, ?_, rfl⟩
    · unfold tupD
      simp only [Den]
      exact ⟨p, _, rfl, SqT.of c, dens2 K H M.1.1 M.1.2⟩
    · simp only [Den]
      exact ⟨l, _, rfl, SqT.of d, e.dens⟩
theorem frdep3 : ∀ As : List (Int × Int), depDs (As.map tupD) ≤ 2
  | [] => by simp only [List.map_nil, depDs]; decide
  | A :: As => by
    have := frdep3 As
    simp only [List.map_cons, depDs, tupD, depD]
    omega
theorem MixE.dep : ∀ Ms : List Pw.Mx, depDs (Ms.map mxD) ≤ 20
  | [] => by simp only [List.map_nil, depDs]; decide
  | M :: Ms => by
    have := MixE.dep Ms
    have h := frdep3 M.2
    simp only [List.map_cons, depDs, mxD, depD, tupD]
    omega
theorem neMM {K : PySem.W.Frag} {H : Hp} {p q : Addr} {Ms : List Pw.Mx} {xs ys : List V} {Q : VK} (h1 : SqL K H p xs) (h2 : SqL K H q ys) (f1 : MixE K H Ms xs) (f2 : MixE K H Ms ys) (k : Q (.bl false) H) : rEqD K true (.ref p) (.ref q) H Q :=
  ⟨p, q, _, _, _, _, rfl, rfl, .inr ⟨h1, h2⟩, f1.dens, f2.dens, MixE.dep _, by rw [if_pos rfl, eqDs_refl]; exact k⟩
end L2

namespace Pw
theorem val_mul2 {A : Int × Int} (h : 0 < A.2) : val A * (A.2 : Rat) = (A.1 : Rat) := by
  unfold val
  have := cpos h
  have : (A.2 : Rat) ≠ 0 := by grind
  grind
theorem num_nn {A : Int × Int} (h : 0 < A.2) (v : 0 ≤ val A) : 0 ≤ A.1 := by
  have e := val_mul2 h
  have : (0 : Rat) ≤ val A * (A.2 : Rat) := Rat.mul_nonneg v (Rat.le_of_lt (cpos h))
  rw [e] at this
  exact_mod_cast this
theorem num_le {A : Int × Int} (h : 0 < A.2) (v : val A ≤ 1) : A.1 ≤ A.2 := by
  have e := val_mul2 h
  have : val A * (A.2 : Rat) ≤ 1 * (A.2 : Rat) := mul_le_r v (Rat.le_of_lt (cpos h))
  rw [e, Rat.one_mul] at this
  exact_mod_cast this
theorem MixOk.qnn {Ms : List Mx} {n : Nat} {D : Int} (h : MixOk Ms n D) {t : Nat} (ht : t < n) : 0 ≤ mixQ Ms t := by
  refine qs_nonneg fun i hi => ?_
  have hM : Ms.getD i mxd ∈ Ms := by
    rw [List.getD_eq_getElem?_getD, List.getElem?_eq_getElem hi]
    exact List.getElem_mem hi
  have hm := L2.mem_getD (Bs := (Ms.getD i mxd).2) (t := t) (by rw [h.len _ hM]; exact ht)
  have a := h.part _ hM
  have b := h.row _ hM _ hm
  exact Rat.mul_nonneg (val_nn a.c.1 a.lo) (val_nn b.c.1 b.lo)
theorem MixOk.q1 {Ms : List Mx} {n : Nat} {D : Int} (h : MixOk Ms n D) (one : qs n (fun t => mixQ Ms t) = 1) {t : Nat} (ht : t < n) : mixQ Ms t ≤ 1 := by
  rw [← one]
  exact qs_ge (f := fun t => mixQ Ms t) ht fun i hi => h.qnn hi
theorem MixOk.each {Ms : List Mx} {n : Nat} {D : Int} (h : MixOk Ms n D) (one : qs n (fun t => mixQ Ms t) = 1) : ∀ R ∈ mixL Ms n, Canon R ∧ 0 ≤ R.1 ∧ R.1 ≤ R.2 ∧ R.2 ∣ D ∧ L2.Sz2 2004 R := fun R hR => by
  obtain ⟨t, ht, rfl⟩ := List.mem_map.mp hR
  have ht := List.mem_range.mp ht
  have c := ofQ_canon (mixQ Ms t)
  have rw := h.rw ht
  refine ⟨c, num_nn c.1 (by rw [val_ofQ]; exact h.qnn ht), num_le c.1 (by rw [val_ofQ]; exact h.q1 one ht), ?_, ?_⟩
  · have hb := Bd.qs (n := Ms.length) (D := D) (C := ((1 : Int) : Rat)) (f := fun i => val ((prodRow Ms t).getD i (0, 1))) fun i hi => rw.bd (L2.mem_getD (by have := rw.len; omega))
    rw [h.sum ht] at hb
    obtain ⟨z, hz⟩ := hb.int
    have := den_dvd (by have := h.dpos; omega) hz
    exact this
  · have := L2.sum_szR rw (by have := h.few; omega) (j := Ms.length) (Nat.le_refl _)
    rw [h.sum ht] at this
    exact this
theorem MixOk.rwL {Ms : List Mx} {n : Nat} {D : Int} (h : MixOk Ms n D) (one : qs n (fun t => mixQ Ms t) = 1) : L2.Rw (mixL Ms n) n D 1 where
  len := by unfold mixL; rw [List.length_map, List.length_range]
  canon := fun R hR => (h.each one R hR).1
  dpos := h.dpos
  cpos := by decide
  dvd := fun R hR => (h.each one R hR).2.2.2.1
  bnd := fun R hR => by
    obtain ⟨c, lo, hi, _⟩ := h.each one R hR
    have := c.1
    omega
  sz := by rw [Int.one_mul]; exact h.dsz.mono (by decide)
theorem MixOk.tot {Ms : List Mx} {n : Nat} (one : qs n (fun t => mixQ Ms t) = 1) : ofQ (qs n (fun t => val ((mixL Ms n).getD t (0, 1)))) = (1, 1) := by
  have e : qs n (fun t => val ((mixL Ms n).getD t (0, 1))) = 1 := by
    rw [← one]
    refine qs_congr fun t ht => ?_
    unfold mixL
    rw [List.getD_eq_getElem?_getD, List.getElem?_map, List.getElem?_range ht]
    exact val_ofQ _
  rw [e, ← val11]
  exact ofQ_val ⟨by decide, by decide⟩
end Pw

set_option pp.maxSteps 800
namespace Lw
open PySem L2 PyProof.Rows
noncomputable def top (i : Nat) : Stmt := PySem.Challenge.pw_pagewalks_k38_mixed_leaps.main.body.getD i (.Pass ⟨0, 0, 0, 0⟩)
noncomputable abbrev sCommon : Stmt := top 2
noncomputable abbrev sMade : Stmt := top 3
noncomputable abbrev sPlus : Stmt := top 4
noncomputable abbrev sTimes : Stmt := top 5
noncomputable abbrev sTotal : Stmt := top 6
noncomputable abbrev s_mixed : Stmt := top 8
noncomputable abbrev s_law_draws : Stmt := top 10
noncomputable abbrev s_law_take : Stmt := top 11
noncomputable abbrev s_law_fraction : Stmt := top 12
noncomputable abbrev s_law_sum : Stmt := top 13
noncomputable abbrev s_law_rest : Stmt := top 14
noncomputable abbrev s_law_product : Stmt := top 15
noncomputable abbrev s_law_total : Stmt := top 17
noncomputable abbrev s_law_are_fractions : Stmt := top 18
noncomputable abbrev sLLeaps : Stmt := top 21
noncomputable abbrev s_law_parted : Stmt := top 25
noncomputable abbrev s_law_mixed_again : Stmt := top 26
noncomputable abbrev sLaw : Stmt := top 27
section
variable {P : Program} {w : World} {K : PySem.W.Frag} {mg : Str → Option Value} {base : Heap}
theorem scCommon : FnScope ["one", "other", "rest"] ["one", "other"] (defScope sCommon) := ⟨rfl, rfl, rfl, by decide +kernel, rfl, by decide +kernel, by decide +kernel⟩
theorem ok_common {f : Addr} {fd : FuncData} (F : Fun K "common" "common" sCommon f fd) : FnOk P w K mg base CX0 1 f fd ["one", "other"] spCommon := by
  refine F.ok scCommon (fun vs H Q E h => ?_) (fun cdv A outer s H vs Q E hr h => ?_)
  · obtain ⟨x, y, rfl, _⟩ := h
    rfl
  · obtain ⟨x, y, rfl, hx, hy, k⟩ := h
    refine ⟨_, pss_cons (ps_while PassesOwn.never (pt_cmpR op_ne (pv 1) pe_int (nomark _))
        (pss_cons (ps_set (i := 2) scCommon.nd rfl (Or.inl rfl) (pe_op op_mod (pv 0) (pv 1)))
        (pss_cons (ps_set (i := 0) scCommon.nd rfl (Or.inl rfl) (pv 1))
        (pss_one (ps_set (i := 1) scCommon.nd rfl (Or.inl rfl) (pv 2))))))
      (pss_one (ps_ret (pv 0))), ?_⟩
    refine while_by (fun σ H' => ∃ (a b : Int) (r : Option V), σ = [some (.int a), some (.int b), r] ∧ 0 ≤ a ∧ 0 ≤ b ∧ Int.gcd a b = Int.gcd x y ∧ H' = H)
      (fun σ _ => match σ with | [_, some (.int b), _] => b.toNat | _ => 0) ⟨x, y, none, rfl, hx, hy, rfl, rfl⟩ ?_ ?_
    · rintro σ H' ⟨a, b, r, rfl, ha, hb, hg, rfl⟩
      refine ⟨_, rfl, rfl, _, rfl, ?_⟩
      by_cases h0 : b = 0
      · refine ifF (veq h0) ?_
        subst h0
        refine ⟨_, rfl, ?_⟩
        have e : (a : Int) = (Int.gcd x y : Int) := by rw [← hg, Int.gcd_zero_right]; omega
        show Q (.int a) _
        rw [e]; exact k
      · refine ifT (vne h0) ?_
        have hb0 : 0 < b := by omega
        refine ⟨_, rfl, _, rfl, _, _, rfl, rfl, hb0, ?_⟩
        refine ⟨_, rfl, ?_⟩
        refine ⟨_, rfl, ?_⟩
        refine ⟨⟨b, a % b, _, rfl, hb, Int.emod_nonneg _ (by omega), ?_, rfl⟩, ?_⟩
        · rw [Pw.gcd_turn ha hb0, hg]
        · show (a % b).toNat < b.toNat
          have h1 := Int.emod_nonneg a (show b ≠ 0 by omega)
          have h2 := Int.emod_lt_of_pos a hb0
          omega
    · rintro σ H' q q' hq ⟨v, e, hs, kk, ek, z⟩
      exact ⟨v, e, hs, kk, ek, hq _ _ z⟩
theorem abs_nn (x : Int) : 0 ≤ (if x < 0 then -x else x) := by split <;> omega
theorem abs_gcd (x y : Int) : Int.gcd (if x < 0 then -x else x) (if y < 0 then -y else y) = Int.gcd x y := by
  split <;> split <;> simp [Int.neg_gcd, Int.gcd_neg]
theorem gcd_sz {n : Nat} {x y : Int} (h : Sz n y) (hy : y ≠ 0) : Sz n (Int.gcd x y : Int) := by
  show (Int.gcd x y : Int).natAbs < 2 ^ n
  have : Int.gcd x y ≤ y.natAbs := Nat.le_of_dvd (by omega) (Int.gcd_dvd_natAbs_right ..)
  have h' : y.natAbs < 2 ^ n := h
  omega
theorem scMade : FnScope ["above", "below", "divisor"] ["above", "below"] (defScope sMade) := ⟨rfl, rfl, rfl, by decide +kernel, rfl, by decide +kernel, by decide +kernel⟩
theorem ok_made {f fC : Addr} {fd fdC : FuncData} (F : Fun K "made" "made" sMade f fd) (zabs : mg "abs" = none) (FC : Fun K "common" "common" sCommon fC fdC) (mC : mg "common" = some (.ref fC)) (bC : Binds K fdC ["one", "other"] []) :
    FnOk P w K mg base CX0 2 f fd ["above", "below"] spMade := by
  have GC : FnOk P w K mg base CX0 1 fC fdC ["one", "other"] spCommon := ok_common FC
  refine F.ok scMade (fun vs H Q E h => ?_) (fun cdv A outer s H vs Q E hr h => ?_)
  · obtain ⟨x, y, rfl, _⟩ := h
    rfl
  · obtain ⟨x, y, rfl, hy, sx, sy, k⟩ := h
    refine ⟨_, pss_cons (ps_set (i := 2) scMade.nd rfl (Or.inl rfl) (pe_call GC hr rfl mC FC.kp bC .nil pass0 (pa_cons (pe_callB call_abs (by rfl) zabs boot_abs (pa_cons (pv 0) pa_nil)) (pa_cons (pe_callB call_abs (by rfl) zabs boot_abs (pa_cons (pv 1) pa_nil)) pa_nil))))
      (pss_cons (ps_if (pt_cmpR op_lt (pv 1) pe_int (nomark _)) (pss_one (ps_set (i := 2) scMade.nd rfl (Or.inl rfl) (pe_un un_neg (pv 2)))) pss_nil)
      (pss_one (ps_ret (pe_tup (pa_cons (pe_op op_fdivB (pv 0) (pv 2)) (pa_cons (pe_op op_fdivB (pv 1) (pv 2)) pa_nil)))))), ?_⟩
    refine ⟨_, rfl, x, rfl, _, rfl, y, rfl, _, _, rfl, abs_nn x, abs_nn y, ?_⟩
    rw [abs_gcd]
    have hg := Pw.gpos (a := x) hy
    have sg := (gcd_sz (x := x) sy hy).mono (show 8000 ≤ 9000 by decide)
    refine ⟨_, rfl, _, _, rfl, rfl, _, rfl, ?_⟩
    refine if2 (fun h => ?_) (fun h => ?_)
    · have h : y < 0 := of_decide_eq_true h
      refine ⟨_, rfl, _, rfl, ?_⟩
      refine ⟨_, rfl, _, rfl, _, _, rfl, rfl, ⟨by omega, sg.neg⟩, _, rfl, _, rfl, _, _, rfl, rfl, ⟨by omega, sg.neg⟩, (by show 2 ≤ sizeLine; decide), fun p hp => ?_⟩
      have := k p hp
      unfold Pw.mk at this
      rw [if_pos h] at this
      exact this
    · have h : ¬ y < 0 := of_decide_eq_false h
      refine ⟨_, rfl, _, rfl, _, _, rfl, rfl, ⟨by omega, sg⟩, _, rfl, _, rfl, _, _, rfl, rfl, ⟨by omega, sg⟩, (by show 2 ≤ sizeLine; decide), fun p hp => ?_⟩
      have := k p hp
      unfold Pw.mk at this
      rw [if_neg h] at this
      exact this
theorem d_made (S : Fnd K mg "made" sMade ["above", "below"]) (C : Fnd K mg "common" sCommon ["one", "other"]) (T : Txt mg) : Def P w K mg base 2 "made" ["above", "below"] spMadeS := by
  obtain ⟨fC, fdC, FC, mC, bC⟩ := C
  exact S.def fun f fd F => (ok_made F T.abs FC mC bC).imp fun vs H Q E ⟨x, y, e, h1, h2, h3, h4⟩ => ⟨x, y, e, h1, h2, h3, fun p hp => h4 p _ (Same.new hp) upd_same⟩
theorem sc_law_take : FnScope ["draws", "many"] ["draws", "many"] (defScope s_law_take) := ⟨rfl, rfl, rfl, by decide +kernel, rfl, by decide +kernel, by decide +kernel⟩
theorem d_law_take (S : Fnd K mg "_law_take" s_law_take ["draws", "many"]) (T : Txt mg)  : Def P w K mg base 1 "_law_take" ["draws", "many"] spTake := S.def fun f fd F => by
  have nd := sc_law_take.nd
  refine F.ok sc_law_take (fun vs H Q E h => ?_) (fun cdv A' outer s H vs Q E hr h => ?_)
  · obtain ⟨_, _, rfl, _⟩ := h
    rfl
  · obtain ⟨d, m, rfl, hm, ⟨ns, e, zl⟩, k⟩ := h
    refine ⟨_, (@pss_cons _ _ _ _ _ (@ps_if _ _ _ _ _ _ _ _ (pt_cmpR (op_eqNil hr) (pv 0) (@pe_lstS _ _ _ _ pa_nil) (nomark _))
        (@pss_one _ _ _ (@ps_ret _ _ _ _ pe_int))
        pss_nil)
      (@pss_one _ _ _ (@ps_ret _ _ _ _ (pe_op op_mod (pe_bm PySem.F.plainAttrs_list PySem.F.slot_list_pop PySem.F.type_list_pop mt_popAt (pv 0) (@pa_consX _ _ _ _ _ (by rfl) pe_int pa_nil)) (pv 1))))), ?_⟩
    refine ⟨_, rfl, (by show 0 ≤ sizeLine; decide), fun p G1 s1 hp e1 => ?_⟩
    refine ⟨d, p, _, rfl, rfl, .inr ⟨SqL.of (s1 _ _ e), SqL.of e1⟩, _, rfl, ?_⟩
    have hpd : p ≠ d := (ne_of_none e hp).symm
    cases ns with
    | nil =>
      refine ifT rfl ?_
      exact k 0 G1 (by omega) hm ⟨[], s1 _ _ e, Nat.zero_le _⟩ (Same.kpd s1)
    | cons n ns =>
      refine ifF rfl ?_
      refine ⟨_, rfl, .inl ⟨rfl, _, SqL.of (s1 _ _ e)⟩, d, _, 0, 0, .int n, rfl, rfl, s1 _ _ e, by decide, by decide, (by simp [seqIndex?]), rfl, _, rfl, _, _, rfl, rfl, hm, ?_⟩
      refine k _ _ (Int.emod_nonneg _ (by omega)) (Int.emod_lt_of_pos _ hm) ⟨ns, upd_same, by simp at zl; omega⟩ ?_
      exact (Same.kpd s1).trans Kp.set
theorem sc_law_fraction : FnScope ["above", "below", "one", "other"] ["above", "below"] (defScope s_law_fraction) := ⟨rfl, rfl, rfl, by decide +kernel, rfl, by decide +kernel, by decide +kernel⟩
theorem d_law_fraction (S : Fnd K mg "_law_fraction" s_law_fraction ["above", "below"]) (T : Txt mg)  : Def P w K mg base 1 "_law_fraction" ["above", "below"] spMadeS := S.def fun f fd F => by
  have nd := sc_law_fraction.nd
  refine F.ok sc_law_fraction (fun vs H Q E h => ?_) (fun cdv A' outer s H vs Q E hr h => ?_)
  · obtain ⟨_, _, rfl, _⟩ := h
    rfl
  · obtain ⟨x, y, rfl, hy, sx, sy, k⟩ := h
    refine ⟨_, (@pss_mid _ _ _ _ _ (@ps_if _ _ _ _ _ _ _ _ (pt_cmpR op_lt (pv 1) pe_int (nomark _))
        (@pss_cons _ _ _ _ _ (@ps_setX _ _ 0 _ _ _ _ (by rfl) (Or.inl rfl) nd rfl (Or.inl rfl) (pe_op op_sub pe_int (pv 0)))
      (@pss_one _ _ _ (@ps_setX _ _ 1 _ _ _ _ (by rfl) (Or.inl rfl) nd rfl (Or.inl rfl) (pe_op op_sub pe_int (pv 1)))))
        pss_nil)
      (@pss_cons _ _ _ _ _ (@ps_setX _ _ 2 _ _ _ _ (by rfl) (Or.inl rfl) nd rfl (Or.inl rfl) (pe_callB call_abs (by rfl) T.abs boot_abs (@pa_consX _ _ _ _ _ (by rfl) (pv 0) pa_nil)))
      (@pss_cons _ _ _ _ _ (@ps_setX _ _ 3 _ _ _ _ (by rfl) (Or.inl rfl) nd rfl (Or.inl rfl) (pv 1))
      (@pss_cons _ _ _ _ _ (ps_while PassesOwn.never (pt_cmpR op_gt (pv 3) pe_int (nomark _))
        (@pss_one _ _ _ (ps_par rfl nd (i := 2) (j := 3) rfl rfl (by decide) rfl rfl (@pa_consX _ _ _ _ _ (by rfl) (pv 3) (@pa_consX _ _ _ _ _ (by rfl) (pe_op op_mod (pv 2) (pv 3)) pa_nil)) (by rfl))))
      (@pss_one _ _ _ (@ps_ret _ _ _ _ (@pe_tupS _ _ _ _ _ (@pa_consX _ _ _ _ _ (by rfl) (pe_op op_fdivB (pv 0) (pv 2)) (@pa_consX _ _ _ _ _ (by rfl) (pe_op op_fdivB (pv 1) (pv 2)) pa_nil))))))))), ?_⟩
    refine ⟨fun σ G => G = H ∧ ∃ x' y' : Int, 0 < y' ∧ Sz 8000 x' ∧ Sz 8000 y' ∧ Pw.mk x' y' = Pw.mk x y ∧ σ = [some (.int x'), some (.int y'), none, none], ?_, ?_⟩
    · refine ⟨_, rfl, _, _, rfl, rfl, _, rfl, ?_⟩
      refine if2 (fun h => ?_) (fun h => ?_)
      · have h : y < 0 := of_decide_eq_true h
        refine ⟨_, rfl, _, _, rfl, rfl, ?_⟩
        refine ⟨_, rfl, _, _, rfl, rfl, ?_⟩
        refine ⟨rfl, 0 - x, 0 - y, by omega, ?_, ?_, ?_, rfl⟩
        · rw [Int.zero_sub]; exact sx.neg
        · rw [Int.zero_sub]; exact sy.neg
        · have := Pw.mk_mul (a := x) (b := y) (m := -1) hy (by decide)
          rw [show 0 - x = x * -1 by omega, show 0 - y = y * -1 by omega]
          exact this
      · have h : ¬ y < 0 := of_decide_eq_false h
        exact ⟨rfl, x, y, by omega, sx, sy, rfl, rfl⟩
    rintro σ G ⟨rfl, x', y', hy', sx', sy', e0, rfl⟩
    rw [← e0] at k
    refine ⟨_, rfl, x', rfl, ?_⟩
    refine ⟨_, rfl, ?_⟩
    have hyn : y' ≠ 0 := by omega
    refine while_by (fun σ H' => ∃ (a b : Int), σ = [some (.int x'), some (.int y'), some (.int a), some (.int b)] ∧ 0 ≤ a ∧ 0 ≤ b ∧ Int.gcd a b = Int.gcd x' y' ∧ H' = G)
      (fun σ _ => match σ with | [_, _, _, some (.int b)] => b.toNat | _ => 0) ⟨_, y', rfl, abs_nn x', by omega, ?_, rfl⟩ ?_ ?_
    · have := abs_gcd x' y'
      rw [if_neg (show ¬ y' < 0 by omega)] at this
      exact this
    · rintro σ H' ⟨a, b, rfl, ha, hb, hg, rfl⟩
      refine ⟨_, rfl, _, _, rfl, rfl, _, rfl, ?_⟩
      refine if2 (fun h => ?_) (fun h => ?_)
      · have hb0 : 0 < b := of_decide_eq_true h
        refine ⟨_, rfl, _, rfl, _, rfl, _, _, rfl, rfl, hb0, _, _, rfl, ?_⟩
        refine ⟨⟨b, a % b, rfl, hb, Int.emod_nonneg _ (by omega), ?_, rfl⟩, ?_⟩
        · rw [Pw.gcd_turn ha hb0, hg]
        · show (a % b).toNat < b.toNat
          have h1 := Int.emod_nonneg a (show b ≠ 0 by omega)
          have h2 := Int.emod_lt_of_pos a hb0
          omega
      · have h : ¬ 0 < b := of_decide_eq_false h
        have h0 : b = 0 := by omega
        subst h0
        have e : (a : Int) = (Int.gcd x' y' : Int) := by rw [← hg, Int.gcd_zero_right]; omega
        subst e
        have hgp := Pw.gpos (a := x') hyn
        have sg := (gcd_sz (x := x') sy' hyn).mono (show 8000 ≤ 9000 by decide)
        refine ⟨_, rfl, _, rfl, _, _, rfl, rfl, ⟨by omega, sg⟩, _, rfl, _, rfl, _, _, rfl, rfl, ⟨by omega, sg⟩, (by show 2 ≤ sizeLine; decide), fun p G2 s2 hp e2 => ?_⟩
        refine k p G2 s2 ?_
        unfold Pw.mk
        rw [if_neg (show ¬ y' < 0 by omega)]
        exact e2
    · rintro σ H' q q' hq ⟨v, e, i, j, e1, e2, kk, ek, z⟩
      exact ⟨v, e, i, j, e1, e2, kk, ek, hq _ _ z⟩
theorem scPlus : FnScope ["one", "other"] ["one", "other"] (defScope sPlus) := ⟨rfl, rfl, rfl, by decide +kernel, rfl, by decide +kernel, by decide +kernel⟩
theorem d_plus (S : Fnd K mg "plus" sPlus ["one", "other"]) (M : Def P w K mg base 2 "made" ["above", "below"] spMadeS) : Def P w K mg base 3 "plus" ["one", "other"] (spF2G K Pw.fplus) := S.def fun f fd F => by
  refine F.ok scPlus (fun vs H Q E h => ?_) (fun cdv A' outer s H vs Q E hr h => ?_)
  · obtain ⟨p, q, A, B, rfl, _⟩ := h
    rfl
  · obtain ⟨p, q, A, B, rfl, hA, hB, na, nb, sa, sb, k⟩ := h
    refine ⟨_, @pss_one _ _ _ (@ps_ret _ _ _ _ (pe_def (by rfl) (by rfl) (by rfl) (by decide) M hr (@pa_consX _ _ _ _ _ (by rfl) (pe_op op_add (pe_op op_mulB (pe_ix ix_tup (pv 0) pe_int (fun _ _ => rfl)) (pe_ix ix_tup (pv 1) pe_int (fun _ _ => rfl))) (pe_op op_mulB (pe_ix ix_tup (pv 1) pe_int (fun _ _ => rfl)) (pe_ix ix_tup (pv 0) pe_int (fun _ _ => rfl)))) (@pa_consX _ _ _ _ _ (by rfl) (pe_op op_mulB (pe_ix ix_tup (pv 0) pe_int (fun _ _ => rfl)) (pe_ix ix_tup (pv 1) pe_int (fun _ _ => rfl))) pa_nil)))), ?_⟩
    refine ⟨_, rfl, p, _, _, _, rfl, rfl, hA, rfl, _, rfl, q, _, _, _, rfl, rfl, hB, rfl, _, _, rfl, rfl, ⟨sa.1.mono (by decide), sb.2.mono (by decide)⟩, _, rfl, q, _, _, _, rfl, rfl, hB, rfl, _, rfl, p, _, _, _, rfl, rfl, hA, rfl, _, _, rfl, rfl, ⟨sb.1.mono (by decide), sa.2.mono (by decide)⟩, _, _, rfl, rfl, _, rfl, p, _, _, _, rfl, rfl, hA, rfl, _, rfl, q, _, _, _, rfl, rfl, hB, rfl, _, _, rfl, rfl, ⟨sa.2.mono (by decide), sb.2.mono (by decide)⟩, _, _, rfl, Int.mul_ne_zero (by omega) (by omega), ((sa.1.mul sb.2).add (sb.1.mul sa.2)).mono (by decide), (sa.2.mul sb.2).mono (by decide), fun r H1 s1 f1 => ?_⟩
    exact k r _ s1 f1
theorem scTimes : FnScope ["one", "other"] ["one", "other"] (defScope sTimes) := ⟨rfl, rfl, rfl, by decide +kernel, rfl, by decide +kernel, by decide +kernel⟩
theorem d_times (S : Fnd K mg "times" sTimes ["one", "other"]) (M : Def P w K mg base 2 "made" ["above", "below"] spMadeS) : Def P w K mg base 3 "times" ["one", "other"] (spF2G K Pw.ftimes) := S.def fun f fd F => by
  refine F.ok scTimes (fun vs H Q E h => ?_) (fun cdv A' outer s H vs Q E hr h => ?_)
  · obtain ⟨p, q, A, B, rfl, _⟩ := h
    rfl
  · obtain ⟨p, q, A, B, rfl, hA, hB, na, nb, sa, sb, k⟩ := h
    refine ⟨_, @pss_one _ _ _ (@ps_ret _ _ _ _ (pe_def (by rfl) (by rfl) (by rfl) (by decide) M hr (@pa_consX _ _ _ _ _ (by rfl) (pe_op op_mulB (pe_ix ix_tup (pv 0) pe_int (fun _ _ => rfl)) (pe_ix ix_tup (pv 1) pe_int (fun _ _ => rfl))) (@pa_consX _ _ _ _ _ (by rfl) (pe_op op_mulB (pe_ix ix_tup (pv 0) pe_int (fun _ _ => rfl)) (pe_ix ix_tup (pv 1) pe_int (fun _ _ => rfl))) pa_nil)))), ?_⟩
    refine ⟨_, rfl, p, _, _, _, rfl, rfl, hA, rfl, _, rfl, q, _, _, _, rfl, rfl, hB, rfl, _, _, rfl, rfl, ⟨sa.1.mono (by decide), sb.1.mono (by decide)⟩, _, rfl, p, _, _, _, rfl, rfl, hA, rfl, _, rfl, q, _, _, _, rfl, rfl, hB, rfl, _, _, rfl, rfl, ⟨sa.2.mono (by decide), sb.2.mono (by decide)⟩, _, _, rfl, Int.mul_ne_zero (by omega) (by omega), (sa.1.mul sb.1).mono (by decide), (sa.2.mul sb.2).mono (by decide), fun r H1 s1 f1 => ?_⟩
    exact k r _ s1 f1
theorem sc_law_sum : FnScope ["one", "other"] ["one", "other"] (defScope s_law_sum) := ⟨rfl, rfl, rfl, by decide +kernel, rfl, by decide +kernel, by decide +kernel⟩
theorem d_law_sum (S : Fnd K mg "_law_sum" s_law_sum ["one", "other"]) (M : Def P w K mg base 1 "_law_fraction" ["above", "below"] spMadeS) : Def P w K mg base 2 "_law_sum" ["one", "other"] (spF2G K Pw.fplus) := S.def fun f fd F => by
  refine F.ok sc_law_sum (fun vs H Q E h => ?_) (fun cdv A' outer s H vs Q E hr h => ?_)
  · obtain ⟨p, q, A, B, rfl, _⟩ := h
    rfl
  · obtain ⟨p, q, A, B, rfl, hA, hB, na, nb, sa, sb, k⟩ := h
    refine ⟨_, @pss_one _ _ _ (@ps_ret _ _ _ _ (pe_def (by rfl) (by rfl) (by rfl) (by decide) M hr (@pa_consX _ _ _ _ _ (by rfl) (pe_op op_add (pe_op op_mulB (pe_ix ix_tup (pv 0) pe_int (fun _ _ => rfl)) (pe_ix ix_tup (pv 1) pe_int (fun _ _ => rfl))) (pe_op op_mulB (pe_ix ix_tup (pv 1) pe_int (fun _ _ => rfl)) (pe_ix ix_tup (pv 0) pe_int (fun _ _ => rfl)))) (@pa_consX _ _ _ _ _ (by rfl) (pe_op op_mulB (pe_ix ix_tup (pv 0) pe_int (fun _ _ => rfl)) (pe_ix ix_tup (pv 1) pe_int (fun _ _ => rfl))) pa_nil)))), ?_⟩
    refine ⟨_, rfl, p, _, _, _, rfl, rfl, hA, rfl, _, rfl, q, _, _, _, rfl, rfl, hB, rfl, _, _, rfl, rfl, ⟨sa.1.mono (by decide), sb.2.mono (by decide)⟩, _, rfl, q, _, _, _, rfl, rfl, hB, rfl, _, rfl, p, _, _, _, rfl, rfl, hA, rfl, _, _, rfl, rfl, ⟨sb.1.mono (by decide), sa.2.mono (by decide)⟩, _, _, rfl, rfl, _, rfl, p, _, _, _, rfl, rfl, hA, rfl, _, rfl, q, _, _, _, rfl, rfl, hB, rfl, _, _, rfl, rfl, ⟨sa.2.mono (by decide), sb.2.mono (by decide)⟩, _, _, rfl, Int.mul_ne_zero (by omega) (by omega), ((sa.1.mul sb.2).add (sb.1.mul sa.2)).mono (by decide), (sa.2.mul sb.2).mono (by decide), fun r H1 s1 f1 => ?_⟩
    exact k r _ s1 f1
theorem sc_law_rest : FnScope ["one", "other"] ["one", "other"] (defScope s_law_rest) := ⟨rfl, rfl, rfl, by decide +kernel, rfl, by decide +kernel, by decide +kernel⟩
theorem d_law_rest (S : Fnd K mg "_law_rest" s_law_rest ["one", "other"]) (M : Def P w K mg base 1 "_law_fraction" ["above", "below"] spMadeS) : Def P w K mg base 2 "_law_rest" ["one", "other"] (spF2G K Pw.fless) := S.def fun f fd F => by
  refine F.ok sc_law_rest (fun vs H Q E h => ?_) (fun cdv A' outer s H vs Q E hr h => ?_)
  · obtain ⟨p, q, A, B, rfl, _⟩ := h
    rfl
  · obtain ⟨p, q, A, B, rfl, hA, hB, na, nb, sa, sb, k⟩ := h
    refine ⟨_, @pss_one _ _ _ (@ps_ret _ _ _ _ (pe_def (by rfl) (by rfl) (by rfl) (by decide) M hr (@pa_consX _ _ _ _ _ (by rfl) (pe_op op_sub (pe_op op_mulB (pe_ix ix_tup (pv 0) pe_int (fun _ _ => rfl)) (pe_ix ix_tup (pv 1) pe_int (fun _ _ => rfl))) (pe_op op_mulB (pe_ix ix_tup (pv 1) pe_int (fun _ _ => rfl)) (pe_ix ix_tup (pv 0) pe_int (fun _ _ => rfl)))) (@pa_consX _ _ _ _ _ (by rfl) (pe_op op_mulB (pe_ix ix_tup (pv 0) pe_int (fun _ _ => rfl)) (pe_ix ix_tup (pv 1) pe_int (fun _ _ => rfl))) pa_nil)))), ?_⟩
    refine ⟨_, rfl, p, _, _, _, rfl, rfl, hA, rfl, _, rfl, q, _, _, _, rfl, rfl, hB, rfl, _, _, rfl, rfl, ⟨sa.1.mono (by decide), sb.2.mono (by decide)⟩, _, rfl, q, _, _, _, rfl, rfl, hB, rfl, _, rfl, p, _, _, _, rfl, rfl, hA, rfl, _, _, rfl, rfl, ⟨sb.1.mono (by decide), sa.2.mono (by decide)⟩, _, _, rfl, rfl, _, rfl, p, _, _, _, rfl, rfl, hA, rfl, _, rfl, q, _, _, _, rfl, rfl, hB, rfl, _, _, rfl, rfl, ⟨sa.2.mono (by decide), sb.2.mono (by decide)⟩, _, _, rfl, Int.mul_ne_zero (by omega) (by omega), ((sa.1.mul sb.2).sub (sb.1.mul sa.2)).mono (by decide), (sa.2.mul sb.2).mono (by decide), fun r H1 s1 f1 => ?_⟩
    exact k r _ s1 f1
theorem sc_law_product : FnScope ["one", "other"] ["one", "other"] (defScope s_law_product) := ⟨rfl, rfl, rfl, by decide +kernel, rfl, by decide +kernel, by decide +kernel⟩
theorem d_law_product (S : Fnd K mg "_law_product" s_law_product ["one", "other"]) (M : Def P w K mg base 1 "_law_fraction" ["above", "below"] spMadeS) : Def P w K mg base 2 "_law_product" ["one", "other"] (spF2G K Pw.ftimes) := S.def fun f fd F => by
  refine F.ok sc_law_product (fun vs H Q E h => ?_) (fun cdv A' outer s H vs Q E hr h => ?_)
  · obtain ⟨p, q, A, B, rfl, _⟩ := h
    rfl
  · obtain ⟨p, q, A, B, rfl, hA, hB, na, nb, sa, sb, k⟩ := h
    refine ⟨_, @pss_one _ _ _ (@ps_ret _ _ _ _ (pe_def (by rfl) (by rfl) (by rfl) (by decide) M hr (@pa_consX _ _ _ _ _ (by rfl) (pe_op op_mulB (pe_ix ix_tup (pv 0) pe_int (fun _ _ => rfl)) (pe_ix ix_tup (pv 1) pe_int (fun _ _ => rfl))) (@pa_consX _ _ _ _ _ (by rfl) (pe_op op_mulB (pe_ix ix_tup (pv 0) pe_int (fun _ _ => rfl)) (pe_ix ix_tup (pv 1) pe_int (fun _ _ => rfl))) pa_nil)))), ?_⟩
    refine ⟨_, rfl, p, _, _, _, rfl, rfl, hA, rfl, _, rfl, q, _, _, _, rfl, rfl, hB, rfl, _, _, rfl, rfl, ⟨sa.1.mono (by decide), sb.1.mono (by decide)⟩, _, rfl, p, _, _, _, rfl, rfl, hA, rfl, _, rfl, q, _, _, _, rfl, rfl, hB, rfl, _, _, rfl, rfl, ⟨sa.2.mono (by decide), sb.2.mono (by decide)⟩, _, _, rfl, Int.mul_ne_zero (by omega) (by omega), (sa.1.mul sb.1).mono (by decide), (sa.2.mul sb.2).mono (by decide), fun r H1 s1 f1 => ?_⟩
    exact k r _ s1 f1
end
end Lw

set_option pp.maxSteps 800
namespace Lw
open PySem L2 PyProof.Rows
section
variable {P : Program} {w : World} {K : PySem.W.Frag} {mg : Str → Option Value} {base : Heap}
theorem scTotal : FnScope ["some", "whole", "each"] ["some"] (defScope sTotal) := ⟨rfl, rfl, rfl, by decide +kernel, rfl, by decide +kernel, by decide +kernel⟩
set_option maxHeartbeats 0 in
theorem d_total (S : Fnd K mg "total" sTotal ["some"]) (T : Txt mg) {zZ : Addr} (mZ : mg "ZERO" = some (.ref zZ)) (hZ : ∀ H, SqF K H zZ (0, 1)) (Pl : Def P w K mg base 3 "plus" ["one", "other"] (spF2G K Pw.fplus)) : Def P w K mg base 4 "total" ["some"] (spTotS K) := S.def fun f fd F => by
  have nd := scTotal.nd
  refine F.ok scTotal (fun vs H Q E h => ?_) (fun cdv A' outer s H vs Q E hr h => ?_)
  · obtain ⟨_, _, _, _, _, _, _, rfl, _⟩ := h
    rfl
  · obtain ⟨b, t, us, As, n, DD, CC, rfl, ht, fl, rw, n13, k⟩ := h
    refine ⟨_, (@pss_cons _ _ _ _ _ (@ps_setX _ _ 1 _ _ _ _ (by rfl) (Or.inl rfl) nd rfl (Or.inl rfl) (pe_glob (v := .ref zZ) (by rfl) mZ rfl))
      (@pss_cons _ _ _ _ _ (@ps_forX _ _ _ _ _ _ _ _ (fun _ => rfl) PassesOwn.never rfl (pi_seq (pv 0)) (pg_name (i := 2) nd rfl (Or.inl rfl))
        (@pss_one _ _ _ (@ps_setX _ _ 1 _ _ _ _ (by rfl) (Or.inl rfl) nd rfl (Or.inl rfl) (pe_def (by rfl) (by rfl) (by rfl) (by decide) Pl (hr.mono (by decide)) (@pa_consX _ _ _ _ _ (by rfl) (pv 1) (@pa_consX _ _ _ _ _ (by rfl) (pv 2) pa_nil))))))
      (@pss_one _ _ _ (@ps_ret _ _ _ _ (pv 1))))), ?_⟩
    have hl := fl.len
    have hn := rw.len
    refine ⟨_, rfl, b, t, rfl, ⟨us, ht⟩, ?_⟩
    refine for_seq (b := b) (K := K) (a := t) (xs := us) (fun m σ G => Same H G ∧ ∃ (q : Addr) (v : Option V), SqF K G q (Pw.ofQ (Pw.qs m (fun t => Pw.val (As.getD t (0, 1))))) ∧ (0 < m → FrA K G q (Pw.ofQ (Pw.qs m (fun t => Pw.val (As.getD t (0, 1)))))) ∧ σ = [some (.ref t), some (.ref q), v]) ⟨Same.refl _, zZ, none, hZ _, fun z => absurd z (Nat.lt_irrefl _), rfl⟩ (fun m σ G _ h => ht.same h.1) ?_ ?_
    · rintro m v σ G hm ⟨sG, q, v', fq, _, rfl⟩
      have hml : m < us.length := (List.getElem?_eq_some_iff.mp hm).1
      have hmS : m < As.length := by omega
      obtain ⟨q', eq', fq'⟩ := (fl.same sG).at (j := m) (A := As[m]) (by simp [hmS])
      rw [hm] at eq'
      cases eq'
      have mS := List.getElem_mem hmS
      have cS := rw.canon _ mS
      have cQ := Pw.ofQ_canon (Pw.qs m (fun t => Pw.val (As.getD t (0, 1))))
      refine ⟨_, rfl, _, rfl, q, q', _, _, rfl, fq, SqF.of fq', cQ.1, cS.1, (sum_szR rw n13 (j := m) (by omega)).mono (by decide), (rw.sz2 mS).mono (by decide), fun r G3 s4 f4 => ?_⟩
      rw [Pw.fplus_ofQ (Pw.canon_ne cQ) (Pw.canon_ne cS), Pw.val_ofQ] at f4
      have e : As[m] = As.getD m (0, 1) := by rw [List.getD_eq_getElem?_getD, List.getElem?_eq_getElem hmS]; rfl
      rw [e] at f4
      exact ⟨sG.trans s4, r, _, SqF.of f4, fun _ => f4, rfl⟩
    · rintro σ G ⟨sG, q, v, fq, gq, rfl⟩
      rw [show us.length = n by omega] at fq gq
      exact ⟨_, rfl, k q G sG fq gq⟩
theorem sc_law_total : FnScope ["row", "total_v", "part"] ["row"] (defScope s_law_total) := ⟨rfl, rfl, rfl, by decide +kernel, rfl, by decide +kernel, by decide +kernel⟩
set_option maxHeartbeats 0 in
theorem d_law_total (S : Fnd K mg "_law_total" s_law_total ["row"]) (T : Txt mg) (Lu : Def P w K mg base 2 "_law_sum" ["one", "other"] (spF2G K Pw.fplus)) : Def P w K mg base 3 "_law_total" ["row"] (spTotS K) := S.def fun f fd F => by
  have nd := sc_law_total.nd
  refine F.ok sc_law_total (fun vs H Q E h => ?_) (fun cdv A' outer s H vs Q E hr h => ?_)
  · obtain ⟨_, _, _, _, _, _, _, rfl, _⟩ := h
    rfl
  · obtain ⟨b, t, us, As, n, DD, CC, rfl, ht, fl, rw, n13, k⟩ := h
    refine ⟨_, (@pss_cons _ _ _ _ _ (@ps_setX _ _ 1 _ _ _ _ (by rfl) (Or.inl rfl) nd rfl (Or.inl rfl) (@pe_tupS _ _ _ _ _ (@pa_consX _ _ _ _ _ (by rfl) pe_int (@pa_consX _ _ _ _ _ (by rfl) pe_int pa_nil))))
      (@pss_cons _ _ _ _ _ (@ps_forX _ _ _ _ _ _ _ _ (fun _ => rfl) PassesOwn.never rfl (pi_seq (pv 0)) (pg_name (i := 2) nd rfl (Or.inl rfl))
        (@pss_one _ _ _ (@ps_setX _ _ 1 _ _ _ _ (by rfl) (Or.inl rfl) nd rfl (Or.inl rfl) (pe_def (by rfl) (by rfl) (by rfl) (by decide) Lu (hr.mono (by decide)) (@pa_consX _ _ _ _ _ (by rfl) (pv 1) (@pa_consX _ _ _ _ _ (by rfl) (pv 2) pa_nil))))))
      (@pss_one _ _ _ (@ps_ret _ _ _ _ (pv 1))))), ?_⟩
    have hl := fl.len
    have hn := rw.len
    refine ⟨(by show 2 ≤ sizeLine; decide), fun q0 G0 t0 _ e0 => ?_⟩
    refine ⟨_, rfl, b, t, rfl, ⟨us, ht.same t0⟩, ?_⟩
    refine for_seq (b := b) (K := K) (a := t) (xs := us) (fun m σ G => Same H G ∧ ∃ (q : Addr) (v : Option V), SqF K G q (Pw.ofQ (Pw.qs m (fun t => Pw.val (As.getD t (0, 1))))) ∧ (0 < m → FrA K G q (Pw.ofQ (Pw.qs m (fun t => Pw.val (As.getD t (0, 1)))))) ∧ σ = [some (.ref t), some (.ref q), v]) ⟨t0, q0, none, SqF.of e0, fun _ => e0, rfl⟩ (fun m σ G _ h => ht.same h.1) ?_ ?_
    · rintro m v σ G hm ⟨sG, q, v', fq, _, rfl⟩
      have hml : m < us.length := (List.getElem?_eq_some_iff.mp hm).1
      have hmS : m < As.length := by omega
      obtain ⟨q', eq', fq'⟩ := (fl.same sG).at (j := m) (A := As[m]) (by simp [hmS])
      rw [hm] at eq'
      cases eq'
      have mS := List.getElem_mem hmS
      have cS := rw.canon _ mS
      have cQ := Pw.ofQ_canon (Pw.qs m (fun t => Pw.val (As.getD t (0, 1))))
      refine ⟨_, rfl, _, rfl, q, q', _, _, rfl, fq, SqF.of fq', cQ.1, cS.1, (sum_szR rw n13 (j := m) (by omega)).mono (by decide), (rw.sz2 mS).mono (by decide), fun r G3 s4 f4 => ?_⟩
      rw [Pw.fplus_ofQ (Pw.canon_ne cQ) (Pw.canon_ne cS), Pw.val_ofQ] at f4
      have e : As[m] = As.getD m (0, 1) := by rw [List.getD_eq_getElem?_getD, List.getElem?_eq_getElem hmS]; rfl
      rw [e] at f4
      exact ⟨sG.trans s4, r, _, SqF.of f4, fun _ => f4, rfl⟩
    · rintro σ G ⟨sG, q, v, fq, gq, rfl⟩
      rw [show us.length = n by omega] at fq gq
      exact ⟨_, rfl, k q G sG fq gq⟩
end
end Lw

set_option pp.maxSteps 800
namespace Lw
open PySem L2 PyProof.Rows
section
variable {P : Program} {w : World} {K : PySem.W.Frag} {mg : Str → Option Value} {base : Heap}
theorem sc_mixed : FnScope ["some", "pages"] ["some"] (defScope s_mixed) := ⟨rfl, rfl, rfl, by decide +kernel, rfl, by decide +kernel, by decide +kernel⟩
set_option maxHeartbeats 0 in
theorem d_mixed (S : Fnd K mg "mixed" s_mixed ["some"]) (T : Txt mg) (To : Def P w K mg base 4 "total" ["some"] (spTotS K)) (Ti : Def P w K mg base 3 "times" ["one", "other"] (spF2G K Pw.ftimes)) : Def P w K mg base 5 "mixed" ["some"] (spMixed K) := S.def fun f fd F => by
  have nd := sc_mixed.nd
  refine F.ok sc_mixed (fun vs H Q E h => ?_) (fun cdv A' outer s H vs Q E hr h => ?_)
  · obtain ⟨_, _, _, _, _, rfl, _⟩ := h
    rfl
  · obtain ⟨L, Ms, us, n, DD, rfl, mx, ok, k⟩ := h
    refine ⟨_, (@pss_cons _ _ _ _ _ (@ps_setX _ _ 1 _ _ _ _ (by rfl) (Or.inl rfl) nd rfl (Or.inl rfl) (pe_callB call_len_seq (by rfl) T.len PySem.boot_len (@pa_consX _ _ _ _ _ (by rfl) (pe_ix ix_tup (pe_ix ix_list (pv 0) pe_int (fun _ _ => rfl)) pe_int (fun _ _ => rfl)) pa_nil)))
      (@pss_one _ _ _ (@ps_ret _ _ _ _ (pe_callTy call_tupOf (by rfl) T.tup boot_tuple (@pa_consX _ _ _ _ _ (by rfl) (pe_compC1 "page" ["page", "some"] [none, some 0] rfl (pi_range1 rfl T.range (@pa_consX _ _ _ _ _ (by rfl) (pv 1) pa_nil)) (by show ∀ y : Str × NameKind, y ∈ _ → y.2 = NameKind.free → (defScope s_mixed).names.lookup y.1 = some .cell; decide +kernel) (fun _ _ => by rfl) (fun _ => by rfl) (hno_cons (by decide +kernel)) (by decide +kernel) rfl (by decide +kernel) ⟨⟨rfl, rfl, .inl rfl⟩, trivial⟩
          (fun cl C s H fp => (pg_name (i := 0) (show (["page", "some"] : List Str).Nodup by decide +kernel) rfl (Or.inr rfl) (.inl rfl)))
          (fun cl C s H fp => pts_nil)
          (fun cl C s H fp => (pe_def (by rfl) (by rfl) (by rfl) (by decide) To (hr.mono (by decide)) (@pa_consX _ _ _ _ _ (by rfl) (pe_compC ["part", "leaps", "page"] [none, none, some 0] rfl (pi_listK (K := K) rfl (pv 1)) (by intro y hy hf; rcases List.mem_cons.mp hy with rfl | hy; (· first | (cases hf; done) | rfl); rcases List.mem_cons.mp hy with rfl | hy; (· first | (cases hf; done) | rfl); rcases List.mem_cons.mp hy with rfl | hy; (· first | (cases hf; done) | rfl); rcases List.mem_cons.mp hy with rfl | hy; (· first | (cases hf; done) | rfl); rcases List.mem_cons.mp hy with rfl | hy; (· first | (cases hf; done) | rfl); cases hy) (by decide) rfl (by decide +kernel) ⟨⟨rfl, rfl, .inl rfl⟩, trivial⟩
          (fun cl C s H fp => (pg_tupK (K := K) 2 rfl rfl (pgs_cons (pg_name (i := 0) (show (["part", "leaps", "page"] : List Str).Nodup by decide +kernel) rfl (Or.inl rfl) (.inr rfl)) (pgs_cons (pg_name (i := 1) (show (["part", "leaps", "page"] : List Str).Nodup by decide +kernel) rfl (Or.inl rfl) (.inr rfl)) pgs_nil))))
          (fun cl C s H fp => pts_nil)
          (fun cl C s H fp => (pe_def (by rfl) (by rfl) (by rfl) (by decide) Ti (hr.mono (by decide)) (@pa_consX _ _ _ _ _ (by rfl) (pv 0) (@pa_consX _ _ _ _ _ (by rfl) (pe_ix (ix_tupK (K := K) rfl) (pv 1) (pv 2) (fun _ _ => rfl)) pa_nil))))) pa_nil)))) pa_nil))))), ?_⟩
    obtain ⟨eL, hlen, hat⟩ := id mx
    have hpos := ok.pos
    have hfew := ok.few
    have hn12 := ok.n12
    have h0 : Ms[0]? = some Ms[0] := by simp
    obtain ⟨q, p, l, ws, hq, eq, fp, el, fl⟩ := hat 0 _ h0
    have hwl : ws.length = n := by rw [fl.len]; exact ok.len _ (List.mem_of_getElem? h0)
    refine ⟨_, rfl, L, us, 0, _, rfl, rfl, SqL.of eL, atI_nat (j := 0) hq, q, _, _, _, rfl, rfl, SqT.of eq, rfl, l, _, rfl, .inr (SqT.of el), ?_⟩
    refine ⟨_, rfl, _, rfl, by omega, by omega, fun D1 hD1 => ?_⟩
    have hlm : ((ws.length : Nat) : Int).toNat = n := by omega
    rw [hlm]
    refine comp_rng (lo := 0) (n := n) (D := D1) (fun i ys σ H' => Same H H' ∧ H' D1 = some (.lst ys) ∧ FrL K H' ((Pw.mixL Ms n).take i) ys ∧ ∃ x, σ = [x, some (.ref L)]) ?_ ?_ ?_ ?_
    · exact ⟨Same.new hD1, upd_same, rfl, none, rfl⟩
    · rintro i ys σ H' ⟨_, e, _⟩
      exact e
    · rintro t ys σ H' ht ⟨s1, e1, f1, x, rfl⟩
      rw [Int.zero_add]
      dsimp only [gName]
      rw [if_pos rfl]
      refine ⟨_, rfl, L, rfl, ⟨_, SqL.of (s1 _ _ eL)⟩, fun D2 hD2 => ?_⟩
      have mx1 := mx.same s1
      refine comp_lst (K := K) (a := L) (D := D2) (xs := us) (fun i ys σ G => Same H' G ∧ G D2 = some (.lst ys) ∧ FrL K G ((Pw.prodRow Ms t).take i) ys ∧ ∃ x y, σ = [x, y, some (.int (t : Nat))]) ?_ ?_ ?_ ?_
      · exact ⟨Same.new hD2, upd_same, rfl, none, none, rfl⟩
      · rintro i ys σ G ⟨s2, e2, _⟩
        exact ⟨SqL.of (s2 _ _ (s1 _ _ eL)), e2⟩
      · rintro i x zs σ G hi hlt ⟨s2, e2, f2, x', y', rfl⟩
        have hM : Ms[i]? = some Ms[i] := by simp
        have mM := List.mem_of_getElem? hM
        obtain ⟨qi, pi, li, wi, hqi, eqi, fpi, eli, fli⟩ := (mx1.same s2).2.2 i _ hM
        rw [hi] at hqi
        cases hqi
        have hBl := ok.len _ mM
        obtain ⟨qb, eqb, fqb⟩ := fli.at (j := t) (A := Ms[i].2.getD t (0, 1)) (by rw [List.getD_eq_getElem?_getD, List.getElem?_eq_getElem (by omega)]; rfl)
        have mB := mem_getD (Bs := Ms[i].2) (t := t) (by omega)
        have a := ok.part _ mM
        have b := ok.row _ mM _ mB
        refine ⟨qi, _, rfl, SqT.of eqi, rfl, _, _, rfl, _, _, rfl, rfl, ?_⟩
        dsimp only [gName]
        rw [if_pos rfl]
        refine ⟨_, rfl, _, rfl, _, rfl, li, _, _, _, rfl, rfl, SqT.of eli, atI_nat eqb, pi, qb, _, _, rfl, SqF.of fpi, SqF.of fqb, a.c.1, b.c.1, a.sz.mono (by decide), b.sz.mono (by decide), fun r G3 s3 f3 => ?_⟩
        have e3 := s3 _ _ e2
        have hP : (Pw.prodRow Ms t)[i]? = some (Pw.ftimes Ms[i].1 (Ms[i].2.getD t (0, 1))) := by
          unfold Pw.prodRow
          rw [List.getElem?_map, hM]; rfl
        refine ⟨e3, by rw [f2.len, List.length_take]; exact small1000 (by rw [Pw.prodRow_len]; omega), Wt.next hlt ⟨fun b o e => ?_, upd_same, ?_, _, _, rfl⟩⟩
        · rw [upd_ne (ne_of_none e hD2)]; exact s3 _ _ (s2 _ _ e)
        · rw [List.take_succ, hP]
          exact ((f2.same s3).snoc f3).kp (KL.set e3)
      · rintro zs σ G ⟨s2, e2, f2, _⟩
        rw [hlen, List.take_of_length_le (by rw [Pw.prodRow_len]; exact Nat.le_refl _)] at f2
        refine ⟨true, D2, zs, _, Ms.length, DD, 1, rfl, SqL.of e2, f2, ok.rw ht, by omega, fun r G3 s3 _ f3 => ?_⟩
        rw [ok.sum ht] at f3
        have f3 := f3 hpos
        have e3 := s3 _ _ (s2 _ _ e1)
        have hP : (Pw.mixL Ms n)[t]? = some (Pw.ofQ (Pw.mixQ Ms t)) := by
          unfold Pw.mixL
          rw [List.getElem?_map, List.getElem?_range ht]; rfl
        refine ⟨e3, by rw [f1.len, List.length_take]; exact small1000 (by omega), Wt.next ht ⟨fun b o e => ?_, upd_same, ?_, _, rfl⟩⟩
        · rw [upd_ne (ne_of_none e hD1)]; exact s3 _ _ (s2 _ _ (s1 _ _ e))
        · rw [List.take_succ, hP]
          exact (((f1.same s2).same s3).snoc f3).kp (KL.set e3)
    · rintro ys σ G ⟨s2, e2, f2, _⟩
      rw [List.take_of_length_le (by unfold Pw.mixL; rw [List.length_map, List.length_range]; exact Nat.le_refl _)] at f2
      exact ⟨D1, ys, rfl, SqL.of e2, fun t G3 s3 _ e3 => k t G3 ys (s2.trans s3) e3 (f2.same s3)⟩
end
end Lw

set_option pp.maxSteps 800
namespace Lw
open PySem L2 PyProof.Rows
section
variable {P : Program} {w : World} {K : PySem.W.Frag} {mg : Str → Option Value} {base : Heap}
theorem sc_law_draws : FnScope ["script", "draws", "k", "rest", "stir", "many"] ["script"] (defScope s_law_draws) := ⟨rfl, rfl, rfl, by decide +kernel, rfl, by decide +kernel, by decide +kernel⟩
theorem d_law_draws (S : Fnd K mg "_law_draws" s_law_draws ["script"]) (T : Txt mg) (zmin : mg "min" = none) : Def P w K mg base 1 "_law_draws" ["script"] (spDraws K) := S.def fun f fd F => by
  have nd := sc_law_draws.nd
  refine F.ok sc_law_draws (fun vs H Q E h => ?_) (fun cdv A' outer s H vs Q E hr h => ?_)
  · obtain ⟨_, _, rfl, _⟩ := h
    rfl
  · obtain ⟨a, ns, rfl, hS, hlen, k⟩ := h
    refine ⟨_, (@pss_cons _ _ _ _ _ (@ps_setX _ _ 1 _ _ _ _ (by rfl) (Or.inl rfl) nd rfl (Or.inl rfl) (@pe_lstS _ _ _ _ pa_nil))
      (@pss_cons _ _ _ _ _ (@ps_forX _ _ _ _ _ _ _ _ (fun _ => rfl) PassesOwn.never rfl (pi_range1 rfl T.range (@pa_consX _ _ _ _ _ (by rfl) (pe_callB (call_min2 rfl) (by rfl) zmin boot_min (@pa_consX _ _ _ _ _ (by rfl) (pe_callB call_len_seq (by rfl) T.len PySem.boot_len (@pa_consX _ _ _ _ _ (by rfl) (pv 0) pa_nil)) (@pa_consX _ _ _ _ _ (by rfl) pe_int pa_nil))) pa_nil)) (pg_name (i := 2) nd rfl (Or.inl rfl))
        (@pss_cons _ _ _ _ _ (@ps_setX _ _ 3 _ _ _ _ (by rfl) (Or.inl rfl) nd rfl (Or.inl rfl) (pe_callB call_abs (by rfl) T.abs boot_abs (@pa_consX _ _ _ _ _ (by rfl) (pe_ix ix_list (pv 0) (pv 2) (fun _ _ => rfl)) pa_nil)))
      (@pss_one _ _ _ (@ps_if _ _ _ _ _ _ _ _ (pt_cmpR op_lt (pv 3) (pe_op op_pow pe_int pe_int) (nomark _))
        (@pss_cons _ _ _ _ _ (@ps_setX _ _ 4 _ _ _ _ (by rfl) (Or.inl rfl) nd rfl (Or.inl rfl) (pe_op op_mod (pe_op op_mul (pe_op op_mod (pe_op op_add (pe_op op_add (pv 3) (pe_op op_mul pe_int (pv 2))) pe_int) pe_int) pe_int) pe_int))
      (@pss_cons _ _ _ _ _ (@ps_setX _ _ 4 _ _ _ _ (by rfl) (Or.inl rfl) nd rfl (Or.inl rfl) (pe_op op_mod (pe_op op_mul (pv 4) (pv 4)) pe_int))
      (@pss_cons _ _ _ _ _ (ps_expr (pe_bm PySem.F.plainAttrs_list PySem.F.slot_list_append PySem.F.type_list_append mt_append (pv 1) (@pa_consX _ _ _ _ _ (by rfl) (pe_op op_mod (pe_op op_fdiv (pv 4) pe_int) pe_int) pa_nil)))
      (@pss_cons _ _ _ _ _ (ps_expr (pe_bm PySem.F.plainAttrs_list PySem.F.slot_list_append PySem.F.type_list_append mt_append (pv 1) (@pa_consX _ _ _ _ _ (by rfl) (pe_op op_mod (pe_op op_fdiv (pv 4) pe_int) pe_int) pa_nil)))
      (@pss_cons _ _ _ _ _ (@ps_setX _ _ 4 _ _ _ _ (by rfl) (Or.inl rfl) nd rfl (Or.inl rfl) (pe_op op_mod (pe_op op_add (pv 4) (pe_op op_mul pe_int (pe_op op_add (pv 2) pe_int))) pe_int))
      (@pss_one _ _ _ (ps_expr (pe_bm PySem.F.plainAttrs_list PySem.F.slot_list_append PySem.F.type_list_append mt_append (pv 1) (@pa_consX _ _ _ _ _ (by rfl) (pe_op op_mod (pe_op op_fdiv (pe_op op_mod (pe_op op_mul (pv 4) (pv 4)) pe_int) pe_int) pe_int) pa_nil)))))))))
        (@pss_cons _ _ _ _ _ (@ps_setX _ _ 5 _ _ _ _ (by rfl) (Or.inl rfl) nd rfl (Or.inl rfl) pe_int)
      (@pss_one _ _ _ (ps_while PassesOwn.never (PW.pt (pw_and (pt_cmpR op_ge (pv 3) pe_int (nomark _)) (pw_and1 (pt_cmpR op_lt (pv 5) pe_int (nomark _)))))
        (@pss_cons _ _ _ _ _ (ps_expr (pe_bm PySem.F.plainAttrs_list PySem.F.slot_list_append PySem.F.type_list_append mt_append (pv 1) (@pa_consX _ _ _ _ _ (by rfl) (pe_op op_mod (pv 3) pe_int) pa_nil)))
      (@pss_cons _ _ _ _ _ (@ps_setX _ _ 3 _ _ _ _ (by rfl) (Or.inl rfl) nd rfl (Or.inl rfl) (pe_op op_fdiv (pv 3) pe_int))
      (@pss_one _ _ _ (@ps_setX _ _ 5 _ _ _ _ (by rfl) (Or.inl rfl) nd rfl (Or.inl rfl) (pe_op op_add (pv 5) pe_int))))))))))))
      (@pss_one _ _ _ (@ps_ret _ _ _ _ (pe_slice sl_list (pv 1) po_none (po_some pe_int)))))), ?_⟩
    refine ⟨(by show 0 ≤ sizeLine; decide), fun d H1 s1 hd e1 => ?_⟩
    refine ⟨_, rfl, a, _, rfl, .inl (s1.seq hS), _, _, rfl, ?_⟩
    have hml : (if (80 : Int) < ((ns.map V.int).length : Nat) then (80 : Int) else ((ns.map V.int).length : Nat)) = (ns.length : Nat) := by
      rw [List.length_map, if_neg (by omega)]
    rw [hml]
    refine ⟨_, rfl, by omega, by omega, ?_⟩
    refine for_range (lo := 0) (n := ((ns.length : Nat) : Int).toNat) (fun i σ G => Same H G ∧ ∃ (ds : List Int) (v2 v3 v4 v5 : Option V), G d = some (.lst (ds.map V.int)) ∧ ds.length ≤ 60 * i ∧ σ = [some (.ref a), some (.ref d), v2, v3, v4, v5]) ?_ ?_ ?_
    · exact ⟨s1, [], none, none, none, none, e1, Nat.zero_le _, rfl⟩
    · rintro i σ G hi ⟨sG, ds, v2, v3, v4, v5, eG, zl, rfl⟩
      have hil : i < ns.length := by omega
      have ei : (ns.map V.int)[i]? = some (.int ns[i]) := by simp [hil]
      have up : ∀ {G' : Hp} {o : HO}, Same H G' → Same H (upd G' d o) := fun {G' o} s b u e => by rw [upd_ne (ne_of_none e hd)]; exact s b u e
      have ap : ∀ (ds : List Int) (n : Int), ds.map V.int ++ [V.int n] = (ds ++ [n]).map V.int := fun ds n => by rw [List.map_append]; rfl
      rw [Int.zero_add]
      refine ⟨_, rfl, _, rfl, a, _, _, _, rfl, rfl, sG.seq hS, atI_nat ei, _, rfl, ?_⟩
      generalize hrr : (if ns[i] < 0 then -ns[i] else ns[i]) = r
      have hr0 : 0 ≤ r := by rw [← hrr]; exact abs_nn _
      refine ⟨_, rfl, _, _, rfl, rfl, ⟨by decide, by decide, by decide⟩, _, _, rfl, rfl, _, rfl, ?_⟩
      refine if2 (fun h => ?_) (fun h => ?_)
      · refine ⟨_, rfl, _, rfl, _, _, rfl, rfl, .inl ⟨by decide, by decide⟩, _, _, rfl, rfl, _, _, rfl, rfl, _, _, rfl, rfl, (by show (0 : Int) < 2147483647; decide), _, _, rfl, rfl, .inr ⟨by decide, by decide⟩, _, _, rfl, rfl, (by show (0 : Int) < 2147483647; decide), ?_⟩
        refine ⟨_, rfl, _, rfl, _, _, rfl, rfl, .inl ⟨by omega, by omega⟩, _, _, rfl, rfl, (by show (0 : Int) < 2147483629; decide), ?_⟩
        refine ⟨_, rfl, .inl ⟨rfl, _, SqL.of eG⟩, _, rfl, _, _, rfl, rfl, ⟨by decide, by decide⟩, _, _, rfl, rfl, (by show (0 : Int) < 1000; decide), d, _, _, rfl, rfl, eG, (by rw [List.length_map]; exact small16 (by omega)), ?_⟩
        rw [ap]
        refine ⟨_, rfl, .inl ⟨rfl, _, SqL.of upd_same⟩, _, rfl, _, _, rfl, rfl, ⟨by decide, by decide⟩, _, _, rfl, rfl, (by show (0 : Int) < 1000; decide), d, _, _, rfl, rfl, upd_same, (by rw [List.length_map, List.length_append]; exact small16 (by simp only [List.length_cons, List.length_nil]; omega)), ?_⟩
        rw [ap]
        refine ⟨_, rfl, _, rfl, _, _, rfl, rfl, _, _, rfl, rfl, .inl ⟨by decide, by decide⟩, _, _, rfl, rfl, _, _, rfl, rfl, (by show (0 : Int) < 2147483587; decide), ?_⟩
        refine ⟨_, rfl, .inl ⟨rfl, _, SqL.of upd_same⟩, _, rfl, _, rfl, _, _, rfl, rfl, .inl ⟨by omega, by omega⟩, _, _, rfl, rfl, (by show (0 : Int) < 2147483647; decide), _, _, rfl, rfl, ⟨by decide, by decide⟩, _, _, rfl, rfl, (by show (0 : Int) < 1000; decide), d, _, _, rfl, rfl, upd_same, (by rw [List.length_map, List.length_append, List.length_append]; exact small16 (by simp only [List.length_cons, List.length_nil]; omega)), ?_⟩
        rw [ap]
        refine ⟨up (up (up sG)), _, _, _, _, _, upd_same, ?_, rfl⟩
        rw [List.length_append, List.length_append, List.length_append]
        simp only [List.length_cons, List.length_nil]
        omega
      · refine while_in (fun σ G' => Same H G' ∧ ∃ (es : List Int) (r' m : Int), G' d = some (.lst (es.map V.int)) ∧ 0 ≤ m ∧ m ≤ 60 ∧ es.length = ds.length + m.toNat ∧ σ = [some (.ref a), some (.ref d), some (.int ((i : Nat) : Int)), some (.int r'), v4, some (.int m)])
          (fun σ _ => match σ with | [_, _, _, _, _, some (.int m)] => (60 - m).toNat | _ => 0) ⟨sG, ds, r, 0, eG, by decide, by decide, by simp, rfl⟩ ?_
        · rintro σ G' ⟨s', es, r', m, e', m0, m6, el, rfl⟩
          refine ⟨_, rfl, _, _, rfl, rfl, _, rfl, ?_⟩
          refine if2 (fun h1 => ?_) (fun h1 => ?_)
          · refine ⟨_, rfl, _, _, rfl, rfl, _, rfl, ?_⟩
            refine if2 (fun h2 => ?_) (fun h2 => ?_)
            · have h2 : m < 60 := of_decide_eq_true h2
              refine ⟨_, wN, ?_⟩
              refine ⟨_, rfl, .inl ⟨rfl, _, SqL.of e'⟩, _, rfl, _, _, rfl, rfl, (by show (0 : Int) < 1000; decide), d, _, _, rfl, rfl, e', (by rw [List.length_map]; exact small16 (by omega)), ?_⟩
              rw [ap]
              refine ⟨_, rfl, _, _, rfl, rfl, ⟨by decide, by decide⟩, ?_⟩
              refine ⟨_, rfl, _, _, rfl, rfl, ?_⟩
              refine ⟨⟨up s', _, _, _, upd_same, ?_, ?_, ?_, rfl⟩, ?_⟩
              · omega
              · omega
              · rw [List.length_append, el]; simp only [List.length_cons, List.length_nil]; omega
              · show (60 - (m + 1)).toNat < (60 - m).toNat
                omega
            · exact ⟨s', es, _, _, _, _, e', by omega, rfl⟩
          · exact ⟨s', es, _, _, _, _, e', by omega, rfl⟩
    · rintro σ G ⟨sG, ds, v2, v3, v4, v5, eG, zl, rfl⟩
      refine ⟨_, rfl, _, rfl, d, _, rfl, SqL.of eG, fun p hp => ?_⟩
      have sp : Same H (upd G p (.lst (cutV (ds.map V.int) none (some 240)))) := sG.trans (Same.new hp)
      obtain ⟨es, e5, z5⟩ := cut240 ds
      refine k p _ sp (sG.free hp) ⟨es, ?_, z5⟩
      rw [upd_same, e5]
theorem scLLeaps : FnScope ["draws", "many", "way", "weights"] ["draws", "many"] (defScope sLLeaps) := ⟨rfl, rfl, rfl, by decide +kernel, rfl, by decide +kernel, by decide +kernel⟩
set_option maxHeartbeats 0 in
theorem d_law_leaps (S : Fnd K mg "_law_leaps" sLLeaps ["draws", "many"]) (T : Txt mg) (Tk : Def P w K mg base 1 "_law_take" ["draws", "many"] spTake) (Fr : Def P w K mg base 1 "_law_fraction" ["above", "below"] spMadeS) : Def P w K mg base 2 "_law_leaps" ["draws", "many"] (spLeapsD K) := S.def fun f fd F => by
  have nd := scLLeaps.nd
  refine F.ok scLLeaps (fun vs H Q E h => ?_) (fun cdv A' outer s H vs Q E hr h => ?_)
  · obtain ⟨_, _, rfl, _⟩ := h
    rfl
  · obtain ⟨d, pages, rfl, plo, phi, hd, k⟩ := h
    refine ⟨_, (@pss_cons _ _ _ _ _ (@ps_setX _ _ 2 _ _ _ _ (by rfl) (Or.inl rfl) nd rfl (Or.inl rfl) (pe_def (by rfl) (by rfl) (by rfl) (by decide) Tk (hr.mono (by decide)) (@pa_consX _ _ _ _ _ (by rfl) (pv 0) (@pa_consX _ _ _ _ _ (by rfl) pe_int pa_nil))))
      (@pss_cons _ _ _ _ _ (@ps_setX _ _ 3 _ _ _ _ (by rfl) (Or.inl rfl) nd rfl (Or.inr rfl) (pe_op op_repS (@pe_lstS _ _ _ _ (@pa_consX _ _ _ _ _ (by rfl) pe_int pa_nil)) (pv 1)))
      (@pss_mid _ _ _ _ _ (@ps_if _ _ _ _ _ _ _ _ (pt_cmpR op_eq (pv 2) pe_int (nomark _))
        (@pss_cons _ _ _ _ _ (@ps_setX _ _ 3 _ _ _ _ (by rfl) (Or.inl rfl) nd rfl (Or.inr rfl) (pe_op op_repS (@pe_lstS _ _ _ _ (@pa_consX _ _ _ _ _ (by rfl) pe_int pa_nil)) (pv 1)))
      (@pss_one _ _ _ (ps_asg pe_int (pg_sub (pv 3) (pe_def (by rfl) (by rfl) (by rfl) (by decide) Tk (hr.mono (by decide)) (@pa_consX _ _ _ _ _ (by rfl) (pv 0) (@pa_consX _ _ _ _ _ (by rfl) (pv 1) pa_nil))) set_list))))
        pss_nil)
      (@pss_mid _ _ _ _ _ (@ps_if _ _ _ _ _ _ _ _ (pt_cmpR op_eq (pv 2) pe_int (nomark _))
        (@pss_cons _ _ _ _ _ (@ps_setX _ _ 3 _ _ _ _ (by rfl) (Or.inl rfl) nd rfl (Or.inr rfl) (pe_compC ["page", "draws"] [none, some 0] rfl (pi_range1 rfl T.range (@pa_consX _ _ _ _ _ (by rfl) (pv 1) pa_nil)) (by show ∀ y : Str × NameKind, y ∈ _ → y.2 = NameKind.free → (defScope sLLeaps).names.lookup y.1 = some .cell; decide +kernel) (by decide) rfl (by decide +kernel) ⟨⟨rfl, rfl, .inl rfl⟩, trivial⟩
          (fun cl C s H fp => (pg_name (i := 0) (show (["page", "draws"] : List Str).Nodup by decide +kernel) rfl (Or.inl rfl) (.inr rfl)))
          (fun cl C s H fp => pts_nil)
          (fun cl C s H fp => (pe_def (by rfl) (by rfl) (by rfl) (by decide) Tk (hr.mono (by decide)) (@pa_consX _ _ _ _ _ (by rfl) (pv 1) (@pa_consX _ _ _ _ _ (by rfl) pe_int pa_nil))))))
      (@pss_cons _ _ _ _ _ (ps_asg (pe_op op_add pe_int (pe_def (by rfl) (by rfl) (by rfl) (by decide) Tk (hr.mono (by decide)) (@pa_consX _ _ _ _ _ (by rfl) (pv 0) (@pa_consX _ _ _ _ _ (by rfl) pe_int pa_nil)))) (pg_sub (pv 3) (pe_def (by rfl) (by rfl) (by rfl) (by decide) Tk (hr.mono (by decide)) (@pa_consX _ _ _ _ _ (by rfl) (pv 0) (@pa_consX _ _ _ _ _ (by rfl) (pv 1) pa_nil))) set_list))
      (@pss_one _ _ _ (@ps_if _ _ _ _ _ _ _ _ (PW.pt (pw_and (pt_cmpR op_lt (pv 1) pe_int (nomark _)) (pw_and1 (pt_cmpR op_eq (pe_def (by rfl) (by rfl) (by rfl) (by decide) Tk (hr.mono (by decide)) (@pa_consX _ _ _ _ _ (by rfl) (pv 0) (@pa_consX _ _ _ _ _ (by rfl) pe_int pa_nil))) pe_int (nomark _)))))
        (@pss_one _ _ _ (@ps_setX _ _ 3 _ _ _ _ (by rfl) (Or.inl rfl) nd rfl (Or.inr rfl) (pe_compC ["k", "weight"] [none, none] rfl (pi_enLK (by rfl) (by rfl) rfl T.enu (@pa_consX _ _ _ _ _ (by rfl) (pv 3) pa_nil)) (by show ∀ y : Str × NameKind, y ∈ _ → y.2 = NameKind.free → (defScope sLLeaps).names.lookup y.1 = some .cell; decide +kernel) (by decide) rfl (by decide +kernel) trivial
          (fun cl C s H fp => (pg_tupK (K := K) 2 rfl rfl (pgs_cons (pg_name (i := 0) (show (["k", "weight"] : List Str).Nodup by decide +kernel) rfl (Or.inl rfl) (.inr rfl)) (pgs_cons (pg_name (i := 1) (show (["k", "weight"] : List Str).Nodup by decide +kernel) rfl (Or.inl rfl) (.inr rfl)) pgs_nil))))
          (fun cl C s H fp => pts_nil)
          (fun cl C s H fp => (pe_op op_add (pe_op op_mul (pv 1) (pe_op op_pow pe_int pe_int)) (pv 0))))))
        pss_nil))))
        pss_nil)
      (@pss_one _ _ _ (@ps_ret _ _ _ _ (pe_callTy call_tupOf (by rfl) T.tup boot_tuple (@pa_consX _ _ _ _ _ (by rfl) (pe_compC ["weight", "weights"] [none, some 3] rfl (@pi_list _ _ _ _ (pv 3)) (by show ∀ y : Str × NameKind, y ∈ _ → y.2 = NameKind.free → (defScope sLLeaps).names.lookup y.1 = some .cell; decide +kernel) (by decide) rfl (by decide +kernel) ⟨⟨rfl, rfl, .inl rfl⟩, trivial⟩
          (fun cl C s H fp => (pg_name (i := 0) (show (["weight", "weights"] : List Str).Nodup by decide +kernel) rfl (Or.inl rfl) (.inr rfl)))
          (fun cl C s H fp => pts_nil)
          (fun cl C s H fp => (pe_def (by rfl) (by rfl) (by rfl) (by decide) Fr (hr.mono (by decide)) (@pa_consX _ _ _ _ _ (by rfl) (pv 0) (@pa_consX _ _ _ _ _ (by rfl) (pe_callB (call_sumK (K := K) rfl rfl) (by rfl) T.sum boot_sum (@pa_consX _ _ _ _ _ (by rfl) (pv 1) pa_nil)) pa_nil))))) pa_nil)))))))), ?_⟩
    refine ⟨_, rfl, d, 3, rfl, by decide, hd, fun way A1 w0 w3 hd1 kd1 => ?_⟩
    refine ⟨(by show 1 ≤ sizeLine; decide), fun l0 A2 ta2 hl0 el0 => ?_⟩
    have rep1 : ∀ (n : Nat) (x : Int), (List.replicate n [V.int x]).flatten = (List.replicate n x).map V.int := fun n x => by rw [List.flatten_replicate_singleton, List.map_replicate]
    refine ⟨_, rfl, l0, pages, _, rfl, rfl, el0, by omega, by omega, (by show 1 * pages.toNat ≤ sizeLine; exact Nat.le_of_lt (small1000 (by omega))), fun W0 A3 ta3 hW0 eW0 => ?_⟩
    rw [rep1] at eW0
    have hA3 : DrawsAt A3 d := (hd1.same ta2).same ta3
    have kA3 : Kp d H A3 := kd1.trans ((Same.kpd ta2).trans (Same.kpd ta3))
    have setD : ∀ {G : Hp} {D : Addr} {o : HO}, DrawsAt G d → D ≠ d → DrawsAt (upd G D o) d := fun {G D o} h n => by
      obtain ⟨ns', e', z'⟩ := h
      exact ⟨ns', by rw [upd_ne (Ne.symm n)]; exact e', z'⟩
    have wt0 : Wts pages (List.replicate pages.toNat 1) := by
      have hs : (List.replicate pages.toNat (1 : Int)).sum = pages := by rw [List.sum_replicate_int]; omega
      refine ⟨by rw [List.length_replicate]; omega, fun w hw => ?_, by rw [hs]; omega⟩
      rw [(List.mem_replicate.mp hw).2]; decide
    refine ⟨fun σ G => DrawsAt G d ∧ Kp d H G ∧ ∃ (W : Addr) (ws : List Int), Wts pages ws ∧ G W = some (.lst (ws.map V.int)) ∧ σ = [some (.ref d), some (.int pages), some (.int way), some (.ref W)], ?_, ?_⟩
    · refine ⟨_, rfl, rfl, _, rfl, if2 (fun _ => ?_) (fun _ => ?_)⟩
      · refine ⟨(by show 1 ≤ sizeLine; decide), fun l1 A4 ta4 hl1 el1 => ?_⟩
        refine ⟨_, rfl, l1, pages, _, rfl, rfl, el1, by omega, by omega, (by show 1 * pages.toNat ≤ sizeLine; exact Nat.le_of_lt (small1000 (by omega))), fun D A5 ta5 hD eD => ?_⟩
        rw [rep1] at eD
        have h5 := (hA3.same ta4).same ta5
        have hDd : D ≠ d := (hA3.same ta4).ne hD
        have k5 : Kp d H A5 := kA3.trans ((Same.kpd ta4).trans (Same.kpd ta5))
        have hDn : H D = none := (kA3.trans (Same.kpd ta4)).freeD (hA3.same ta4) hD
        refine ⟨_, rfl, _, rfl, _, rfl, d, pages, rfl, by omega, h5, fun v' H4 a4 b4 h4 k4 => ?_⟩
        obtain ⟨j, rfl⟩ : ∃ j : Nat, v' = j := ⟨v'.toNat, by omega⟩
        have e4 : H4 D = some (.lst ((List.replicate pages.toNat (0 : Int)).map V.int)) := k4 _ _ eD hDd
        refine ⟨D, _, (j : Int), j, rfl, rfl, e4, ?_, setD h4 hDd, ?_, D, (List.replicate pages.toNat (0 : Int)).set j 1, ?_, ?_, rfl⟩
        · unfold ixN
          rw [if_pos (by omega), if_pos (by rw [List.length_map, List.length_replicate]; omega), Int.toNat_natCast]
        · exact fun b o e n => by rw [upd_ne (ne_of_none e hDn)]; exact k4 _ _ (k5 _ _ e n) n
        · have nn : ∀ n ∈ (List.replicate pages.toNat (0 : Int)).set j 1, 0 ≤ n ∧ n < 2 ^ 37 := fun n hn => by
            rcases List.mem_or_eq_of_mem_set hn with hn | hn
            · rw [(List.mem_replicate.mp hn).2]; decide
            · omega
          exact ⟨by rw [List.length_set, List.length_replicate]; omega, nn, Pw.sum_pos (m := 1) (fun n hn => (nn n hn).1) (List.mem_set (by rw [List.length_replicate]; omega) _) (by decide)⟩
        · rw [upd_same, List.map_set]
      · exact ⟨hA3, kA3, W0, _, wt0, eW0, rfl⟩
    rintro σ B1 ⟨hB1, kB1, W1, ws1, wt1, eW1, rfl⟩
    refine ⟨fun σ G => DrawsAt G d ∧ Kp d H G ∧ ∃ (W : Addr) (ws : List Int), Wts pages ws ∧ G W = some (.lst (ws.map V.int)) ∧ σ = [some (.ref d), some (.int pages), some (.int way), some (.ref W)], ?_, ?_⟩
    · refine ⟨_, rfl, rfl, _, rfl, if2 (fun _ => ?_) (fun _ => ?_)⟩
      · refine ⟨_, rfl, pages, rfl, by omega, by omega, fun D hD => ?_⟩
        have hDd := hB1.ne hD
        have hDn : H D = none := kB1.freeD hB1 hD
        refine comp_rng (lo := 0) (n := pages.toNat) (D := D) (fun i ys σ H' => DrawsAt H' d ∧ Kp d H H' ∧ H' D = some (.lst ys) ∧ (∃ ns : List Int, ys = ns.map V.int ∧ ns.length = i ∧ ∀ n ∈ ns, 0 ≤ n ∧ n < 99) ∧ ∃ x, σ = [x, some (.ref d)]) ?_ ?_ ?_ ?_
        · exact ⟨hB1.same (Same.new hD), kB1.trans (Kp.new hD), upd_same, ⟨[], rfl, rfl, fun n hn => by simp at hn⟩, none, rfl⟩
        · rintro i ys σ H' ⟨_, _, e, _⟩
          exact e
        · rintro i ys σ H' hi ⟨g1, g2, g3, ⟨ns, rfl, g4, g5⟩, x, rfl⟩
          dsimp only [gName]
          rw [if_pos rfl]
          refine ⟨_, rfl, d, 4, rfl, by decide, g1, fun v HL v0 v4 hL kL => ?_⟩
          have g3' : HL D = _ := kL D _ g3 hDd
          refine ⟨g3', small1000 (by rw [List.length_map]; omega), Wt.next hi ⟨setD hL hDd, fun b o e n => ?_, upd_same, ⟨ns ++ [v], ?_, ?_, ?_⟩, _, rfl⟩⟩
          · rw [upd_ne (ne_of_none e hDn)]; exact kL b o (g2 b o e n) n
          · rw [List.map_append]; rfl
          · rw [List.length_append, List.length_singleton]; omega
          · intro n hn
            rcases List.mem_append.mp hn with hn | hn
            · exact g5 n hn
            · simp at hn
              omega
        rintro ys σ H2 ⟨g1, g2, g3, ⟨ns, rfl, g4, g5⟩, _⟩
        refine ⟨_, rfl, d, 99, rfl, by decide, g1, fun u H3 u0 u9 h3 k3 => ⟨_, _, rfl, rfl, ?_⟩⟩
        refine ⟨_, rfl, _, rfl, _, rfl, d, pages, rfl, by omega, h3, fun v' H4 a4 b4 h4 k4 => ?_⟩
        obtain ⟨j, rfl⟩ : ∃ j : Nat, v' = j := ⟨v'.toNat, by omega⟩
        have hj : j < ns.length := by omega
        have e4 : H4 D = some (.lst (ns.map V.int)) := k4 _ _ (k3 _ _ g3 hDd) hDd
        refine ⟨D, _, (j : Int), j, rfl, rfl, e4, ?_, ?_⟩
        · unfold ixN
          rw [if_pos (by omega), if_pos (by rw [List.length_map]; omega), Int.toNat_natCast]
        have eU : (upd H4 D (.lst ((ns.map V.int).set j (.int (1 + u))))) D = some (.lst ((ns.set j (1 + u)).map V.int)) := by rw [upd_same, List.map_set]
        have hU : DrawsAt (upd H4 D (.lst ((ns.map V.int).set j (.int (1 + u))))) d := setD h4 hDd
        have kU : Kp d H (upd H4 D (.lst ((ns.map V.int).set j (.int (1 + u))))) := fun b o e n => by
          rw [upd_ne (ne_of_none e hDn)]
          exact k4 _ _ (k3 _ _ (g2 _ _ e n) n) n
        have nn : ∀ n ∈ ns.set j (1 + u), 0 ≤ n ∧ n ≤ 99 := fun n hn => by
          rcases List.mem_or_eq_of_mem_set hn with hn | hn
          · have := g5 n hn
            omega
          · omega
        have ln : (ns.set j (1 + u)).length = pages.toNat := by rw [List.length_set]; omega
        have mm : 1 + u ∈ ns.set j (1 + u) := List.mem_set hj _
        have wU : Wts pages (ns.set j (1 + u)) := ⟨by omega, fun n hn => by have := nn n hn; omega, Pw.sum_pos (m := 1 + u) (fun n hn => (nn n hn).1) mm (by omega)⟩
        refine ⟨_, rfl, _, _, rfl, rfl, _, rfl, if2 (fun _ => ?_) (fun _ => ?_)⟩
        · refine ⟨_, rfl, d, 4, rfl, by decide, hU, fun q H5 q0 q4 h5 k5 => ⟨rfl, _, rfl, if2 (fun _ => ?_) (fun _ => ?_)⟩⟩
          · have e5 := k5 _ _ eU hDd
            generalize ns.set j (1 + u) = vs at nn ln mm wU e5
            refine ⟨_, rfl, D, _, rfl, SqL.of e5, fun D2 hD2 => ?_⟩
            have hD2n : H D2 = none := (kU.trans k5).freeD h5 hD2
            refine comp_enL (K := K) (a := D) (D := D2) (xs := vs.map V.int) (fun i ys σ G => Same H5 G ∧ G D2 = some (.lst ys) ∧ ys = ((List.range i).map fun t => vs.getD t 0 * 10 ^ (9 : Int).toNat + ((t : Nat) : Int)).map V.int ∧ ∃ x y, σ = [x, y]) ?_ ?_ ?_ ?_
            · exact ⟨Same.new hD2, upd_same, rfl, none, none, rfl⟩
            · rintro i ys σ G ⟨t1, e1, _⟩
              exact ⟨SqL.of (t1 _ _ e5), e1⟩
            · rintro i x ys σ G TT G' hi hlt ⟨t1, e1, rfl, x', y', rfl⟩ hTT sG eT
              rw [List.length_map] at hlt
              have ex : x = .int (vs.getD i 0) := by
                rw [List.getElem?_map, getD_mapI (by omega)] at hi
                cases hi; rfl
              subst ex
              have hv := nn _ (List.mem_of_getElem? (getD_mapI (show i < vs.length by omega)))
              refine ⟨TT, _, rfl, SqT.of eT, rfl, _, _, rfl, _, _, rfl, rfl, ?_⟩
              dsimp only [gName]
              rw [if_pos rfl]
              refine ⟨_, rfl, _, _, rfl, rfl, ⟨by decide, by decide, by decide⟩, _, _, rfl, rfl, .inl ⟨by omega, by omega⟩, _, rfl, _, _, rfl, rfl, sG _ _ e1, ?_, Wt.next (by rw [List.length_map]; exact hlt) ⟨fun b o e => ?_, upd_same, ?_, _, _, rfl⟩⟩
              · rw [List.length_map, List.length_map, List.length_range]
                exact small1000 (by omega)
              · rw [upd_ne (ne_of_none e hD2)]; exact sG _ _ (t1 _ _ e)
              · rw [List.range_succ, List.map_append, List.map_append]; rfl
            · rintro ys σ G ⟨t1, e1, rfl, _⟩
              rw [List.length_map, ln] at e1
              refine ⟨h5.same t1, kU.trans (k5.trans (Same.kpd t1)), D2, _, ?_, e1, rfl⟩
              have e9 : (10 : Int) ^ (9 : Int).toNat = 1000000000 := by decide
              have nn2 : ∀ n ∈ (List.range pages.toNat).map (fun t => vs.getD t 0 * 10 ^ (9 : Int).toNat + ((t : Nat) : Int)), 0 ≤ n ∧ n < 2 ^ 37 := fun n hn => by
                obtain ⟨t, ht, rfl⟩ := List.mem_map.mp hn
                have ht := List.mem_range.mp ht
                have hv := nn _ (List.mem_of_getElem? (getD_mapI (show t < vs.length by omega)))
                rw [e9]
                omega
              obtain ⟨i0, hi0, ei0⟩ := List.getElem_of_mem mm
              refine ⟨by rw [List.length_map, List.length_range]; omega, nn2, Pw.sum_pos (m := vs.getD i0 0 * 10 ^ (9 : Int).toNat + ((i0 : Nat) : Int)) (fun n hn => (nn2 n hn).1) (List.mem_map.mpr ⟨i0, List.mem_range.mpr (by omega), rfl⟩) ?_⟩
              rw [List.getD_eq_getElem?_getD, List.getElem?_eq_getElem hi0]
              show 0 < vs[i0] * _ + _
              rw [ei0, e9]
              omega
          · exact ⟨h5, kU.trans k5, D, _, wU, k5 _ _ eU hDd, rfl⟩
        · exact ⟨hU, kU, D, _, wU, eU, rfl⟩
      · exact ⟨hB1, kB1, W1, ws1, wt1, eW1, rfl⟩
    rintro σ G ⟨hG, kG, W, ws, wt, eW, rfl⟩
    have hl := wt.len
    refine ⟨_, rfl, W, rfl, ⟨_, SqL.of eW⟩, fun D3 hD3 => ?_⟩
    have hp := wt.pos
    have zs := wt.sz phi
    have hW3 : W ≠ D3 := ne_of_none eW hD3
    refine comp_lst (K := K) (a := W) (D := D3) (xs := ws.map V.int) (fun i ys σ G' => Same G G' ∧ G' D3 = some (.lst ys) ∧ FrL K G' ((lps ws).take i) ys ∧ ∃ x, σ = [x, some (.ref W)]) ?_ ?_ ?_ ?_
    · exact ⟨Same.new hD3, upd_same, rfl, none, rfl⟩
    · rintro i ys σ G' ⟨t4, e4, _⟩
      exact ⟨SqL.of (t4 _ _ eW), e4⟩
    · rintro i u ys σ G' hi hlt ⟨t4, e4, fl, x, rfl⟩
      rw [List.length_map] at hlt
      have eu : u = .int (ws.getD i 0) := by
        rw [List.getElem?_map, getD_mapI (by omega)] at hi
        cases hi; rfl
      subst eu
      have mW : ws.getD i 0 ∈ ws := List.mem_of_getElem? (getD_mapI (by omega))
      have hw := wt.nn _ mW
      dsimp only [gName]
      rw [if_pos rfl]
      refine ⟨_, rfl, _, rfl, W, ws, rfl, SqL.of (t4 _ _ eW), _, _, rfl, by omega, (sz_of 41 (by omega)), zs.mono (by decide), fun r G1 t1 f1 => ?_⟩
      have f1 : FrA K G1 r (Pw.mk (ws.getD i 0) ws.sum) := f1
      have hI : (lps ws)[i]? = some (Pw.mk (ws.getD i 0) ws.sum) := by
        unfold lps
        rw [List.getElem?_map, getD_mapI (by omega)]; rfl
      have e5 := t1 _ _ e4
      refine ⟨e5, by rw [fl.len, List.length_take]; exact small1000 (by omega), Wt.next (by rw [List.length_map]; exact hlt) ⟨fun b o e => ?_, upd_same, ?_, _, rfl⟩⟩
      · rw [upd_ne (ne_of_none e hD3)]; exact t1 _ _ (t4 _ _ e)
      · rw [List.take_succ, hI]
        exact ((fl.same t1).snoc f1).kp (KL.set e5)
    · rintro ys σ G' ⟨t4, e4, fl, _⟩
      refine ⟨D3, ys, rfl, SqL.of e4, fun t G1 t1 _ e1 => ?_⟩
      rw [List.length_map, List.take_of_length_le (by rw [lps_len]; exact Nat.le_refl _)] at fl
      have sA := t4.trans t1
      exact k t G1 ws ys wt (hG.same sA) e1 (fl.same t1) (kG.trans (Same.kpd sA))
end
end Lw

set_option pp.maxSteps 800
namespace Lw
open PySem L2 PyProof.Rows
section
variable {P : Program} {w : World} {K : PySem.W.Frag} {mg : Str → Option Value} {base : Heap}
theorem sc_law_parted : FnScope ["draws", "pages", "weights"] ["draws", "pages"] (defScope s_law_parted) := ⟨rfl, rfl, rfl, by decide +kernel, rfl, by decide +kernel, by decide +kernel⟩
set_option maxHeartbeats 0 in
theorem d_law_parted (S : Fnd K mg "_law_parted" s_law_parted ["draws", "pages"]) (T : Txt mg) (Tk : Def P w K mg base 1 "_law_take" ["draws", "many"] spTake) (Fr : Def P w K mg base 1 "_law_fraction" ["above", "below"] spMadeS) (Ls : Def P w K mg base 2 "_law_leaps" ["draws", "many"] (spLeapsD K)) : Def P w K mg base 3 "_law_parted" ["draws", "pages"] (spPartedM K) := S.def fun f fd F => by
  have nd := sc_law_parted.nd
  refine F.ok sc_law_parted (fun vs H Q E h => ?_) (fun cdv A' outer s H vs Q E hr h => ?_)
  · obtain ⟨_, _, rfl, _⟩ := h
    rfl
  · obtain ⟨d, pages, rfl, plo, phi, hd, k⟩ := h
    refine ⟨_, (@pss_cons _ _ _ _ _ (@ps_setX _ _ 2 _ _ _ _ (by rfl) (Or.inl rfl) nd rfl (Or.inr rfl) (pe_compC ["k", "draws"] [none, some 0] rfl (pi_range1 rfl T.range (@pa_consX _ _ _ _ _ (by rfl) (pe_def (by rfl) (by rfl) (by rfl) (by decide) Tk (hr.mono (by decide)) (@pa_consX _ _ _ _ _ (by rfl) (pv 0) (@pa_consX _ _ _ _ _ (by rfl) (pe_ix ix_list (@pe_lstS _ _ _ _ (@pa_consX _ _ _ _ _ (by rfl) pe_int (@pa_consX _ _ _ _ _ (by rfl) pe_int pa_nil))) (pe_def (by rfl) (by rfl) (by rfl) (by decide) Tk (hr.mono (by decide)) (@pa_consX _ _ _ _ _ (by rfl) (pv 0) (@pa_consX _ _ _ _ _ (by rfl) pe_int pa_nil))) (fun _ _ => rfl)) pa_nil))) pa_nil)) (by show ∀ y : Str × NameKind, y ∈ _ → y.2 = NameKind.free → (defScope s_law_parted).names.lookup y.1 = some .cell; decide +kernel) (by decide) rfl (by decide +kernel) ⟨⟨rfl, rfl, .inl rfl⟩, trivial⟩
          (fun cl C s H fp => (pg_name (i := 0) (show (["k", "draws"] : List Str).Nodup by decide +kernel) rfl (Or.inl rfl) (.inr rfl)))
          (fun cl C s H fp => pts_nil)
          (fun cl C s H fp => (pe_def (by rfl) (by rfl) (by rfl) (by decide) Tk (hr.mono (by decide)) (@pa_consX _ _ _ _ _ (by rfl) (pv 1) (@pa_consX _ _ _ _ _ (by rfl) pe_int pa_nil))))))
      (@pss_cons _ _ _ _ _ (ps_expr (pe_bm PySem.F.plainAttrs_list PySem.F.slot_list_append PySem.F.type_list_append mt_append (pv 2) (@pa_consX _ _ _ _ _ (by rfl) (pe_op op_add pe_int (pe_def (by rfl) (by rfl) (by rfl) (by decide) Tk (hr.mono (by decide)) (@pa_consX _ _ _ _ _ (by rfl) (pv 0) (@pa_consX _ _ _ _ _ (by rfl) pe_int pa_nil)))) pa_nil)))
      (@pss_mid _ _ _ _ _ (@ps_if _ _ _ _ _ _ _ _ (pt_cmpR op_eq (pe_def (by rfl) (by rfl) (by rfl) (by decide) Tk (hr.mono (by decide)) (@pa_consX _ _ _ _ _ (by rfl) (pv 0) (@pa_consX _ _ _ _ _ (by rfl) pe_int pa_nil))) pe_int (nomark _))
        (@pss_one _ _ _ (@ps_setX _ _ 2 _ _ _ _ (by rfl) (Or.inl rfl) nd rfl (Or.inr rfl) (pe_compC ["k", "weight"] [none, none] rfl (pi_enLK (by rfl) (by rfl) rfl T.enu (@pa_consX _ _ _ _ _ (by rfl) (pv 2) pa_nil)) (by show ∀ y : Str × NameKind, y ∈ _ → y.2 = NameKind.free → (defScope s_law_parted).names.lookup y.1 = some .cell; decide +kernel) (by decide) rfl (by decide +kernel) trivial
          (fun cl C s H fp => (pg_tupK (K := K) 2 rfl rfl (pgs_cons (pg_name (i := 0) (show (["k", "weight"] : List Str).Nodup by decide +kernel) rfl (Or.inl rfl) (.inr rfl)) (pgs_cons (pg_name (i := 1) (show (["k", "weight"] : List Str).Nodup by decide +kernel) rfl (Or.inl rfl) (.inr rfl)) pgs_nil))))
          (fun cl C s H fp => pts_nil)
          (fun cl C s H fp => (pe_op op_add (pe_op op_mul (pv 1) (pe_op op_pow pe_int pe_int)) (pv 0))))))
        pss_nil)
      (@pss_one _ _ _ (@ps_ret _ _ _ _ (pe_compC ["weight", "draws", "pages", "weights"] [none, some 0, some 1, some 2] rfl (@pi_list _ _ _ _ (pv 2)) (by show ∀ y : Str × NameKind, y ∈ _ → y.2 = NameKind.free → (defScope s_law_parted).names.lookup y.1 = some .cell; decide +kernel) (by decide) rfl (by decide +kernel) ⟨⟨rfl, rfl, .inl rfl⟩, ⟨rfl, rfl, .inl rfl⟩, ⟨rfl, rfl, .inl rfl⟩, trivial⟩
          (fun cl C s H fp => (pg_name (i := 0) (show (["weight", "draws", "pages", "weights"] : List Str).Nodup by decide +kernel) rfl (Or.inl rfl) (.inr rfl)))
          (fun cl C s H fp => pts_nil)
          (fun cl C s H fp => (@pe_tupS _ _ _ _ _ (@pa_consX _ _ _ _ _ (by rfl) (pe_def (by rfl) (by rfl) (by rfl) (by decide) Fr (hr.mono (by decide)) (@pa_consX _ _ _ _ _ (by rfl) (pv 0) (@pa_consX _ _ _ _ _ (by rfl) (pe_callB (call_sumK (K := K) rfl rfl) (by rfl) T.sum boot_sum (@pa_consX _ _ _ _ _ (by rfl) (pv 3) pa_nil)) pa_nil))) (@pa_consX _ _ _ _ _ (by rfl) (pe_def (by rfl) (by rfl) (by rfl) (by decide) Ls (hr.mono (by decide)) (@pa_consX _ _ _ _ _ (by rfl) (pv 1) (@pa_consX _ _ _ _ _ (by rfl) (pv 2) pa_nil))) pa_nil)))))))))), ?_⟩
    refine ⟨_, rfl, (by show 2 ≤ sizeLine; decide), fun b1 G1 t1 hb1 eb1 => ?_⟩
    have hb1d : b1 ≠ d := hd.ne hb1
    refine ⟨_, rfl, d, 2, rfl, by decide, hd.same t1, fun x G2 x0 x1 h2 k2 => ?_⟩
    obtain ⟨mm, e2, m0, m1⟩ : ∃ mm : Int, atI [V.int 4, V.int 12] x = some (.int mm) ∧ 0 < mm ∧ mm ≤ 12 := by
      have : x = 0 ∨ x = 1 := by omega
      rcases this with rfl | rfl
      · exact ⟨4, rfl, by decide, by decide⟩
      · exact ⟨12, rfl, by decide, by decide⟩
    refine ⟨b1, _, _, _, rfl, rfl, SqL.of (k2 _ _ eb1 hb1d), e2, d, mm, rfl, m0, h2, fun kk G3 kk0 kk1 h3 k3 => ?_⟩
    have K3 : Kp d H G3 := (Same.kpd t1).trans (k2.trans k3)
    refine ⟨_, rfl, by omega, by omega, fun D hD => ?_⟩
    have hDd := h3.ne hD
    have hDH : H D = none := K3.freeD h3 hD
    refine comp_rng (lo := 0) (n := kk.toNat) (D := D) (fun i ys σ H' => DrawsAt H' d ∧ Kp d H H' ∧ H' D = some (.lst ys) ∧ (∃ ns : List Int, ys = ns.map V.int ∧ ns.length = i ∧ ∀ n ∈ ns, 0 ≤ n ∧ n < 1000) ∧ ∃ x, σ = [x, some (.ref d)]) ?_ ?_ ?_ ?_
    · exact ⟨h3.same (Same.new hD), K3.trans (Kp.new hD), upd_same, ⟨[], rfl, rfl, fun n hn => by simp at hn⟩, none, rfl⟩
    · rintro i ys σ H' ⟨_, _, e, _⟩
      exact e
    · rintro i ys σ H' hi ⟨g1, g2, g3, ⟨ns, rfl, g4, g5⟩, x, rfl⟩
      dsimp only [gName]
      rw [if_pos rfl]
      refine ⟨_, rfl, d, 5, rfl, by decide, g1, fun v HL v0 v9 hL kL => ?_⟩
      have g3' : HL D = _ := kL D _ g3 hDd
      refine ⟨g3', small1000 (by rw [List.length_map]; omega), Wt.next hi ⟨?_, fun b o e n => ?_, upd_same, ⟨ns ++ [v], ?_, ?_, ?_⟩, _, rfl⟩⟩
      · obtain ⟨ns', e', z'⟩ := hL
        exact ⟨ns', by rw [upd_ne (Ne.symm hDd)]; exact e', z'⟩
      · rw [upd_ne (ne_of_none e hDH)]; exact kL b o (g2 b o e n) n
      · rw [List.map_append]; rfl
      · rw [List.length_append, List.length_singleton]; omega
      · intro n hn
        rcases List.mem_append.mp hn with hn | hn
        · exact g5 n hn
        · simp at hn
          omega
    rintro ys σ H2 ⟨g1, g2, g3, ⟨ns, rfl, g4, g5⟩, _⟩
    refine ⟨_, rfl, .inl ⟨rfl, _, SqL.of g3⟩, _, rfl, d, 999, rfl, by decide, g1, fun u H3 u0 u9 h4 k4 => ⟨_, _, rfl, rfl, ?_⟩⟩
    have g3' := k4 _ _ g3 hDd
    refine ⟨D, _, _, rfl, rfl, g3', (by rw [List.length_map]; exact small1000 (by omega)), ?_⟩
    have eU : (upd H3 D (.lst (ns.map V.int ++ [.int (1 + u)]))) D = some (.lst ((ns ++ [1 + u]).map V.int)) := by rw [upd_same, List.map_append]; rfl
    have hU : DrawsAt (upd H3 D (.lst (ns.map V.int ++ [.int (1 + u)]))) d := by
      obtain ⟨ns', e', z'⟩ := h4
      exact ⟨ns', by rw [upd_ne (Ne.symm hDd)]; exact e', z'⟩
    have kU : Kp d H (upd H3 D (.lst (ns.map V.int ++ [.int (1 + u)]))) := fun b o e n => by
      rw [upd_ne (ne_of_none e hDH)]
      exact k4 _ _ (g2 _ _ e n) n
    have nn : ∀ n ∈ ns ++ [1 + u], 0 ≤ n ∧ n < 1000 := fun n hn => by
      rcases List.mem_append.mp hn with hn | hn
      · exact g5 n hn
      · simp at hn
        omega
    have ln : (ns ++ [1 + u]).length = kk.toNat + 1 := by rw [List.length_append, List.length_singleton]; omega
    have mU : 1 + u ∈ ns ++ [1 + u] := List.mem_append_right _ List.mem_cons_self
    generalize upd H3 D (.lst (ns.map V.int ++ [.int (1 + u)])) = U at eU hU kU
    generalize ns ++ [1 + u] = vs at eU nn ln mU
    have wU : Wts (kk + 1) vs := ⟨by omega, fun n hn => by have := nn n hn; omega, Pw.sum_pos (m := 1 + u) (fun n hn => (nn n hn).1) mU (by omega)⟩
    refine ⟨fun σ G => DrawsAt G d ∧ Kp d H G ∧ ∃ (W : Addr) (ws : List Int), G W = some (.lst (ws.map V.int)) ∧ W ≠ d ∧ Wts (kk + 1) ws ∧ σ = [some (.ref d), some (.int pages), some (.ref W)], ?_, ?_⟩
    · refine ⟨_, rfl, d, 4, rfl, by decide, hU, fun q H5 q0 q4 h5 k5 => ⟨rfl, _, rfl, if2 (fun _ => ?_) (fun _ => ?_)⟩⟩
      · have e5 := k5 _ _ eU hDd
        refine ⟨_, rfl, D, _, rfl, SqL.of e5, fun D2 hD2 => ?_⟩
        have hD2d := h5.ne hD2
        refine comp_enL (K := K) (a := D) (D := D2) (xs := vs.map V.int) (fun i ys σ G => Same H5 G ∧ G D2 = some (.lst ys) ∧ ys = ((List.range i).map fun t => vs.getD t 0 * 10 ^ (8 : Int).toNat + ((t : Nat) : Int)).map V.int ∧ ∃ x y, σ = [x, y]) ?_ ?_ ?_ ?_
        · exact ⟨Same.new hD2, upd_same, rfl, none, none, rfl⟩
        · rintro i ys σ G ⟨t1, e1, _⟩
          exact ⟨SqL.of (t1 _ _ e5), e1⟩
        · rintro i x ys σ G TT G' hi hlt ⟨t1, e1, rfl, x', y', rfl⟩ hTT sG eT
          rw [List.length_map] at hlt
          have ex : x = .int (vs.getD i 0) := by
            rw [List.getElem?_map, getD_mapI (by omega)] at hi
            cases hi; rfl
          subst ex
          have hv := nn _ (List.mem_of_getElem? (getD_mapI (show i < vs.length by omega)))
          refine ⟨TT, _, rfl, SqT.of eT, rfl, _, _, rfl, _, _, rfl, rfl, ?_⟩
          dsimp only [gName]
          rw [if_pos rfl]
          refine ⟨_, rfl, _, _, rfl, rfl, ⟨by decide, by decide, by decide⟩, _, _, rfl, rfl, .inl ⟨by omega, by omega⟩, _, rfl, _, _, rfl, rfl, sG _ _ e1, ?_, Wt.next (by rw [List.length_map]; exact hlt) ⟨fun b o e => ?_, upd_same, ?_, _, _, rfl⟩⟩
          · rw [List.length_map, List.length_map, List.length_range]
            exact small1000 (by omega)
          · rw [upd_ne (ne_of_none e hD2)]; exact sG _ _ (t1 _ _ e)
          · rw [List.range_succ, List.map_append, List.map_append]; rfl
        · rintro ys σ G ⟨t1, e1, rfl, _⟩
          rw [List.length_map, ln] at e1
          refine ⟨h5.same t1, kU.trans (k5.trans (Same.kpd t1)), D2, _, e1, hD2d, ?_, rfl⟩
          have e9 : (10 : Int) ^ (8 : Int).toNat = 100000000 := by decide
          have nn2 : ∀ n ∈ (List.range (kk.toNat + 1)).map (fun t => vs.getD t 0 * 10 ^ (8 : Int).toNat + ((t : Nat) : Int)), 0 ≤ n ∧ n < 2 ^ 37 := fun n hn => by
            obtain ⟨t, ht, rfl⟩ := List.mem_map.mp hn
            have ht := List.mem_range.mp ht
            have hv := nn _ (List.mem_of_getElem? (getD_mapI (show t < vs.length by omega)))
            rw [e9]
            omega
          obtain ⟨i0, hi0, ei0⟩ := List.getElem_of_mem mU
          refine ⟨by rw [List.length_map, List.length_range]; omega, nn2, Pw.sum_pos (m := vs.getD i0 0 * 10 ^ (8 : Int).toNat + ((i0 : Nat) : Int)) (fun n hn => (nn2 n hn).1) (List.mem_map.mpr ⟨i0, List.mem_range.mpr (by omega), rfl⟩) ?_⟩
          have : vs.getD i0 0 = 1 + u := by rw [List.getD_eq_getElem?_getD, List.getElem?_eq_getElem hi0, ei0]; rfl
          rw [this, e9]
          omega
      · exact ⟨h5, kU.trans k5, D, vs, k5 _ _ eU hDd, hDd, wU, rfl⟩
    rintro σ G ⟨hG, kG, W, ws, eW, hWd, wt, rfl⟩
    have hl := wt.len
    refine ⟨_, rfl, W, rfl, ⟨_, SqL.of eW⟩, fun D3 hD3 => ?_⟩
    have hD3d := hG.ne hD3
    have hW3 : W ≠ D3 := ne_of_none eW hD3
    have hp := wt.pos
    have zs := wt.sz (show kk + 1 ≤ 12 by omega)
    refine comp_lst (K := K) (a := W) (D := D3) (xs := ws.map V.int) (fun i ys σ G' => DrawsAt G' d ∧ Kp d G G' ∧ G' W = some (.lst (ws.map V.int)) ∧ G' D3 = some (.lst ys) ∧ (∃ (Ms : List Pw.Mx) (P : Int), MixE K G' Ms ys ∧ Ptd pages ws Ms P ∧ Ms.length = i) ∧ ∃ x, σ = [x, some (.ref d), some (.int pages), some (.ref W)]) ?_ ?_ ?_ ?_
    · exact ⟨hG.same (Same.new hD3), Kp.new hD3, (Same.new hD3) _ _ eW, upd_same, ⟨[], 1, MixE.nil, Ptd.nil, rfl⟩, none, rfl⟩
    · rintro i ys σ G' ⟨_, _, e, e4, _⟩
      exact ⟨SqL.of e, e4⟩
    · rintro i u ys σ G' hi hlt ⟨hG', kG', eW', e4, ⟨Ms, P, me, pt, hMi⟩, x, rfl⟩
      rw [List.length_map] at hlt
      have eu : u = .int (ws.getD i 0) := by
        rw [List.getElem?_map, getD_mapI (by omega)] at hi
        cases hi; rfl
      subst eu
      have mW : ws.getD i 0 ∈ ws := List.mem_of_getElem? (getD_mapI (by omega))
      have hw := wt.nn _ mW
      dsimp only [gName]
      rw [if_pos rfl]
      refine ⟨_, rfl, _, rfl, W, ws, rfl, SqL.of eW', _, _, rfl, by omega, (sz_of 41 (by omega)), zs.mono (by decide), fun r G1 t1 f1 => ?_⟩
      have f1 : FrA K G1 r (Pw.mk (ws.getD i 0) ws.sum) := f1
      have h1 := hG'.same t1
      refine ⟨_, rfl, _, rfl, d, pages, rfl, plo, phi, h1, fun ls G2 vs us wv h2 eLs fl k2 => ⟨(by show 2 ≤ sizeLine; decide), fun q G3 t3 _ e3 => ?_⟩⟩
      have f2 : FrA K G2 r _ := k2 _ _ f1 (h1.neT f1)
      have l2 : KL G' G3 := t1.kl.trans ((h1.kl k2).trans t3.kl)
      have e5 : G3 D3 = some (.lst ys) := t3 _ _ (k2 _ _ (t1 _ _ e4) hD3d)
      have eW5 : G3 W = some (.lst (ws.map V.int)) := t3 _ _ (k2 _ _ (t1 _ _ eW') hWd)
      have h3 := h2.same t3
      refine ⟨e5, by rw [me.1]; exact small1000 (by have := pt.len; omega), Wt.next (by rw [List.length_map]; exact hlt) ⟨?_, fun b o e n => ?_, ?_, upd_same, ⟨Ms ++ [((lps ws).getD Ms.length (0, 1), lps vs)], P * vs.sum, ?_, pt.snoc (by omega) phi wv, by rw [List.length_append, hMi]; rfl⟩, _, rfl⟩⟩
      · obtain ⟨ns', e', z'⟩ := h3
        exact ⟨ns', by rw [upd_ne (Ne.symm hD3d)]; exact e', z'⟩
      · rw [upd_ne (ne_of_none e hD3)]; exact t3 _ _ (k2 _ _ (t1 _ _ (kG' _ _ e n)) n)
      · rw [upd_ne hW3]; exact eW5
      · have kl := KL.set (ys := ys ++ [.ref q]) e5
        have eg : (lps ws).getD Ms.length (0, 1) = Pw.mk (ws.getD i 0) ws.sum := by
          unfold lps
          rw [hMi, List.getD_eq_getElem?_getD, List.getElem?_map, getD_mapI (by omega)]; rfl
        refine ((me.kl l2).kl kl).snoc (p := r) (l := ls) (ws := us) (kl.tup e3) ?_ (kl.tup (t3 _ _ eLs)) ((fl.same t3).kp kl)
        rw [eg]
        exact kl.tup (t3 _ _ f2)
    · rintro ys σ G' ⟨hG', kG', eW', e4, ⟨Ms, P, me, pt, hMi⟩, _⟩
      rw [List.length_map] at hMi
      exact k D3 G' Ms ys _ hG' (me.at e4) (pt.ok wt (by omega) (by omega) plo phi hMi) (pt.one wt hMi) hD3d (kG.trans kG')
end
end Lw

set_option pp.maxSteps 800
namespace Lw
open PySem L2 PyProof.Rows
section
variable {P : Program} {w : World} {K : PySem.W.Frag} {mg : Str → Option Value} {base : Heap}
theorem sc_law_mixed_again : FnScope ["draws", "leaps", "part", "other", "some", "due", "low", "high"] ["draws", "leaps"] (defScope s_law_mixed_again) := ⟨rfl, rfl, rfl, by decide +kernel, rfl, by decide +kernel, by decide +kernel⟩
set_option maxHeartbeats 0 in
theorem d_law_mixed_again (S : Fnd K mg "_law_mixed_again" s_law_mixed_again ["draws", "leaps"]) (T : Txt mg) (Tk : Def P w K mg base 1 "_law_take" ["draws", "many"] spTake) (Fr : Def P w K mg base 1 "_law_fraction" ["above", "below"] spMadeS) (Lr : Def P w K mg base 2 "_law_rest" ["one", "other"] (spF2G K Pw.fless)) (Lu : Def P w K mg base 2 "_law_sum" ["one", "other"] (spF2G K Pw.fplus)) (Lp : Def P w K mg base 2 "_law_product" ["one", "other"] (spF2G K Pw.ftimes)) (Mi : Def P w K mg base 5 "mixed" ["some"] (spMixed K)) : Def P w K mg base 6 "_law_mixed_again" ["draws", "leaps"] (spAgain K) := S.def fun f fd F => by
  have nd := sc_law_mixed_again.nd
  refine F.ok sc_law_mixed_again (fun vs H Q E h => ?_) (fun cdv A' outer s H vs Q E hr h => ?_)
  · obtain ⟨_, _, _, _, _, rfl, _⟩ := h
    rfl
  · obtain ⟨d, l, us, Bs, n, rfl, hd, el, fl, lB, n1, n12, okB, k⟩ := h
    refine ⟨_, (@pss_cons _ _ _ _ _ (@ps_if _ _ _ _ _ _ _ _ (pt_cmpR op_gt (pe_callB (call_maxL rfl) (by rfl) T.max boot_max (@pa_consX _ _ _ _ _ (by rfl) (pe_compC ["share"] [none] rfl (pi_tup (pv 1)) (by show ∀ y : Str × NameKind, y ∈ _ → y.2 = NameKind.free → (defScope s_law_mixed_again).names.lookup y.1 = some .cell; decide +kernel) (by decide) rfl (by decide +kernel) trivial
          (fun cl C s H fp => (pg_name (i := 0) (show (["share"] : List Str).Nodup by decide +kernel) rfl (Or.inl rfl) (.inr rfl)))
          (fun cl C s H fp => pts_nil)
          (fun cl C s H fp => (pe_ix (ix_tupK (K := K) rfl) (pv 0) pe_int (fun _ _ => rfl)))) pa_nil)) (pe_op op_pow pe_int pe_int) (nomark _))
        (@pss_one _ _ _ (@ps_ret _ _ _ _ pe_bl))
        pss_nil)
      (@pss_cons _ _ _ _ _ (@ps_setX _ _ 2 _ _ _ _ (by rfl) (Or.inl rfl) nd rfl (Or.inl rfl) (pe_def (by rfl) (by rfl) (by rfl) (by decide) Fr (hr.mono (by decide)) (@pa_consX _ _ _ _ _ (by rfl) (pe_op op_add pe_int (pe_def (by rfl) (by rfl) (by rfl) (by decide) Tk (hr.mono (by decide)) (@pa_consX _ _ _ _ _ (by rfl) (pv 0) (@pa_consX _ _ _ _ _ (by rfl) pe_int pa_nil)))) (@pa_consX _ _ _ _ _ (by rfl) pe_int pa_nil))))
      (@pss_cons _ _ _ _ _ (@ps_setX _ _ 3 _ _ _ _ (by rfl) (Or.inl rfl) nd rfl (Or.inl rfl) (pe_callTy call_tupOf (by rfl) T.tup boot_tuple (@pa_consX _ _ _ _ _ (by rfl) (pe_compC ["page", "leaps"] [none, some 1] rfl (pi_range1 rfl T.range (@pa_consX _ _ _ _ _ (by rfl) (pe_callB call_len_seq (by rfl) T.len PySem.boot_len (@pa_consX _ _ _ _ _ (by rfl) (pv 1) pa_nil)) pa_nil)) (by show ∀ y : Str × NameKind, y ∈ _ → y.2 = NameKind.free → (defScope s_law_mixed_again).names.lookup y.1 = some .cell; decide +kernel) (by decide) rfl (by decide +kernel) ⟨⟨rfl, rfl, .inl rfl⟩, trivial⟩
          (fun cl C s H fp => (pg_name (i := 0) (show (["page", "leaps"] : List Str).Nodup by decide +kernel) rfl (Or.inl rfl) (.inr rfl)))
          (fun cl C s H fp => pts_nil)
          (fun cl C s H fp => (pe_def (by rfl) (by rfl) (by rfl) (by decide) Fr (hr.mono (by decide)) (@pa_consX _ _ _ _ _ (by rfl) (pe_callTy call_int1 (by rfl) T.int boot_int (@pa_consX _ _ _ _ _ (by rfl) (pe_cmpR op_eq (pv 0) (pe_op op_sub (pe_callB (call_lenK (K := K) rfl) (by rfl) T.len PySem.boot_len (@pa_consX _ _ _ _ _ (by rfl) (pv 1) pa_nil)) pe_int) (nomark _)) pa_nil)) (@pa_consX _ _ _ _ _ (by rfl) pe_int pa_nil))))) pa_nil)))
      (@pss_cons _ _ _ _ _ (@ps_setX _ _ 4 _ _ _ _ (by rfl) (Or.inl rfl) nd rfl (Or.inl rfl) (@pe_lstS _ _ _ _ (@pa_consX _ _ _ _ _ (by rfl) (@pe_tupS _ _ _ _ _ (@pa_consX _ _ _ _ _ (by rfl) (pv 2) (@pa_consX _ _ _ _ _ (by rfl) (pv 1) pa_nil))) (@pa_consX _ _ _ _ _ (by rfl) (@pe_tupS _ _ _ _ _ (@pa_consX _ _ _ _ _ (by rfl) (pe_def (by rfl) (by rfl) (by rfl) (by decide) Lr (hr.mono (by decide)) (@pa_consX _ _ _ _ _ (by rfl) (@pe_tupS _ _ _ _ _ (@pa_consX _ _ _ _ _ (by rfl) pe_int (@pa_consX _ _ _ _ _ (by rfl) pe_int pa_nil))) (@pa_consX _ _ _ _ _ (by rfl) (pv 2) pa_nil))) (@pa_consX _ _ _ _ _ (by rfl) (pv 3) pa_nil))) pa_nil))))
      (@pss_cons _ _ _ _ _ (@ps_setX _ _ 5 _ _ _ _ (by rfl) (Or.inl rfl) nd rfl (Or.inl rfl) (@pe_lstS _ _ _ _ pa_nil))
      (@pss_cons _ _ _ _ _ (@ps_forX _ _ _ _ _ _ _ _ (fun _ => rfl) PassesOwn.never rfl (pi_zipSK (by rfl) (by rfl) (by rfl) rfl T.zip (@pa_consX _ _ _ _ _ (by rfl) (pv 1) (@pa_consX _ _ _ _ _ (by rfl) (pv 3) pa_nil))) (pg_tup rfl (pgs_cons (pg_name (i := 6) nd rfl (Or.inl rfl)) (pgs_cons (pg_name (i := 7) nd rfl (Or.inl rfl)) pgs_nil)))
        (@pss_one _ _ _ (ps_expr (pe_bm PySem.F.plainAttrs_list PySem.F.slot_list_append PySem.F.type_list_append mt_append (pv 5) (@pa_consX _ _ _ _ _ (by rfl) (pe_def (by rfl) (by rfl) (by rfl) (by decide) Lu (hr.mono (by decide)) (@pa_consX _ _ _ _ _ (by rfl) (pe_def (by rfl) (by rfl) (by rfl) (by decide) Lp (hr.mono (by decide)) (@pa_consX _ _ _ _ _ (by rfl) (pv 2) (@pa_consX _ _ _ _ _ (by rfl) (pv 6) pa_nil))) (@pa_consX _ _ _ _ _ (by rfl) (pe_def (by rfl) (by rfl) (by rfl) (by decide) Lp (hr.mono (by decide)) (@pa_consX _ _ _ _ _ (by rfl) (pe_ix ix_tup (pe_ix ix_list (pv 4) pe_int (fun _ _ => rfl)) pe_int (fun _ _ => rfl)) (@pa_consX _ _ _ _ _ (by rfl) (pv 7) pa_nil))) pa_nil))) pa_nil)))))
      (@pss_one _ _ _ (@ps_ret _ _ _ _ (pe_and (pe_cmpR (op_eqD hr) (pe_def (by rfl) (by rfl) (by rfl) (by decide) Mi (hr.mono (by decide)) (@pa_consX _ _ _ _ _ (by rfl) (pe_callTy call_listS (by rfl) T.lst boot_list (@pa_consX _ _ _ _ _ (by rfl) (pv 4) pa_nil)) pa_nil)) (pe_callTy call_tupOf (by rfl) T.tup boot_tuple (@pa_consX _ _ _ _ _ (by rfl) (pv 5) pa_nil)) (nomark _)) (pe_one (pe_cmpR (op_eqD hr) (pe_def (by rfl) (by rfl) (by rfl) (by decide) Mi (hr.mono (by decide)) (@pa_consX _ _ _ _ _ (by rfl) (pe_revL (pv 4) pe_neg1) pa_nil)) (pe_callTy call_tupOf (by rfl) T.tup boot_tuple (@pa_consX _ _ _ _ _ (by rfl) (pv 5) pa_nil)) (nomark _)))))))))))), ?_⟩
    have hl := fl.len
    refine ⟨_, rfl, l, rfl, ⟨_, SqT.of el⟩, fun D hD => ?_⟩
    refine comp_tup (K := K) (a := l) (D := D) (xs := us) (fun i ys σ G => Same H G ∧ G D = some (.lst ys) ∧ ys = ((Bs.take i).map (·.2)).map V.int ∧ ∃ x, σ = [x]) ?_ ?_ ?_ ?_
    · exact ⟨Same.new hD, upd_same, rfl, none, rfl⟩
    · rintro i ys σ G ⟨s1, e1, _⟩
      exact ⟨SqT.of (s1 _ _ el), e1⟩
    · rintro i x ys σ G hi hlt ⟨s1, e1, rfl, x', rfl⟩
      have hB : Bs[i]? = some Bs[i] := by simp
      obtain ⟨q, eq, fq⟩ := fl.at hB
      rw [hi] at eq
      cases eq
      dsimp only [gName]
      rw [if_pos rfl]
      refine ⟨_, rfl, q, _, _, _, rfl, rfl, SqT.of (s1 _ _ fq), rfl, e1, ?_, Wt.next hlt ⟨fun b o e => ?_, upd_same, ?_, _, rfl⟩⟩
      · rw [List.length_map, List.length_map, List.length_take]
        exact small1000 (by omega)
      · rw [upd_ne (ne_of_none e hD)]; exact s1 _ _ e
      · rw [List.take_succ, hB, List.map_append, List.map_append]; rfl
    rintro ys σ G1 ⟨s1, e1, rfl, _⟩
    rw [hl, List.take_of_length_le (Nat.le_refl _)] at e1
    refine ⟨D, Bs.map (·.2), rfl, e1, fun z => by
      rw [List.map_eq_nil_iff] at z
      rw [z] at lB
      have : (0 : Nat) = n := lB
      omega, fun m hm hmx => ?_⟩
    refine ⟨_, _, rfl, rfl, ⟨by decide, by decide, by decide⟩, _, _, rfl, rfl, _, rfl, if2 (fun _ => k G1 (hd.same s1) (Same.kpd s1)) (fun hF => ?_)⟩
    have hF : ¬ (10 : Int) ^ (15 : Int).toNat < m := of_decide_eq_false hF
    have zB : ∀ B ∈ Bs, B.2 ≤ 1000000000000000 := fun B hB => by
      have := hmx B.2 (List.mem_map.mpr ⟨B, hB, rfl⟩)
      have : (10 : Int) ^ (15 : Int).toNat = 1000000000000000 := by decide
      omega
    have fB : ∀ B ∈ Bs, Pw.F01 B := fun B hB => by
      obtain ⟨c, lo, hi⟩ := okB B hB
      have := zB B hB
      exact ⟨c, lo, hi, sz_of 60 (by omega), sz_of 60 (by omega)⟩
    have h1 := hd.same s1
    refine ⟨_, rfl, d, 99, rfl, by decide, h1, fun y G2 y0 y1 h2 k2 => ⟨_, _, rfl, rfl, _, _, rfl, by decide, sz_of 41 (by omega), sz_of 41 (by decide), fun p G3 t3 f3 => ?_⟩⟩
    have fp : Pw.F01 (Pw.mk (1 + y) 100) := ⟨Pw.canon_mk (by decide), Pw.mk_nonneg (by decide) (by omega), Pw.mk_le1 (by decide) (by omega), (mk_sz (n := 41) (by decide) (sz_of 41 (by omega)) (sz_of 41 (by decide))).mono (by decide)⟩
    have dp : (Pw.mk (1 + y) 100).2 ∣ 100 := Pw.mk_dvd2 (by decide)
    have f3 : FrA K G3 p (Pw.mk (1 + y) 100) := f3
    generalize Pw.mk (1 + y) 100 = A at f3 fp dp
    have h3 := h2.same t3
    have K3 : Kp d H G3 := (Same.kpd s1).trans (k2.trans (Same.kpd t3))
    have el3 : G3 l = some (.tup us) := K3 _ _ el (hd.neT el)
    have fl3 : FrL K G3 Bs us := fl.kp (hd.kl K3)
    refine ⟨_, rfl, l, _, rfl, .inr (SqT.of el3), _, rfl, by omega, by omega, fun D2 hD2 => ?_⟩
    have hlm : ((us.length : Nat) : Int).toNat = n := by omega
    rw [hlm]
    refine comp_rng (lo := 0) (n := n) (D := D2) (fun i ys σ G => Same G3 G ∧ G D2 = some (.lst ys) ∧ (∃ Os : List (Int × Int), FrL K G Os ys ∧ Os.length = i ∧ ∀ O ∈ Os, Pw.F01 O ∧ O.2 = 1) ∧ ∃ x, σ = [x, some (.ref l)]) ?_ ?_ ?_ ?_
    · exact ⟨Same.new hD2, upd_same, ⟨[], rfl, rfl, fun O hO => by simp at hO⟩, none, rfl⟩
    · rintro i ys σ G ⟨_, e, _⟩
      exact e
    · rintro t ys σ G ht ⟨s4, e4, ⟨Os, f4, lO, hO⟩, x, rfl⟩
      rw [Int.zero_add]
      dsimp only [gName]
      rw [if_pos rfl]
      refine ⟨_, rfl, _, rfl, l, _, rfl, .inr (SqT.of (s4 _ _ el3)), _, _, rfl, rfl, rfl, .inr ⟨_, rfl, ?_⟩⟩
      generalize hxx : (if decide (V.int ((t : Nat) : Int) = V.int (((us.length : Nat) : Int) - 1)) = true then (1 : Int) else 0) = xx
      have hx01 : 0 ≤ xx ∧ xx ≤ 1 := by rw [← hxx]; split <;> omega
      have cx : Pw.Canon (xx, 1) := ⟨(show (0 : Int) < 1 by decide), by show Int.gcd xx 1 = 1; exact Int.gcd_one_right _⟩
      refine ⟨_, _, rfl, by decide, sz_of 41 (by omega), sz_of 41 (by decide), fun r G5 t5 f5 => ?_⟩
      have f5 : FrA K G5 r (Pw.mk ((xx, 1) : Int × Int).1 ((xx, 1) : Int × Int).2) := f5
      rw [Pw.mk_canon cx] at f5
      have e5 := t5 _ _ e4
      refine ⟨e5, by rw [f4.len, lO]; exact small1000 (by omega), Wt.next ht ⟨fun b o e => ?_, upd_same, ⟨Os ++ [(xx, 1)], ((f4.same t5).snoc f5).kp (KL.set e5), by rw [List.length_append, lO]; rfl, fun O hm => ?_⟩, _, rfl⟩⟩
      · rw [upd_ne (ne_of_none e hD2)]; exact t5 _ _ (s4 _ _ e)
      · rcases List.mem_append.mp hm with hm | hm
        · exact hO O hm
        · simp at hm
          subst hm
          exact ⟨⟨cx, hx01.1, hx01.2, sz_of 41 (by show xx.natAbs < _; omega), (show Sz 100 (1 : Int) from sz_of 41 (by decide))⟩, rfl⟩
    rintro ys σ G4 ⟨s4, e4, ⟨Os, f4, lO, hO⟩, _⟩
    refine ⟨D2, ys, rfl, SqL.of e4, fun o G5 t5 _ e5 => ?_⟩
    have s5 := s4.trans t5
    have f5 := f4.same t5
    have lys := f4.len
    refine ⟨_, rfl, _, rfl, (by show 2 ≤ sizeLine; decide), fun q1 G6 t6 _ e6 => ?_⟩
    refine ⟨(by show 2 ≤ sizeLine; decide), fun oo G7 t7 _ e7 => ?_⟩
    have s7 := s5.trans (t6.trans t7)
    refine ⟨_, rfl, oo, p, (1, 1), A, rfl, SqT.of e7, SqF.of (s7 _ _ f3), by decide, fp.c.1, ⟨sz_of 1 (by decide), sz_of 1 (by decide)⟩, fp.sz.mono (by decide), fun r G8 t8 f8 => ?_⟩
    rw [Pw.fless_one fp.c] at f8
    have fr := Pw.f01_rest fp
    generalize hR : (A.2 - A.1, A.2) = R at f8 fr
    have dr : R.2 ∣ 100 := by rw [← hR]; exact dp
    refine ⟨_, rfl, (by show 2 ≤ sizeLine; decide), fun q2 G9 t9 _ e9 => ⟨(by show 2 ≤ sizeLine; decide), fun L G10 t10 hL eL => ?_⟩⟩
    have s8 : Same G5 G10 := t6.trans (t7.trans (t8.trans (t9.trans t10)))
    have s10 : Same G3 G10 := s5.trans s8
    have h10 := h3.same s10
    have eq1 : G10 q1 = some (.tup [.ref p, .ref l]) := t10 _ _ (t9 _ _ (t8 _ _ (t7 _ _ e6)))
    have eq2 : G10 q2 = some (.tup [.ref r, .ref o]) := t10 _ _ e9
    have fr10 : FrA K G10 r R := t10 _ _ (t9 _ _ f8)
    have mix : MixE K G10 [(A, Bs), (R, Os)] [.ref q1, .ref q2] := ((MixE.nil.snoc (M := (A, Bs)) eq1 (s10 _ _ f3) (s10 _ _ el3) (fl3.same s10)).snoc (M := (R, Os)) eq2 fr10 (s8 _ _ e5) (f5.same s8))
    have ok2 := Pw.mix2_ok n12 fp fr dp dr lB lO fB zB hO
    refine ⟨(by show 0 ≤ sizeLine; decide), fun du G11 t11 hdu e11 => ?_⟩
    have s11 := s10.trans t11
    have hdud : du ≠ d := h10.ne hdu
    have hduL : L ≠ du := ne_of_none eL hdu
    refine ⟨_, rfl, _, rfl, false, false, l, o, us, ys, rfl, SqT.of (s11 _ _ el3), SqT.of (t11 _ _ (s8 _ _ e5)), ?_⟩
    have kdu : ∀ {G : Hp}, Kp du G11 G → KL G10 G := fun {G} kk b oo e nb => kk b oo (t11 _ _ e) (ne_of_none e hdu)
    refine for_zipS (K := K) (b1 := false) (b2 := false) (a := l) (b := o) (xs := us) (zs := ys) (by omega) (fun i σ G => Kp du G11 G ∧ ∃ (zs : List V) (v6 v7 : Option V), G du = some (.lst zs) ∧ FrL K G ((Pw.mixL [(A, Bs), (R, Os)] n).take i) zs ∧ σ = [some (.ref d), some (.ref l), some (.ref p), some (.ref o), some (.ref L), some (.ref du), v6, v7]) ?_ ?_ ?_ ?_
    · exact ⟨fun b oo e _ => e, [], none, none, e11, rfl, rfl⟩
    · rintro i σ G ⟨kk, _⟩
      have kl := kdu kk
      exact ⟨SqT.of (kl.tup (s10 _ _ el3)), SqT.of (kl.tup (s8 _ _ e5))⟩
    · rintro i x z σ G TT G' hi hz hlt ⟨kk, zs, v6, v7, eD, fz, rfl⟩ hTT sT eT
      have kl : KL G10 G' := (kdu kk).trans sT.kl
      have hin : i < n := by omega
      have hB : Bs[i]? = some Bs[i] := by simp
      have hOi : Os[i]? = some Os[i] := by simp
      obtain ⟨qa, ea, fa⟩ := ((fl3.same s10).kp kl).at hB
      obtain ⟨qb, eb, fb⟩ := ((f5.same s8).kp kl).at hOi
      rw [hi] at ea
      rw [hz] at eb
      cases ea
      cases eb
      have a := fB _ (List.mem_of_getElem? hB)
      have b := (hO _ (List.mem_of_getElem? hOi)).1
      have eLG : G' L = some (.lst [.ref q1, .ref q2]) := sT _ _ (kk _ _ (t11 _ _ eL) hduL)
      refine ⟨TT, _, rfl, SqT.of eT, rfl, _, _, rfl, _, _, rfl, rfl, ?_⟩
      refine ⟨_, rfl, .inl ⟨rfl, _, SqL.of (sT _ _ eD)⟩, ?_⟩
      refine ⟨_, rfl, _, rfl, p, qa, A, _, rfl, SqF.of (kl.tup (s10 _ _ f3)), SqF.of fa, fp.c.1, a.c.1, fp.sz.mono (by decide), a.sz.mono (by decide), fun r1 V1 u1 g1 => ?_⟩
      refine ⟨_, rfl, L, _, 1, _, rfl, rfl, SqL.of (u1 _ _ eLG), rfl, q2, _, 0, _, rfl, rfl, SqT.of (u1 _ _ (kl.tup eq2)), rfl, _, rfl, r, qb, R, _, rfl, SqF.of (u1 _ _ (kl.tup fr10)), SqF.of (u1 _ _ fb), fr.c.1, b.c.1, fr.sz.mono (by decide), b.sz.mono (by decide), fun r2 V2 u2 g2 => ?_⟩
      have c1 := Pw.canon_ftimes (Pw.canon_ne fp.c) (Pw.canon_ne a.c)
      have c2 := Pw.canon_ftimes (Pw.canon_ne fr.c) (Pw.canon_ne b.c)
      refine ⟨r1, r2, _, _, rfl, SqF.of (u2 _ _ g1), SqF.of g2, c1.1, c2.1, (ftimes_sz fp.sz a.sz (Pw.canon_ne fp.c) (Pw.canon_ne a.c)).mono (by decide), (ftimes_sz fr.sz b.sz (Pw.canon_ne fr.c) (Pw.canon_ne b.c)).mono (by decide), fun r3 V3 u3 g3 => ?_⟩
      have uu := sT.trans (u1.trans (u2.trans u3))
      have eD3 := uu _ _ eD
      have eA : Bs.getD i (0, 1) = Bs[i] := by rw [List.getD_eq_getElem?_getD, hB]; rfl
      have eO : Os.getD i (0, 1) = Os[i] := by rw [List.getD_eq_getElem?_getD, hOi]; rfl
      rw [Pw.fplus_ofQ (Pw.canon_ne c1) (Pw.canon_ne c2), Pw.val_ftimes (Pw.canon_ne fp.c) (Pw.canon_ne a.c), Pw.val_ftimes (Pw.canon_ne fr.c) (Pw.canon_ne b.c), ← eA, ← eO, ← Pw.mix2_q A R Bs Os i] at g3
      have hP : (Pw.mixL [(A, Bs), (R, Os)] n)[i]? = some (Pw.ofQ (Pw.mixQ [(A, Bs), (R, Os)] i)) := by
        unfold Pw.mixL
        rw [List.getElem?_map, List.getElem?_range hin]; rfl
      refine ⟨du, zs, _, rfl, rfl, eD3, by rw [fz.len, List.length_take]; exact small1000 (by omega), fun bb oo e nb => ?_, _, _, _, upd_same, ?_, rfl⟩
      · rw [upd_ne nb]; exact uu _ _ (kk _ _ e nb)
      · rw [List.take_succ, hP]
        exact ((fz.same uu).snoc g3).kp (KL.set eD3)
    rintro σ G ⟨kk, zs, v6, v7, eD, fz, rfl⟩
    have kl := kdu kk
    have lmx : (Pw.mixL [(A, Bs), (R, Os)] n).length = n := by unfold Pw.mixL; rw [List.length_map, List.length_range]
    rw [List.take_of_length_le (by omega)] at fz
    have eLG : G L = some (.lst [.ref q1, .ref q2]) := kk _ _ (t11 _ _ eL) hduL
    have hG : DrawsAt G d := by
      obtain ⟨ns, e, zz⟩ := h10.same t11
      exact ⟨ns, kk _ _ e (Ne.symm hdud), zz⟩
    have KG : Kp d H G := fun bb oo e nb => by
      have e10 := (K3.trans (Same.kpd s10)) bb oo e nb
      exact kk _ _ (t11 _ _ e10) (ne_of_none e10 hdu)
    refine ⟨_, rfl, L, _, rfl, .inl (SqL.of eLG), fun L2 V1 u1 _ g1 => ?_⟩
    refine ⟨L2, _, _, n, _, rfl, ((mix.kl kl).kl u1.kl).at g1, ok2, fun m1 V2 zs1 u2 g2 w2 => ?_⟩
    refine ⟨_, rfl, du, zs, rfl, SqL.of (u2 _ _ (u1 _ _ eD)), fun m2 V3 u3 _ g3 => ?_⟩
    have u13 := u1.trans (u2.trans u3)
    refine eqTT (SqT.of (u3 _ _ g2)) (SqT.of g3) (w2.same u3) (fz.same u13) ⟨_, rfl, ifT rfl ?_⟩
    refine ⟨_, rfl, L, _, rfl, u13 _ _ eLG, fun L3 V4 u4 _ g4 => ?_⟩
    have u14 := u13.trans u4
    refine ⟨L3, _, _, n, _, rfl, ((mix.kl kl).kl u14.kl).rev.at g4, ok2.rev, fun m3 V5 zs2 u5 g5 w5 => ?_⟩
    rw [Pw.mixL_rev] at w5
    refine ⟨_, rfl, du, zs, rfl, SqL.of (u5 _ _ (u14 _ _ eD)), fun m4 V6 u6 _ g6 => ?_⟩
    have u16 := u14.trans (u5.trans u6)
    exact eqTT (SqT.of (u6 _ _ g5)) (SqT.of g6) (w5.same u6) (fz.same u16) (k V6 (hG.same u16) (KG.trans (Same.kpd u16)))
end
end Lw

set_option pp.maxSteps 800
namespace Lw
open PySem L2 PyProof.Rows
section
variable {P : Program} {w : World} {K : PySem.W.Frag} {mg : Str → Option Value} {base : Heap}
theorem sc_law_are_fractions : FnScope ["found", "many", "part"] ["found", "many"] (defScope s_law_are_fractions) := ⟨rfl, rfl, rfl, by decide +kernel, rfl, by decide +kernel, by decide +kernel⟩
theorem d_law_are_fractions (S : Fnd K mg "_law_are_fractions" s_law_are_fractions ["found", "many"]) (T : Txt mg) (Fr : Def P w K mg base 1 "_law_fraction" ["above", "below"] spMadeS) : Def P w K mg base 2 "_law_are_fractions" ["found", "many"] (spAreF K) := S.def fun f fd F => by
  have nd := sc_law_are_fractions.nd
  refine F.ok sc_law_are_fractions (fun vs H Q E h => ?_) (fun cdv A' outer s H vs Q E hr h => ?_)
  · obtain ⟨_, _, _, _, rfl, _⟩ := h
    rfl
  · obtain ⟨p, us, As, n, rfl, hp, fl, cA, zA, hn, k⟩ := h
    refine ⟨_, (@pss_cons _ _ _ _ _ (@ps_if _ _ _ _ _ _ _ _ (PW.pt (pw_or (pt_not (pt_val (pe_callB call_isi (by rfl) T.isi boot_isinstance (@pa_consX _ _ _ _ _ (by rfl) (pv 0) (@pa_consX _ _ _ _ _ (by rfl) (pe_bltn (v := .ty "tuple") (by rfl) T.tup boot_tuple rfl) pa_nil))))) (pw_or1 (pt_cmpR op_ne (pe_callB call_len_seq (by rfl) T.len PySem.boot_len (@pa_consX _ _ _ _ _ (by rfl) (pv 0) pa_nil)) (pv 1) (nomark _)))))
        (@pss_one _ _ _ (@ps_ret _ _ _ _ pe_bl))
        pss_nil)
      (@pss_cons _ _ _ _ _ (@ps_forX _ _ _ _ _ _ _ _ (fun _ => rfl) PassesOwn.never rfl (pi_tup (pv 0)) (pg_name (i := 2) nd rfl (Or.inl rfl))
        (@pss_cons _ _ _ _ _ (@ps_if _ _ _ _ _ _ _ _ (PW.pt (pw_or (pt_not (pt_val (pe_callB call_isi (by rfl) T.isi boot_isinstance (@pa_consX _ _ _ _ _ (by rfl) (pv 2) (@pa_consX _ _ _ _ _ (by rfl) (pe_bltn (v := .ty "tuple") (by rfl) T.tup boot_tuple rfl) pa_nil))))) (pw_or (pt_cmpR op_ne (pe_callB call_len_seq (by rfl) T.len PySem.boot_len (@pa_consX _ _ _ _ _ (by rfl) (pv 2) pa_nil)) pe_int (nomark _)) (pw_or (pt_val (pe_callB call_isi (by rfl) T.isi boot_isinstance (@pa_consX _ _ _ _ _ (by rfl) (pe_ix ix_tup (pv 2) pe_int (fun _ _ => rfl)) (@pa_consX _ _ _ _ _ (by rfl) (pe_bltn (v := .ty "bool") (by rfl) T.bool boot_bool rfl) pa_nil)))) (pw_or1 (pt_val (pe_callB call_isi (by rfl) T.isi boot_isinstance (@pa_consX _ _ _ _ _ (by rfl) (pe_ix ix_tup (pv 2) pe_int (fun _ _ => rfl)) (@pa_consX _ _ _ _ _ (by rfl) (pe_bltn (v := .ty "bool") (by rfl) T.bool boot_bool rfl) pa_nil)))))))))
        (@pss_one _ _ _ (@ps_ret _ _ _ _ pe_bl))
        pss_nil)
      (@pss_cons _ _ _ _ _ (@ps_if _ _ _ _ _ _ _ _ (PW.pt (pw_or (pt_not (pt_val (pe_callB call_isi (by rfl) T.isi boot_isinstance (@pa_consX _ _ _ _ _ (by rfl) (pe_ix ix_tup (pv 2) pe_int (fun _ _ => rfl)) (@pa_consX _ _ _ _ _ (by rfl) (pe_bltn (v := .ty "int") (by rfl) T.int boot_int rfl) pa_nil))))) (pw_or (pt_not (pt_val (pe_callB call_isi (by rfl) T.isi boot_isinstance (@pa_consX _ _ _ _ _ (by rfl) (pe_ix ix_tup (pv 2) pe_int (fun _ _ => rfl)) (@pa_consX _ _ _ _ _ (by rfl) (pe_bltn (v := .ty "int") (by rfl) T.int boot_int rfl) pa_nil))))) (pw_or1 (pt_cmpR op_lt (pe_ix ix_tup (pv 2) pe_int (fun _ _ => rfl)) pe_int (nomark _))))))
        (@pss_one _ _ _ (@ps_ret _ _ _ _ pe_bl))
        pss_nil)
      (@pss_one _ _ _ (@ps_if _ _ _ _ _ _ _ _ (pt_cmpR (op_neD hr) (pe_def (by rfl) (by rfl) (by rfl) (by decide) Fr (hr.mono (by decide)) (@pa_consX _ _ _ _ _ (by rfl) (pe_ix ix_tup (pv 2) pe_int (fun _ _ => rfl)) (@pa_consX _ _ _ _ _ (by rfl) (pe_ix ix_tup (pv 2) pe_int (fun _ _ => rfl)) pa_nil))) (pv 2) (nomark _))
        (@pss_one _ _ _ (@ps_ret _ _ _ _ pe_bl))
        pss_nil)))))
      (@pss_one _ _ _ (@ps_ret _ _ _ _ pe_bl)))), ?_⟩
    have hl := fl.len
    refine ⟨_, rfl, _, _, _, true, rfl, .tup hp, isi_tt _, _, rfl, ifF rfl ?_⟩
    refine ⟨_, rfl, p, _, rfl, .inr (SqT.of hp), _, rfl, rfl, _, rfl, ifF (by rw [hn, hl]; exact veq rfl) ?_⟩
    refine ⟨_, rfl, p, rfl, ⟨_, SqT.of hp⟩, ?_⟩
    refine for_tup (K := K) (a := p) (xs := us) (fun i σ G => Same H G ∧ ∃ v : Option V, σ = [some (.ref p), some (.int n), v]) ⟨Same.refl _, none, rfl⟩ (fun i σ G _ h => SqT.of (h.1 _ _ hp)) ?_ ?_
    · rintro i x σ G hi ⟨sG, v, rfl⟩
      have hlt : i < us.length := (List.getElem?_eq_some_iff.mp hi).1
      have hA : As[i]? = some As[i] := by simp
      obtain ⟨q, eq, fq⟩ := fl.at hA
      rw [hi] at eq
      cases eq
      have mA := List.mem_of_getElem? hA
      have fq' := sG _ _ fq
      have ca := cA _ mA
      have za := zA _ mA
      refine ⟨_, rfl, _, _, _, true, rfl, .tup fq', isi_tt _, _, rfl, ifF rfl ?_⟩
      refine ⟨_, rfl, q, _, rfl, .inr (SqT.of fq'), rfl, _, rfl, ifF rfl ?_⟩
      refine ⟨_, rfl, q, _, _, _, rfl, rfl, SqT.of fq', rfl, _, _, _, false, rfl, .int _, isi_ib _, _, rfl, ifF rfl ?_⟩
      refine ⟨_, rfl, q, _, _, _, rfl, rfl, SqT.of fq', rfl, _, _, _, false, rfl, .int _, isi_ib _, _, rfl, ifF rfl ?_⟩
      refine ⟨_, rfl, q, _, _, _, rfl, rfl, SqT.of fq', rfl, _, _, _, true, rfl, .int _, isi_ii _, _, rfl, ifF rfl ?_⟩
      refine ⟨_, rfl, q, _, _, _, rfl, rfl, SqT.of fq', rfl, _, _, _, true, rfl, .int _, isi_ii _, _, rfl, ifF rfl ?_⟩
      refine ⟨_, rfl, q, _, _, _, rfl, rfl, SqT.of fq', rfl, _, _, rfl, rfl, _, rfl, ifF (decide_eq_false (by have := ca.1; omega)) ?_⟩
      refine ⟨_, rfl, q, _, _, _, rfl, rfl, SqT.of fq', rfl, _, rfl, q, _, _, _, rfl, rfl, SqT.of fq', rfl, _, _, rfl, Pw.canon_ne ca, za.1.mono (by decide), za.2.mono (by decide), fun r G1 s1 f1 => ?_⟩
      refine ⟨_, rfl, neF (K := K) (A := Pw.mk As[i].1 As[i].2) (B := As[i]) f1 (s1 _ _ fq') ⟨_, rfl, ifF (nd0 (Pw.mk_canon ca)) ?_⟩⟩
      exact ⟨sG.trans s1, _, rfl⟩
    · rintro σ G ⟨sG, v, rfl⟩
      exact k G sG
theorem scLaw : FnScope ["script", "draws", "many", "pages", "some", "due", "page", "handed", "found"] ["script"] (defScope sLaw) := ⟨rfl, rfl, rfl, by decide +kernel, rfl, by decide +kernel, by decide +kernel⟩
set_option maxHeartbeats 0 in
theorem ok_law {f : Addr} {fd : FuncData} (F : Fun K "law" "law" sLaw f fd) (T : Txt mg) (Dr : Def P w K mg base 1 "_law_draws" ["script"] (spDraws K)) (Tk : Def P w K mg base 1 "_law_take" ["draws", "many"] spTake) (Pa : Def P w K mg base 3 "_law_parted" ["draws", "pages"] (spPartedM K)) (To : Def P w K mg base 3 "_law_total" ["row"] (spTotS K)) (Lp : Def P w K mg base 2 "_law_product" ["one", "other"] (spF2G K Pw.ftimes)) (Mi : Def P w K mg base 5 "mixed" ["some"] (spMixed K)) (Af : Def P w K mg base 2 "_law_are_fractions" ["found", "many"] (spAreF K)) (Ag : Def P w K mg base 6 "_law_mixed_again" ["draws", "leaps"] (spAgain K)) : FnOk P w K mg base CX0 7 f fd ["script"] (spLaw K) := by
  have nd := scLaw.nd
  refine F.ok scLaw (fun vs H Q E h => ?_) (fun cdv A' outer s H vs Q E hr h => ?_)
  · obtain ⟨_, _, rfl, _⟩ := h
    rfl
  · obtain ⟨a, ns, rfl, hS, hlen, k⟩ := h
    refine ⟨_, (@pss_cons _ _ _ _ _ (@ps_setX _ _ 1 _ _ _ _ (by rfl) (Or.inl rfl) nd rfl (Or.inl rfl) (pe_def (by rfl) (by rfl) (by rfl) (by decide) Dr (hr.mono (by decide)) (@pa_consX _ _ _ _ _ (by rfl) (pv 0) pa_nil)))
      (@pss_cons _ _ _ _ _ (@ps_setX _ _ 2 _ _ _ _ (by rfl) (Or.inl rfl) nd rfl (Or.inl rfl) pe_int)
      (@pss_cons _ _ _ _ _ (ps_while PassesOwn.never (PW.pt (pw_or (pt_cmpR op_lt (pv 2) pe_int (nomark _)) (pw_or1 (PW.pt (pw_and (pt_cmpR (op_neNil hr) (pv 1) (@pe_lstS _ _ _ _ pa_nil) (nomark _)) (pw_and1 (pt_cmpR op_lt (pv 2) pe_int (nomark _))))))))
        (@pss_cons _ _ _ _ _ (@ps_setX _ _ 3 _ _ _ _ (by rfl) (Or.inl rfl) nd rfl (Or.inl rfl) (pe_op op_add pe_int (pe_def (by rfl) (by rfl) (by rfl) (by decide) Tk (hr.mono (by decide)) (@pa_consX _ _ _ _ _ (by rfl) (pv 1) (@pa_consX _ _ _ _ _ (by rfl) pe_int pa_nil)))))
      (@pss_cons _ _ _ _ _ (@ps_setX _ _ 4 _ _ _ _ (by rfl) (Or.inl rfl) nd rfl (Or.inl rfl) (pe_def (by rfl) (by rfl) (by rfl) (by decide) Pa (hr.mono (by decide)) (@pa_consX _ _ _ _ _ (by rfl) (pv 1) (@pa_consX _ _ _ _ _ (by rfl) (pv 3) pa_nil))))
      (@pss_cons _ _ _ _ _ (@ps_setX _ _ 5 _ _ _ _ (by rfl) (Or.inl rfl) nd rfl (Or.inl rfl) (@pe_lstS _ _ _ _ pa_nil))
      (@pss_cons _ _ _ _ _ (@ps_forX _ _ _ _ _ _ _ _ (fun _ => rfl) PassesOwn.never rfl (pi_range1 rfl T.range (@pa_consX _ _ _ _ _ (by rfl) (pv 3) pa_nil)) (pg_name (i := 6) nd rfl (Or.inr rfl))
        (@pss_one _ _ _ (ps_expr (pe_bm PySem.F.plainAttrs_list PySem.F.slot_list_append PySem.F.type_list_append mt_append (pv 5) (@pa_consX _ _ _ _ _ (by rfl) (pe_def (by rfl) (by rfl) (by rfl) (by decide) To (hr.mono (by decide)) (@pa_consX _ _ _ _ _ (by rfl) (pe_compC ["part", "leaps", "page"] [none, none, some 6] rfl (@pi_list _ _ _ _ (pv 4)) (by show ∀ y : Str × NameKind, y ∈ _ → y.2 = NameKind.free → (defScope sLaw).names.lookup y.1 = some .cell; decide +kernel) (by decide) rfl (by decide +kernel) ⟨⟨rfl, rfl, .inl rfl⟩, trivial⟩
          (fun cl C s H fp => (pg_tupK (K := K) 2 rfl rfl (pgs_cons (pg_name (i := 0) (show (["part", "leaps", "page"] : List Str).Nodup by decide +kernel) rfl (Or.inl rfl) (.inr rfl)) (pgs_cons (pg_name (i := 1) (show (["part", "leaps", "page"] : List Str).Nodup by decide +kernel) rfl (Or.inl rfl) (.inr rfl)) pgs_nil))))
          (fun cl C s H fp => pts_nil)
          (fun cl C s H fp => (pe_def (by rfl) (by rfl) (by rfl) (by decide) Lp (hr.mono (by decide)) (@pa_consX _ _ _ _ _ (by rfl) (pv 0) (@pa_consX _ _ _ _ _ (by rfl) (pe_ix (ix_tupK (K := K) rfl) (pv 1) (pv 2) (fun _ _ => rfl)) pa_nil))))) pa_nil)) pa_nil)))))
      (@pss_cons _ _ _ _ _ (@ps_setX _ _ 7 _ _ _ _ (by rfl) (Or.inl rfl) nd rfl (Or.inl rfl) (pe_callTy call_listS (by rfl) T.lst boot_list (@pa_consX _ _ _ _ _ (by rfl) (pv 4) pa_nil)))
      (@pss_cons _ _ _ _ _ (@ps_setX _ _ 8 _ _ _ _ (by rfl) (Or.inl rfl) nd rfl (Or.inl rfl) (pe_def (by rfl) (by rfl) (by rfl) (by decide) Mi (hr.mono (by decide)) (@pa_consX _ _ _ _ _ (by rfl) (pv 7) pa_nil)))
      (@pss_cons _ _ _ _ _ (@ps_if _ _ _ _ _ _ _ _ (PW.pt (pw_or (pt_not (pt_val (pe_def (by rfl) (by rfl) (by rfl) (by decide) Af (hr.mono (by decide)) (@pa_consX _ _ _ _ _ (by rfl) (pv 8) (@pa_consX _ _ _ _ _ (by rfl) (pv 3) pa_nil))))) (pw_or (pt_cmpR (op_neD hr) (pe_callTy call_listS (by rfl) T.lst boot_list (@pa_consX _ _ _ _ _ (by rfl) (pv 8) pa_nil)) (pv 5) (nomark _)) (pw_or1 (pt_cmpR (op_neD hr) (pv 7) (pv 4) (nomark _))))))
        (@pss_one _ _ _ (@ps_ret _ _ _ _ pe_bl))
        pss_nil)
      (@pss_cons _ _ _ _ _ (@ps_if _ _ _ _ _ _ _ _ (PW.pt (pw_or (pt_cmpR (op_neD hr) (pe_def (by rfl) (by rfl) (by rfl) (by decide) To (hr.mono (by decide)) (@pa_consX _ _ _ _ _ (by rfl) (pv 8) pa_nil)) (@pe_tupS _ _ _ _ _ (@pa_consX _ _ _ _ _ (by rfl) pe_int (@pa_consX _ _ _ _ _ (by rfl) pe_int pa_nil))) (nomark _)) (pw_or1 (pt_cmpR (op_neD hr) (pe_def (by rfl) (by rfl) (by rfl) (by decide) Mi (hr.mono (by decide)) (@pa_consX _ _ _ _ _ (by rfl) (pe_revL (pv 4) pe_neg1) pa_nil)) (pv 8) (nomark _)))))
        (@pss_one _ _ _ (@ps_ret _ _ _ _ pe_bl))
        pss_nil)
      (@pss_cons _ _ _ _ _ (ps_expr (pe_bm PySem.F.plainAttrs_list PySem.F.slot_list_append PySem.F.type_list_append mt_append (pv 7) (@pa_consX _ _ _ _ _ (by rfl) pe_non pa_nil)))
      (@pss_cons _ _ _ _ _ (ps_asg pe_non (pg_sub (pv 7) pe_int set_list))
      (@pss_cons _ _ _ _ _ (@ps_if _ _ _ _ _ _ _ _ (PW.pt (pw_or (pt_cmpR (op_neD hr) (pe_def (by rfl) (by rfl) (by rfl) (by decide) Mi (hr.mono (by decide)) (@pa_consX _ _ _ _ _ (by rfl) (pv 4) pa_nil)) (pv 8) (nomark _)) (pw_or1 (pt_not (pt_val (pe_def (by rfl) (by rfl) (by rfl) (by decide) Ag (hr.mono (by decide)) (@pa_consX _ _ _ _ _ (by rfl) (pv 1) (@pa_consX _ _ _ _ _ (by rfl) (pv 8) pa_nil))))))))
        (@pss_one _ _ _ (@ps_ret _ _ _ _ pe_bl))
        pss_nil)
      (@pss_one _ _ _ (@ps_setX _ _ 2 _ _ _ _ (by rfl) (Or.inl rfl) nd rfl (Or.inl rfl) (pe_op op_add (pv 2) pe_int)))))))))))))))
      (@pss_one _ _ _ (@ps_ret _ _ _ _ pe_bl))))), ?_⟩
    refine ⟨_, rfl, a, ns, rfl, hS, hlen, fun d H1 s1 hd0 hd => ?_⟩
    refine while_in (fun σ G => DrawsAt G d ∧ ∃ (m : Int) (v3 v4 v5 v6 v7 v8 : Option V), 0 ≤ m ∧ σ = [some (.ref a), some (.ref d), some (.int m), v3, v4, v5, v6, v7, v8])
      (fun σ _ => match σ with | [_, _, some (.int m), _, _, _, _, _, _] => (6 - m).toNat | _ => 0) ⟨hd, 0, none, none, none, none, none, none, by decide, rfl⟩ ?_
    rintro σ G ⟨hG, mm, v3, v4, v5, v6, v7, v8, mm0, rfl⟩
    refine wtest (d := d) (m := mm) rfl rfl hG (by decide) (fun hm G0 t0 => ifT rfl ⟨_, wN, ?_⟩) (fun G0 t0 => ifF rfl (k _))
    have h0 := hG.same t0
    refine ⟨_, rfl, d, 12, rfl, by decide, h0, fun y G1 y0 y1 h1 k1 => ⟨_, _, rfl, rfl, ?_⟩⟩
    refine ⟨_, rfl, _, rfl, d, 1 + y, rfl, by omega, by omega, h1, fun L G2 Ms us DD h2 mx ok one hLd k2 => ?_⟩
    have hn : ∃ n : Nat, n = (1 + y).toNat := ⟨_, rfl⟩
    obtain ⟨n, hn⟩ := hn
    rw [← hn] at ok one
    have n12 := ok.n12
    have n1 : 1 ≤ n := by omega
    have lmx : (Pw.mixL Ms n).length = n := by unfold Pw.mixL; rw [List.length_map, List.length_range]
    refine ⟨(by show 0 ≤ sizeLine; decide), fun du G3 t3 hdu e3 => ?_⟩
    have hdud : du ≠ d := h2.ne hdu
    have mx3 := mx.same t3
    have hLdu : L ≠ du := ne_of_none mx.1 hdu
    have h3 := h2.same t3
    have hpos := ok.pos
    have hfew := ok.few
    refine ⟨_, rfl, 1 + y, rfl, by omega, by omega, ?_⟩
    rw [← hn]
    refine for_range (lo := 0) (n := n) (fun i σ G => Kp du G3 G ∧ ∃ (zs : List V) (v6 : Option V), G du = some (.lst zs) ∧ FrL K G ((Pw.mixL Ms n).take i) zs ∧ σ = [some (.ref a), some (.ref d), some (.int mm), some (.int (1 + y)), some (.ref L), some (.ref du), v6, v7, v8]) ⟨fun b o e _ => e, [], v6, e3, rfl, rfl⟩ ?_ ?_
    · rintro t σ G ht ⟨kk, zs, w6, eD, fz, rfl⟩
      rw [Int.zero_add]
      have kl : KL G3 G := fun b o e nb => kk b o e fun z => by rw [z, e3] at e; cases e; exact nb _ rfl
      have mxG : MixAt K G L Ms us := (mx3.e.kl kl).at (kk _ _ mx3.1 hLdu)
      refine ⟨_, rfl, .inl ⟨rfl, _, SqL.of eD⟩, ?_⟩
      refine ⟨_, rfl, L, rfl, ⟨_, SqL.of mxG.1⟩, fun D2 hD2 => ?_⟩
      refine comp_lst (K := K) (a := L) (D := D2) (xs := us) (fun i ys σ V => Same G V ∧ V D2 = some (.lst ys) ∧ FrL K V ((Pw.prodRow Ms t).take i) ys ∧ ∃ x y, σ = [x, y, some (.int (t : Nat))]) ?_ ?_ ?_ ?_
      · exact ⟨Same.new hD2, upd_same, rfl, none, none, rfl⟩
      · rintro i ys σ V ⟨u2, e2, _⟩
        exact ⟨SqL.of (u2 _ _ mxG.1), e2⟩
      · rintro i x ys σ V hi hlt ⟨u2, e2, f2, x', y', rfl⟩
        have hml := mx.2.1
        have hM : Ms[i]? = some Ms[i] := by simp
        have mM := List.mem_of_getElem? hM
        obtain ⟨qi, pi, li, wi, hqi, eqi, fpi, eli, fli⟩ := (mxG.same u2).2.2 i _ hM
        rw [hi] at hqi
        cases hqi
        have hBl := ok.len _ mM
        obtain ⟨qb, eqb, fqb⟩ := fli.at (j := t) (A := Ms[i].2.getD t (0, 1)) (by rw [List.getD_eq_getElem?_getD, List.getElem?_eq_getElem (by omega)]; rfl)
        have mB := mem_getD (Bs := Ms[i].2) (t := t) (by omega)
        have fa := ok.part _ mM
        have fb := ok.row _ mM _ mB
        refine ⟨qi, _, rfl, SqT.of eqi, rfl, _, _, rfl, _, _, rfl, rfl, ?_⟩
        dsimp only [gName]
        rw [if_pos rfl]
        refine ⟨_, rfl, _, rfl, _, rfl, li, _, _, _, rfl, rfl, SqT.of eli, atI_nat eqb, pi, qb, _, _, rfl, SqF.of fpi, SqF.of fqb, fa.c.1, fb.c.1, fa.sz.mono (by decide), fb.sz.mono (by decide), fun r V3 u3 f3 => ?_⟩
        have e3' := u3 _ _ e2
        have hP : (Pw.prodRow Ms t)[i]? = some (Pw.ftimes Ms[i].1 (Ms[i].2.getD t (0, 1))) := by
          unfold Pw.prodRow
          rw [List.getElem?_map, hM]; rfl
        refine ⟨e3', by rw [f2.len, List.length_take]; exact small1000 (by rw [Pw.prodRow_len]; omega), Wt.next hlt ⟨fun b o e => ?_, upd_same, ?_, _, _, rfl⟩⟩
        · rw [upd_ne (ne_of_none e hD2)]; exact u3 _ _ (u2 _ _ e)
        · rw [List.take_succ, hP]
          exact ((f2.same u3).snoc f3).kp (KL.set e3')
      · rintro ys σ V ⟨u2, e2, f2, _⟩
        rw [mx.2.1, List.take_of_length_le (by rw [Pw.prodRow_len]; exact Nat.le_refl _)] at f2
        refine ⟨true, D2, ys, _, Ms.length, DD, 1, rfl, SqL.of e2, f2, ok.rw ht, by omega, fun r V3 u3 _ f3 => ?_⟩
        rw [ok.sum ht] at f3
        have f3 := f3 hpos
        have eD3 := u3 _ _ (u2 _ _ eD)
        have hP : (Pw.mixL Ms n)[t]? = some (Pw.ofQ (Pw.mixQ Ms t)) := by
          unfold Pw.mixL
          rw [List.getElem?_map, List.getElem?_range ht]; rfl
        refine ⟨du, zs, _, rfl, rfl, eD3, by rw [fz.len, List.length_take]; exact small1000 (by omega), fun bb oo e nb => ?_, _, _, upd_same, ?_, rfl⟩
        · rw [upd_ne nb]; exact u3 _ _ (u2 _ _ (kk _ _ e nb))
        · rw [List.take_succ, hP]
          exact (((fz.same u2).same u3).snoc f3).kp (KL.set eD3)
    rintro σ G ⟨kk, zs, w6, eD, fz, rfl⟩
    rw [List.take_of_length_le (by omega)] at fz
    have kl : KL G3 G := fun b o e nb => kk b o e fun z => by rw [z, e3] at e; cases e; exact nb _ rfl
    have mxG : MixAt K G L Ms us := (mx3.e.kl kl).at (kk _ _ mx3.1 hLdu)
    have hGd : DrawsAt G d := by
      obtain ⟨ns, e, zz⟩ := h3
      exact ⟨ns, kk _ _ e (Ne.symm hdud), zz⟩
    have each := ok.each one
    have hml := mx.2.1
    refine ⟨_, rfl, L, us, rfl, .inl (SqL.of mxG.1), fun ha G4 t4 hha e4 => ?_⟩
    have mx4 := mxG.same t4
    refine ⟨_, rfl, ha, Ms, us, n, DD, rfl, mx4.e.at e4, ok, fun fo G5 ys t5 e5 f5 => ?_⟩
    refine ⟨_, rfl, _, rfl, fo, ys, Pw.mixL Ms n, 1 + y, rfl, e5, f5, fun R hR => (each R hR).1, fun R hR => (each R hR).2.2.2.2.mono (by decide), by rw [lmx]; omega, fun G6 t6 => ⟨_, rfl, ifF rfl ?_⟩⟩
    have t46 := t4.trans (t5.trans t6)
    refine ⟨_, rfl, fo, ys, rfl, .inr (SqT.of (t6 _ _ e5)), fun lf G7 t7 _ e7 => ?_⟩
    have t47 := t46.trans t7
    have f7 := f5.same (t6.trans t7)
    refine ⟨_, rfl, neLL (SqL.of e7) (SqL.of (t47 _ _ eD)) f7 (fz.same t47) ⟨_, rfl, ifF rfl ?_⟩⟩
    have t57 : Same G4 G7 := t5.trans (t6.trans t7)
    have mx7 := mx4.same t57
    have e47 : G7 ha = some (.lst us) := t57 _ _ e4
    refine ⟨_, rfl, _, rfl, neMM (SqL.of e47) (SqL.of mx7.1) mx7.e mx7.e ⟨_, rfl, ifF rfl ?_⟩⟩
    have e57 : G7 fo = some (.tup ys) := t7 _ _ (t6 _ _ e5)
    refine ⟨_, rfl, false, fo, ys, _, n, DD, 1, rfl, SqT.of e57, f7, ok.rwL one, by omega, fun r G8 t8 _ f8 => ?_⟩
    rw [Pw.MixOk.tot one] at f8
    have f8 := f8 (by omega)
    refine ⟨(by show 2 ≤ sizeLine; decide), fun oo G9 t9 _ e9 => ?_⟩
    refine neF (K := K) (A := (1, 1)) (B := (1, 1)) (t9 _ _ f8) e9 ⟨_, rfl, ifF (nd0 rfl) ?_⟩
    have t79 := t8.trans t9
    have mx9 := mx7.same t79
    refine ⟨_, rfl, L, us, rfl, mx9.1, fun L3 G10 t10 _ e10 => ?_⟩
    refine ⟨L3, _, _, n, DD, rfl, (mx9.same t10).e.rev.at e10, ok.rev, fun m3 G11 ys3 t11 e11 f11 => ?_⟩
    rw [Pw.mixL_rev] at f11
    have t711 := t79.trans (t10.trans t11)
    refine ⟨_, rfl, neTT (SqT.of e11) (SqT.of (t711 _ _ e57)) f11 (f7.same t711) ⟨_, rfl, ifF rfl ?_⟩⟩
    have e411 : G11 ha = some (.lst us) := t711 _ _ e47
    refine ⟨_, rfl, .inl ⟨rfl, _, SqL.of e411⟩, ha, us, _, rfl, rfl, e411, by rw [hml]; exact small1000 (by omega), ?_⟩
    refine ⟨_, rfl, ha, _, 0, 0, rfl, rfl, upd_same, ?_, ?_⟩
    · unfold ixN
      rw [if_pos (by decide), if_pos (by rw [List.length_append]; simp only [List.length_cons, List.length_nil]; omega)]; rfl
    generalize (us ++ [V.non]) = nus
    have hhaL : L ≠ ha := ne_of_none mxG.1 hha
    have hhad : d ≠ ha := by
      obtain ⟨ns, e, zz⟩ := hGd
      exact ne_of_none e hha
    have t411 : Same G4 G11 := t57.trans t711
    have kG : ∀ b o, G11 b = some o → b ≠ ha → (upd (upd G11 ha (.lst nus)) ha (.lst (nus.set 0 .non))) b = some o := fun b o e nb => by
      rw [upd_ne nb, upd_ne nb]; exact e
    have kl11 : KL G11 (upd (upd G11 ha (.lst nus)) ha (.lst (nus.set 0 .non))) := fun b o e nb => kG b o e fun z => by rw [z, e411] at e; cases e; exact nb _ rfl
    generalize upd (upd G11 ha (.lst nus)) ha (.lst (nus.set 0 .non)) = U at kG kl11
    have mx11 := mx4.same t411
    have mxU : MixAt K U L Ms us := (mx11.e.kl kl11).at (kG _ _ mx11.1 hhaL)
    have hUd : DrawsAt U d := by
      obtain ⟨ns, e, zz⟩ := hGd
      exact ⟨ns, kG _ _ (t411 _ _ (t4 _ _ e)) hhad, zz⟩
    have eU : U fo = some (.tup ys) := kl11.tup (t711 _ _ e57)
    have fU : FrL K U (Pw.mixL Ms n) ys := (f7.same t711).kp kl11
    refine ⟨_, rfl, L, Ms, us, n, DD, rfl, mxU, ok, fun m4 G12 ys4 t12 e12 f12 => ?_⟩
    refine ⟨_, rfl, neTT (SqT.of e12) (SqT.of (t12 _ _ eU)) f12 (fU.same t12) ⟨_, rfl, ifF rfl ?_⟩⟩
    refine ⟨_, rfl, _, rfl, d, fo, ys, Pw.mixL Ms n, n, rfl, hUd.same t12, t12 _ _ eU, fU.same t12, lmx, n1, n12, fun R hR => ⟨(each R hR).1, (each R hR).2.1, (each R hR).2.2.1⟩, fun G13 h13 k13 => ⟨_, rfl, ifF rfl ?_⟩⟩
    refine ⟨_, rfl, _, _, rfl, rfl, ⟨h13, _, _, _, _, _, _, _, by omega, rfl⟩, ?_⟩
    show (6 - (mm + 1)).toNat < (6 - mm).toNat
    omega
end
end Lw

namespace Lw
open PySem L2 PyProof.Rows
set_option maxHeartbeats 0 in
theorem all_mk {l : PySem.W.OpenLaw} {w : World} {K : PySem.W.Frag} {h : Heap} {mg : Str → Option Value} {fa f2 f3 f4 f5 f6 f8 f10 f11 f12 f13 f14 f15 f17 f18 f21 f25 f26 f27 zZERO : Addr} (XK : K.In h) (G : h.Ns mainGlobals mg) (hfa : mg "law" = some (.ref fa))
    {odZERO : Option Addr} {slZERO : Array (Option Value)} {nZERO : Nat} {tZERO uZERO : Tok}
    {od2 an2 : Option Addr} {sl2 : Array (Option Value)} {oc2 kV2 dc2 pm2 cd2 ct2 : Value}
    {od3 an3 : Option Addr} {sl3 : Array (Option Value)} {oc3 kV3 dc3 pm3 cd3 ct3 : Value}
    {od4 an4 : Option Addr} {sl4 : Array (Option Value)} {oc4 kV4 dc4 pm4 cd4 ct4 : Value}
    {od5 an5 : Option Addr} {sl5 : Array (Option Value)} {oc5 kV5 dc5 pm5 cd5 ct5 : Value}
    {od6 an6 : Option Addr} {sl6 : Array (Option Value)} {oc6 kV6 dc6 pm6 cd6 ct6 : Value}
    {od8 an8 : Option Addr} {sl8 : Array (Option Value)} {oc8 kV8 dc8 pm8 cd8 ct8 : Value}
    {od10 an10 : Option Addr} {sl10 : Array (Option Value)} {oc10 kV10 dc10 pm10 cd10 ct10 : Value}
    {od11 an11 : Option Addr} {sl11 : Array (Option Value)} {oc11 kV11 dc11 pm11 cd11 ct11 : Value}
    {od12 an12 : Option Addr} {sl12 : Array (Option Value)} {oc12 kV12 dc12 pm12 cd12 ct12 : Value}
    {od13 an13 : Option Addr} {sl13 : Array (Option Value)} {oc13 kV13 dc13 pm13 cd13 ct13 : Value}
    {od14 an14 : Option Addr} {sl14 : Array (Option Value)} {oc14 kV14 dc14 pm14 cd14 ct14 : Value}
    {od15 an15 : Option Addr} {sl15 : Array (Option Value)} {oc15 kV15 dc15 pm15 cd15 ct15 : Value}
    {od17 an17 : Option Addr} {sl17 : Array (Option Value)} {oc17 kV17 dc17 pm17 cd17 ct17 : Value}
    {od18 an18 : Option Addr} {sl18 : Array (Option Value)} {oc18 kV18 dc18 pm18 cd18 ct18 : Value}
    {od21 an21 : Option Addr} {sl21 : Array (Option Value)} {oc21 kV21 dc21 pm21 cd21 ct21 : Value}
    {od25 an25 : Option Addr} {sl25 : Array (Option Value)} {oc25 kV25 dc25 pm25 cd25 ct25 : Value}
    {od26 an26 : Option Addr} {sl26 : Array (Option Value)} {oc26 kV26 dc26 pm26 cd26 ct26 : Value}
    {od27 an27 : Option Addr} {sl27 : Array (Option Value)} {oc27 kV27 dc27 pm27 cd27 ct27 : Value}
    (aZERO : PySem.W.nsIn K mainGlobals "ZERO" = some (some (.ref zZERO))) (lZERO : K.lookup zZERO = some ⟨.type "tuple", odZERO, .seq #[.int 0 tZERO, .int 1 uZERO] nZERO, slZERO⟩)
    (a2 : PySem.W.nsIn K mainGlobals "common" = some (some (.ref f2))) (l2 : K.lookup f2 = some ⟨oc2, od2, .func (PySem.W.fnOf "common" "common" (defArgs sCommon) (defBody sCommon) (defScope sCommon) .none kV2 dc2 pm2 an2 cd2 ct2), sl2⟩) (c2 : PySem.W.codeIn K cd2 "common" = true) (k2 : PySem.W.keepIn K (.ref f2) = true)
    (a3 : PySem.W.nsIn K mainGlobals "made" = some (some (.ref f3))) (l3 : K.lookup f3 = some ⟨oc3, od3, .func (PySem.W.fnOf "made" "made" (defArgs sMade) (defBody sMade) (defScope sMade) .none kV3 dc3 pm3 an3 cd3 ct3), sl3⟩) (c3 : PySem.W.codeIn K cd3 "made" = true) (k3 : PySem.W.keepIn K (.ref f3) = true)
    (a4 : PySem.W.nsIn K mainGlobals "plus" = some (some (.ref f4))) (l4 : K.lookup f4 = some ⟨oc4, od4, .func (PySem.W.fnOf "plus" "plus" (defArgs sPlus) (defBody sPlus) (defScope sPlus) .none kV4 dc4 pm4 an4 cd4 ct4), sl4⟩) (c4 : PySem.W.codeIn K cd4 "plus" = true) (k4 : PySem.W.keepIn K (.ref f4) = true)
    (a5 : PySem.W.nsIn K mainGlobals "times" = some (some (.ref f5))) (l5 : K.lookup f5 = some ⟨oc5, od5, .func (PySem.W.fnOf "times" "times" (defArgs sTimes) (defBody sTimes) (defScope sTimes) .none kV5 dc5 pm5 an5 cd5 ct5), sl5⟩) (c5 : PySem.W.codeIn K cd5 "times" = true) (k5 : PySem.W.keepIn K (.ref f5) = true)
    (a6 : PySem.W.nsIn K mainGlobals "total" = some (some (.ref f6))) (l6 : K.lookup f6 = some ⟨oc6, od6, .func (PySem.W.fnOf "total" "total" (defArgs sTotal) (defBody sTotal) (defScope sTotal) .none kV6 dc6 pm6 an6 cd6 ct6), sl6⟩) (c6 : PySem.W.codeIn K cd6 "total" = true) (k6 : PySem.W.keepIn K (.ref f6) = true)
    (a8 : PySem.W.nsIn K mainGlobals "mixed" = some (some (.ref f8))) (l8 : K.lookup f8 = some ⟨oc8, od8, .func (PySem.W.fnOf "mixed" "mixed" (defArgs s_mixed) (defBody s_mixed) (defScope s_mixed) .none kV8 dc8 pm8 an8 cd8 ct8), sl8⟩) (c8 : PySem.W.codeIn K cd8 "mixed" = true) (k8 : PySem.W.keepIn K (.ref f8) = true)
    (a10 : PySem.W.nsIn K mainGlobals "_law_draws" = some (some (.ref f10))) (l10 : K.lookup f10 = some ⟨oc10, od10, .func (PySem.W.fnOf "_law_draws" "_law_draws" (defArgs s_law_draws) (defBody s_law_draws) (defScope s_law_draws) .none kV10 dc10 pm10 an10 cd10 ct10), sl10⟩) (c10 : PySem.W.codeIn K cd10 "_law_draws" = true) (k10 : PySem.W.keepIn K (.ref f10) = true)
    (a11 : PySem.W.nsIn K mainGlobals "_law_take" = some (some (.ref f11))) (l11 : K.lookup f11 = some ⟨oc11, od11, .func (PySem.W.fnOf "_law_take" "_law_take" (defArgs s_law_take) (defBody s_law_take) (defScope s_law_take) .none kV11 dc11 pm11 an11 cd11 ct11), sl11⟩) (c11 : PySem.W.codeIn K cd11 "_law_take" = true) (k11 : PySem.W.keepIn K (.ref f11) = true)
    (a12 : PySem.W.nsIn K mainGlobals "_law_fraction" = some (some (.ref f12))) (l12 : K.lookup f12 = some ⟨oc12, od12, .func (PySem.W.fnOf "_law_fraction" "_law_fraction" (defArgs s_law_fraction) (defBody s_law_fraction) (defScope s_law_fraction) .none kV12 dc12 pm12 an12 cd12 ct12), sl12⟩) (c12 : PySem.W.codeIn K cd12 "_law_fraction" = true) (k12 : PySem.W.keepIn K (.ref f12) = true)
    (a13 : PySem.W.nsIn K mainGlobals "_law_sum" = some (some (.ref f13))) (l13 : K.lookup f13 = some ⟨oc13, od13, .func (PySem.W.fnOf "_law_sum" "_law_sum" (defArgs s_law_sum) (defBody s_law_sum) (defScope s_law_sum) .none kV13 dc13 pm13 an13 cd13 ct13), sl13⟩) (c13 : PySem.W.codeIn K cd13 "_law_sum" = true) (k13 : PySem.W.keepIn K (.ref f13) = true)
    (a14 : PySem.W.nsIn K mainGlobals "_law_rest" = some (some (.ref f14))) (l14 : K.lookup f14 = some ⟨oc14, od14, .func (PySem.W.fnOf "_law_rest" "_law_rest" (defArgs s_law_rest) (defBody s_law_rest) (defScope s_law_rest) .none kV14 dc14 pm14 an14 cd14 ct14), sl14⟩) (c14 : PySem.W.codeIn K cd14 "_law_rest" = true) (k14 : PySem.W.keepIn K (.ref f14) = true)
    (a15 : PySem.W.nsIn K mainGlobals "_law_product" = some (some (.ref f15))) (l15 : K.lookup f15 = some ⟨oc15, od15, .func (PySem.W.fnOf "_law_product" "_law_product" (defArgs s_law_product) (defBody s_law_product) (defScope s_law_product) .none kV15 dc15 pm15 an15 cd15 ct15), sl15⟩) (c15 : PySem.W.codeIn K cd15 "_law_product" = true) (k15 : PySem.W.keepIn K (.ref f15) = true)
    (a17 : PySem.W.nsIn K mainGlobals "_law_total" = some (some (.ref f17))) (l17 : K.lookup f17 = some ⟨oc17, od17, .func (PySem.W.fnOf "_law_total" "_law_total" (defArgs s_law_total) (defBody s_law_total) (defScope s_law_total) .none kV17 dc17 pm17 an17 cd17 ct17), sl17⟩) (c17 : PySem.W.codeIn K cd17 "_law_total" = true) (k17 : PySem.W.keepIn K (.ref f17) = true)
    (a18 : PySem.W.nsIn K mainGlobals "_law_are_fractions" = some (some (.ref f18))) (l18 : K.lookup f18 = some ⟨oc18, od18, .func (PySem.W.fnOf "_law_are_fractions" "_law_are_fractions" (defArgs s_law_are_fractions) (defBody s_law_are_fractions) (defScope s_law_are_fractions) .none kV18 dc18 pm18 an18 cd18 ct18), sl18⟩) (c18 : PySem.W.codeIn K cd18 "_law_are_fractions" = true) (k18 : PySem.W.keepIn K (.ref f18) = true)
    (a21 : PySem.W.nsIn K mainGlobals "_law_leaps" = some (some (.ref f21))) (l21 : K.lookup f21 = some ⟨oc21, od21, .func (PySem.W.fnOf "_law_leaps" "_law_leaps" (defArgs sLLeaps) (defBody sLLeaps) (defScope sLLeaps) .none kV21 dc21 pm21 an21 cd21 ct21), sl21⟩) (c21 : PySem.W.codeIn K cd21 "_law_leaps" = true) (k21 : PySem.W.keepIn K (.ref f21) = true)
    (a25 : PySem.W.nsIn K mainGlobals "_law_parted" = some (some (.ref f25))) (l25 : K.lookup f25 = some ⟨oc25, od25, .func (PySem.W.fnOf "_law_parted" "_law_parted" (defArgs s_law_parted) (defBody s_law_parted) (defScope s_law_parted) .none kV25 dc25 pm25 an25 cd25 ct25), sl25⟩) (c25 : PySem.W.codeIn K cd25 "_law_parted" = true) (k25 : PySem.W.keepIn K (.ref f25) = true)
    (a26 : PySem.W.nsIn K mainGlobals "_law_mixed_again" = some (some (.ref f26))) (l26 : K.lookup f26 = some ⟨oc26, od26, .func (PySem.W.fnOf "_law_mixed_again" "_law_mixed_again" (defArgs s_law_mixed_again) (defBody s_law_mixed_again) (defScope s_law_mixed_again) .none kV26 dc26 pm26 an26 cd26 ct26), sl26⟩) (c26 : PySem.W.codeIn K cd26 "_law_mixed_again" = true) (k26 : PySem.W.keepIn K (.ref f26) = true)
    (a27 : PySem.W.nsIn K mainGlobals "law" = some (some (.ref f27))) (l27 : K.lookup f27 = some ⟨oc27, od27, .func (PySem.W.fnOf "law" "law" (defArgs sLaw) (defBody sLaw) (defScope sLaw) .none kV27 dc27 pm27 an27 cd27 ct27), sl27⟩) (c27 : PySem.W.codeIn K cd27 "law" = true) (k27 : PySem.W.keepIn K (.ref f27) = true)
    (zabs : PySem.W.nsIn K mainGlobals "abs" = some none)
    (zisi : PySem.W.nsIn K mainGlobals "isinstance" = some none)
    (ztup : PySem.W.nsIn K mainGlobals "tuple" = some none)
    (zint : PySem.W.nsIn K mainGlobals "int" = some none)
    (zbool : PySem.W.nsIn K mainGlobals "bool" = some none)
    (zlst : PySem.W.nsIn K mainGlobals "list" = some none)
    (zenu : PySem.W.nsIn K mainGlobals "enumerate" = some none)
    (zlen : PySem.W.nsIn K mainGlobals "len" = some none)
    (zrange : PySem.W.nsIn K mainGlobals "range" = some none)
    (zsrt : PySem.W.nsIn K mainGlobals "sorted" = some none)
    (zsum : PySem.W.nsIn K mainGlobals "sum" = some none)
    (zzip : PySem.W.nsIn K mainGlobals "zip" = some none)
    (zmax : PySem.W.nsIn K mainGlobals "max" = some none)
    (zmin : PySem.W.nsIn K mainGlobals "min" = some none)
    : ∃ fd : FuncData, (∀ (s : Shared) (v : Value), BindsTo s fd ⟨[v], []⟩ [("script", v)]) ∧ ∀ base : Heap, K.In base → base.Ns mainGlobals mg → FnOk l.prog w K mg base CX0 7 fa fd ["script"] (spLaw K) := by
  have e := hfa.symm.trans (PySem.W.mg_of XK G a27)
  cases e
  have F2 := fun_mk (st := sCommon) l2 c2 k2
  have nCommon : Fnd K mg "common" sCommon ["one", "other"] := ⟨_, _, F2, PySem.W.mg_of XK G a2, F2.binds (ps := ["one", "other"]) fun _ _ _ _ _ _ us hl => match us, hl with | [_, _], _ => rfl⟩
  have F3 := fun_mk (st := sMade) l3 c3 k3
  have nMade : Fnd K mg "made" sMade ["above", "below"] := ⟨_, _, F3, PySem.W.mg_of XK G a3, F3.binds (ps := ["above", "below"]) fun _ _ _ _ _ _ us hl => match us, hl with | [_, _], _ => rfl⟩
  have F4 := fun_mk (st := sPlus) l4 c4 k4
  have nPlus : Fnd K mg "plus" sPlus ["one", "other"] := ⟨_, _, F4, PySem.W.mg_of XK G a4, F4.binds (ps := ["one", "other"]) fun _ _ _ _ _ _ us hl => match us, hl with | [_, _], _ => rfl⟩
  have F5 := fun_mk (st := sTimes) l5 c5 k5
  have nTimes : Fnd K mg "times" sTimes ["one", "other"] := ⟨_, _, F5, PySem.W.mg_of XK G a5, F5.binds (ps := ["one", "other"]) fun _ _ _ _ _ _ us hl => match us, hl with | [_, _], _ => rfl⟩
  have F6 := fun_mk (st := sTotal) l6 c6 k6
  have nTotal : Fnd K mg "total" sTotal ["some"] := ⟨_, _, F6, PySem.W.mg_of XK G a6, F6.binds (ps := ["some"]) fun _ _ _ _ _ _ us hl => match us, hl with | [_], _ => rfl⟩
  have F8 := fun_mk (st := s_mixed) l8 c8 k8
  have n_mixed : Fnd K mg "mixed" s_mixed ["some"] := ⟨_, _, F8, PySem.W.mg_of XK G a8, F8.binds (ps := ["some"]) fun _ _ _ _ _ _ us hl => match us, hl with | [_], _ => rfl⟩
  have F10 := fun_mk (st := s_law_draws) l10 c10 k10
  have n_law_draws : Fnd K mg "_law_draws" s_law_draws ["script"] := ⟨_, _, F10, PySem.W.mg_of XK G a10, F10.binds (ps := ["script"]) fun _ _ _ _ _ _ us hl => match us, hl with | [_], _ => rfl⟩
  have F11 := fun_mk (st := s_law_take) l11 c11 k11
  have n_law_take : Fnd K mg "_law_take" s_law_take ["draws", "many"] := ⟨_, _, F11, PySem.W.mg_of XK G a11, F11.binds (ps := ["draws", "many"]) fun _ _ _ _ _ _ us hl => match us, hl with | [_, _], _ => rfl⟩
  have F12 := fun_mk (st := s_law_fraction) l12 c12 k12
  have n_law_fraction : Fnd K mg "_law_fraction" s_law_fraction ["above", "below"] := ⟨_, _, F12, PySem.W.mg_of XK G a12, F12.binds (ps := ["above", "below"]) fun _ _ _ _ _ _ us hl => match us, hl with | [_, _], _ => rfl⟩
  have F13 := fun_mk (st := s_law_sum) l13 c13 k13
  have n_law_sum : Fnd K mg "_law_sum" s_law_sum ["one", "other"] := ⟨_, _, F13, PySem.W.mg_of XK G a13, F13.binds (ps := ["one", "other"]) fun _ _ _ _ _ _ us hl => match us, hl with | [_, _], _ => rfl⟩
  have F14 := fun_mk (st := s_law_rest) l14 c14 k14
  have n_law_rest : Fnd K mg "_law_rest" s_law_rest ["one", "other"] := ⟨_, _, F14, PySem.W.mg_of XK G a14, F14.binds (ps := ["one", "other"]) fun _ _ _ _ _ _ us hl => match us, hl with | [_, _], _ => rfl⟩
  have F15 := fun_mk (st := s_law_product) l15 c15 k15
  have n_law_product : Fnd K mg "_law_product" s_law_product ["one", "other"] := ⟨_, _, F15, PySem.W.mg_of XK G a15, F15.binds (ps := ["one", "other"]) fun _ _ _ _ _ _ us hl => match us, hl with | [_, _], _ => rfl⟩
  have F17 := fun_mk (st := s_law_total) l17 c17 k17
  have n_law_total : Fnd K mg "_law_total" s_law_total ["row"] := ⟨_, _, F17, PySem.W.mg_of XK G a17, F17.binds (ps := ["row"]) fun _ _ _ _ _ _ us hl => match us, hl with | [_], _ => rfl⟩
  have F18 := fun_mk (st := s_law_are_fractions) l18 c18 k18
  have n_law_are_fractions : Fnd K mg "_law_are_fractions" s_law_are_fractions ["found", "many"] := ⟨_, _, F18, PySem.W.mg_of XK G a18, F18.binds (ps := ["found", "many"]) fun _ _ _ _ _ _ us hl => match us, hl with | [_, _], _ => rfl⟩
  have F21 := fun_mk (st := sLLeaps) l21 c21 k21
  have nLLeaps : Fnd K mg "_law_leaps" sLLeaps ["draws", "many"] := ⟨_, _, F21, PySem.W.mg_of XK G a21, F21.binds (ps := ["draws", "many"]) fun _ _ _ _ _ _ us hl => match us, hl with | [_, _], _ => rfl⟩
  have F25 := fun_mk (st := s_law_parted) l25 c25 k25
  have n_law_parted : Fnd K mg "_law_parted" s_law_parted ["draws", "pages"] := ⟨_, _, F25, PySem.W.mg_of XK G a25, F25.binds (ps := ["draws", "pages"]) fun _ _ _ _ _ _ us hl => match us, hl with | [_, _], _ => rfl⟩
  have F26 := fun_mk (st := s_law_mixed_again) l26 c26 k26
  have n_law_mixed_again : Fnd K mg "_law_mixed_again" s_law_mixed_again ["draws", "leaps"] := ⟨_, _, F26, PySem.W.mg_of XK G a26, F26.binds (ps := ["draws", "leaps"]) fun _ _ _ _ _ _ us hl => match us, hl with | [_, _], _ => rfl⟩
  have F27 := fun_mk (st := sLaw) l27 c27 k27
  have T : Txt mg := ⟨PySem.W.mg_none_of XK G zabs, PySem.W.mg_none_of XK G zisi, PySem.W.mg_none_of XK G ztup, PySem.W.mg_none_of XK G zint, PySem.W.mg_none_of XK G zbool, PySem.W.mg_none_of XK G zlst, PySem.W.mg_none_of XK G zenu, PySem.W.mg_none_of XK G zlen, PySem.W.mg_none_of XK G zrange, PySem.W.mg_none_of XK G zsrt, PySem.W.mg_none_of XK G zsum, PySem.W.mg_none_of XK G zzip, PySem.W.mg_none_of XK G zmax⟩
  have zmin := PySem.W.mg_none_of XK G zmin
  have hZERO : ∀ H, SqF K H zZERO (0, 1) := fun H => .inr ⟨_, _, _, lZERO, rfl, rfl, (by show 2 ≤ sizeLine; decide), .cons ⟨_, rfl⟩ (.cons ⟨_, rfl⟩ .nil)⟩
  have mZERO := PySem.W.mg_of XK G aZERO
  refine ⟨PySem.W.fnOf "law" "law" (defArgs sLaw) (defBody sLaw) (defScope sLaw) .none kV27 dc27 pm27 an27 cd27 ct27, fun s v => .of_eq rfl, fun base _ _ => ?_⟩
  · skip
    have dTk : Def l.prog w K mg base 1 "_law_take" ["draws", "many"] spTake := d_law_take n_law_take T
    have dFr : Def l.prog w K mg base 1 "_law_fraction" ["above", "below"] spMadeS := d_law_fraction n_law_fraction T
    have dDr : Def l.prog w K mg base 1 "_law_draws" ["script"] (spDraws K) := d_law_draws n_law_draws T zmin
    have dLu := d_law_sum n_law_sum dFr
    have dLr := d_law_rest n_law_rest dFr
    have dLp := d_law_product n_law_product dFr
    have dAf := d_law_are_fractions n_law_are_fractions T dFr
    have dM : Def l.prog w K mg base 2 "made" ["above", "below"] spMadeS := d_made nMade nCommon T
    have dPl := d_plus nPlus dM
    have dTi := d_times nTimes dM
    have dTo := d_total nTotal T mZERO hZERO dPl
    have dMi := d_mixed n_mixed T dTo dTi
    have dLt := d_law_total n_law_total T dLu
    have dLs := d_law_leaps nLLeaps T dTk dFr
    have dPa := d_law_parted n_law_parted T dTk dFr dLs
    have dAg := d_law_mixed_again n_law_mixed_again T dTk dFr dLr dLu dLp dMi
    exact ok_law F27 T dDr dTk dPa dLt dLp dMi dAf dAg

theorem walk {l : PySem.W.OpenLaw} {q : Program} {loose : List Str} {XP : (Str → Option Value) → Heap → Prop} {YP : World → Heap → Prop} {d : DefRec} {K : Params → PySem.W.Frag} (hn : l.most = some 63) (hdf : d.params.defaults = [])
    (hY : ∀ (w : World) (h : Heap), YP w h → (K w.params).In h)
    (F : ∀ (w : World) (mg : Str → Option Value) (fa : Addr) (h : Heap), (K w.params).In h → h.Ns mainGlobals mg → mg d.name = some (.ref fa) →
      ∃ fd : FuncData, (∀ (s : Shared) (u : Value), BindsTo s fd ⟨[u], []⟩ [("script", u)]) ∧ ∀ base : Heap, (K w.params).In base → base.Ns mainGlobals mg → FnOk l.prog w (K w.params) mg base CX0 7 fa fd ["script"] (spLaw (K w.params))) :
    PySem.W.WalkO q loose XP YP l.row.toRowW d [] (fun f vs => PySem.call f vs) :=
  L2.walk_of (n := 63) (k := 7) (x := "script") (CX := fun _ => CX0) (sp := fun w => spLaw (K w.params)) hn (by decide) hdf ⟨rfl, by decide, by decide, rfl⟩ hY F (fun _ _ a ns hl _ hS => ⟨a, ns, rfl, hS, hl, fun _ => rfl⟩) fun _ _ _ _ _ z => z
end Lw

open PySem PySem.W PyProof.Rows
set_option maxRecDepth 100000 in
set_option maxHeartbeats 0 in
theorem PySem.Challenge.cw_pagewalks_k38_mixed_leaps_holds : PySem.Challenge.rw_pagewalks_k38_mixed_leaps.Holds := by
  w_on; o_law; k_head; (case hw => w_witness2)
  k_fill
  refine Lw.walk (l := PySem.Challenge.rw_pagewalks_k38_mixed_leaps) rfl rfl (fun w h Y => PySem.W.kIn_of Y) ?F
  case F =>
    intro w mg fa h KX G hmg
    refine' Lw.all_mk KX G hmg ?aZERO ?lZERO ?a2 ?l2 ?c2 ?k2 ?a3 ?l3 ?c3 ?k3 ?a4 ?l4 ?c4 ?k4 ?a5 ?l5 ?c5 ?k5 ?a6 ?l6 ?c6 ?k6 ?a8 ?l8 ?c8 ?k8 ?a10 ?l10 ?c10 ?k10 ?a11 ?l11 ?c11 ?k11 ?a12 ?l12 ?c12 ?k12 ?a13 ?l13 ?c13 ?k13 ?a14 ?l14 ?c14 ?k14 ?a15 ?l15 ?c15 ?k15 ?a17 ?l17 ?c17 ?k17 ?a18 ?l18 ?c18 ?k18 ?a21 ?l21 ?c21 ?k21 ?a25 ?l25 ?c25 ?k25 ?a26 ?l26 ?c26 ?k26 ?a27 ?l27 ?c27 ?k27 ?zabs ?zisi ?ztup ?zint ?zbool ?zlst ?zenu ?zlen ?zrange ?zsrt ?zsum ?zzip ?zmax ?zmin
    (case aZERO => k_is)
    (case lZERO => k_is)
    (case a2 => k_is)
    (case l2 => k_is)
    (case c2 => k_is)
    (case k2 => k_is)
    (case a3 => k_is)
    (case l3 => k_is)
    (case c3 => k_is)
    (case k3 => k_is)
    (case a4 => k_is)
    (case l4 => k_is)
    (case c4 => k_is)
    (case k4 => k_is)
    (case a5 => k_is)
    (case l5 => k_is)
    (case c5 => k_is)
    (case k5 => k_is)
    (case a6 => k_is)
    (case l6 => k_is)
    (case c6 => k_is)
    (case k6 => k_is)
    (case a8 => k_is)
    (case l8 => k_is)
    (case c8 => k_is)
    (case k8 => k_is)
    (case a10 => k_is)
    (case l10 => k_is)
    (case c10 => k_is)
    (case k10 => k_is)
    (case a11 => k_is)
    (case l11 => k_is)
    (case c11 => k_is)
    (case k11 => k_is)
    (case a12 => k_is)
    (case l12 => k_is)
    (case c12 => k_is)
    (case k12 => k_is)
    (case a13 => k_is)
    (case l13 => k_is)
    (case c13 => k_is)
    (case k13 => k_is)
    (case a14 => k_is)
    (case l14 => k_is)
    (case c14 => k_is)
    (case k14 => k_is)
    (case a15 => k_is)
    (case l15 => k_is)
    (case c15 => k_is)
    (case k15 => k_is)
    (case a17 => k_is)
    (case l17 => k_is)
    (case c17 => k_is)
    (case k17 => k_is)
    (case a18 => k_is)
    (case l18 => k_is)
    (case c18 => k_is)
    (case k18 => k_is)
    (case a21 => k_is)
    (case l21 => k_is)
    (case c21 => k_is)
    (case k21 => k_is)
    (case a25 => k_is)
    (case l25 => k_is)
    (case c25 => k_is)
    (case k25 => k_is)
    (case a26 => k_is)
    (case l26 => k_is)
    (case c26 => k_is)
    (case k26 => k_is)
    (case a27 => k_is)
    (case l27 => k_is)
    (case c27 => k_is)
    (case k27 => k_is)
    (case zabs => k_is)
    (case zisi => k_is)
    (case ztup => k_is)
    (case zint => k_is)
    (case zbool => k_is)
    (case zlst => k_is)
    (case zenu => k_is)
    (case zlen => k_is)
    (case zrange => k_is)
    (case zsrt => k_is)
    (case zsum => k_is)
    (case zzip => k_is)
    (case zmax => k_is)
    (case zmin => k_is)
